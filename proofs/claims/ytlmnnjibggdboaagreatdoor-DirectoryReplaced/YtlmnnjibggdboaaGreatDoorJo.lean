/-
  The walk of DirectoryReplaced.
-/
import Derived.Test.YtlmnnjibggdboaaGreatDoorJn
namespace Go.Proofs.YtlmnnjibggdboaaGreatDoor
section
open Go.RowKit
theorem u64s_single (w : World) : U64s (w.alloc (.cells #[.int .u64 1] 32)) (some ⟨w.heap.size, 0, none⟩) 1 1 [1] :=
  (show RowN (w.alloc (.cells #[.int .u64 1] 32)) .u64 32 w.heap.size [1] from heap_alloc_new _ _).u64s (by show 1 ≤ maxLen; decide) (fun j => by
    rcases j with _ | j <;> simp)
theorem CBI.z {w : World} {b : Nat} {q1 q2 q3 q4 : Int} (h : CBI w b q1 q2 q3 q4) (j : Nat) : w.frozen? ⟨b, j, none⟩ = false := frozen_of_row w b j _ _ h
theorem CBI.lt {w : World} {b : Nat} {q1 q2 q3 q4 : Int} (h : CBI w b q1 q2 q3 q4) : b < w.heap.size := lt_of_heap h
structure Row4 (w : World) (g : Nat) : Prop where
  h : ∃ r : Array Value, r.size = 4 ∧ w.heap[g]? = some (.cells r 40 (0, 0))
theorem Row4.new (w : World) {r : Array Value} {g : Nat} (hg : g = w.heap.size) (hr : r.size = 4) : Row4 (w.alloc (.cells r 40)) g := ⟨r, hr, by subst hg; exact heap_alloc_new _ _⟩
theorem Row4.grow {w w' : World} {g : Nat} (h : Row4 w g) (hb : Below w.heap.size w w') : Row4 w' g := by
  obtain ⟨r, hr, e⟩ := h.h
  exact ⟨r, hr, (hb.block g (lt_of_heap e)).trans e⟩
theorem Row4.alloc {w : World} {g : Nat} (o : Obj) (h : Row4 w g) : Row4 (w.alloc o) g := h.grow (below_alloc _ _)
theorem Row4.drew {w : World} {g : Nat} (h : Row4 w g) : Row4 w.drew g := ⟨h.h⟩
theorem Row4.set {w : World} {g : Nat} (b i : Nat) (v : Value) (h : Row4 w g) : Row4 (w.setCell ⟨b, i, none⟩ v) g := by
  obtain ⟨r, hr, e⟩ := h.h
  by_cases hb : g = b
  · subst hb
    exact ⟨r.setIfInBounds i v, by simp [hr], heap_setCell_same w g i _ _ v e⟩
  · exact ⟨r, hr, (Below.heap_setCell w ⟨b, i, none⟩ v g hb).trans e⟩
theorem cbi4 {w : World} {g : Nat} {q1 q2 q3 q4 : Int} (h : Row4 w g) (h0 : w.cell? ⟨g, 0, none⟩ = some (.int .u64 q1)) (h1 : w.cell? ⟨g, 1, none⟩ = some (.int .u32 q2)) (h2 : w.cell? ⟨g, 2, none⟩ = some (.int .u8 q3)) (h3 : w.cell? ⟨g, 3, none⟩ = some (.int .u64 q4)) : CBI w g q1 q2 q3 q4 := by
  obtain ⟨⟨l⟩, hr, e⟩ := h.h
  rw [cell_of_row w g _ _ _ _ e] at h0 h1 h2 h3
  rcases l with _ | ⟨a, _ | ⟨b, _ | ⟨c, _ | ⟨d, _ | ⟨f, l⟩⟩⟩⟩⟩ <;> simp at hr
  simp at h0 h1 h2 h3
  subst h0 h1 h2 h3
  exact e
theorem two_out {w : World} {g k : Nat} {a0 a1 a2 a3 b0 b1 b2 b3 : Int} (h : CBI w g a0 a1 a2 a3 ∧ CBI w k b0 b1 b2 b3) : (w.cell? ⟨g, 0, none⟩ = some (.int .u64 a0) ∧ w.cell? ⟨g, 1, none⟩ = some (.int .u32 a1) ∧ w.cell? ⟨g, 2, none⟩ = some (.int .u8 a2) ∧ w.cell? ⟨g, 3, none⟩ = some (.int .u64 a3)) ∧ (w.cell? ⟨k, 0, none⟩ = some (.int .u64 b0) ∧ w.cell? ⟨k, 1, none⟩ = some (.int .u32 b1) ∧ w.cell? ⟨k, 2, none⟩ = some (.int .u8 b2) ∧ w.cell? ⟨k, 3, none⟩ = some (.int .u64 b3)) := ⟨⟨h.1.c0, h.1.c1, h.1.c2, h.1.c3⟩, ⟨h.2.c0, h.2.c1, h.2.c2, h.2.c3⟩⟩
set_option maxRecDepth 20000 in
set_option maxHeartbeats 6400000 in
theorem walk_repl (c d : Cp) (n : Nat) (w : World) (hc : c.ok) (hd : d.ok) (hn : n ≤ 255) (hg : Glob w) :
    Calls Tryz.prog 7 #[c.val, d.val, .int .u8 (n : Int)] w fun e w' => e = .returned (.bool true) ∧ Below w.heap.size w w' := by
  obtain ⟨cp, co, cr, cc⟩ := c
  obtain ⟨ep, eo, er, ec⟩ := d
  obtain ⟨hcp, hco, hcr, hcc⟩ := hc
  obtain ⟨hep, heo, her, hec⟩ := hd
  simp only at hcp hco hcr hcc hep heo her hec
  obtain ⟨xp, hxp⟩ : ∃ x, cp % 281474976710656 = x := ⟨_, rfl⟩
  obtain ⟨xo, hxo⟩ : ∃ x, co % 16777216 = x := ⟨_, rfl⟩
  obtain ⟨xc, hxc⟩ : ∃ x, cc % 281474976710656 = x := ⟨_, rfl⟩
  obtain ⟨yp, hyp⟩ : ∃ x, ep % 281474976710656 = x := ⟨_, rfl⟩
  obtain ⟨yo, hyo⟩ : ∃ x, eo % 16777216 = x := ⟨_, rfl⟩
  obtain ⟨yc, hyc⟩ : ∃ x, ec % 281474976710656 = x := ⟨_, rfl⟩
  obtain ⟨xr, hxr⟩ : ∃ x, cr = x := ⟨_, rfl⟩
  obtain ⟨yr, hyr⟩ : ∃ x, er = x := ⟨_, rfl⟩
  have hq : xp ≤ 281474976710655 ∧ xo ≤ 16777215 ∧ xr ≤ 255 ∧ xc ≤ 281474976710655 := ⟨by omega, by omega, by omega, by omega⟩
  have hy : yp ≤ 281474976710655 ∧ yo ≤ 16777215 ∧ yr ≤ 255 ∧ yc ≤ 281474976710655 := ⟨by omega, by omega, by omega, by omega⟩
  have HMKX : Hid (∀ W : World, Calls Tryz.prog 21 #[.agg #[.int .u64 (cp : Int), .int .u32 (co : Int), .int .u8 (cr : Int), .int .u64 (cc : Int)]] W fun e w' => e = .returned (.agg #[.int .u64 (xp : Int), .int .u32 (xo : Int), .int .u8 (xr : Int), .int .u64 (xc : Int)]) ∧ w' = (W.alloc (.cells #[.int .u64 (cp : Int), .int .u32 (co : Int), .int .u8 (cr : Int), .int .u64 (cc : Int)] 40)).alloc (.cells #[.int .u64 (xp : Int), .int .u32 (xo : Int), .int .u8 (xr : Int), .int .u64 (xc : Int)] 40)) := by
    intro W
    refine (make_any cp co cr cc W hcp hco hcr hcc).mono ?_
    rintro e w' ⟨rfl, hw⟩
    rw [hxp, hxo, hxc, hxr] at hw ⊢
    exact ⟨rfl, hw⟩
  have HMKY : Hid (∀ W : World, Calls Tryz.prog 21 #[.agg #[.int .u64 (ep : Int), .int .u32 (eo : Int), .int .u8 (er : Int), .int .u64 (ec : Int)]] W fun e w' => e = .returned (.agg #[.int .u64 (yp : Int), .int .u32 (yo : Int), .int .u8 (yr : Int), .int .u64 (yc : Int)]) ∧ w' = (W.alloc (.cells #[.int .u64 (ep : Int), .int .u32 (eo : Int), .int .u8 (er : Int), .int .u64 (ec : Int)] 40)).alloc (.cells #[.int .u64 (yp : Int), .int .u32 (yo : Int), .int .u8 (yr : Int), .int .u64 (yc : Int)] 40)) := by
    intro W
    refine (make_any ep eo er ec W hep heo her hec).mono ?_
    rintro e w' ⟨rfl, hw⟩
    rw [hyp, hyo, hyc, hyr] at hw ⊢
    exact ⟨rfl, hw⟩
  obtain ⟨ws, hws⟩ : ∃ ws : List Nat, [1] = ws := ⟨_, rfl⟩
  have hcut : cutN ws = ws := by rw [← hws]; rfl
  have hcre : creF ws 0 [] 1 noneO 0 = ⟨rootC 1, 0, 1, [], updO noneO 0 ⟨1, 0, 0, 24⟩⟩ := by rw [← hws]; exact cre_first 1 _
  obtain ⟨s0, hs0⟩ : ∃ s : Hs, (⟨1, [], updO noneO 0 ⟨1, 0, 0, 24⟩, 0, 0, L0⟩ : Hs) = s := ⟨_, rfl⟩
  have hns : Ns s0 1 [] 0 := hs0 ▸ ns_first 1 (by omega)
  obtain ⟨xb, hxb⟩ : ∃ x, capF xp xo xr xc = x := ⟨_, rfl⟩
  obtain ⟨yb, hyb⟩ : ∃ x, capF yp yo yr yc = x := ⟨_, rfl⟩
  obtain ⟨nn, hnn⟩ : ∃ k, n % 5 = k := ⟨_, rfl⟩
  have hn5 : nn < 5 := by omega
  have hpm : (n : Int).tmod 5 = (nn : Int) := by rw [Int.tmod_eq_emod_of_nonneg (by omega)]; omega
  have hpm2 : (n : Int) % 5 = (nn : Int) := by omega
  have hwn : IntKind.i64.wrap (nn : Int) = (nn : Int) := by rw [IntKind.wrap_i64]; omega
  have hwn8 : IntKind.u8.wrap (nn : Int) = (nn : Int) := by rw [IntKind.wrap_u8]; omega
  obtain ⟨Q, hQ⟩ : ∃ q : Cp, (⟨xp, xo, xr, xc⟩ : Cp) = q := ⟨_, rfl⟩
  obtain ⟨Y, hY⟩ : ∃ q : Cp, (⟨yp, yo, yr, yc⟩ : Cp) = q := ⟨_, rfl⟩
  have hqQ : Q.p ≤ 281474976710655 ∧ Q.o ≤ 16777215 ∧ Q.r ≤ 255 ∧ Q.c ≤ 281474976710655 := by rw [← hQ]; exact hq
  have hyY : Y.p ≤ 281474976710655 ∧ Y.o ≤ 16777215 ∧ Y.r ≤ 255 ∧ Y.c ≤ 281474976710655 := by rw [← hY]; exact hy
  have hxQ : xb = capF Q.p Q.o Q.r Q.c := by rw [← hQ, ← hxb]
  have hyB : yb = capF Y.p Y.o Y.r Y.c := by rw [← hY, ← hyb]
  have hnsK := fun i => ns_stK hns Q i
  have hdK : ∀ i, i < 10 → doF ws 1 (stK s0 Q i) 102 0 255 (reqD (nmk i) xb) = badF (stK s0 Q (i + 1)) 0 := fun i hi => do_stK hns hxQ hqQ i hi
  have hd0 : doF ws 1 s0 103 0 255 (reqD [109] yb) = badF s0 12 := do_missing (.inr (.inl rfl)) hns.L (by decide) (by decide) rfl
  have hdR := do_rep0 (ws := ws) Q Y (hnsK (nn + 1)) hyB hyY
  have hnsR := (hnsK (nn + 1)).row ((LK Q (nn + 1)).set 0 ⟨[97], Y, 255⟩)
  have hdQ : doF ws 1 ((stK s0 Q (nn + 1)).row 0 ((LK Q (nn + 1)).set 0 ⟨[97], Y, 255⟩)) 101 0 0 (reqD [97] []) = ⟨0, Y, 0, [], (stK s0 Q (nn + 1)).row 0 ((LK Q (nn + 1)).set 0 ⟨[97], Y, 255⟩)⟩ := do_look0 (by rw [lk_len]; omega) hnsR.L (by decide) (by decide) 0
  have hdl1 : doF ws 1 (stK s0 Q (nn + 1)) 105 0 0 [] = ⟨0, Cp.zero, 0, lstD (LK Q (nn + 1)), stK s0 Q (nn + 1)⟩ := by rw [dol_list, (hnsK (nn + 1)).L]
  obtain ⟨sR, hsR⟩ : ∃ s, (stK s0 Q (nn + 1)).row 0 ((LK Q (nn + 1)).set 0 ⟨[97], Y, 255⟩) = s := ⟨_, rfl⟩
  rw [hsR] at hdR hnsR hdQ
  have hdl2 : doF ws 1 sR 105 0 0 [] = ⟨0, Cp.zero, 0, lstD (LK Q (nn + 1)), sR⟩ := by rw [dol_list, hnsR.L, lst_rep Q _ rfl]
  obtain ⟨LN, hLN⟩ : ∃ l, lstD (LK Q (nn + 1)) = l := ⟨_, rfl⟩
  rw [hLN] at hdl1 hdl2
  obtain ⟨SK, hSK⟩ : ∃ f : Nat → Hs, stK s0 Q = f := ⟨_, rfl⟩
  have hSK0 : s0 = SK 0 := by rw [← hSK]; rfl
  rw [hSK] at hnsK hdK hdR hdl1
  obtain ⟨R0, hR0⟩ : ∃ R, badF s0 12 = R := ⟨_, rfl⟩
  obtain ⟨R3, hR3⟩ : ∃ R, badF sR 0 = R := ⟨_, rfl⟩
  obtain ⟨R1, hR1⟩ : ∃ R : Ro, ⟨0, Cp.zero, 0, LN, SK (nn + 1)⟩ = R := ⟨_, rfl⟩
  obtain ⟨R2, hR2⟩ : ∃ R : Ro, ⟨0, Cp.zero, 0, LN, sR⟩ = R := ⟨_, rfl⟩
  obtain ⟨R4, hR4⟩ : ∃ R : Ro, ⟨0, Y, 0, [], sR⟩ = R := ⟨_, rfl⟩
  rw [hR0] at hd0
  rw [hR3] at hdR
  rw [hR1] at hdl1
  rw [hR2] at hdl2
  rw [hR4] at hdQ
  have HF0 : Hid (R0.s = SK 0 ∧ R0.e = 12) := by show _ ∧ _; rw [← hR0, ← hSK0]; exact ⟨rfl, rfl⟩
  have HF3 : Hid (R3.s = sR ∧ R3.e = 0) := by show _ ∧ _; rw [← hR3]; exact ⟨rfl, rfl⟩
  have HF1 : Hid (R1.s = SK (nn + 1) ∧ datF R1 [] = LN) := by show _ ∧ _; rw [← hR1]; exact ⟨rfl, rfl⟩
  have HF2 : Hid (R2.s = sR ∧ datF R2 [] = LN) := by show _ ∧ _; rw [← hR2]; exact ⟨rfl, rfl⟩
  have HF4 : Hid (R4.e = 0 ∧ R4.c = ⟨yp, yo, yr, yc⟩) := by show _ ∧ _; rw [← hR4, hY]; exact ⟨rfl, rfl⟩
  obtain ⟨M3, hM3⟩ : ∃ x, rqM 103 1 255 = x := ⟨_, rfl⟩
  obtain ⟨M2, hM2⟩ : ∃ x, rqM 102 1 255 = x := ⟨_, rfl⟩
  obtain ⟨M5, hM5⟩ : ∃ x, rqM 105 1 0 = x := ⟨_, rfl⟩
  obtain ⟨M1, hM1⟩ : ∃ x, rqM 101 1 0 = x := ⟨_, rfl⟩
  obtain ⟨D0, hD0⟩ : ∃ l, reqD [109] yb = l := ⟨_, rfl⟩
  obtain ⟨D3, hD3⟩ : ∃ l, reqD [97] yb = l := ⟨_, rfl⟩
  obtain ⟨D4, hD4⟩ : ∃ l, reqD [97] [] = l := ⟨_, rfl⟩
  rw [hD0] at hd0
  rw [hD3] at hdR
  rw [hD4] at hdQ
  have HENCX : Hid (∀ W, Calls Tryz.prog 23 #[.agg #[.int .u64 (xp : Int), .int .u32 (xo : Int), .int .u8 (xr : Int), .int .u64 (xc : Int)]] W fun e w' => ∃ g, e = .returned (.slice (some ⟨g, 0, none⟩) 16 16) ∧ Bts w' (some ⟨g, 0, none⟩) 16 16 xb ∧ Below W.heap.size W w') := fun W => rq_enc ⟨xp, xo, xr, xc⟩ hq xb hxb.symm _ _ _ _ rfl rfl rfl rfl W
  have HENCY : Hid (∀ W, Calls Tryz.prog 23 #[.agg #[.int .u64 (yp : Int), .int .u32 (yo : Int), .int .u8 (yr : Int), .int .u64 (yc : Int)]] W fun e w' => ∃ g, e = .returned (.slice (some ⟨g, 0, none⟩) 16 16) ∧ Bts w' (some ⟨g, 0, none⟩) 16 16 yb ∧ Below W.heap.size W w') := fun W => rq_enc ⟨yp, yo, yr, yc⟩ hy yb hyb.symm _ _ _ _ rfl rfl rfl rfl W
  have HREQ0 : Hid (∀ W bo, Bts W bo 16 16 yb → Calls Tryz.prog 22 #[.int .u16 103, .agg #[.int .u64 1, .int .u32 0, .int .u8 255, .int .u64 1], .int .u64 255, .string { data := #[109] }, .slice bo 16 16] W fun e w' => ∃ co n cc, e = .returned (.agg #[.int .u64 M3.ta, .int .u64 M3.rp, .int .u32 M3.id, .int .u16 M3.op, .int .u16 M3.st, .int .u64 M3.p, .int .u32 M3.o, .int .u8 M3.r, .int .u64 M3.c, .int .u64 M3.ar, .slice co n cc]) ∧ Bts w' co n cc D0 ∧ Typ8 w' co ∧ n ≤ 200000 ∧ Below W.heap.size W w') := fun W bo hb => rq_req 103 1 255 [109] M3 hM3 D0 yb hD0 _ rfl (by decide) _ _ _ rfl rfl rfl W bo 16 16 hb (by omega)
  have HREQ3 : Hid (∀ W bo, Bts W bo 16 16 yb → Calls Tryz.prog 22 #[.int .u16 103, .agg #[.int .u64 1, .int .u32 0, .int .u8 255, .int .u64 1], .int .u64 255, .string { data := #[97] }, .slice bo 16 16] W fun e w' => ∃ co n cc, e = .returned (.agg #[.int .u64 M3.ta, .int .u64 M3.rp, .int .u32 M3.id, .int .u16 M3.op, .int .u16 M3.st, .int .u64 M3.p, .int .u32 M3.o, .int .u8 M3.r, .int .u64 M3.c, .int .u64 M3.ar, .slice co n cc]) ∧ Bts w' co n cc D3 ∧ Typ8 w' co ∧ n ≤ 200000 ∧ Below W.heap.size W w') := fun W bo hb => rq_req 103 1 255 [97] M3 hM3 D3 yb hD3 _ rfl (by decide) _ _ _ rfl rfl rfl W bo 16 16 hb (by omega)
  have HREQ4 : Hid (∀ W, Calls Tryz.prog 22 #[.int .u16 101, .agg #[.int .u64 1, .int .u32 0, .int .u8 255, .int .u64 1], .int .u64 0, .string { data := #[97] }, .slice none 0 0] W fun e w' => ∃ co n cc, e = .returned (.agg #[.int .u64 M1.ta, .int .u64 M1.rp, .int .u32 M1.id, .int .u16 M1.op, .int .u16 M1.st, .int .u64 M1.p, .int .u32 M1.o, .int .u8 M1.r, .int .u64 M1.c, .int .u64 M1.ar, .slice co n cc]) ∧ Bts w' co n cc D4 ∧ Typ8 w' co ∧ n ≤ 200000 ∧ Below W.heap.size W w') := fun W => rq_req 101 1 0 [97] M1 hM1 D4 [] hD4 _ rfl (by decide) _ _ _ rfl rfl rfl W none 0 0 (bts_nil _) (by omega)
  have HREQK : Hid (∀ i W bo, Bts W bo 16 16 xb → Calls Tryz.prog 22 #[.int .u16 102, .agg #[.int .u64 1, .int .u32 0, .int .u8 255, .int .u64 1], .int .u64 255, .string (str (nmk i)), .slice bo 16 16] W fun e w' => ∃ co n cc, e = .returned (.agg #[.int .u64 M2.ta, .int .u64 M2.rp, .int .u32 M2.id, .int .u16 M2.op, .int .u16 M2.st, .int .u64 M2.p, .int .u32 M2.o, .int .u8 M2.r, .int .u64 M2.c, .int .u64 M2.ar, .slice co n cc]) ∧ Bts w' co n cc (reqD (nmk i) xb) ∧ Typ8 w' co ∧ n ≤ 200000 ∧ Below W.heap.size W w') := fun i W bo hb => rq_req 102 1 255 (nmk i) M2 hM2 _ xb rfl _ rfl (by rw [nmk_len]; omega) _ _ _ rfl rfl rfl W bo 16 16 hb (by omega)
  have HSRVA := hide (fun w0 hg => rq_srv hns.root hns.fit (by omega) w0 hg 103 255 (by omega) (by omega) M3 hM3 D0 R0 hd0)
  rw [hSK0] at HSRVA
  have HSRVK := hide (fun w0 hg i (hi : i < 10) => rq_st (hnsK i).root (hnsK i).fit (by omega) w0 hg 102 255 (by omega) (by omega) M2 hM2 _ _ (hdK i hi) 0 rfl)
  have HSRVR := hide (fun w0 hg => rq_srv (hnsK (nn + 1)).root (hnsK (nn + 1)).fit (by omega) w0 hg 103 255 (by omega) (by omega) M3 hM3 D3 R3 hdR)
  have HSRVQ := hide (fun w0 hg => rq_srv hnsR.root hnsR.fit (by omega) w0 hg 101 0 (by omega) (by omega) M1 hM1 D4 R4 hdQ)
  have HLST1 : Hid (∀ w0, Glob w0 → ∀ rr A W, Sr W rr A.g A.sb → Sv w0 W A 1 ws (SK (nn + 1)) → Calls Tryz.prog 17 #[.pointer (some ⟨rr, 0, none⟩), .agg #[.int .u64 0, .int .u64 0, .int .u32 0, .int .u16 105, .int .u16 0, .int .u64 1, .int .u32 0, .int .u8 255, .int .u64 1, .int .u64 0, .slice none 0 0]] W (AskE w0 W A 1 ws rr R1 M5 [])) := fun w0 hg rr A W S X => by
    have := rq_srv (hnsK (nn + 1)).root (hnsK (nn + 1)).fit (by omega) w0 hg 105 0 (by omega) (by omega) M5 hM5 [] R1 hdl1 rr A W none 0 0 S X (bts_nil W) (by omega) (fun _ e => by cases e)
    rw [← hM5] at this ⊢
    exact this
  have HLST2 : Hid (∀ w0, Glob w0 → ∀ rr A W, Sr W rr A.g A.sb → Sv w0 W A 1 ws sR → Calls Tryz.prog 17 #[.pointer (some ⟨rr, 0, none⟩), .agg #[.int .u64 0, .int .u64 0, .int .u32 0, .int .u16 105, .int .u16 0, .int .u64 1, .int .u32 0, .int .u8 255, .int .u64 1, .int .u64 0, .slice none 0 0]] W (AskE w0 W A 1 ws rr R2 M5 [])) := fun w0 hg rr A W S X => by
    have := rq_srv hnsR.root hnsR.fit (by omega) w0 hg 105 0 (by omega) (by omega) M5 hM5 [] R2 hdl2 rr A W none 0 0 S X (bts_nil W) (by omega) (fun _ e => by cases e)
    rw [← hM5] at this ⊢
    exact this
  have HU1 : Hid (∀ W : World, U64s (W.alloc (.cells #[.int .u64 1] 32)) (some ⟨W.heap.size, 0, none⟩) 1 1 ws) := fun W => hws ▸ u64s_single W
  have HCRE := hide hcre
  have HCUT := hide hcut
  have HG := hide hg
  rw [hSK0] at hs0
  have HS0 := hide hs0
  have HN5 := hide hn5
  have HQ := hide hq
  have HY := hide hy
  have HN := hide hn
  clear hcp hco hcc hep heo hec hxp hxo hxc hyp hyo hyc hws hcut hcre hs0 hns hg hq hy hn hxb hyb hnn hn5 hQ hY hqQ hyY hxQ hyB hnsK hdK hd0 hdR hnsR hdQ hdl1 hdl2 hsR hLN hSK hSK0 hR0 hR1 hR2 hR3 hR4 hM1 hM2 hM3 hM5 hD0 hD3 hD4
  rw [hxr] at HMKX
  rw [hyr] at HMKY
  simp only [Cp.val]
  rw [hxr, hyr]
  clear hxr hcr hyr her
  obtain ⟨X1, hX1⟩ : ∃ X, w.alloc (.cells #[.int .u64 (cp : Int), .int .u32 (co : Int), .int .u8 (xr : Int), .int .u64 (cc : Int)] 40) = X := ⟨_, rfl⟩
  obtain ⟨X2, hX2⟩ : ∃ X, X1.alloc (.cells #[.int .u64 (ep : Int), .int .u32 (eo : Int), .int .u8 (yr : Int), .int .u64 (ec : Int)] 40) = X := ⟨_, rfl⟩
  have b1 : Below w.heap.size w X1 := hX1 ▸ below_alloc _ _
  have b2 : Below X1.heap.size X1 X2 := hX2 ▸ below_alloc _ _
  obtain ⟨gc, hgc⟩ : ∃ g, w.heap.size = g := ⟨_, rfl⟩
  obtain ⟨gd, hgd⟩ : ∃ g, X1.heap.size = g := ⟨_, rfl⟩
  have q1 : CBI X1 gc (cp : Int) (co : Int) (xr : Int) (cc : Int) := by rw [← hgc, ← hX1]; exact CBI.new w _ _ _ _
  have HC0 := hide (q1.grow b2)
  have HD0 : Hid (CBI X2 gd (ep : Int) (eo : Int) (yr : Int) (ec : Int)) := by rw [← hgd, ← hX2]; exact CBI.new X1 _ _ _ _
  have HB0 := hide (below_one b1 b2)
  have HG2 := hide (HG.out.carry HB0.out)
  clear q1 b1 b2
  have HGC := hide hgc
  go_enter Tryz.func7, Tryz.ntmps7
  go_wp2_with fail
  refine (awake_any _ HG2.out).mono ?_; rintro e w3 ⟨rfl, b3⟩
  have HC3 := hide (HC0.out.grow b3)
  have HD3 := hide (HD0.out.grow b3)
  have HB3 := hide (below_one HB0.out b3)
  have HG3 := hide (HG.out.carry HB3.out)
  clear b3
  go_wp2_with fail
  refine (of_any _ _ _ ws _ (HU1.out _) (by omega)).mono ?_; rintro e x1 ⟨ta, th, tk, rfl, TA, _, ha, hh2, bel⟩
  rw [HCUT.out] at TA
  have HT := hide TA
  have HTA := hide ha
  have HTH := hide hh2
  have HBE := hide bel
  clear TA bel ha hh2
  go_wp2_with fail
  refine (oof_any _ ⟨_, rfl⟩ _).mono ?_; rintro e x2 ⟨go, gm, rfl, O2, bel2⟩
  have HS3 := hide (Tk.made (below_alloc w3 _) HT.out HTA.out HTH.out HBE.out O2 bel2)
  clear O2 bel2 HT HBE HTA HTH
  go_wp2_with fail
  refine (tof_new 1 _).mono ?_; rintro e x3 ⟨rfl, T4, b4⟩
  have HO4 := hide (Od.make HS3.out T4 b4)
  obtain ⟨gt, hgg⟩ : ∃ g, x2.heap.size = g := ⟨_, rfl⟩
  rw [hgg] at HO4 ⊢
  clear T4 b4 HS3 hgg
  go_wp2_with fail
  refine (dir_yes _ HO4.out (by show 0 ≤ _; omega) ⟨rootC 1, 0, 1, [], updO noneO 0 ⟨1, 0, 0, 24⟩⟩ HCRE.out rfl).mono ?_; rintro e x4 ⟨rr, rfl, A, hA, -, -, -, hAh, -, -, hAN, -, -, -, X4, S4, F4⟩
  have HX4 : Hid (Sv w3 x4 A 1 ws ⟨1, [], updO noneO 0 ⟨1, 0, 0, 24⟩, 0, 0, L0⟩) := X4
  rw [HS0.out] at HX4
  have HS4 := hide S4
  have HC4 := hide (HC3.out.grow X4.bel)
  have HD4 := hide (HD3.out.grow X4.bel)
  clear F4 X4 S4 HO4 hA hAh hAN
  simp only [rootC, Cp.val]
  obtain ⟨V2, hV2⟩ : ∃ V2, x4.alloc (.cells #[.int .u64 1, .int .u32 0, .int .u8 255, .int .u64 1] 40) = V2 := ⟨_, rfl⟩
  have b2 : Below x4.heap.size x4 V2 := hV2 ▸ below_alloc _ _
  obtain ⟨gr, hgr⟩ : ∃ g, x4.heap.size = g := ⟨_, rfl⟩
  have HR : Hid (CBI V2 gr 1 0 255 1) := by rw [← hgr, ← hV2]; exact CBI.new x4 _ _ _ _
  have HC := hide (HC4.out.grow b2)
  have HD := hide (HD4.out.grow b2)
  have HS := hide (HS4.out.grow b2)
  have HX := hide (HX4.out.grow b2)
  clear b2 HS4 HX4
  go_upto_region 5 with fail
  go_cut [11, 12] from 33 to 36 (fun v1 v2 wx => ∃ gx gy, v1 = .pointer (some ⟨gx, 0, none⟩) ∧ v2 = .pointer (some ⟨gy, 0, none⟩) ∧ CBI wx gx xp xo xr xc ∧ CBI wx gy yp yo yr yc ∧ Below V2.heap.size V2 wx)
  case first =>
    have HV2 := hide (show CBI V2 gc (cp : Int) (co : Int) (xr : Int) (cc : Int) ∧ CBI V2 gd (ep : Int) (eo : Int) (yr : Int) (ec : Int) from ⟨HC.out, HD.out⟩)
    go_region_held (fun U => ((U.cell? ⟨gc, 0, none⟩ = some (.int .u64 (cp : Int)) ∧ U.cell? ⟨gc, 1, none⟩ = some (.int .u32 (co : Int)) ∧ U.cell? ⟨gc, 2, none⟩ = some (.int .u8 (xr : Int)) ∧ U.cell? ⟨gc, 3, none⟩ = some (.int .u64 (cc : Int))) ∧ (U.cell? ⟨gd, 0, none⟩ = some (.int .u64 (ep : Int)) ∧ U.cell? ⟨gd, 1, none⟩ = some (.int .u32 (eo : Int)) ∧ U.cell? ⟨gd, 2, none⟩ = some (.int .u8 (yr : Int)) ∧ U.cell? ⟨gd, 3, none⟩ = some (.int .u64 (ec : Int)))))
      (first | exact two_out HV2.out | exact two_out ⟨HV2.out.1.grow (by go_grown), HV2.out.2.grow (by go_grown)⟩)
      (first
        | (go_at_call_of 21 (Value.int IntKind.u64 (cp : Int)); refine (HMKX.out _).mono ?_; rintro e wx ⟨rfl, rfl⟩)
        | (go_at_call_of 21 (Value.int IntKind.u64 (ep : Int)); refine (HMKY.out _).mono ?_; rintro e wx ⟨rfl, rfl⟩))
    all_goals go_wp2_with fail
    all_goals go_meet
    all_goals exact ⟨_, _, rfl, rfl, cbi4 (by repeat' first | (refine Row4.new _ ?_ rfl; simp [go_sem]; done) | refine Row4.alloc _ ?_ | refine Row4.set _ _ _ ?_ | refine Row4.drew ?_) (by simp [go_sem]) (by simp [go_sem]) (by simp [go_sem]) (by simp [go_sem]), cbi4 (by repeat' first | (refine Row4.new _ ?_ rfl; simp [go_sem]; done) | refine Row4.alloc _ ?_ | refine Row4.set _ _ _ ?_ | refine Row4.drew ?_) (by simp [go_sem]) (by simp [go_sem]) (by simp [go_sem]) (by simp [go_sem]), by go_grown⟩
  case rest =>
    obtain ⟨V3, rfl⟩ : ∃ x, x = wc := ⟨wc, rfl⟩
    obtain ⟨gx, gy, rfl, rfl, Cx, Cy, b3⟩ := hcut
    have HXX := hide Cx
    have HYY := hide Cy
    have HRa := hide (HR.out.grow b3)
    have HSa := hide (HS.out.grow b3)
    have HXa := hide (HX.out.grow b3)
    have HSRV0 := hide (HSRVA.out w3 HG3.out)
    clear Cx Cy b3 HR HS HX HC HD HSRVA HMKX HMKY
    go_upto_region 6 with fail
    go_cut [13] from 37 to 42 (fun vv wx => ∃ g co n cc A2, vv = .pointer (some ⟨g, 0, none⟩) ∧ Got w3 V3 A 1 ws rr R0 M3 D0 g co n cc A2 wx)
    case first =>
      have bb : Below V3.heap.size V3 V3.drew := (Below.refl _ _).drew
      have HRd := hide (CBI.dr HRa.out)
      have HXd := hide (CBI.dr HYY.out)
      have Ed := hide (eight HRd.out HXd.out)
      have Eda := hide (eight (CBI.dr (HRa.out.grow (below_alloc V3 (.cells #[.int .u64 0, .int .u64 0, .int .u32 0, .int .u16 0, .int .u16 0, .int .u64 0, .int .u32 0, .int .u8 0, .int .u64 0, .int .u64 0, .slice none 0 0] 55)))) (CBI.dr (HYY.out.grow (below_alloc V3 (.cells #[.int .u64 0, .int .u64 0, .int .u32 0, .int .u16 0, .int .u16 0, .int .u64 0, .int .u32 0, .int .u8 0, .int .u64 0, .int .u64 0, .slice none 0 0] 55)))))
      go_region_held (fun U => U.cell? ⟨gr, 0, none⟩ = some (.int .u64 1) ∧ U.cell? ⟨gr, 1, none⟩ = some (.int .u32 0) ∧ U.cell? ⟨gr, 2, none⟩ = some (.int .u8 255) ∧ U.cell? ⟨gr, 3, none⟩ = some (.int .u64 1) ∧ U.cell? ⟨gy, 0, none⟩ = some (.int .u64 (yp : Int)) ∧ U.cell? ⟨gy, 1, none⟩ = some (.int .u32 (yo : Int)) ∧ U.cell? ⟨gy, 2, none⟩ = some (.int .u8 (yr : Int)) ∧ U.cell? ⟨gy, 3, none⟩ = some (.int .u64 (yc : Int)))
        (first | with_reducible exact Ed.out | with_reducible exact Eda.out | with_reducible exact E1.out | with_reducible exact E1a.out | with_reducible exact E3.out | with_reducible exact E3a.out | with_reducible exact E5.out | with_reducible exact E5a.out | with_reducible exact E5b.out | with_reducible exact HE6.out)
        (first
          | (go_at_call 23; refine (HENCY.out _).mono ?_; rintro e W1 ⟨ge, rfl, BE, be⟩
             have bb1 : Below V3.heap.size V3 W1 := below_one (by go_grown) be
             have hs1 := bb1.size
             have HBE := hide BE
             have HR1 := hide (HRa.out.grow bb1)
             have HX1 := hide (HYY.out.grow bb1)
             have E1 := hide (eight HR1.out HX1.out)
             have E1a := hide (eight (HR1.out.grow (below_alloc W1 (.cells #[.int .u64 0, .int .u64 0, .int .u32 0, .int .u16 0, .int .u16 0, .int .u64 0, .int .u32 0, .int .u8 0, .int .u64 0, .int .u64 0, .slice none 0 0] 55))) (HX1.out.grow (below_alloc W1 (.cells #[.int .u64 0, .int .u64 0, .int .u32 0, .int .u16 0, .int .u16 0, .int .u64 0, .int .u32 0, .int .u8 0, .int .u64 0, .int .u64 0, .slice none 0 0] 55)))))
          | (go_at_call 22; refine (HREQ0.out _ _ (HBE.out.carry (by go_grown))).mono ?_; rintro e W3 ⟨qo, qn, qc, rfl, B3, T3, hn3, be3⟩
             have bb3 : Below V3.heap.size V3 W3 := below_one (by go_grown) be3
             have hs3 := bb3.size
             have HB3 := hide B3
             have HT3 := hide T3
             have HN3 := hide hn3
             have HR3 := hide (HRa.out.grow bb3)
             have HX3 := hide (HYY.out.grow bb3)
             have E3 := hide (eight HR3.out HX3.out)
             have E3a := hide (eight (HR3.out.grow (below_alloc W3 (.cells #[.int .u64 0, .int .u64 0, .int .u32 0, .int .u16 0, .int .u16 0, .int .u64 0, .int .u32 0, .int .u8 0, .int .u64 0, .int .u64 0, .slice none 0 0] 55))) (HX3.out.grow (below_alloc W3 (.cells #[.int .u64 0, .int .u64 0, .int .u32 0, .int .u16 0, .int .u16 0, .int .u64 0, .int .u32 0, .int .u8 0, .int .u64 0, .int .u64 0, .slice none 0 0] 55))))
             clear B3 T3 hn3)
          | (go_at_call 17; refine (HSRV0.out _ _ _ qo qn qc (HSa.out.grow (by go_grown)) (HXa.out.grow (by go_grown)) (HB3.out.carry (by go_grown)) HN3.out (HT3.out.grow (by go_grown))).mono ?_; rintro e W5 ⟨m3, co, n, cc, A2, rfl, hm3, B5, T5, S5, X5, K5, F5⟩
             have KV : Kh V3 W5 := (below_kh (by go_grown)).trans K5
             have HKV := hide KV
             have HM3 := hide hm3
             have HB5 := hide B5
             have HT5 := hide T5
             have HS5 := hide S5
             have HX5' := hide X5
             have HR5 := hide (HRa.out.kh KV)
             have HX5 := hide (HYY.out.kh KV)
             have E5 := hide (eight HR5.out HX5.out)
             have E5a := hide (eight (HR5.out.grow (below_alloc W5 (.cells #[.int .u64 0, .int .u64 0, .int .u32 0, .int .u16 0, .int .u16 0, .int .u64 0, .int .u32 0, .int .u8 0, .int .u64 0, .int .u64 0, .slice none 0 0] 55))) (HX5.out.grow (below_alloc W5 (.cells #[.int .u64 0, .int .u64 0, .int .u32 0, .int .u16 0, .int .u16 0, .int .u64 0, .int .u32 0, .int .u8 0, .int .u64 0, .int .u64 0, .slice none 0 0] 55))))
             have E5b := hide (eight (HR5.out.grow (below_alloc W5 (.cells #[.int .u64 m3.ta, .int .u64 m3.rp, .int .u32 m3.id, .int .u16 m3.op, .int .u16 m3.st, .int .u64 m3.p, .int .u32 m3.o, .int .u8 m3.r, .int .u64 m3.c, .int .u64 m3.ar, .slice co n cc] 55))) (HX5.out.grow (below_alloc W5 (.cells #[.int .u64 m3.ta, .int .u64 m3.rp, .int .u32 m3.id, .int .u16 m3.op, .int .u16 m3.st, .int .u64 m3.p, .int .u32 m3.o, .int .u8 m3.r, .int .u64 m3.c, .int .u64 m3.ar, .slice co n cc] 55))))
             (first
              | (have M0 : MB W5 V3.heap.size Msg.zero (.slice none 0 0) := by with_reducible exact MB.kh (MB.grow (MB.grow (MB.dr (mbz_new V3)) be) be3) K5
                 have hge : V3.heap.size ≤ V3.heap.size := Nat.le_refl _
                 have HV := hide M0
                 have HGE := hide hge
                 obtain ⟨z0, z1, z2, z3, z4, z5, z6, z7, z8, z9, z10⟩ := M0.all
                 have x0 := M0.z 0
                 have x1 := M0.z 1
                 have x2 := M0.z 2
                 have x3 := M0.z 3
                 have x4 := M0.z 4
                 have x5 := M0.z 5
                 have x6 := M0.z 6
                 have x7 := M0.z 7
                 have x8 := M0.z 8
                 have x9 := M0.z 9
                 have x10 := M0.z 10
                 have HE6 := hide (eight_lay M0 m3 (.slice co n cc) HR5.out HX5.out)
                 unfold lay11 at HE6
                 clear M0)
              | (have M0 : MB W5 W1.heap.size Msg.zero (.slice none 0 0) := by with_reducible exact MB.kh (MB.grow (mbz_new W1) be3) K5
                 have hge : V3.heap.size ≤ W1.heap.size := bb1.size
                 have HV := hide M0
                 have HGE := hide hge
                 obtain ⟨z0, z1, z2, z3, z4, z5, z6, z7, z8, z9, z10⟩ := M0.all
                 have x0 := M0.z 0
                 have x1 := M0.z 1
                 have x2 := M0.z 2
                 have x3 := M0.z 3
                 have x4 := M0.z 4
                 have x5 := M0.z 5
                 have x6 := M0.z 6
                 have x7 := M0.z 7
                 have x8 := M0.z 8
                 have x9 := M0.z 9
                 have x10 := M0.z 10
                 have HE6 := hide (eight_lay M0 m3 (.slice co n cc) HR5.out HX5.out)
                 unfold lay11 at HE6
                 clear M0)
              | (have M0 : MB W5 W3.heap.size Msg.zero (.slice none 0 0) := by with_reducible exact MB.kh (mbz_new W3) K5
                 have hge : V3.heap.size ≤ W3.heap.size := bb3.size
                 have HV := hide M0
                 have HGE := hide hge
                 obtain ⟨z0, z1, z2, z3, z4, z5, z6, z7, z8, z9, z10⟩ := M0.all
                 have x0 := M0.z 0
                 have x1 := M0.z 1
                 have x2 := M0.z 2
                 have x3 := M0.z 3
                 have x4 := M0.z 4
                 have x5 := M0.z 5
                 have x6 := M0.z 6
                 have x7 := M0.z 7
                 have x8 := M0.z 8
                 have x9 := M0.z 9
                 have x10 := M0.z 10
                 have HE6 := hide (eight_lay M0 m3 (.slice co n cc) HR5.out HX5.out)
                 unfold lay11 at HE6
                 clear M0)
              | skip)
             clear hm3 B5 T5 S5 X5 K5 F5 KV))
      all_goals go_wp2_with fail
      all_goals go_meet
      all_goals first
        | with_reducible exact ⟨_, _, _, _, _, rfl, Got.new HM3.out HB5.out HT5.out HS5.out HX5'.out HKV.out⟩
        | (have G := Got.old (A := A) (w := V3) HM3.out HB5.out HT5.out HS5.out HX5'.out HKV.out HV.out HGE.out (HXa.out.bel.size)
           unfold lay11 at G
           with_reducible exact ⟨_, _, _, _, _, rfl, G⟩)
    case rest =>
      obtain ⟨V4, rfl⟩ : ∃ x, x = wc := ⟨wc, rfl⟩
      obtain ⟨ga, coa, na, cca, A2, rfl, Ga⟩ := hcut
      have HMA := hide Ga.mb
      have HR4 := hide (HRa.out.kh Ga.kh)
      have HXX4 := hide (HXX.out.kh Ga.kh)
      have HYY4 := hide (HYY.out.kh Ga.kh)
      have HS4 := hide Ga.sr
      have hx4 := Ga.sv
      rw [HF0.out.1] at hx4
      have HX4 := hide hx4
      have HSRK := hide (HSRVK.out w3 HG3.out)
      clear Ga hx4 HRa HXX HYY HSa HXa HSRV0 HSRVK
      go_wp2_with fail
      go_loopg [14] (nn + 1) (fun gk vi wr => ∃ (i : Nat) (A3 : Ad), i + gk = nn + 1 ∧ vi = .int .i64 (i : Int) ∧ Sr wr rr A3.g A3.sb ∧ Sv w3 wr A3 1 ws (SK i) ∧ CBI wr gr 1 0 255 1 ∧ CBI wr gx xp xo xr xc ∧ CBI wr gy yp yo yr yc ∧ MB wr ga (rplF M3 R0) (.slice coa na cca))
      case atStart => exact ⟨0, A2, by omega, rfl, HS4.out, HX4.out, HR4.out, HXX4.out, HYY4.out, HMA.out⟩
      case round =>
        obtain ⟨i, A3, hi, rfl, hs, hx, hr, hxx, hyy, hma⟩ := hrel
        have HSw := hide hs
        have HXw := hide hx
        have HRw := hide hr
        have HXXw := hide hxx
        have HYYw := hide hyy
        have HMw := hide hma
        clear hs hx hr hxx hyy hma HS4 HX4 HR4 HXX4 HYY4 HMA
        cases gk with
        | succ g1 =>
          have hle : (i : Int) ≤ (nn : Int) := by omega
          have hi10 : i < 10 := by have := HN5.out; omega
          have HI := hide hi
          have HI10 := hide hi10
          obtain ⟨cn, hcn⟩ : ∃ z : Int, 97 + (i : Int) = z := ⟨_, rfl⟩
          have hw1 : IntKind.i64.wrap cn = cn := by rw [IntKind.wrap_i64]; omega
          have hw2 : IntKind.i32.wrap cn = cn := by rw [IntKind.wrap_i32]; omega
          have hen : Utf8.encode cn = str (nmk i) := by
            have := enc_nmk i hi10
            rw [show ((97 + i : Nat) : Int) = cn by omega] at this
            exact this
          clear hi hi10
          go_upto_region 11 with fail
          go_cut [62] from 54 to 61 (fun vv wx => vv = .bool false ∧ ∃ A4, Sr wx rr A4.g A4.sb ∧ Sv w3 wx A4 1 ws (SK (i + 1)) ∧ Kh wr wx)
          case first =>
            have bb : Below wr.heap.size wr wr.drew := (Below.refl _ _).drew
            have HRd := hide (CBI.dr HRw.out)
            have HXd := hide (CBI.dr HXXw.out)
            have Ed := hide (eight HRd.out HXd.out)
            go_region_held (fun U => U.cell? ⟨gr, 0, none⟩ = some (.int .u64 1) ∧ U.cell? ⟨gr, 1, none⟩ = some (.int .u32 0) ∧ U.cell? ⟨gr, 2, none⟩ = some (.int .u8 255) ∧ U.cell? ⟨gr, 3, none⟩ = some (.int .u64 1) ∧ U.cell? ⟨gx, 0, none⟩ = some (.int .u64 (xp : Int)) ∧ U.cell? ⟨gx, 1, none⟩ = some (.int .u32 (xo : Int)) ∧ U.cell? ⟨gx, 2, none⟩ = some (.int .u8 (xr : Int)) ∧ U.cell? ⟨gx, 3, none⟩ = some (.int .u64 (xc : Int)))
              (first | with_reducible exact Ed.out | with_reducible exact E1.out | with_reducible exact E3.out | with_reducible exact E5.out)
              (first
                | (go_at_call 23; refine (HENCX.out _).mono ?_; rintro e W1 ⟨ge, rfl, BE, be⟩
                   have bb1 : Below wr.heap.size wr W1 := below_one (by go_grown) be
                   have HBE := hide BE
                   have E1 := hide (eight (HRw.out.grow bb1) (HXXw.out.grow bb1)))
                | (go_at_call 22; refine (HREQK.out i _ _ (HBE.out.carry (by go_grown))).mono ?_; rintro e W3 ⟨qo, qn, qc, rfl, B3, T3, hn3, be3⟩
                   have bb3 : Below wr.heap.size wr W3 := below_one (by go_grown) be3
                   have HB3 := hide B3
                   have HT3 := hide T3
                   have HN3 := hide hn3
                   have E3 := hide (eight (HRw.out.grow bb3) (HXXw.out.grow bb3))
                   clear B3 T3 hn3)
                | (go_at_call 17; refine (HSRK.out i HI10.out _ _ _ qo qn qc (HSw.out.grow (by go_grown)) (HXw.out.grow (by go_grown)) (HB3.out.carry (by go_grown)) HN3.out (HT3.out.grow (by go_grown))).mono ?_; rintro e W5 ⟨d0, d1, d2, d3, d5, d6, d7, d8, d9, d10, d11, d12, A5, rfl, S5, X5, K5⟩
                   have KV : Kh wr W5 := (below_kh (by go_grown)).trans K5
                   have HKV := hide KV
                   have HS5 := hide S5
                   have HX5 : Hid (Sv w3 W5 A5 1 ws (SK (i + 1))) := X5
                   have E5 := hide (eight (HRw.out.kh KV) (HXXw.out.kh KV))
                   have hfld := fld4 d0 d1 d2 d3 0 d5 d6 d7 d8 d9 d10 d11 d12
                   clear S5 X5 K5 KV))
            all_goals go_wp2_with fail
            all_goals go_meet
            all_goals exact ⟨rfl, _, HS5.out, HX5.out, HKV.out⟩
          case rest =>
            obtain ⟨V5, rfl⟩ : ∃ x, x = wc := ⟨wc, rfl⟩
            obtain ⟨rfl, A4, hs, hx, K⟩ := hcut
            have HS5 := hide hs
            have HX5 := hide hx
            have HR5 := hide (HRw.out.kh K)
            have HXX5 := hide (HXXw.out.kh K)
            have HYY5 := hide (HYYw.out.kh K)
            have HM5 := hide (HMw.out.kh K)
            clear hs hx K HSw HXw HRw HXXw HYYw HMw hw1 hw2 hen hcn
            have hw3 : IntKind.i64.wrap ((i : Int) + 1) = (i : Int) + 1 := by rw [IntKind.wrap_i64]; have := HI10.out; omega
            go_wp2_with fail
            go_roundg g1
            case measure => have := HI.out; omega
            case rel => exact ⟨i + 1, A4, by have := HI.out; omega, by go_num, HS5.out, HX5.out, HR5.out, HXX5.out, HYY5.out, HM5.out⟩
        | zero =>
          obtain rfl : i = nn + 1 := by omega
          have hle : ¬ (((nn + 1 : Nat) : Int) ≤ (nn : Int)) := by omega
          clear hi
          have HL1 := hide (HLST1.out w3 HG3.out)
          have r0 := HRw.out.c0
          have r1 := HRw.out.c1
          have r2 := HRw.out.c2
          have r3 := HRw.out.c3
          go_wp2_with fail
          refine (HL1.out _ _ _ HSw.out HXw.out).mono ?_; rintro e W5 ⟨mb, cob, nb, ccb, A5, rfl, hmb, B5, T5, S5, X5, K5, F5⟩
          rw [HF1.out.2] at B5 T5
          rw [HF1.out.1] at X5
          obtain ⟨V7, hV7⟩ : ∃ V, W5.alloc (.cells #[.int .u64 mb.ta, .int .u64 mb.rp, .int .u32 mb.id, .int .u16 mb.op, .int .u16 mb.st, .int .u64 mb.p, .int .u32 mb.o, .int .u8 mb.r, .int .u64 mb.c, .int .u64 mb.ar, .slice cob nb ccb] 55) = V := ⟨_, rfl⟩
          have b7 : Below W5.heap.size W5 V7 := hV7 ▸ below_alloc _ _
          obtain ⟨gb, hgb⟩ : ∃ g, W5.heap.size = g := ⟨_, rfl⟩
          have HMB7 : Hid (MB V7 gb mb (.slice cob nb ccb)) := by rw [← hgb, ← hV7]; exact mb_new _ _ _
          have K7 := K5.trans (below_kh b7)
          have HDB7 : Hid (Bts V7 cob nb ccb LN ∧ (LN = [] ∨ Typ8 V7 cob)) := Bts.both ⟨B5, T5⟩ (below_kh b7)
          have HS7 := hide (S5.grow b7)
          have HX7 := hide (X5.grow b7)
          have HR7 := hide (HRw.out.kh K7)
          have HYY7 := hide (HYYw.out.kh K7)
          have HMA7 := hide (HMw.out.kh K7)
          have HSRV3 := hide (HSRVR.out w3 HG3.out)
          clear hmb B5 T5 S5 X5 K5 F5 b7 K7 HSw HXw HRw HXXw HYYw HMw r0 r1 r2 r3 HSRVR HL1 HLST1
          go_upto_region 14 with fail
          go_cut [17] from 67 to 72 (fun vv wx => ∃ g co n cc A2, vv = .pointer (some ⟨g, 0, none⟩) ∧ Got w3 V7 A5 1 ws rr R3 M3 D3 g co n cc A2 wx)
          case first =>
            have bb : Below V7.heap.size V7 V7.drew := (Below.refl _ _).drew
            have HRd := hide (CBI.dr HR7.out)
            have HXd := hide (CBI.dr HYY7.out)
            have Ed := hide (eight HRd.out HXd.out)
            have Eda := hide (eight (CBI.dr (HR7.out.grow (below_alloc V7 (.cells #[.int .u64 0, .int .u64 0, .int .u32 0, .int .u16 0, .int .u16 0, .int .u64 0, .int .u32 0, .int .u8 0, .int .u64 0, .int .u64 0, .slice none 0 0] 55)))) (CBI.dr (HYY7.out.grow (below_alloc V7 (.cells #[.int .u64 0, .int .u64 0, .int .u32 0, .int .u16 0, .int .u16 0, .int .u64 0, .int .u32 0, .int .u8 0, .int .u64 0, .int .u64 0, .slice none 0 0] 55)))))
            go_region_held (fun U => U.cell? ⟨gr, 0, none⟩ = some (.int .u64 1) ∧ U.cell? ⟨gr, 1, none⟩ = some (.int .u32 0) ∧ U.cell? ⟨gr, 2, none⟩ = some (.int .u8 255) ∧ U.cell? ⟨gr, 3, none⟩ = some (.int .u64 1) ∧ U.cell? ⟨gy, 0, none⟩ = some (.int .u64 (yp : Int)) ∧ U.cell? ⟨gy, 1, none⟩ = some (.int .u32 (yo : Int)) ∧ U.cell? ⟨gy, 2, none⟩ = some (.int .u8 (yr : Int)) ∧ U.cell? ⟨gy, 3, none⟩ = some (.int .u64 (yc : Int)))
              (first | with_reducible exact Ed.out | with_reducible exact Eda.out | with_reducible exact E1.out | with_reducible exact E1a.out | with_reducible exact E3.out | with_reducible exact E3a.out | with_reducible exact E5.out | with_reducible exact E5a.out | with_reducible exact E5b.out | with_reducible exact HE6.out)
              (first
                | (go_at_call 23; refine (HENCY.out _).mono ?_; rintro e W1 ⟨ge, rfl, BE, be⟩
                   have bb1 : Below V7.heap.size V7 W1 := below_one (by go_grown) be
                   have hs1 := bb1.size
                   have HBE := hide BE
                   have HR1 := hide (HR7.out.grow bb1)
                   have HX1 := hide (HYY7.out.grow bb1)
                   have E1 := hide (eight HR1.out HX1.out)
                   have E1a := hide (eight (HR1.out.grow (below_alloc W1 (.cells #[.int .u64 0, .int .u64 0, .int .u32 0, .int .u16 0, .int .u16 0, .int .u64 0, .int .u32 0, .int .u8 0, .int .u64 0, .int .u64 0, .slice none 0 0] 55))) (HX1.out.grow (below_alloc W1 (.cells #[.int .u64 0, .int .u64 0, .int .u32 0, .int .u16 0, .int .u16 0, .int .u64 0, .int .u32 0, .int .u8 0, .int .u64 0, .int .u64 0, .slice none 0 0] 55)))))
                | (go_at_call 22; refine (HREQ3.out _ _ (HBE.out.carry (by go_grown))).mono ?_; rintro e W3 ⟨qo, qn, qc, rfl, B3, T3, hn3, be3⟩
                   have bb3 : Below V7.heap.size V7 W3 := below_one (by go_grown) be3
                   have hs3 := bb3.size
                   have HB3 := hide B3
                   have HT3 := hide T3
                   have HN3 := hide hn3
                   have HR3 := hide (HR7.out.grow bb3)
                   have HX3 := hide (HYY7.out.grow bb3)
                   have E3 := hide (eight HR3.out HX3.out)
                   have E3a := hide (eight (HR3.out.grow (below_alloc W3 (.cells #[.int .u64 0, .int .u64 0, .int .u32 0, .int .u16 0, .int .u16 0, .int .u64 0, .int .u32 0, .int .u8 0, .int .u64 0, .int .u64 0, .slice none 0 0] 55))) (HX3.out.grow (below_alloc W3 (.cells #[.int .u64 0, .int .u64 0, .int .u32 0, .int .u16 0, .int .u16 0, .int .u64 0, .int .u32 0, .int .u8 0, .int .u64 0, .int .u64 0, .slice none 0 0] 55))))
                   clear B3 T3 hn3)
                | (go_at_call 17; refine (HSRV3.out _ _ _ qo qn qc (HS7.out.grow (by go_grown)) (HX7.out.grow (by go_grown)) (HB3.out.carry (by go_grown)) HN3.out (HT3.out.grow (by go_grown))).mono ?_; rintro e W5 ⟨m3, co, n, cc, A2, rfl, hm3, B5, T5, S5, X5, K5, F5⟩
                   have KV : Kh V7 W5 := (below_kh (by go_grown)).trans K5
                   have HKV := hide KV
                   have HM3 := hide hm3
                   have HB5 := hide B5
                   have HT5 := hide T5
                   have HS5 := hide S5
                   have HX5' := hide X5
                   have HR5 := hide (HR7.out.kh KV)
                   have HX5 := hide (HYY7.out.kh KV)
                   have E5 := hide (eight HR5.out HX5.out)
                   have E5a := hide (eight (HR5.out.grow (below_alloc W5 (.cells #[.int .u64 0, .int .u64 0, .int .u32 0, .int .u16 0, .int .u16 0, .int .u64 0, .int .u32 0, .int .u8 0, .int .u64 0, .int .u64 0, .slice none 0 0] 55))) (HX5.out.grow (below_alloc W5 (.cells #[.int .u64 0, .int .u64 0, .int .u32 0, .int .u16 0, .int .u16 0, .int .u64 0, .int .u32 0, .int .u8 0, .int .u64 0, .int .u64 0, .slice none 0 0] 55))))
                   have E5b := hide (eight (HR5.out.grow (below_alloc W5 (.cells #[.int .u64 m3.ta, .int .u64 m3.rp, .int .u32 m3.id, .int .u16 m3.op, .int .u16 m3.st, .int .u64 m3.p, .int .u32 m3.o, .int .u8 m3.r, .int .u64 m3.c, .int .u64 m3.ar, .slice co n cc] 55))) (HX5.out.grow (below_alloc W5 (.cells #[.int .u64 m3.ta, .int .u64 m3.rp, .int .u32 m3.id, .int .u16 m3.op, .int .u16 m3.st, .int .u64 m3.p, .int .u32 m3.o, .int .u8 m3.r, .int .u64 m3.c, .int .u64 m3.ar, .slice co n cc] 55))))
                   (first
                    | (have M0 : MB W5 V7.heap.size Msg.zero (.slice none 0 0) := by with_reducible exact MB.kh (MB.grow (MB.grow (MB.dr (mbz_new V7)) be) be3) K5
                       have hge : V7.heap.size ≤ V7.heap.size := Nat.le_refl _
                       have HV := hide M0
                       have HGE := hide hge
                       obtain ⟨z0, z1, z2, z3, z4, z5, z6, z7, z8, z9, z10⟩ := M0.all
                       have x0 := M0.z 0
                       have x1 := M0.z 1
                       have x2 := M0.z 2
                       have x3 := M0.z 3
                       have x4 := M0.z 4
                       have x5 := M0.z 5
                       have x6 := M0.z 6
                       have x7 := M0.z 7
                       have x8 := M0.z 8
                       have x9 := M0.z 9
                       have x10 := M0.z 10
                       have HE6 := hide (eight_lay M0 m3 (.slice co n cc) HR5.out HX5.out)
                       unfold lay11 at HE6
                       clear M0)
                    | (have M0 : MB W5 W1.heap.size Msg.zero (.slice none 0 0) := by with_reducible exact MB.kh (MB.grow (mbz_new W1) be3) K5
                       have hge : V7.heap.size ≤ W1.heap.size := bb1.size
                       have HV := hide M0
                       have HGE := hide hge
                       obtain ⟨z0, z1, z2, z3, z4, z5, z6, z7, z8, z9, z10⟩ := M0.all
                       have x0 := M0.z 0
                       have x1 := M0.z 1
                       have x2 := M0.z 2
                       have x3 := M0.z 3
                       have x4 := M0.z 4
                       have x5 := M0.z 5
                       have x6 := M0.z 6
                       have x7 := M0.z 7
                       have x8 := M0.z 8
                       have x9 := M0.z 9
                       have x10 := M0.z 10
                       have HE6 := hide (eight_lay M0 m3 (.slice co n cc) HR5.out HX5.out)
                       unfold lay11 at HE6
                       clear M0)
                    | (have M0 : MB W5 W3.heap.size Msg.zero (.slice none 0 0) := by with_reducible exact MB.kh (mbz_new W3) K5
                       have hge : V7.heap.size ≤ W3.heap.size := bb3.size
                       have HV := hide M0
                       have HGE := hide hge
                       obtain ⟨z0, z1, z2, z3, z4, z5, z6, z7, z8, z9, z10⟩ := M0.all
                       have x0 := M0.z 0
                       have x1 := M0.z 1
                       have x2 := M0.z 2
                       have x3 := M0.z 3
                       have x4 := M0.z 4
                       have x5 := M0.z 5
                       have x6 := M0.z 6
                       have x7 := M0.z 7
                       have x8 := M0.z 8
                       have x9 := M0.z 9
                       have x10 := M0.z 10
                       have HE6 := hide (eight_lay M0 m3 (.slice co n cc) HR5.out HX5.out)
                       unfold lay11 at HE6
                       clear M0)
                    | skip)
                   clear hm3 B5 T5 S5 X5 K5 F5 KV))
            all_goals go_wp2_with fail
            all_goals go_meet
            all_goals first
              | with_reducible exact ⟨_, _, _, _, _, rfl, Got.new HM3.out HB5.out HT5.out HS5.out HX5'.out HKV.out⟩
              | (have G := Got.old (A := A5) (w := V7) HM3.out HB5.out HT5.out HS5.out HX5'.out HKV.out HV.out HGE.out (HX7.out.bel.size)
                 unfold lay11 at G
                 with_reducible exact ⟨_, _, _, _, _, rfl, G⟩)
          case rest =>
            obtain ⟨V8, rfl⟩ : ∃ x, x = wc := ⟨wc, rfl⟩
            obtain ⟨gc2, coc, nc, ccc, A6, rfl, Gc⟩ := hcut
            have HMC8 := hide Gc.mb
            have HR8 := hide (HR7.out.kh Gc.kh)
            have HYY8 := hide (HYY7.out.kh Gc.kh)
            have HMA8 := hide (HMA7.out.kh Gc.kh)
            have HMB8 := hide (HMB7.out.kh Gc.kh)
            have HDB8 := hide (Bts.both HDB7.out Gc.kh)
            have HS8 := hide Gc.sr
            have hx8 := Gc.sv
            rw [HF3.out.1] at hx8
            have HX8 := hide hx8
            have HL2 := hide (HLST2.out w3 HG3.out)
            clear Gc hx8 HR7 HYY7 HMA7 HMB7 HDB7 HS7 HX7 HSRV3 HLST2
            have r0 := HR8.out.c0
            have r1 := HR8.out.c1
            have r2 := HR8.out.c2
            have r3 := HR8.out.c3
            go_wp2_with fail
            refine (HL2.out _ _ _ HS8.out HX8.out).mono ?_; rintro e W6 ⟨md, cod, nd, ccd, A7, rfl, hmd, B6, T6, S6, X6, K6, F6⟩
            rw [HF2.out.2] at B6 T6
            rw [HF2.out.1] at X6
            obtain ⟨V9, hV9⟩ : ∃ V, W6.alloc (.cells #[.int .u64 md.ta, .int .u64 md.rp, .int .u32 md.id, .int .u16 md.op, .int .u16 md.st, .int .u64 md.p, .int .u32 md.o, .int .u8 md.r, .int .u64 md.c, .int .u64 md.ar, .slice cod nd ccd] 55) = V := ⟨_, rfl⟩
            have b9 : Below W6.heap.size W6 V9 := hV9 ▸ below_alloc _ _
            obtain ⟨gd2, hgd2⟩ : ∃ g, W6.heap.size = g := ⟨_, rfl⟩
            have HMD9 : Hid (MB V9 gd2 md (.slice cod nd ccd)) := by rw [← hgd2, ← hV9]; exact mb_new _ _ _
            have K9 := K6.trans (below_kh b9)
            have HDD9 : Hid (Bts V9 cod nd ccd LN ∧ (LN = [] ∨ Typ8 V9 cod)) := Bts.both ⟨B6, T6⟩ (below_kh b9)
            have HS9 := hide (S6.grow b9)
            have HX9 := hide (X6.grow b9)
            have HR9 := hide (HR8.out.kh K9)
            have HYY9 := hide (HYY8.out.kh K9)
            have HMA9 := hide (HMA8.out.kh K9)
            have HMB9 := hide (HMB8.out.kh K9)
            have HMC9 := hide (HMC8.out.kh K9)
            have HDB9 := hide (Bts.both HDB8.out K9)
            have HSRV4 := hide (HSRVQ.out w3 HG3.out)
            clear hmd B6 T6 S6 X6 K6 F6 b9 K9 HR8 HYY8 HMA8 HMB8 HMC8 HDB8 HS8 HX8 r0 r1 r2 r3 HL2 HSRVQ
            have r0 := HR9.out.c0
            have r1 := HR9.out.c1
            have r2 := HR9.out.c2
            have r3 := HR9.out.c3
            go_wp2_with fail
            refine (HREQ4.out _).mono ?_; rintro e W7 ⟨qo, qn, qc, rfl, B3, T3, hn3, b3⟩
            have HS10 := hide (HS9.out.grow b3)
            have HX10 := hide (HX9.out.grow b3)
            have HB10 := hide B3
            have HT10 := hide T3
            have HN10 := hide hn3
            have HK10 := hide (below_kh b3)
            clear B3 T3 hn3 b3 r0 r1 r2 r3 HS9 HX9
            go_wp2_with fail
            refine (HSRV4.out _ _ _ qo qn qc HS10.out HX10.out HB10.out HN10.out HT10.out).mono ?_; rintro e W8 ⟨mq, coq, nq, ccq, A8, rfl, hmq, B7, T7, S7, X7, K7, F7⟩
            have HMQ := hide hmq
            obtain ⟨VF, hVF⟩ : ∃ V, W8.alloc (.cells #[.int .u64 mq.ta, .int .u64 mq.rp, .int .u32 mq.id, .int .u16 mq.op, .int .u16 mq.st, .int .u64 mq.p, .int .u32 mq.o, .int .u8 mq.r, .int .u64 mq.c, .int .u64 mq.ar, .slice coq nq ccq] 55) = V := ⟨_, rfl⟩
            have bF : Below W8.heap.size W8 VF := hVF ▸ below_alloc _ _
            obtain ⟨gq, hgq⟩ : ∃ g, W8.heap.size = g := ⟨_, rfl⟩
            have HMQF : Hid (MB VF gq mq (.slice coq nq ccq)) := by rw [← hgq, ← hVF]; exact mb_new _ _ _
            have KF := (HK10.out.trans K7).trans (below_kh bF)
            have HBL := hide (below_one HB3.out (X7.grow bF).bel)
            have ma := (HMA9.out.kh KF).all
            have mb9 := (HMB9.out.kh KF).all
            have mc9 := (HMC9.out.kh KF).all
            have md9 := (HMD9.out.kh KF).all
            have mq9 := HMQF.out.all
            have s1 : VF.cell? ⟨ga, 4, none⟩ = some (.int .u16 12) := by rw [ma.2.2.2.2.1, rpl_st, HF0.out.2]; rfl
            have s2 : VF.cell? ⟨gc2, 4, none⟩ = some (.int .u16 0) := by rw [mc9.2.2.2.2.1, rpl_st, HF3.out.2]; rfl
            have s3 : VF.cell? ⟨gb, 10, none⟩ = some (.slice cob nb ccb) := mb9.2.2.2.2.2.2.2.2.2.2
            have s4 : VF.cell? ⟨gd2, 10, none⟩ = some (.slice cod nd ccd) := md9.2.2.2.2.2.2.2.2.2.2
            have cv1 := conv_bts (Bts.both HDB9.out KF).1
            have cv2 := conv_bts (Bts.both HDD9.out KF).1
            have hcp := rpl_cap M1 R4 HF4.out.1
            have s5 : VF.cell? ⟨gq, 4, none⟩ = some (.int .u16 0) := by rw [mq9.2.2.2.2.1, HMQ.out, rpl_st, HF4.out.1]; rfl
            have p0 : VF.cell? ⟨gq, 5, none⟩ = some (.int .u64 (yp : Int)) := by rw [mq9.2.2.2.2.2.1, HMQ.out, hcp.1, HF4.out.2]
            have p1 : VF.cell? ⟨gq, 6, none⟩ = some (.int .u32 (yo : Int)) := by rw [mq9.2.2.2.2.2.2.1, HMQ.out, hcp.2.1, HF4.out.2]
            have p2 : VF.cell? ⟨gq, 7, none⟩ = some (.int .u8 (yr : Int)) := by rw [mq9.2.2.2.2.2.2.2.1, HMQ.out, hcp.2.2.1, HF4.out.2]
            have p3 : VF.cell? ⟨gq, 8, none⟩ = some (.int .u64 (yc : Int)) := by rw [mq9.2.2.2.2.2.2.2.2.1, HMQ.out, hcp.2.2.2, HF4.out.2]
            have hyF := HYY9.out.kh KF
            have y0 := hyF.c0
            have y1 := hyF.c1
            have y2 := hyF.c2
            have y3 := hyF.c3
            have hql := fun W => eql_cap (yp : Int) yo yr yc yp yo yr yc W
            clear hmq B7 T7 S7 X7 K7 F7 bF KF ma mb9 mc9 md9 mq9 hcp hyF
            go_wp2
            go_ret
            exact ⟨by simp, HBL.out⟩
end
end Go.Proofs.YtlmnnjibggdboaaGreatDoor
