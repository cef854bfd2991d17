/-
  The walk of DirectoryServes.
-/
import Derived.Test.YtlmnnjibggdboaaGreatDoorJs
import Derived.Test.YtlmnnjibggdboaaGreatDoorJn
import Derived.Test.YtlmnnjibggdboaaGreatDoorJr
import Derived.Deep.CutBlock
import Derived.Deep.CutRange
import Derived.Deep.RegionHeldLaw
namespace Go.Proofs.YtlmnnjibggdboaaGreatDoor
section
open Go.RowKit
theorem len_snoc {α : Type} (l : List α) (x : α) : (l ++ [x]).length = l.length + 1 := by simp
theorem msg_val (x : Ac) (hx : x.ok) {B n : Nat} {v : Value} {L : List Cp} (w : World) (hr : w.ownsRow B 40 4 v n (cellsC L)) (hn : n = L.length) (h0 : 0 < n) (q : Cp) (hq : L.getD (x.wh % n) Cp.zero = q) (hD : Bts w x.so x.sn x.sc x.l) (hsn : x.sn ≤ 140737488351232) (N : Nat) (hNw : N ≤ w.heap.size) (hN : Dat N w x.sn x.so) :
    Calls Tryz.prog 16 #[.agg #[.int .u8 (x.o : Int), .int .u8 (x.wh : Int), .int .u8 (x.nm : Int), .int .u64 (x.p : Int), .int .u32 (x.po : Int), .int .u8 (x.r : Int), .int .u64 (x.c : Int), .bool x.ow, .int .u16 (x.a : Int), .slice x.so x.sn x.sc], v] w fun e w' =>
      ∃ (M : Msg) (co : Option Addr) (m cc : Nat) (l : List UInt8), e = .returned (.agg #[.int .u64 M.ta, .int .u64 M.rp, .int .u32 M.id, .int .u16 M.op, .int .u16 M.st, .int .u64 M.p, .int .u32 M.o, .int .u8 M.r, .int .u64 M.c, .int .u64 M.ar, .slice co m cc]) ∧ (M.op = 5 ∨ 100 ≤ M.op) ∧ M.op ≤ 106 ∧ M.ar ≤ 300 ∧ (⟨M.p, M.o, M.r, M.c⟩ : Cp) = q ∧ Bts w' co m cc l ∧ m ≤ 140737488355328 ∧ Dat N w' m co ∧ Below w.heap.size w w' := by
  refine (msg_any x hx w hr hn h0 q hq hD hsn N hNw hN).mono ?_
  rintro e w' ⟨op, ar, co, m, cc, l, rfl, h1, h2, h3, h4, h5, h6, h7⟩
  exact ⟨⟨0, 0, 0, op, 0, q.p, q.o, q.r, q.c, ar⟩, co, m, cc, l, rfl, h1, h2, h3, rfl, h4, h5, h6, h7⟩
/- a script, behind so many deeds -/
structure Scr (N : Nat) (w0 w : World) (A A' : Ad) (rr : Nat) (ws : List Nat) (s : Hs) (v : Value) (L : List Cp) : Prop where
  ba : Bas w0 w A A' rr ws s s v L
  cp : ∀ c ∈ L, c.may
  ft : Fit N s
  ln : L.length ≤ N
def HadRel (w0 : World) (A A' : Ad) (rr : Nat) (ws : List Nat) (gb : Nat) (q : Cp) (nm gk : Nat) (vh vi : Value) (wr : World) : Prop :=
  ∃ (i : Nat) (s : Hs) (L : List Cp) (va : Value) (dv : Option Nat) (nv : Int → Value) (va' : Value) (nv' : Int → Value), i + gk = nm ∧ vi = .int .i64 (i : Int) ∧ (0 < L.length ∧ L.length ≤ 4) ∧ Scr L.length w0 wr (A.upd va dv nv) (A'.upd va' A'.dv nv') rr ws s vh L ∧ CBox wr gb q.p q.o q.r q.c ∧ ∀ j, vh.ownBlock = some j → gb < j
def SrvRel (w0 : World) (A A' : Ad) (rr : Nat) (ws : List Nat) (na gk : Nat) (vh vi : Value) (wr : World) : Prop :=
  ∃ (i : Nat) (s : Hs) (L : List Cp) (va : Value) (dv : Option Nat) (nv : Int → Value) (va' : Value) (nv' : Int → Value), i + gk = na ∧ vi = .int .i64 (i : Int) ∧ 0 < L.length ∧ Scr (8 + i) w0 wr (A.upd va dv nv) (A'.upd va' A'.dv nv') rr ws s vh L
set_option maxRecDepth 20000 in
set_option maxHeartbeats 12800000 in
theorem walk_serves (eo : Option Addr) (ne ec : Nat) (us : List Nat) (mo : Option Addr) (nm mc : Nat) (ms : List UInt8) (ao : Option Addr) (na ac : Nat) (xs : List Ac) (w : World) (hu : U64s w eo ne ec us) (hne : ne ≤ 17592186043904) (hM : Bts w mo nm mc ms) (hA : Acts w ao na ac xs) (hna : na ≤ 2199023255488) (hsn : ∀ y ∈ xs, y.sn ≤ 140737488351232) (hg : Glob w) :
    Calls Tryz.prog 3 #[.slice eo ne ec, .slice mo nm mc, .slice ao na ac] w fun e w' => e = .returned (.bool true) ∧ Below w.heap.size w w' := by
  have HG := hide hg
  have HU := hide hu
  have HMK := hide hM
  have HA := hide hA
  have HNE := hide hne
  have HNA := hide hna
  have HSN := hide hsn
  have hac := hA.2.1
  have hac2 : ac ≤ 9223372036854775807 := hA.2.2.1
  have hmc := hM.2.1
  have hmc2 : mc ≤ 9223372036854775807 := hM.2.2.1
  have HNX := hide hA.1
  clear hg hu hA hM hne hna hsn
  go_enter Tryz.func3, Tryz.ntmps3
  go_wp2_with fail
  refine (awake_any _ HG.out).mono ?_; rintro e w1 ⟨rfl, b1⟩
  have HB1 := hide b1
  clear b1
  go_wp2_with fail
  refine (of_any _ _ _ us _ (HU.out.carry HB1.out) HNE.out).mono ?_; rintro e w2 ⟨ta, th, tk, rfl, TA, _, ha, hh, bel⟩
  have HT := hide TA
  have HTA := hide ha
  have HTH := hide hh
  have HBE := hide bel
  clear TA bel ha hh
  go_wp2_with fail
  refine (oof_any _ ⟨_, rfl⟩ _).mono ?_; rintro e w3 ⟨go, gm, rfl, O2, bel2⟩
  have HS3 := hide (Tk.made HB1.out HT.out HTA.out HTH.out HBE.out O2 bel2)
  obtain ⟨B, hB⟩ : ∃ B, w2.heap.size = B := ⟨_, rfl⟩
  rw [hB] at HS3
  have HL3 := hide HS3.out.low
  clear O2 bel2 HT HBE HTA HTH hB
  go_wp2_with fail
  refine (of_any _ _ _ us _ (HU.out.carry HS3.out.new.bel) HNE.out).mono ?_; rintro e w5 ⟨tc, td, te, rfl, TA, _, ha, hh, bel⟩
  have HT := hide TA
  have HTA := hide ha
  have HTH := hide hh
  have HBE := hide bel
  clear TA bel ha hh
  go_wp2_with fail
  refine (oof_any _ ⟨_, rfl⟩ _).mono ?_; rintro e w6 ⟨go2, gm2, rfl, O2, bel2⟩
  have HS6 := hide (Tk.made HS3.out.new.bel HT.out HTA.out HTH.out HBE.out O2 bel2)
  have HS3b := hide ((HS3.out.grow HBE.out).grow bel2)
  have HLU : Hid (w3.heap.size ≤ go2 ∧ w3.heap.size ≤ gm2) := by show _ ∧ _; have := O2.bg; have := O2.bm; have := HBE.out.size; omega
  have HLV : Hid (w3.heap.size ≤ tc ∧ w3.heap.size ≤ td) := ⟨HTA.out, HTH.out⟩
  obtain ⟨B2, hB⟩ : ∃ B, w5.heap.size = B := ⟨_, rfl⟩
  rw [hB] at HS6
  have HL6 := hide HS6.out.low
  obtain ⟨ws, hws⟩ : ∃ ws, cutN us = ws := ⟨_, rfl⟩
  rw [hws] at HS6 HS3b
  clear O2 bel2 HT HBE HTA HTH hB hws HS3
  go_wp2_with fail
  refine (tof_new 5 _).mono ?_; rintro e w7 ⟨rfl, T7, b7⟩
  have HO7 := hide (Od.make HS3b.out T7 b7)
  have HS7 := hide (HS6.out.grow b7)
  obtain ⟨g, hgg⟩ : ∃ g, w6.heap.size = g := ⟨_, rfl⟩
  rw [hgg] at HO7 HL6 ⊢
  have HL7 := hide HO7.out.low
  clear T7 b7 HS3b HS6 hgg
  go_wp2_with fail
  refine (tof_new 5 _).mono ?_; rintro e w8 ⟨rfl, T8, b8⟩
  have HP8 := hide (Od.make HS7.out T8 b8)
  have HO8 := hide (HO7.out.grow b8)
  obtain ⟨g2, hgg⟩ : ∃ g, w7.heap.size = g := ⟨_, rfl⟩
  rw [hgg] at HP8 HL7 ⊢
  have HL8 := hide HP8.out.low
  clear T8 b8 HS7 hgg HO7
  obtain ⟨W9, hW9⟩ : ∃ W, (w8.alloc (.map #[] 0)).alloc (.cells #[.pointer (some ⟨g2, 0, none⟩), .pointer (some ⟨go2, 0, none⟩), .map (some w8.heap.size), .int .i64 1] 36) = W := ⟨_, rfl⟩
  have hY9 := model_made HP8.out hW9
  have HO9 : Hid (Od w W9 B g go gm ta th tk 5 (.slice none 0 0) ws 0 [] noneO) := by
    show Od _ _ _ _ _ _ _ _ _ _ _ _ _ _ _
    rw [← hW9]
    exact (HO8.out.grow (below_alloc _ _)).grow (below_alloc _ _)
  obtain ⟨A', hAA⟩ : ∃ A : Ad, A = ⟨B2, g2, go2, gm2, tc, td, te, .slice none 0 0, (w8.heap.size + 1, true), w8.heap.size, some w8.heap.size, fun _ => nilV⟩ := ⟨_, rfl⟩
  rw [← hAA] at hY9
  have HY9 := hide hY9
  have HAP : Hid (∀ j, SvS A' j → (j = go2 ∨ j = gm2 ∨ j = tc) ∨ j = g2 ∨ j = w8.heap.size ∨ j = w8.heap.size + 1) := fun j e => by
    rw [hAA] at e
    rcases e with ((e | e | e | e) | e) | e | e | ⟨y, e⟩
    · exact .inl (.inl e)
    · exact .inl (.inr (.inl e))
    · exact .inl (.inr (.inr e))
    · cases e
    · exact .inr (.inl e)
    · exact .inr (.inr (.inr e))
    · exact .inr (.inr (.inl (Option.some.inj e).symm))
    · cases e
  have HES : Hid (A'.g = g2 ∧ A'.sb.1 = w8.heap.size + 1 ∧ A'.h = td) := by show _ ∧ _ ∧ _; rw [hAA]; exact ⟨rfl, rfl, rfl⟩
  have HFL : Hid (A'.sb.2 = true) := by show _ = _; rw [hAA]
  have HDV : Hid (A'.dv ≠ none) := by show _ ≠ _; rw [hAA]; intro e; cases e
  have HSZ9 : Hid (W9.heap.size = w8.heap.size + 2) := by show _ = _; rw [← hW9, sz1, sz1]
  obtain ⟨mp, hmp⟩ : ∃ k, w8.heap.size = k := ⟨_, rfl⟩
  rw [hmp] at HAP HES HSZ9 HL8 hW9
  obtain ⟨n3, hn3⟩ : ∃ k, w3.heap.size = k := ⟨_, rfl⟩
  rw [hn3] at HL3 HLU HLV
  have HNUM : Hid ((go < n3 ∧ gm < n3 ∧ ta < n3) ∧ (n3 ≤ go2 ∧ n3 ≤ gm2 ∧ n3 ≤ tc ∧ n3 ≤ td) ∧ (go2 < g ∧ gm2 < g ∧ tc < g ∧ td < g) ∧ g < g2 ∧ g2 < mp) := by
    have h3 := HL3.out; have h4 := HLU.out; have h5 := HLV.out; have h6 := HL6.out; have h7 := HL7.out; have h8 := HL8.out
    exact ⟨⟨h3.1, h3.2.1, h3.2.2.1⟩, ⟨h4.1, h4.2, h5.1, h5.2⟩, ⟨h6.1, h6.2.1, h6.2.2.1, h6.2.2.2⟩, h7.1, h8.1⟩
  clear hY9 hAA HP8 HO8 HL3 HLU HLV HL6 HL7 HL8 hn3
  have hmk := run_makeMap (P := Tryz.prog) 34 w8
  go_wp2_with fail
  clear hW9 hmp hmk
  obtain ⟨j1, j2, j3⟩ := HES.out
  rw [← j1, ← j2]
  clear j1 j2 j3
  obtain ⟨R, hR⟩ : ∃ R, creF ws 0 [] 5 noneO 0 = R := ⟨_, rfl⟩
  have HRE : Hid (R.e ≤ 65535) := by show _; rw [← hR]; exact cre_err ws 0 [] 5 noneO 0
  have HRM : Hid (R.c.may) := by show _; rw [← hR]; exact cre_may (fun j => HY9.out.od.tk.tape.word j) (by decide) _
  have HRS : Hid (R.es = []) := by show _; rw [← hR]; exact cre_es _ _ _ _ _ _
  have HRF : Hid (Fit 0 ⟨R.t, R.es, R.T, 0, 0, L0⟩) := fit_new hR (by show 0 ≤ _; omega) (fun _ => rfl)
  have HR := hide hR
  obtain ⟨⟨qp, qo, qr, qc⟩, hq⟩ : ∃ q, R.c = q := ⟨_, rfl⟩
  have HQ := hide hq
  have HOFF : Hid (∀ j, OdS g go gm ta (.slice none 0 0) j → ¬ SvS A' j ∧ j ≠ A'.h) := fun j e => by
    have hn := HNUM.out
    have h3 := HES.out.2.2
    refine ⟨fun h => ?_, ?_⟩
    · have h2 := HAP.out j h
      rcases e with (e | e | e | e) | e
      · omega
      · omega
      · omega
      · cases e
      · omega
    · rcases e with (e | e | e | e) | e
      · omega
      · omega
      · omega
      · cases e
      · omega
  by_cases h0 : R.e = 0
  · have HE0 := hide h0
    refine (dir_yes _ HO9.out (by show 0 ≤ _; omega) R HR.out h0).mono ?_; rintro e x1 ⟨rr, rfl, A, hA, hAo, hAm, hAa, -, hAv, hAs, hAN, -, hAd, hAnv, X1, S1, F1⟩
    have hy := HY9.out.foot F1 (fun j e => ⟨HO9.out.up e, HOFF.out j e⟩)
    have hdu : Du w x1 A A' 5 ws ⟨R.t, R.es, R.T, 0, 0, L0⟩ ⟨0, [], noneO, 0, 0, L0⟩ := ⟨X1, hy, fun j e h => by
      have hn := HNUM.out
      have h2 := HAP.out j h
      have h9 := HSZ9.out
      rcases e with ((e | e | e | e) | e) | e | e | ⟨y, e⟩
      · rw [hAo] at e; omega
      · rw [hAm] at e; omega
      · rw [hAa] at e; omega
      · rcases hAv j e with h | h
        · cases h
        · omega
      · rw [hA] at e; omega
      · omega
      · rw [hAd] at e; cases e
      · rw [hAnv] at e; cases e⟩
    have HDU := hide hdu
    have HSR := hide S1
    rw [← hA]
    rw [hq]
    simp only [Cp.val]
    have HAG := hide hA
    clear hy hdu X1 S1 F1 hA hAo hAm hAa hAv hAs hAN hAd hAnv HO9 h0 hR hq
    obtain ⟨V1, hV1⟩ : ∃ V, x1.alloc (.cells #[.int .u64 (qp : Int), .int .u32 (qo : Int), .int .u8 (qr : Int), .int .u64 (qc : Int)] 40) = V := ⟨_, rfl⟩
    have bV1 : Below x1.heap.size x1 V1 := hV1 ▸ below_alloc _ _
    have HCB : Hid (CBox V1 x1.heap.size qp qo qr qc) := hV1 ▸ CBox.new x1 qp qo qr qc
    have HDU1 := hide (HDU.out.grow bV1)
    have HSR1 := hide (HSR.out.grow bV1)
    obtain ⟨gb, hgb⟩ : ∃ k, x1.heap.size = k := ⟨_, rfl⟩
    rw [hgb] at HCB
    have HW0 : Hid (w.heap.size ≤ gb) := by show _ ≤ _; rw [← hgb]; exact HDU.out.x.bel.size
    have c0 := HDU1.out.y.bx.c0
    clear bV1 HDU HSR
    go_wp2_with fail
    clear hV1
    refine (tbk_create 0 _ HDU1.out.y (by show 0 ≤ _; omega) R HR.out).mono ?_; rintro e x2 ⟨rfl, E⟩
    obtain ⟨v2, nv2, hdu2⟩ := HDU1.out.rightK E
    have kh := HDU1.out.y.khK E
    have HDU2 : Hid (Du w x2 A (A'.upd v2 A'.dv nv2) 5 ws ⟨R.t, R.es, R.T, 0, 0, L0⟩ ⟨R.t, R.es, R.T, 0, 0, L0⟩) := hdu2
    have HSR2 := hide (HSR1.out.kh kh)
    have HCB2 := hide (HCB.out.kh kh)
    rw [HQ.out, HE0.out]
    simp only [Cp.val, show erN ((0 : Nat) : Int) = .nilIface from rfl]
    clear E hdu2 kh c0 HDU1 HSR1 HCB
    obtain ⟨V2, hV2⟩ : ∃ V, x2.alloc (.cells #[.int .u64 (qp : Int), .int .u32 (qo : Int), .int .u8 (qr : Int), .int .u64 (qc : Int)] 40) = V := ⟨_, rfl⟩
    have bV2 : Below x2.heap.size x2 V2 := hV2 ▸ below_alloc _ _
    have HCC : Hid (CBox V2 x2.heap.size qp qo qr qc) := hV2 ▸ CBox.new x2 qp qo qr qc
    have HDU3 := hide (HDU2.out.grow bV2)
    have HSR3 := hide (HSR2.out.grow bV2)
    have HCB3 := hide (HCB2.out.grow bV2)
    obtain ⟨gc, hgc⟩ : ∃ k, x2.heap.size = k := ⟨_, rfl⟩
    rw [hgc] at HCC
    have hnum : ∀ W, Glob W → Calls Tryz.prog 14 #[.nilIface] W fun e w' => e = .returned (.int .i64 0) ∧ Below W.heap.size W w' := fun W hW => number_any 0 W hW
    have HNU := hide hnum
    clear bV2 HDU2 HSR2 HCB2 hnum
    go_wp2_with fail
    clear hV2 hgc
    refine (HNU.out _ (HDU3.out.x.glob HG.out)).mono ?_; rintro e y1 ⟨rfl, by1⟩
    have HDU4 := hide (HDU3.out.grow by1)
    have HSR4 := hide (HSR3.out.grow by1)
    have HCB4 := hide (HCB3.out.grow by1)
    have HCC4 := hide (HCC.out.grow by1)
    clear by1 HDU3 HSR3 HCB3 HCC
    go_wp2_with fail
    refine (HNU.out _ (HDU4.out.x.glob HG.out)).mono ?_; rintro e y2 ⟨rfl, by2⟩
    have HDU5 := hide (HDU4.out.grow by2)
    have HSR5 := hide (HSR4.out.grow by2)
    have HCB5 := hide (HCB4.out.grow by2)
    have HCC5 := hide (HCC4.out.grow by2)
    clear by2 HDU4 HSR4 HCB4 HCC4
    have c0 := HCB5.out.c0
    have c1 := HCB5.out.c1
    have c2 := HCB5.out.c2
    have c3 := HCB5.out.c3
    have e0 := HCC5.out.c0
    have e1 := HCC5.out.c1
    have e2 := HCC5.out.c2
    have e3 := HCC5.out.c3
    have nq := fun W => neq_cap (qp : Int) qo qr qc qp qo qr qc W
    obtain ⟨X, hX⟩ : ∃ V, y2.alloc (.cells #[.int .u64 (qp : Int), .int .u32 (qo : Int), .int .u8 (qr : Int), .int .u64 (qc : Int)] 40) = V := ⟨_, rfl⟩
    have bX : Below y2.heap.size y2 X := hX ▸ below_alloc _ _
    have hro : X.ownsRow y2.heap.size 40 4 (.slice (some ⟨y2.heap.size, 0, none⟩) 1 1) 1 (cellsC [⟨qp, qo, qr, qc⟩]) := hX ▸ owns_cap1 y2 qp qo qr qc
    have HWX : Hid (w.heap.size ≤ gb ∧ gb < y2.heap.size) := ⟨HW0.out, lt_of_heap HCB5.out⟩
    have HBS : Hid (Bas w X A (A'.upd v2 A'.dv nv2) rr ws ⟨R.t, R.es, R.T, 0, 0, L0⟩ ⟨R.t, R.es, R.T, 0, 0, L0⟩ (.slice (some ⟨y2.heap.size, 0, none⟩) 1 1) [⟨qp, qo, qr, qc⟩]) :=
      ⟨HDU5.out.grow bX, HSR5.out.grow bX, owns_from hro (by have := HWX.out; omega), HG.out⟩
    have HCB13 := hide (HCB5.out.grow bX)
    obtain ⟨xo, hxo⟩ : ∃ k, y2.heap.size = k := ⟨_, rfl⟩
    rw [hxo] at HBS HWX
    have HQM : Hid (Cp.may ⟨qp, qo, qr, qc⟩) := by show _; rw [← HQ.out]; exact HRM.out
    clear bX hro HDU5 HSR5 HCB5 HCC5
    go_wp2_with fail
    clear hX hxo c0 c1 c2 c3 e0 e1 e2 e3 nq
    go_loopg [16, 79] nm (fun gk vh vi wr => HadRel w A A' rr ws gb ⟨qp, qo, qr, qc⟩ nm gk vh vi wr)
    case atStart => exact ⟨0, ⟨R.t, R.es, R.T, 0, 0, L0⟩, [⟨qp, qo, qr, qc⟩], A.v, A.dv, A.nv, v2, nv2, by omega, rfl, ⟨by simp, by simp⟩, ⟨HBS.out, (by intro c hc; rw [List.mem_singleton.1 hc]; exact HQM.out), HRF.out.le (by simp), Nat.le_refl _⟩, HCB13.out, (by intro j e; cases e; exact HWX.out.2)⟩
    case round =>
      obtain ⟨i, s, L, va, dv, nv, va', nv', hi, rfl, hL, hS, hC, hgv⟩ := hrel
      have HS := hide hS
      have HLL := hide hL
      have HC := hide hC
      have HGV := hide hgv
      clear hS hL hC hgv HBS HCB13
      cases gk with
      | succ g1 =>
        have hin : i < nm := by omega
        have hlt : (i : Int) < (nm : Int) := by omega
        have hi0 : (0 : Int) ≤ (i : Int) := by omega
        obtain ⟨ad, rfl⟩ : ∃ ad, mo = some ad := by
          cases mo with
          | none => have := HMK.out.2.2.2.1 rfl; omega
          | some ad => exact ⟨ad, rfl⟩
        have x0 := (HMK.out.carry HS.out.ba.bel).2.2.2.2 ad rfl i (by rw [← HMK.out.1]; exact hin)
        obtain ⟨k, hk⟩ : ∃ k : Nat, (ms.getD i 0).toNat = k := ⟨_, rfl⟩
        have hk255 : k ≤ 255 := by rw [← hk]; have := (ms.getD i 0).toNat_lt; omega
        have HK := hide hk255
        rw [show bt ms i = (k : Int) from by unfold bt; rw [hk]] at x0
        obtain ⟨bo, bc, rfl, hb1, hb2⟩ := owns_form HS.out.ba.row
        have c0 := HC.out.c0
        have c1 := HC.out.c1
        have c2 := HC.out.c2
        have c3 := HC.out.c3
        have HI := hide hi
        clear hi hin hk hk255 hb1 hb2
        by_cases h4 : L.length < 4
        · have hl4 : (L.length : Int) < 4 := by omega
          have HL4' := hide h4
          obtain ⟨M, hM⟩ : ∃ M, resF ws s.t s.es 5 s.T ⟨qp, qo, qr, qc⟩ k = M := ⟨_, rfl⟩
          have HMM : Hid M.c.may := by show _; rw [← hM]; exact res_may HS.out.ba.du.x.wd HQM.out (by decide) k
          have HML : Hid (M.es.length ≤ s.es.length + 2) := by show _; rw [← hM]; exact res_len _ _ _ _ _ _ _
          have HMT : Hid (M.T = s.T) := by show _; rw [← hM]; exact res_T _ _ _ _ _ _ _
          have HFM : Hid (Fit (L.length + 1) (s.tab M.t M.es M.T)) := HS.out.ft.res HML.out HMT.out
          have HLI : Hid (s.es.length < 5000000000000) := by show _ < _; have h1 := HS.out.ft.el; have h2 := HLL.out; omega
          obtain ⟨⟨mp2, mo2, mr, mc2⟩, me, mt, mes, mT⟩ := M
          have HM := hide hM
          clear hM h4 HMT HML
          go_wp2_with fail
          refine (tb_restrict ⟨qp, qo, qr, qc⟩ k _ HS.out.ba.du.x HQM.out.ok HK.out HLI.out _ HM.out).mono ?_; rintro e x1 ⟨rfl, E⟩
          obtain ⟨va1, dv1, nv1, B1⟩ := HS.out.ba.left E
          have hc1 := HC.out.kh (HS.out.ba.du.x.kh E)
          simp only [Cp.val]
          obtain ⟨V, hV⟩ : ∃ V, x1.alloc (.cells #[.int .u64 (mp2 : Int), .int .u32 (mo2 : Int), .int .u8 (mr : Int), .int .u64 (mc2 : Int)] 40) = V := ⟨_, rfl⟩
          have bV : Below x1.heap.size x1 V := hV ▸ below_alloc _ _
          have HCD : Hid (CBox V x1.heap.size mp2 mo2 mr mc2) := hV ▸ CBox.new x1 mp2 mo2 mr mc2
          have HBV := hide (B1.grow bV)
          have HC1 := hide (hc1.grow bV)
          obtain ⟨gd, hgd⟩ : ∃ gd, x1.heap.size = gd := ⟨_, rfl⟩
          rw [hgd] at HCD
          clear E B1 bV hc1 c0 c1 c2 c3
          go_upto_region 18 with fail
          clear hV hgd
          have HBd : Hid (Bas w V.drew _ _ rr ws (s.tab mt mes mT) s _ L) := HBV.out.drewN 1
          have HCd : Hid (CBox V.drew gb qp qo qr qc) := HC1.out
          have HDd : Hid (CBox V.drew gd mp2 mo2 mr mc2) := HCD.out
          have Ed : Hid (V.drew.cell? ⟨A'.sb.1, 0, none⟩ = some (.pointer (some ⟨A'.g, 0, none⟩)) ∧ V.drew.cell? ⟨gb, 0, none⟩ = some (.int .u64 (qp : Int)) ∧ V.drew.cell? ⟨gb, 1, none⟩ = some (.int .u32 (qo : Int)) ∧ V.drew.cell? ⟨gb, 2, none⟩ = some (.int .u8 (qr : Int)) ∧ V.drew.cell? ⟨gb, 3, none⟩ = some (.int .u64 (qc : Int))) := ⟨HBV.out.du.y.bx.c0, HC1.out.c0, HC1.out.c1, HC1.out.c2, HC1.out.c3⟩
          go_region_held (fun U => U.cell? ⟨A'.sb.1, 0, none⟩ = some (.pointer (some ⟨A'.g, 0, none⟩)) ∧ U.cell? ⟨gb, 0, none⟩ = some (.int .u64 (qp : Int)) ∧ U.cell? ⟨gb, 1, none⟩ = some (.int .u32 (qo : Int)) ∧ U.cell? ⟨gb, 2, none⟩ = some (.int .u8 (qr : Int)) ∧ U.cell? ⟨gb, 3, none⟩ = some (.int .u64 (qc : Int)))
            (first | with_reducible exact Ed.out | with_reducible exact E2.out)
            (first
              | (go_at_call 15; refine (tbk_restrict ⟨qp, qo, qr, qc⟩ k _ HBd.out.du.y HQM.out.ok HK.out HLI.out _ HM.out).mono ?_; rintro e x2 ⟨rfl, E⟩
                 obtain ⟨va2, nv2', B2'⟩ := HBd.out.rightK E
                 have kk := HBd.out.du.y.khK E
                 have HCD2 := hide (HDd.out.kh kk)
                 have HC2 := hide (HCd.out.kh kk)
                 have HBR := hide B2'
                 have E2 : Hid (x2.cell? ⟨A'.sb.1, 0, none⟩ = some (.pointer (some ⟨A'.g, 0, none⟩)) ∧ x2.cell? ⟨gb, 0, none⟩ = some (.int .u64 (qp : Int)) ∧ x2.cell? ⟨gb, 1, none⟩ = some (.int .u32 (qo : Int)) ∧ x2.cell? ⟨gb, 2, none⟩ = some (.int .u8 (qr : Int)) ∧ x2.cell? ⟨gb, 3, none⟩ = some (.int .u64 (qc : Int))) := ⟨B2'.du.y.bx.c0, HC2.out.c0, HC2.out.c1, HC2.out.c2, HC2.out.c3⟩
                 clear E B2' kk))
          have c0 : x2.cell? ⟨gd, 0, none⟩ = some (.int .u64 (mp2 : Int)) := HCD2.out.c0
          have c1 : x2.cell? ⟨gd, 1, none⟩ = some (.int .u32 (mo2 : Int)) := HCD2.out.c1
          have c2 : x2.cell? ⟨gd, 2, none⟩ = some (.int .u8 (mr : Int)) := HCD2.out.c2
          have c3 : x2.cell? ⟨gd, 3, none⟩ = some (.int .u64 (mc2 : Int)) := HCD2.out.c3
          obtain ⟨v', w', hr, ho', hf, hmv⟩ := app_cap mp2 mo2 mr mc2 HBR.out.row (by have := HLL.out; omega) HBR.out.bel.size
          have HB3 := hide (HBR.out.app (L' := L ++ [⟨mp2, mo2, mr, mc2⟩]) hf (by rw [len_snoc]; exact ho'))
          have HRN := hide hr
          have HGV2 : Hid (∀ j, v'.ownBlock = some j → gb < j) := fun j e => by
            rcases hmv j e with e | e
            · exact HGV.out j e
            · have := lt_of_heap HC2.out; omega
          have HC3 : Hid (CBox w' gb qp qo qr qc) := HC2.out.foot hf (fun e => by have := HGV.out gb e; omega)
          clear hr ho' hf hmv
          go_wp2_with (at_builtin; refine wpList_append_run rfl _ _ _ rfl _ _ _ _ rfl rfl HRN.out ?_)
          go_roundg g1
          case measure => have := HI.out; omega
          case rel =>
            refine ⟨i + 1, s.tab mt mes mT, L ++ [(⟨mp2, mo2, mr, mc2⟩ : Cp)], va1, dv1, nv1, va2, nv2', by have := HI.out; omega, by go_num, ?_, ⟨HB3.out, ?_, ?_, Nat.le_refl _⟩, HC3.out, HGV2.out⟩
            · have h1 := HLL.out; have h2 := HL4'.out
              rw [len_snoc]; omega
            · intro c hc
              rcases List.mem_append.1 hc with hc | hc
              · exact HS.out.cp c hc
              · rw [List.mem_singleton.1 hc]; exact HMM.out
            · rw [len_snoc]; exact HFM.out
        · have hl4 : ¬ ((L.length : Int) < 4) := by omega
          clear h4
          go_wp2_with fail
          go_roundg g1
          case measure => have := HI.out; omega
          case rel => exact ⟨i + 1, s, L, va, dv, nv, va', nv', by have := HI.out; omega, by go_num, HLL.out, HS.out, HC.out, HGV.out⟩
      | zero =>
        have hlt : ¬ ((i : Int) < (nm : Int)) := by omega
        have HI := hide hi
        clear hi
        go_wp2_with fail
        go_loopg [16, 110] na (fun gk vh vi wr => SrvRel w A A' rr ws na gk vh vi wr)
        case atStart => exact ⟨0, s, L, va, dv, nv, va', nv', by omega, rfl, HLL.out.1, ⟨HS.out.ba, HS.out.cp, HS.out.ft.le (by have := HLL.out; omega), by have := HLL.out; omega⟩⟩
        case round =>
          clear HS HLL HC HGV HI hlt
          obtain ⟨i, s, L, va, dv, nv, va', nv', hi, rfl, hL, hS⟩ := hrel
          have HS := hide hS
          have HLL := hide hL
          clear hS hL
          cases gk with
          | zero =>
            have hlt : ¬ ((i : Int) < (na : Int)) := by omega
            go_wp2_with fail
            go_ret
            exact ⟨rfl, HS.out.ba.bel⟩
          | succ g1 =>
            have hin : i < na := by omega
            have hlt : (i : Int) < (na : Int) := by omega
            have hi0 : (0 : Int) ≤ (i : Int) := by omega
            obtain ⟨ad, hao⟩ := HA.out.there hin
            have hat := HA.out.2.2.2.2 ad hao i hin
            have hmem : xs.getD i Ac.zero ∈ xs := by
              have h1 : i < xs.length := by have := HNX.out; omega
              rw [List.getD_eq_getElem?_getD, List.getElem?_eq_getElem h1]; exact List.getElem_mem h1
            have hsn := HSN.out _ hmem
            obtain ⟨x, hx⟩ : ∃ x, xs.getD i Ac.zero = x := ⟨_, rfl⟩
            rw [hx] at hat hsn
            obtain ⟨hxk, hbt⟩ := hat.1
            have HXK := hide hxk
            have HBT := hide hbt
            have HSX := hide hsn
            obtain ⟨ad2, hadd⟩ : ∃ a, ad.add (i * 10) = a := ⟨_, rfl⟩
            rw [hadd] at hat
            obtain ⟨a0, a1, a2, a3, a4, a5, a6, a7, a8, a9⟩ := hat.all HS.out.ba.bel
            obtain ⟨xo, xw, xn, xp, xpo, xr, xc, xf, xa, so0, sn0, sc0, l0⟩ := x
            simp only at a0 a1 a2 a3 a4 a5 a6 a7 a8 a9
            have HI := hide hi
            clear hat hx hmem hxk hbt hsn hi
            subst hao
            obtain ⟨V, hV⟩ : ∃ V, wr.alloc (.cells #[.int .u8 (xo : Int), .int .u8 (xw : Int), .int .u8 (xn : Int), .int .u64 (xp : Int), .int .u32 (xpo : Int), .int .u8 (xr : Int), .int .u64 (xc : Int), .bool xf, .int .u16 (xa : Int), .slice so0 sn0 sc0] 53) = V := ⟨_, rfl⟩
            have bV : Below wr.heap.size wr V := hV ▸ below_alloc _ _
            have hAB : AB V wr.heap.size ⟨xo, xw, xn, xp, xpo, xr, xc, xf, xa, so0, sn0, sc0, l0⟩ := hV ▸ AB.new wr ⟨xo, xw, xn, xp, xpo, xr, xc, xf, xa, so0, sn0, sc0, l0⟩
            obtain ⟨ga, hga⟩ : ∃ g, wr.heap.size = g := ⟨_, rfl⟩
            rw [hga] at hAB
            have HBV := hide (HS.out.ba.grow bV)
            obtain ⟨v0, v1, v2, v3, v4, v5, v6, v7, v8, v9⟩ := hAB.all
            simp only at v0 v1 v2 v3 v4 v5 v6 v7 v8 v9
            obtain ⟨q, hq2⟩ : ∃ q, L.getD (xw % L.length) Cp.zero = q := ⟨_, rfl⟩
            have HQ2 : Hid q.may := by show _; rw [← hq2]; exact HS.out.cp _ (cap_in (Nat.mod_lt _ HLL.out))
            obtain ⟨bo, bc, rfl, hb1, hb2⟩ := owns_form HBV.out.row
            have HQS := hide hq2
            clear bV hq2 hb1 hb2 hAB
            go_wp2_with fail
            clear a0 a1 a2 a3 a4 a5 a6 a7 a8 a9 v0 v1 v2 v3 v4 v5 v6 v7 v8 v9 hV hga hadd
            refine (msg_val ⟨xo, xw, xn, xp, xpo, xr, xc, xf, xa, so0, sn0, sc0, l0⟩ HXK.out _ HBV.out.row rfl HLL.out q HQS.out (HBT.out.carry HBV.out.bel) HSX.out w.heap.size HBV.out.bel.size (fun h0 ad e => .inl (HBT.out.low h0 ad e))).mono ?_; rintro e V3 ⟨m, so, sn, sc, l, rfl, hop, hop2, har, hcm, hb3m, hn3, hd3, b3⟩
            have HOP := hide hop
            have HOPL := hide hop2
            have HCM := hide hcm
            have HAR : Hid (m.ar ≤ 18446744073709551615) := by show _ ≤ _; omega
            have HMY : Hid (mayC ⟨m.p, m.o, m.r, m.c⟩ = true) := by show _; rw [HCM.out]; exact HQ2.out.C
            have HCK : Hid (Cp.ok ⟨m.p, m.o, m.r, m.c⟩) := by show _; rw [HCM.out]; exact HQ2.out.ok
            have hb3 := HBV.out.grow b3
            have HN3 := hide hn3
            obtain ⟨V4, hV4⟩ : ∃ V, V3.alloc (.cells #[.int .u64 m.ta, .int .u64 m.rp, .int .u32 m.id, .int .u16 m.op, .int .u16 m.st, .int .u64 m.p, .int .u32 m.o, .int .u8 m.r, .int .u64 m.c, .int .u64 m.ar, .slice so sn sc] 55) = V := ⟨_, rfl⟩
            have b4 : Below V3.heap.size V3 V4 := hV4 ▸ below_alloc _ _
            have hm4 : MB V4 V3.heap.size m (.slice so sn sc) := hV4 ▸ mb_new V3 m (.slice so sn sc)
            have HB4 := hide (hb3.grow b4)
            have HBM4 := hide (hb3m.carry b4)
            have HDM4 := hide (hd3.grow b4)
            obtain ⟨gm, hgm⟩ : ∃ k, V3.heap.size = k := ⟨_, rfl⟩
            rw [hgm] at hm4
            have HM4 := hide hm4
            clear hb3 b3 b4 hm4 hop hop2 har hcm hb3m hn3 hd3
            obtain ⟨k0, k1, k2, k3, k4, k5, k6, k7, k8, k9, k10⟩ := HM4.out.all
            obtain ⟨R2, hR2⟩ : ∃ R, outF ws 5 s m.op ⟨m.p, m.o, m.r, m.c⟩ m.ar l = R := ⟨_, rfl⟩
            have HRC : Hid (m.op = 100 → R2.c.may) := fun h => by rw [← hR2, h]; exact made_may (fun j => HB4.out.du.x.od.tk.tape.word j) (by decide) _ _ _ _
            have HRT : Hid (Fit (8 + i + 1) R2.s) := by show Fit _ _; rw [← hR2]; exact fit_out HS.out.ft _ _ _ _
            have HR2 := hide hR2
            have HLM : Hid (Lim s) := HS.out.ft.lim2 (by have := HNA.out; have := HI.out; omega)
            have HTP : Hid (s.L ((s.n + 1 : Nat) : Int) = []) := HS.out.ft.top _ (by omega)
            have hokm : ∀ W, Dat w.heap.size W sn so → Okm w W m so sn := fun W d => ⟨HCK.out, by have := HOPL.out; omega, HAR.out, HN3.out, d⟩
            have HOKM := hide hokm
            obtain ⟨M2, hM2⟩ : ∃ M2, rplF m R2 = M2 := ⟨_, rfl⟩
            obtain ⟨dd, hdd⟩ : ∃ d, datF R2 l = d := ⟨_, rfl⟩
            have HEM := hide hM2
            have HDD := hide hdd
            have HSM : Hid (sameD M2 M2 dd dd = true) := sameD_iff.2 ⟨rfl, rfl⟩
            have HST0 : Hid (M2.st = R2.e) := by show _; rw [← hM2]; exact rpl_st m R2
            have HCP0 : Hid (M2.st = 0 → m.op = 100 → (⟨M2.p, M2.o, M2.r, M2.c⟩ : Cp).may) := fun h h1 => by
              rw [HST0.out] at h
              have h2 := rpl_cap m R2 h
              rw [hM2] at h2
              rw [h2.1, h2.2.1, h2.2.2.1, h2.2.2.2]
              exact HRC.out h1
            clear hR2 hM2 hdd hokm HBV
            go_wp2_with fail
            clear k0 k1 k2 k3 k4 k5 k6 k7 k8 k9 k10 hV4 hgm
            refine (serve_any m so sn sc l _ HB4.out.sr HB4.out.du.x HBM4.out (HOKM.out _ HDM4.out) (by have := HOP.out; omega) HLM.out HG.out R2 HR2.out).mono ?_; rintro e V5 ⟨mm, co, cn, cc, hmm, rfl, hb, hn, E⟩
            obtain rfl : M2 = mm := HEM.out.symm.trans hmm.symm
            rw [HDD.out] at hb hn
            obtain ⟨va1, dv1, nv1, B5⟩ := HB4.out.left E
            have hm5 := HM4.out.kh (HB4.out.du.x.kh E)
            have hbm5 := Bts.sv HBM4.out HDM4.out HB4.out.du.x E
            have hdm5 := Dat.kh HDM4.out (HB4.out.du.x.kh E)
            obtain ⟨V6, hV6⟩ : ∃ V, V5.alloc (.cells #[.int .u64 M2.ta, .int .u64 M2.rp, .int .u32 M2.id, .int .u16 M2.op, .int .u16 M2.st, .int .u64 M2.p, .int .u32 M2.o, .int .u8 M2.r, .int .u64 M2.c, .int .u64 M2.ar, .slice co cn cc] 55) = V := ⟨_, rfl⟩
            have b6 : Below V5.heap.size V5 V6 := hV6 ▸ below_alloc _ _
            have ht6 : MB V6 V5.heap.size M2 (.slice co cn cc) := hV6 ▸ mb_new V5 M2 (.slice co cn cc)
            obtain ⟨gt, hgt⟩ : ∃ k, V5.heap.size = k := ⟨_, rfl⟩
            rw [hgt] at ht6
            have HT6' := hide ht6
            have HM6' := hide (hm5.grow b6)
            have HB6' := hide (B5.grow b6)
            have HBG6' := hide (hb.carry b6)
            have HBM6' := hide (hbm5.carry b6)
            have HDM6' := hide (hdm5.grow b6)
            have HTY6' : Hid (dd = [] ∨ Typ8 V6 co) := hn.imp id (fun h => h.2.grow b6)
            clear E hmm hb hn B5 hm5 b6 ht6 hbm5 hdm5
            go_upto_region 26 with fail
            clear hV6 hgt
            have HT6 := hide (show MB V6.drew gt M2 (.slice co cn cc) from HT6'.out)
            have HM6 := hide (show MB V6.drew gm m (.slice so sn sc) from HM6'.out)
            have HB6 := hide (HB6'.out.drewN 1)
            have HBG6 := hide (show Bts V6.drew co cn cc dd from HBG6'.out)
            have HBM6 := hide (show Bts V6.drew so sn sc l from HBM6'.out)
            have HTY6 := hide (show dd = [] ∨ Typ8 V6.drew co from HTY6'.out)
            have HOK6 := hide (HOKM.out V6.drew (show Dat w.heap.size V6.drew sn so from HDM6'.out))
            clear HT6' HM6' HB6' HBG6' HTY6' HBM6' HDM6'
            have hS : Hid (((V6.drew.cell? ⟨gm, 0, none⟩ = some (.int .u64 m.ta) ∧ V6.drew.cell? ⟨gm, 1, none⟩ = some (.int .u64 m.rp) ∧ V6.drew.cell? ⟨gm, 2, none⟩ = some (.int .u32 m.id) ∧ V6.drew.cell? ⟨gm, 3, none⟩ = some (.int .u16 m.op) ∧ V6.drew.cell? ⟨gm, 4, none⟩ = some (.int .u16 m.st) ∧ V6.drew.cell? ⟨gm, 5, none⟩ = some (.int .u64 m.p) ∧ V6.drew.cell? ⟨gm, 6, none⟩ = some (.int .u32 m.o) ∧ V6.drew.cell? ⟨gm, 7, none⟩ = some (.int .u8 m.r) ∧ V6.drew.cell? ⟨gm, 8, none⟩ = some (.int .u64 m.c) ∧ V6.drew.cell? ⟨gm, 9, none⟩ = some (.int .u64 m.ar) ∧ V6.drew.cell? ⟨gm, 10, none⟩ = some (.slice so sn sc)) ∧ (V6.drew.cell? ⟨gt, 0, none⟩ = some (.int .u64 M2.ta) ∧ V6.drew.cell? ⟨gt, 1, none⟩ = some (.int .u64 M2.rp) ∧ V6.drew.cell? ⟨gt, 2, none⟩ = some (.int .u32 M2.id) ∧ V6.drew.cell? ⟨gt, 3, none⟩ = some (.int .u16 M2.op) ∧ V6.drew.cell? ⟨gt, 4, none⟩ = some (.int .u16 M2.st) ∧ V6.drew.cell? ⟨gt, 5, none⟩ = some (.int .u64 M2.p) ∧ V6.drew.cell? ⟨gt, 6, none⟩ = some (.int .u32 M2.o) ∧ V6.drew.cell? ⟨gt, 7, none⟩ = some (.int .u8 M2.r) ∧ V6.drew.cell? ⟨gt, 8, none⟩ = some (.int .u64 M2.c) ∧ V6.drew.cell? ⟨gt, 9, none⟩ = some (.int .u64 M2.ar) ∧ V6.drew.cell? ⟨gt, 10, none⟩ = some (.slice co cn cc)))) := ⟨HM6.out.all, HT6.out.all⟩
            refine wp_region_held_drew (S := (fun U => ((U.cell? ⟨gm, 0, none⟩ = some (.int .u64 m.ta) ∧ U.cell? ⟨gm, 1, none⟩ = some (.int .u64 m.rp) ∧ U.cell? ⟨gm, 2, none⟩ = some (.int .u32 m.id) ∧ U.cell? ⟨gm, 3, none⟩ = some (.int .u16 m.op) ∧ U.cell? ⟨gm, 4, none⟩ = some (.int .u16 m.st) ∧ U.cell? ⟨gm, 5, none⟩ = some (.int .u64 m.p) ∧ U.cell? ⟨gm, 6, none⟩ = some (.int .u32 m.o) ∧ U.cell? ⟨gm, 7, none⟩ = some (.int .u8 m.r) ∧ U.cell? ⟨gm, 8, none⟩ = some (.int .u64 m.c) ∧ U.cell? ⟨gm, 9, none⟩ = some (.int .u64 m.ar) ∧ U.cell? ⟨gm, 10, none⟩ = some (.slice so sn sc)) ∧ (U.cell? ⟨gt, 0, none⟩ = some (.int .u64 M2.ta) ∧ U.cell? ⟨gt, 1, none⟩ = some (.int .u64 M2.rp) ∧ U.cell? ⟨gt, 2, none⟩ = some (.int .u32 M2.id) ∧ U.cell? ⟨gt, 3, none⟩ = some (.int .u16 M2.op) ∧ U.cell? ⟨gt, 4, none⟩ = some (.int .u16 M2.st) ∧ U.cell? ⟨gt, 5, none⟩ = some (.int .u64 M2.p) ∧ U.cell? ⟨gt, 6, none⟩ = some (.int .u32 M2.o) ∧ U.cell? ⟨gt, 7, none⟩ = some (.int .u8 M2.r) ∧ U.cell? ⟨gt, 8, none⟩ = some (.int .u64 M2.c) ∧ U.cell? ⟨gt, 9, none⟩ = some (.int .u64 M2.ar) ∧ U.cell? ⟨gt, 10, none⟩ = some (.slice co cn cc))))) (by kernel_rfl) hS.out (fun _ => ?_)
            refine wpAnyH_take (i := 0) (oi := { dst := some 120, op := Go.Op.load 55 (Go.Operand.tmp 24), type := 55, pos := "law.go:205", after := #[], guard := none }) (v := (.agg #[.int .u64 M2.ta, .int .u64 M2.rp, .int .u32 M2.id, .int .u16 M2.op, .int .u16 M2.st, .int .u64 M2.p, .int .u32 M2.o, .int .u8 M2.r, .int .u64 M2.c, .int .u64 M2.ar, .slice co cn cc])) rfl (by kernel_rfl) (by kernel_rfl) (by kernel_rfl) (fun _ _ _ h => h) (Or.inl ⟨by kernel_rfl, fun w hC => by (obtain ⟨-, k0, k1, k2, k3, k4, k5, k6, k7, k8, k9, k10⟩ := hC; go_simp)⟩) hS.out ?_
            simp only [Act.put, List.setIfInBounds_toArray, List.set_cons_zero, List.set_cons_succ]
            refine wpAnyH_take (i := 1) (oi := { dst := some 121, op := Go.Op.move (Go.Operand.tmp 10), type := 33, pos := "law.go:205", after := #[], guard := none }) (v := (.pointer (some ⟨A'.sb.1, 0, none⟩))) rfl (by kernel_rfl) (by kernel_rfl) (by kernel_rfl) (fun _ _ _ h => h) (Or.inl ⟨by kernel_rfl, fun w hC => by go_simp⟩) hS.out ?_
            simp only [Act.put, List.setIfInBounds_toArray, List.set_cons_zero, List.set_cons_succ]
            refine wpAnyH_take (i := 2) (oi := { dst := some 122, op := Go.Op.load 55 (Go.Operand.tmp 23), type := 55, pos := "law.go:205", after := #[], guard := none }) (v := (.agg #[.int .u64 m.ta, .int .u64 m.rp, .int .u32 m.id, .int .u16 m.op, .int .u16 m.st, .int .u64 m.p, .int .u32 m.o, .int .u8 m.r, .int .u64 m.c, .int .u64 m.ar, .slice so sn sc])) rfl (by kernel_rfl) (by kernel_rfl) (by kernel_rfl) (fun _ _ _ h => h) (Or.inl ⟨by kernel_rfl, fun w hC => by (obtain ⟨⟨k0, k1, k2, k3, k4, k5, k6, k7, k8, k9, k10⟩, -⟩ := hC; go_simp)⟩) hS.out ?_
            simp only [Act.put, List.setIfInBounds_toArray, List.set_cons_zero, List.set_cons_succ]
            refine wpAnyH_ready (rs := [3]) (by kernel_rfl) (by simp) ?_
            refine AllReadyH.cons (o := { dst := some 123, op := Go.Op.call { callee := Go.Callee.value (Go.Operand.func 19), args := #[Go.Operand.tmp 121, Go.Operand.tmp 122], argTypes := #[33, 55] }, type := 55, pos := "law.go:205", after := #[{ on := 1, ground := Go.Ground.data }, { on := 2, ground := Go.Ground.data }], guard := none }) rfl (fun KK hKK => ?_) AllReadyH.nil
            go_simp
            refine (want_any m so sn sc l _ (show (A'.upd va' A'.dv nv').sb.2 = true from HFL.out) HB6.out.du.y (show (A'.upd va' A'.dv nv').dv ≠ none from HDV.out) HBM6.out HOK6.out HLM.out HG.out HTP.out HOP.out HMY.out R2 HR2.out).mono ?_; rintro e V7 ⟨mm, bo2, bn2, bc2, hmm, rfl, hb, hn, E⟩
            obtain rfl : M2 = mm := HEM.out.symm.trans hmm.symm
            rw [HDD.out] at hb
            obtain ⟨va2, nv2', B2''⟩ := HB6.out.rightK E
            have kk := HB6.out.du.y.khK E
            have HM7 := hide (HM6.out.kh kk)
            have HT7 := hide (HT6.out.kh kk)
            have HBT7 := hide (Bts.typ HBG6.out HTY6.out kk)
            have HBW7 := hide hb
            have HB7 := hide B2''
            clear hmm hb hn E B2'' kk
            have hS : Hid (((V7.cell? ⟨gm, 0, none⟩ = some (.int .u64 m.ta) ∧ V7.cell? ⟨gm, 1, none⟩ = some (.int .u64 m.rp) ∧ V7.cell? ⟨gm, 2, none⟩ = some (.int .u32 m.id) ∧ V7.cell? ⟨gm, 3, none⟩ = some (.int .u16 m.op) ∧ V7.cell? ⟨gm, 4, none⟩ = some (.int .u16 m.st) ∧ V7.cell? ⟨gm, 5, none⟩ = some (.int .u64 m.p) ∧ V7.cell? ⟨gm, 6, none⟩ = some (.int .u32 m.o) ∧ V7.cell? ⟨gm, 7, none⟩ = some (.int .u8 m.r) ∧ V7.cell? ⟨gm, 8, none⟩ = some (.int .u64 m.c) ∧ V7.cell? ⟨gm, 9, none⟩ = some (.int .u64 m.ar) ∧ V7.cell? ⟨gm, 10, none⟩ = some (.slice so sn sc)) ∧ (V7.cell? ⟨gt, 0, none⟩ = some (.int .u64 M2.ta) ∧ V7.cell? ⟨gt, 1, none⟩ = some (.int .u64 M2.rp) ∧ V7.cell? ⟨gt, 2, none⟩ = some (.int .u32 M2.id) ∧ V7.cell? ⟨gt, 3, none⟩ = some (.int .u16 M2.op) ∧ V7.cell? ⟨gt, 4, none⟩ = some (.int .u16 M2.st) ∧ V7.cell? ⟨gt, 5, none⟩ = some (.int .u64 M2.p) ∧ V7.cell? ⟨gt, 6, none⟩ = some (.int .u32 M2.o) ∧ V7.cell? ⟨gt, 7, none⟩ = some (.int .u8 M2.r) ∧ V7.cell? ⟨gt, 8, none⟩ = some (.int .u64 M2.c) ∧ V7.cell? ⟨gt, 9, none⟩ = some (.int .u64 M2.ar) ∧ V7.cell? ⟨gt, 10, none⟩ = some (.slice co cn cc)))) := ⟨HM7.out.all, HT7.out.all⟩
            refine hKK.out _ _ hS.out (fun _ => ?_)
            clear hKK
            refine wpAnyH_ready (rs := [4]) (by kernel_rfl) (by simp) ?_
            refine AllReadyH.cons (o := { dst := some 124, op := Go.Op.call { callee := Go.Callee.value (Go.Operand.func 18), args := #[Go.Operand.tmp 120, Go.Operand.tmp 123], argTypes := #[55, 55] }, type := 4, pos := "law.go:205", after := #[{ on := 0, ground := Go.Ground.data }, { on := 3, ground := Go.Ground.data }, { on := 3, ground := Go.Ground.chain }], guard := none }) rfl (fun KK hKK => ?_) AllReadyH.nil
            go_simp
            refine (same_any M2 M2 co cn cc dd bo2 bn2 bc2 dd _ HBT7.out HBW7.out).mono ?_; rw [HSM.out]; rintro e V8 ⟨rfl, b8⟩
            have HM8 := hide (HM7.out.grow b8)
            have HT8 := hide (HT7.out.grow b8)
            have HB8 := hide (HB7.out.grow b8)
            clear b8
            have hS : Hid (((V8.cell? ⟨gm, 0, none⟩ = some (.int .u64 m.ta) ∧ V8.cell? ⟨gm, 1, none⟩ = some (.int .u64 m.rp) ∧ V8.cell? ⟨gm, 2, none⟩ = some (.int .u32 m.id) ∧ V8.cell? ⟨gm, 3, none⟩ = some (.int .u16 m.op) ∧ V8.cell? ⟨gm, 4, none⟩ = some (.int .u16 m.st) ∧ V8.cell? ⟨gm, 5, none⟩ = some (.int .u64 m.p) ∧ V8.cell? ⟨gm, 6, none⟩ = some (.int .u32 m.o) ∧ V8.cell? ⟨gm, 7, none⟩ = some (.int .u8 m.r) ∧ V8.cell? ⟨gm, 8, none⟩ = some (.int .u64 m.c) ∧ V8.cell? ⟨gm, 9, none⟩ = some (.int .u64 m.ar) ∧ V8.cell? ⟨gm, 10, none⟩ = some (.slice so sn sc)) ∧ (V8.cell? ⟨gt, 0, none⟩ = some (.int .u64 M2.ta) ∧ V8.cell? ⟨gt, 1, none⟩ = some (.int .u64 M2.rp) ∧ V8.cell? ⟨gt, 2, none⟩ = some (.int .u32 M2.id) ∧ V8.cell? ⟨gt, 3, none⟩ = some (.int .u16 M2.op) ∧ V8.cell? ⟨gt, 4, none⟩ = some (.int .u16 M2.st) ∧ V8.cell? ⟨gt, 5, none⟩ = some (.int .u64 M2.p) ∧ V8.cell? ⟨gt, 6, none⟩ = some (.int .u32 M2.o) ∧ V8.cell? ⟨gt, 7, none⟩ = some (.int .u8 M2.r) ∧ V8.cell? ⟨gt, 8, none⟩ = some (.int .u64 M2.c) ∧ V8.cell? ⟨gt, 9, none⟩ = some (.int .u64 M2.ar) ∧ V8.cell? ⟨gt, 10, none⟩ = some (.slice co cn cc)))) := ⟨HM8.out.all, HT8.out.all⟩
            refine hKK.out _ _ hS.out (fun _ => ?_)
            clear hKK
            refine wpAnyH_take (i := 5) (oi := { dst := some 125, op := Go.Op.unOp Go.UnOp.not 4 (Go.Operand.tmp 124), type := 4, pos := "law.go:205", after := #[{ on := 4, ground := Go.Ground.data }], guard := none }) (v := (.bool false)) rfl (by kernel_rfl) (by kernel_rfl) (by kernel_rfl) (fun _ _ _ h => h) (Or.inl ⟨by kernel_rfl, fun w hC => by go_simp⟩) hS.out ?_
            simp only [Act.put, List.setIfInBounds_toArray, List.set_cons_zero, List.set_cons_succ]
            refine wpAnyH_done (by kernel_rfl) ?_ _
            obtain ⟨t0, t1, t2, t3, t4, t5, t6, t7, t8, t9, t10⟩ := HT8.out.all
            obtain ⟨k0, k1, k2, k3, k4, k5, k6, k7, k8, k9, k10⟩ := HM8.out.all
            by_cases hst : M2.st = 0
            · have es : ((M2.st : Int) == 0) = true := by rw [hst]; rfl
              by_cases h100 : m.op = 100
              · have eo : ((m.op : Int) == 100) = true := by rw [h100]; rfl
                have HNEW := hide (HCP0.out hst h100)
                clear hst h100
                obtain ⟨v', w', hr, ho', hf, -⟩ := app_cap M2.p M2.o M2.r M2.c HB8.out.row (by have := HS.out.ln; have := HNA.out; have := HI.out; omega) HB8.out.bel.size
                have HB9 := hide (HB8.out.app (L' := L ++ [Cp.mk M2.p M2.o M2.r M2.c]) hf (by rw [len_snoc]; exact ho'))
                have HRN := hide hr
                clear hr ho' hf
                go_wp2_with (at_builtin; refine wpList_append_run rfl _ _ _ rfl _ _ _ _ rfl rfl HRN.out ?_)
                go_roundg g1
                case measure => have := HI.out; omega
                case rel =>
                  refine ⟨i + 1, R2.s, L ++ [Cp.mk M2.p M2.o M2.r M2.c], va1, dv1, nv1, va2, nv2', by have := HI.out; omega, by go_num, ?_, ⟨HB9.out, ?_, HRT.out, ?_⟩⟩
                  · rw [len_snoc]; omega
                  · intro c hc
                    rcases List.mem_append.1 hc with hc | hc
                    · exact HS.out.cp c hc
                    · rw [List.mem_singleton.1 hc]; exact HNEW.out
                  · have h1 := HS.out.ln; rw [len_snoc]; omega
              · have eo : ((m.op : Int) == 100) = false := by rw [beq_eq_false_iff_ne]; omega
                clear hst h100
                go_wp2_with fail
                go_roundg g1
                case measure => have := HI.out; omega
                case rel =>
                  refine ⟨i + 1, R2.s, L, va1, dv1, nv1, va2, nv2', by have := HI.out; omega, by go_num, ?_, ⟨HB8.out, ?_, HRT.out, ?_⟩⟩
                  · exact HLL.out
                  · exact HS.out.cp
                  · have h1 := HS.out.ln; omega
            · have es : ((M2.st : Int) == 0) = false := by rw [beq_eq_false_iff_ne]; omega
              clear hst
              go_wp2_with fail
              go_roundg g1
              case measure => have := HI.out; omega
              case rel =>
                refine ⟨i + 1, R2.s, L, va1, dv1, nv1, va2, nv2', by have := HI.out; omega, by go_num, ?_, ⟨HB8.out, ?_, HRT.out, ?_⟩⟩
                · exact HLL.out
                · exact HS.out.cp
                · have h1 := HS.out.ln; omega
  · refine (dir_no _ HO9.out (by show 0 ≤ _; omega) R HR.out h0).mono ?_; rintro e x1 ⟨rfl, E⟩
    obtain ⟨v1, Y1, F1, M1⟩ := E
    have hy := HY9.out.foot F1 (fun j e => ⟨HO9.out.up e, HOFF.out j e⟩)
    have hz : R.c = Cp.zero := by rw [← HR.out]; exact cre_zero' (by rw [HR.out]; exact h0)
    have her : erN (R.e : Int) = .iface 47 (.int .i64 (R.e : Int)) := erN_not (by omega)
    have hnum : ∀ W, Glob W → Calls Tryz.prog 14 #[.iface 47 (.int .i64 (R.e : Int))] W fun e w' => e = .returned (.int .i64 (R.e : Int)) ∧ Below W.heap.size W w' := fun W hW => her ▸ number_any (R.e : Int) W hW
    have HNU := hide hnum
    have HER := hide her
    have HZ := hide hz
    have HZV : Hid (Cp.zero.val = .agg #[.int .u64 0, .int .u32 0, .int .u8 0, .int .u64 0]) := rfl
    rw [her, HZV.out]
    have c0 : (x1.alloc (.cells #[.int .u64 0, .int .u32 0, .int .u8 0, .int .u64 0] 40)).cell? ⟨A'.sb.1, 0, none⟩ = some (.pointer (some ⟨A'.g, 0, none⟩)) := (hy.grow (below_alloc _ _)).bx.c0
    have c0' := hy.bx.c0
    have hlt0 : A'.sb.1 < x1.heap.size := lt_of_heap hy.bx
    have hne0 : ¬ A'.sb.1 = x1.heap.size := by omega
    clear h0 hq hR Y1 F1 M1 hz her hnum HO9
    go_wp2_with fail
    obtain ⟨V1, hV1⟩ : ∃ V, x1.alloc (.cells #[.int .u64 0, .int .u32 0, .int .u8 0, .int .u64 0] 40) = V := ⟨_, rfl⟩
    rw [hV1]
    have b1 : Below x1.heap.size x1 V1 := hV1 ▸ below_alloc _ _
    have HCB : Hid (CBI V1 x1.heap.size 0 0 0 0) := hV1 ▸ CBI.new x1 0 0 0 0
    have HY1 := hide (hy.grow b1)
    obtain ⟨gb, hgb⟩ : ∃ k, x1.heap.size = k := ⟨_, rfl⟩
    rw [hgb] at HCB ⊢
    clear hy b1 c0 c0' hlt0 hne0 hV1
    refine (tbk_create 0 _ HY1.out (by show 0 ≤ _; omega) R HR.out).mono ?_; rintro e x2 ⟨rfl, E⟩
    have kh := HY1.out.khK E
    have hcb := HCB.out.kh kh
    have hgl : Below w.heap.size w x2 := by
      obtain ⟨_, _, S2, _⟩ := E
      exact S2.bel
    rw [HZ.out, HER.out, HZV.out]
    go_wp2_with fail
    obtain ⟨V2, hV2⟩ : ∃ V, x2.alloc (.cells #[.int .u64 0, .int .u32 0, .int .u8 0, .int .u64 0] 40) = V := ⟨_, rfl⟩
    rw [hV2]
    have b2 : Below x2.heap.size x2 V2 := hV2 ▸ below_alloc _ _
    have HCC : Hid (CBI V2 x2.heap.size 0 0 0 0) := hV2 ▸ CBI.new x2 0 0 0 0
    have HCB2 := hide (hcb.grow b2)
    have HBL := hide (below_one hgl b2)
    obtain ⟨gc, hgc⟩ : ∃ k, x2.heap.size = k := ⟨_, rfl⟩
    rw [hgc] at HCC ⊢
    clear E kh hcb hgl b2 HY1 HCB hV2 hgc
    refine (HNU.out _ (HG.out.carry HBL.out)).mono ?_; rintro e y1 ⟨rfl, by1⟩
    have HBL1 := hide (below_one HBL.out by1)
    have HCB3 := hide (HCB2.out.grow by1)
    have HCC3 := hide (HCC.out.grow by1)
    clear by1
    go_wp2_with fail
    refine (HNU.out _ (HG.out.carry HBL1.out)).mono ?_; rintro e y2 ⟨rfl, by2⟩
    have HBL2 := hide (below_one HBL1.out by2)
    have hcb4 := HCB3.out.grow by2
    have hcc4 := HCC3.out.grow by2
    have c0 := hcb4.c0
    have c1 := hcb4.c1
    have c2 := hcb4.c2
    have c3 := hcb4.c3
    have e0 := hcc4.c0
    have e1 := hcc4.c1
    have e2 := hcc4.c2
    have e3 := hcc4.c3
    have nq := fun W => neq_cap 0 0 0 0 0 0 0 0 W
    clear by2 hcb4 hcc4
    go_wp2_with fail
    go_ret
    exact ⟨rfl, HBL2.out⟩
end
end Go.Proofs.YtlmnnjibggdboaaGreatDoor
