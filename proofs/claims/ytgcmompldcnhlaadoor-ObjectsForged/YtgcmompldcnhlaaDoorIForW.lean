/-
  The walk of ObjectsForged.
-/
import Derived.Test.YtgcmompldcnhlaaDoorIForM
import Derived.Deep.CutRange
namespace Go.Proofs.YtgcmompldcnhlaaDoor
open Go.RowKit
/- the capability in its variable, and what was told -/
structure ForS (w0 w : World) (g gc b : Nat) (ws : List Nat) (t : Nat) (es : List Ent) (T : Nat → Ob) (L : List Cp) (x : Cp) : Prop where
  ok : x.ok
  box : CBox w gc x.p x.o x.r x.c
  sd : Sd w0 w g 7 ws t es T
  told : Told w b L
  ne : b ≠ gc
  new : w0.heap.size ≤ gc
theorem ForS.grow {w0 w w' : World} {g gc b : Nat} {ws : List Nat} {t : Nat} {es : List Ent} {T : Nat → Ob} {L : List Cp} {x : Cp} (h : ForS w0 w g gc b ws t es T L x) (y : Below w.heap.size w w') : ForS w0 w' g gc b ws t es T L x :=
  ⟨h.ok, h.box.grow y, h.sd.grow y, h.told.grow y, h.ne, h.new⟩
theorem ForS.put {w0 w : World} {g gc b : Nat} {ws : List Nat} {t : Nat} {es : List Ent} {T : Nat → Ob} {L : List Cp} {x : Cp} (h : ForS w0 w g gc b ws t es T L x) (y : Cp) (hy : y.ok) :
    ForS w0 ((((w.setCell ⟨gc, 0, none⟩ (.int .u64 (y.p : Int))).setCell ⟨gc, 1, none⟩ (.int .u32 (y.o : Int))).setCell ⟨gc, 2, none⟩ (.int .u8 (y.r : Int))).setCell ⟨gc, 3, none⟩ (.int .u64 (y.c : Int))) g gc b ws t es T L y := by
  have f := foot4 w gc (.int .u64 (y.p : Int)) (.int .u32 (y.o : Int)) (.int .u8 (y.r : Int)) (.int .u64 (y.c : Int))
  refine ⟨hy, ?_, h.sd.cap h.box.capB h.new f, h.told.foot f (fun e => h.ne e), h.ne, h.new⟩
  have h1 := heap_setCell_same w gc 0 _ _ (.int .u64 (y.p : Int)) h.box
  have h2 := heap_setCell_same _ gc 1 _ _ (.int .u32 (y.o : Int)) h1
  have h3 := heap_setCell_same _ gc 2 _ _ (.int .u8 (y.r : Int)) h2
  exact heap_setCell_same _ gc 3 _ _ (.int .u64 (y.c : Int)) h3
theorem ForS.cut {w0 w : World} {g gc b : Nat} {ws : List Nat} {t : Nat} {es : List Ent} {T : Nat → Ob} {L : List Cp} {x : Cp} (h : ForS w0 w g gc b ws t es T L x) (y : Nat) (hy : y ≤ 281474976710655) :
    ForS w0 (w.setCell ⟨gc, 3, none⟩ (.int .u64 (y : Int))) g gc b ws t es T L ⟨x.p, x.o, x.r, y⟩ := by
  have f := foot_set w ⟨gc, 3, none⟩ (.int .u64 (y : Int))
  exact ⟨⟨h.ok.1, h.ok.2.1, h.ok.2.2.1, (Nat.le_trans hy (by decide) : y ≤ 18446744073709551615)⟩, h.box.set3 y, h.sd.cap h.box.capB h.new f, h.told.foot f (fun e => h.ne e), h.ne, h.new⟩
def ForRel (wq : World) (L : List Cp) (x : Cp) (gk : Nat) (vs vi : Value) (wr : World) : Prop :=
  ∃ (i : Nat) (b : Bool), i + gk = 3 ∧ vi = .int .i64 (i : Int) ∧ vs = .bool b ∧ (b = true ↔ x ∈ L.take i) ∧ Below wq.heap.size wq wr
theorem mem_take {L : List Cp} {i : Nat} (h : i < L.length) (x : Cp) : x ∈ L.take (i + 1) ↔ x ∈ L.take i ∨ L.getD i Cp.zero = x := by
  rw [List.take_succ_eq_append_getElem h, List.mem_append, List.mem_singleton, List.getD_eq_getElem?_getD, List.getElem?_eq_getElem h]
  simp [eq_comm]
set_option maxRecDepth 20000 in
set_option maxHeartbeats 6400000 in
theorem walk_forged (c0 : Cp) (mask need own : Nat) (w : World) (hc : c0.ok) (hm : mask ≤ 255) (hn : need ≤ 255) (ho : own ≤ 255) (hg : Glob w) :
    Calls Tryd.prog 4 #[c0.val, .int .u8 (mask : Int), .int .u8 (need : Int), .int .u8 (own : Int)] w fun e w' => e = .returned (.bool true) ∧ Below w.heap.size w w' := by
  have HG := hide hg
  have hu := spr_unlike 40
  have hlen := sprL_len 40
  have hwd : ∀ j, (sprL 40).getD j 0 ≤ 281474976710655 := fun j => sprL_word 40 j (by omega)
  have hcut := sprL_cut 40 (by omega)
  have hspr := spread_any 40
  have hspo := fun c j w => spoilt_yes c j w
  obtain ⟨ws, hws⟩ : ∃ ws, sprL 40 = ws := ⟨_, rfl⟩
  rw [hws] at hu hlen hwd hcut hspr hspo
  clear hws
  obtain ⟨d, hd⟩ : ∃ d, own % 5 = d := ⟨_, rfl⟩
  have hd1 : (own : Int) % 5 = (d : Int) := by omega
  obtain ⟨q, hq⟩ : ∃ q, own / 5 = q := ⟨_, rfl⟩
  have hq1 : (own : Int) / 5 = (q : Int) := by omega
  have hq2 : q ≤ 255 := by omega
  have hq3 : (q : Int) % 256 = (q : Int) := by omega
  obtain ⟨s0, hs0⟩ : ∃ s, ws.getD 0 0 = s := ⟨_, rfl⟩
  obtain ⟨s1, hs1⟩ : ∃ s, ws.getD 1 0 = s := ⟨_, rfl⟩
  have ls0 : s0 ≤ 281474976710655 := hs0 ▸ hwd 0
  have ls1 : s1 ≤ 281474976710655 := hs1 ▸ hwd 1
  obtain ⟨T1, hT1⟩ : ∃ T1, updO noneO 0 ⟨s0, 0, 1, 24⟩ = T1 := ⟨_, rfl⟩
  have hT10 : T1 0 = ⟨s0, 0, 1, 24⟩ := by rw [← hT1, updO_same]
  have hT1j : ∀ j, j ≠ 0 → T1 j = Ob.zero := fun j hj => by rw [← hT1, updO_other _ _ hj]; rfl
  obtain ⟨T2, hT2⟩ : ∃ T2, updO T1 1 ⟨s1, 0, 2, 24⟩ = T2 := ⟨_, rfl⟩
  have hT20 : T2 0 = ⟨s0, 0, 1, 24⟩ := by rw [← hT2, updO_other _ _ (by omega), hT10]
  have hT21 : T2 1 = ⟨s1, 0, 2, 24⟩ := by rw [← hT2, updO_same]
  have hT2j : ∀ j, j ≠ 0 → j ≠ 1 → T2 j = Ob.zero := fun j h0 h1 => by rw [← hT2, updO_other _ _ h1, hT1j j h0]
  have hh0 : hasO T2 0 = true := hasO_of (by omega) (by rw [hT20]; show 0 < 24; omega)
  have hh1 : hasO T2 1 = true := hasO_of (by omega) (by rw [hT21]; show 0 < 24; omega)
  have r1 : creF ws 0 [] 7 noneO 1 = ⟨⟨7, 0, 255, s0⟩, 0, 1, [], T1⟩ := by
    rw [cre_at 1 free_none (by omega) (by omega), hs0, hT1]
  have r2 : creF ws 1 [] 7 T1 2 = ⟨⟨7, 1, 255, s1⟩, 0, 2, [], T2⟩ := by
    have hf : freeO T1 = 1 := freeO_eq (by omega) (by rw [hT1j 1 (by omega)]; rfl) (fun j hj => by
      obtain rfl : j = 0 := by omega
      rw [hT10]; show (24 : Nat) ≠ 0; omega)
    rw [cre_at 2 hf (by omega) (by omega), hs1, hT2]
  have o1 : Outs ws 2 [] := outs_nil ws (by omega)
  have q1 := of_ok (ws := ws) (t := 2) (by omega) [] s0 mask
  have q1h := of_has q1
  have q1o := o1.of hu s0 mask
  have q1w := of_word o1 hwd s0 mask
  have q1t := of_t ws 2 [] s0 mask
  have q1l := of_len ws 2 [] s0 mask
  have r3 : resF ws 2 [] 7 T2 ⟨7, 0, 255, s0⟩ mask = ⟨⟨7, 0, mask, (ofF ws 2 [] s0 mask).x⟩, 0, (ofF ws 2 [] s0 mask).t, (ofF ws 2 [] s0 mask).es, T2⟩ := by
    have := res_good (ws := ws) (t := 2) (es := []) (p := 7) (T := T2) (c := ⟨7, 0, 255, s0⟩) (mask := mask) rfl hh0 (by rw [hT20]; exact has_owner ls0) (by rw [hT20, and_owner hm]; exact q1)
    rw [this]; simp only [hT20, and_owner hm]
  obtain ⟨X1, hX1⟩ : ∃ X1, ofF ws 2 [] s0 mask = X1 := ⟨_, rfl⟩
  rw [hX1] at q1 q1h q1o q1w q1t q1l r3
  obtain ⟨x1, ok1, t1, e1⟩ := X1
  obtain rfl : ok1 = true := q1
  simp only at q1h q1o q1w q1t q1l r3
  obtain ⟨s2, hs2⟩ : ∃ s, ws.getD t1 0 = s := ⟨_, rfl⟩
  have ls2 : s2 ≤ 281474976710655 := hs2 ▸ hwd t1
  obtain ⟨T3, hT3⟩ : ∃ T3, updO T2 1 (revO (T2 1) s2) = T3 := ⟨_, rfl⟩
  have r4 : revF ws t1 e1 7 T2 ⟨7, 1, 255, s1⟩ = ⟨⟨7, 1, 255, s2⟩, 0, t1 + 1, e1, T3⟩ := by
    have := rev_good (ws := ws) (t := t1) (es := e1) (p := 7) (T := T2) (c := ⟨7, 1, 255, s1⟩) rfl rfl hh1 (by rw [hT21]; exact has_owner ls1) (by omega)
    rw [this]; simp only [hs2, hT3]
  have hT30 : T3 0 = ⟨s0, 0, 1, 24⟩ := by rw [← hT3, updO_other _ _ (by omega), hT20]
  have hT31 : T3 1 = ⟨s2, 1, 2, 24⟩ := by rw [← hT3, updO_same, hT21]; rfl
  have hT3j : ∀ j, j ≠ 0 → j ≠ 1 → T3 j = Ob.zero := fun j h0 h1 => by rw [← hT3, updO_other _ _ h1, hT2j j h0 h1]
  have hT2e : ∀ j, (T2 j).e ≤ 9223372036854775806 := fun j => by
    by_cases h1 : j = 1
    · rw [h1, hT21]; show 0 ≤ _; omega
    · by_cases h0 : j = 0
      · rw [h0, hT20]; show 0 ≤ _; omega
      · rw [hT2j j h0 h1]; show 0 ≤ _; omega
  have hg0 : hasO T3 0 = true := hasO_of (by omega) (by rw [hT30]; show 0 < 24; omega)
  have hg1 : hasO T3 1 = true := hasO_of (by omega) (by rw [hT31]; show 0 < 24; omega)
  have hgs : ∀ k, hasO T3 k = true → ∃ j, j < ws.length ∧ (T3 k).s % 281474976710656 = ws.getD j 0 := fun k hk => by
    by_cases h1 : k = 1
    · rw [h1, hT31]; exact ⟨t1, by omega, by show s2 % _ = _; rw [hs2]; omega⟩
    · by_cases h0 : k = 0
      · rw [h0, hT30]; exact ⟨0, by omega, by show s0 % _ = _; rw [hs0]; omega⟩
      · have := (hasO_yes hk).2
        rw [hT3j k h0 h1] at this; exact absurd this (by decide)
  have three := fun c => chk_three (ws := ws) (t := t1 + 1) (es := e1) (p := 7) (T := T3) (c := c) (need := need) (q1o.more (by omega)) (by omega) hgs
  obtain ⟨L, hL⟩ : ∃ L, [Cp.mk 7 0 255 s0, Cp.mk 7 0 mask x1, Cp.mk 7 1 255 s2] = L := ⟨_, rfl⟩
  have good : ∀ c, c ∈ L → chkF ws (t1 + 1) e1 7 T3 c need = if c.r &&& need = need then ⟨c.o, 0, t1 + 1, e1⟩ else ⟨0, 2, t1 + 1, e1⟩ := fun c hc => by
    rw [← hL] at hc
    simp only [List.mem_cons, List.not_mem_nil, or_false] at hc
    rcases hc with rfl | rfl | rfl
    · exact chk_good rfl hg0 (by rw [hT30]; exact has_owner ls0)
    · exact chk_good rfl hg0 (by rw [hT30]; exact q1h)
    · exact chk_good rfl hg1 (by rw [hT31]; exact has_owner ls2)
  have Lat : ∀ k, k < 3 → (L.getD k Cp.zero).ok := fun k hk => by
    rw [← hL]
    match k, hk with
    | 0, _ => exact cp_ok (by decide) (by decide) (by decide) ls0
    | 1, _ => exact cp_ok (by decide) (by decide) hm q1w
    | 2, _ => exact cp_ok (by decide) (by decide) (by decide) ls2
  have Llen : L.length = 3 := by rw [← hL]; rfl
  have HR1 := hide r1
  have HR2 := hide r2
  have HR3 := hide r3
  have HR4 := hide r4
  have H3 := hide three
  have HGO := hide good
  have HLAT := hide Lat
  have HLL := hide Llen
  have HLE := hide hL
  have HWL := hide hlen
  have HM := hide hm
  have HN := hide hn
  have HQ := hide hq2
  have HS0 := hide ls0
  have HS1 := hide ls1
  have HS2 := hide ls2
  have HX1 := hide q1w
  have HE1 := hide q1l
  have HTE := hide hT2e
  have HSP := hide hspr
  have HSO := hide hspo
  have HCUT := hide hcut
  have HC0 := hide hc
  clear r1 r2 r3 r4 three good Lat Llen hL hm hn hq2 ls0 ls1 ls2 q1w q1l hT2e hspr hspo hcut hc hg0 hg1 hgs hT30 hT31 hT3j hT3 hs2 q1h q1o q1t hX1 o1 hh0 hh1 hT20 hT21 hT2j hT2 hT10 hT1j hT1 hs0 hs1 hd hq hu hlen hwd ho hg
  obtain ⟨cp, co, cr, cc⟩ := c0
  rw [cap_val]
  obtain ⟨W, hW⟩ : ∃ W, w.alloc (.cells #[.int .u64 (cp : Int), .int .u32 (co : Int), .int .u8 (cr : Int), .int .u64 (cc : Int)] 49) = W := ⟨_, rfl⟩
  have HBW : Hid (Below w.heap.size w W) := hW ▸ below_alloc _ _
  have HCW : Hid (CBox W w.heap.size cp co cr cc) := hW ▸ CBox.new w cp co cr cc
  go_enter Tryd.func4, Tryd.ntmps4
  go_wp2_with fail
  refine (awake_any _ (HG.out.carry HBW.out)).mono ?_; rintro e w1 ⟨rfl, b1⟩
  have HB1 := hide (below_one HBW.out b1)
  have HC1 := hide (HCW.out.grow b1)
  clear b1
  go_wp2_with fail
  refine (HSP.out _ (by omega)).mono ?_; rintro e w2 ⟨ao, cap, rfl, hu, b2⟩
  have HU := hide hu
  have HB2 := hide (below_one HB1.out b2)
  have HC2 := hide (HC1.out.grow b2)
  clear hu b2
  go_wp2_with fail
  refine (of_any _ _ _ ws _ HU.out (by omega)).mono ?_; rintro e w3 ⟨ta, th, tk, rfl, T, _, ha, hh, bel⟩
  rw [HCUT.out] at T
  have HC3 := hide (HC2.out.grow bel)
  have HT := hide T
  have HTA := hide ha
  have HTH := hide hh
  have HB3 := hide bel
  clear T bel ha hh
  go_wp2_with fail
  refine (oof_any _ ⟨_, rfl⟩ _).mono ?_; rintro e w4 ⟨go, gm, rfl, O2, bel2⟩
  have HC4 := hide (HC3.out.grow bel2)
  have HS4 := hide (Tk.made HB2.out HT.out HTA.out HTH.out HB3.out O2 bel2)
  clear O2 bel2 HT HB3 HTA HTH HU
  go_wp2_with fail
  refine (tof_new 7 _).mono ?_; rintro e w5 ⟨rfl, T3', b3⟩
  have HS5 := hide (Sd.made HS4.out T3' b3)
  have HC5 := hide (HC4.out.grow b3)
  obtain ⟨g, hgg⟩ : ∃ g, w4.heap.size = g := ⟨_, rfl⟩
  rw [hgg] at HS5 ⊢
  clear T3' b3 HS4 hgg HC1 HC2 HC3 HC4 hW
  obtain ⟨gc, hgc⟩ : ∃ gc, w.heap.size = gc := ⟨_, rfl⟩
  rw [hgc] at HC5 ⊢
  have HGC := hide hgc
  clear hgc
  go_wp2_with fail
  refine (sd_create 1 _ HS5.out (by decide) _ HR1.out).mono ?_; rintro e w6 ⟨rfl, S6, k6⟩
  simp only [Cp.val, show erN ((0 : Nat) : Int) = .nilIface from rfl]
  obtain ⟨V1, hV1⟩ : ∃ V, w6.alloc (.cells #[.int .u64 7, .int .u32 0, .int .u8 255, .int .u64 (s0 : Int)] 49) = V := ⟨_, rfl⟩
  have bV : Below w6.heap.size w6 V1 := hV1 ▸ below_alloc _ _
  have HA1 : Hid (CBox V1 w6.heap.size 7 0 255 s0) := hV1 ▸ CBox.new w6 7 0 255 s0
  have HC6 := hide ((HC5.out.kp k6).grow bV)
  have HS6 := hide (S6.grow bV)
  clear S6 k6 bV
  go_wp2_with fail
  refine (sd_create 2 _ HS6.out (by decide) _ HR2.out).mono ?_; rintro e w7 ⟨rfl, S7, k7⟩
  simp only [Cp.val, show erN ((0 : Nat) : Int) = .nilIface from rfl]
  obtain ⟨V2, hV2⟩ : ∃ V, w7.alloc (.cells #[.int .u64 7, .int .u32 1, .int .u8 255, .int .u64 (s1 : Int)] 49) = V := ⟨_, rfl⟩
  have bV : Below w7.heap.size w7 V2 := hV2 ▸ below_alloc _ _
  have HB2' : Hid (CBox V2 w7.heap.size 7 1 255 s1) := hV2 ▸ CBox.new w7 7 1 255 s1
  have HA2 := hide ((HA1.out.kp k7).grow bV)
  have HC7 := hide ((HC6.out.kp k7).grow bV)
  have HN7 : Hid (gc < w7.heap.size) := lt_of_heap (HC6.out.kp k7)
  have HS7 := hide (S7.grow bV)
  clear S7 k7 bV hV1
  have c0 : V2.cell? ⟨w6.heap.size, 0, none⟩ = some (.int .u64 7) := HA2.out.c0
  have c1 : V2.cell? ⟨w6.heap.size, 1, none⟩ = some (.int .u32 0) := HA2.out.c1
  have c2 : V2.cell? ⟨w6.heap.size, 2, none⟩ = some (.int .u8 255) := HA2.out.c2
  have c3 : V2.cell? ⟨w6.heap.size, 3, none⟩ = some (.int .u64 (s0 : Int)) := HA2.out.c3
  go_wp2_with fail
  refine (sd_restrict ⟨7, 0, 255, s0⟩ mask _ HS7.out (cp_ok (by decide) (by decide) (by decide) HS0.out) HM.out (by decide) _ HR3.out).mono ?_; rintro e w8 ⟨rfl, S8, k8⟩
  simp only [Cp.val, show erN ((0 : Nat) : Int) = .nilIface from rfl]
  obtain ⟨V3, hV3⟩ : ∃ V, w8.alloc (.cells #[.int .u64 7, .int .u32 0, .int .u8 (mask : Int), .int .u64 (x1 : Int)] 49) = V := ⟨_, rfl⟩
  have bV : Below w8.heap.size w8 V3 := hV3 ▸ below_alloc _ _
  have HD3 : Hid (CBox V3 w8.heap.size 7 0 mask x1) := hV3 ▸ CBox.new w8 7 0 mask x1
  have HA3 := hide ((HA2.out.kp k8).grow bV)
  have HB3 := hide ((HB2'.out.kp k8).grow bV)
  have HC8 := hide ((HC7.out.kp k8).grow bV)
  have HS8 := hide (S8.grow bV)
  clear S8 k8 bV hV2 c0 c1 c2 c3
  have c0 : V3.cell? ⟨w7.heap.size, 0, none⟩ = some (.int .u64 7) := HB3.out.c0
  have c1 : V3.cell? ⟨w7.heap.size, 1, none⟩ = some (.int .u32 1) := HB3.out.c1
  have c2 : V3.cell? ⟨w7.heap.size, 2, none⟩ = some (.int .u8 255) := HB3.out.c2
  have c3 : V3.cell? ⟨w7.heap.size, 3, none⟩ = some (.int .u64 (s1 : Int)) := HB3.out.c3
  go_wp2_with fail
  refine (sd_revoke ⟨7, 1, 255, s1⟩ _ HS8.out (cp_ok (by decide) (by decide) (by decide) HS1.out) (by have := HE1.out; simp at this; omega) HTE.out _ HR4.out).mono ?_; rintro e w9 ⟨rfl, S9, k9⟩
  simp only [Cp.val, show erN ((0 : Nat) : Int) = .nilIface from rfl]
  obtain ⟨V4, hV4⟩ : ∃ V, w9.alloc (.cells #[.int .u64 7, .int .u32 1, .int .u8 255, .int .u64 (s2 : Int)] 49) = V := ⟨_, rfl⟩
  have bV : Below w9.heap.size w9 V4 := hV4 ▸ below_alloc _ _
  have HE4 : Hid (CBox V4 w9.heap.size 7 1 255 s2) := hV4 ▸ CBox.new w9 7 1 255 s2
  have HA4 := hide ((HA3.out.kp k9).grow bV)
  have HB4 := hide ((HB3.out.kp k9).grow bV)
  have HC9 := hide ((HC8.out.kp k9).grow bV)
  have HD4 := hide ((HD3.out.kp k9).grow bV)
  have HS9 := hide (S9.grow bV)
  clear S9 k9 bV hV3 c0 c1 c2 c3
  have a0 : V4.cell? ⟨w6.heap.size, 0, none⟩ = some (.int .u64 7) := HA4.out.c0
  have a1 : V4.cell? ⟨w6.heap.size, 1, none⟩ = some (.int .u32 0) := HA4.out.c1
  have a2 : V4.cell? ⟨w6.heap.size, 2, none⟩ = some (.int .u8 255) := HA4.out.c2
  have a3 : V4.cell? ⟨w6.heap.size, 3, none⟩ = some (.int .u64 (s0 : Int)) := HA4.out.c3
  have d0 : V4.cell? ⟨w8.heap.size, 0, none⟩ = some (.int .u64 7) := HD4.out.c0
  have d1 : V4.cell? ⟨w8.heap.size, 1, none⟩ = some (.int .u32 0) := HD4.out.c1
  have d2 : V4.cell? ⟨w8.heap.size, 2, none⟩ = some (.int .u8 (mask : Int)) := HD4.out.c2
  have d3 : V4.cell? ⟨w8.heap.size, 3, none⟩ = some (.int .u64 (x1 : Int)) := HD4.out.c3
  have f0 : V4.cell? ⟨w9.heap.size, 0, none⟩ = some (.int .u64 7) := HE4.out.c0
  have f1 : V4.cell? ⟨w9.heap.size, 1, none⟩ = some (.int .u32 1) := HE4.out.c1
  have f2 : V4.cell? ⟨w9.heap.size, 2, none⟩ = some (.int .u8 255) := HE4.out.c2
  have f3 : V4.cell? ⟨w9.heap.size, 3, none⟩ = some (.int .u64 (s2 : Int)) := HE4.out.c3
  obtain ⟨V5, hV5⟩ : ∃ V, V4.alloc (.cells #[.int .u64 7, .int .u32 0, .int .u8 255, .int .u64 (s0 : Int), .int .u64 7, .int .u32 0, .int .u8 (mask : Int), .int .u64 (x1 : Int), .int .u64 7, .int .u32 1, .int .u8 255, .int .u64 (s2 : Int)] 49) = V := ⟨_, rfl⟩
  have bV : Below V4.heap.size V4 V5 := hV5 ▸ below_alloc _ _
  have HTO : Hid (Told V5 V4.heap.size L) := by
    rw [← HLE.out, ← hV5]; exact heap_alloc_new _ _
  have HB5 := hide (HB4.out.grow bV)
  have HF5 : Hid (ForS w V5 g gc V4.heap.size ws (t1 + 1) e1 T3 L ⟨cp, co, cr, cc⟩) :=
    ⟨HC0.out, HC9.out.grow bV, HS9.out.grow bV, HTO.out, by have := lt_of_heap HC9.out; omega, by have := HGC.out; omega⟩
  clear bV
  go_upto_if 73 with fail
  obtain ⟨bt, hbt⟩ : ∃ b, V4.heap.size = b := ⟨_, rfl⟩
  rw [hbt] at HF5 HTO ⊢
  obtain ⟨b7, hb7⟩ : ∃ b, w7.heap.size = b := ⟨_, rfl⟩
  rw [hb7] at HB5 HN7 ⊢
  clear hbt hb7 a0 a1 a2 a3 d0 d1 d2 d3 f0 f1 f2 f3 hV5 hV4 HTO
  go_cut [] from 71 to 81 (fun wx => (∃ x, ForS w wx g gc bt ws (t1 + 1) e1 T3 L x) ∧ CBox wx b7 7 1 255 s1)
  case first =>
    by_cases hd3 : d < 3
    · have hd4 : (d : Int) < 3 := by omega
      rcases hx : L.getD d Cp.zero with ⟨xp, xo, xr, xc⟩
      obtain ⟨k0, k1, k2, k3⟩ := HF5.out.told.at d (by rw [HLL.out]; omega) xp xo xr xc hx
      have hxo := HLAT.out d hd3
      rw [hx] at hxo
      have HXO := hide hxo
      clear hx hxo
      have hE1 := HF5.out.box.z
      have v0 := HF5.out.box.c0
      have v1 := HF5.out.box.c1
      have v2 := HF5.out.box.c2
      have v3 := HF5.out.box.c3
      clear hd3
      go_wp2_with fail
      refine (change_any ⟨xp, xo, xr, xc⟩ q _ HXO.out HQ.out).mono ?_; rintro e w10 ⟨⟨⟨zp, zo, zr, zc⟩, rfl, zok⟩, b10⟩
      have HZ := hide zok
      have HF6 := hide (HF5.out.grow b10)
      have HB6 := hide (HB5.out.grow b10)
      clear k0 k1 k2 k3 v0 v1 v2 v3 hE1 zok b10
      have v0 := HF6.out.box.c0
      have v1 := HF6.out.box.c1
      have v2 := HF6.out.box.c2
      have v3 := HF6.out.box.c3
      have z := HF6.out.box.z
      simp only [Cp.val]
      go_wp2_with fail
      go_meet
      have hn := HN7.out
      exact ⟨⟨_, HF6.out.put ⟨zp, zo, zr, zc⟩ HZ.out⟩, HB6.out.foot (foot4 _ _ _ _ _ _) (fun e => by omega)⟩
    · have hd4 : ¬ ((d : Int) < 3) := by omega
      go_wp2_with fail
      go_meet
      exact ⟨⟨_, HF5.out⟩, HB5.out⟩
  case rest =>
    obtain ⟨⟨x, F⟩, B7⟩ := hcut
    have HF6 := hide F
    have HB6 := hide B7
    clear F B7 HF5 HB5
    go_upto_if 84 with fail
    go_cut [] from 71 to 85 (fun wx => ∃ x, ForS w wx g gc bt ws (t1 + 1) e1 T3 L x)
    case first =>
      by_cases hd3 : d = 3
      · have hd4 : ((d : Int) == 3) = true := by rw [hd3]; rfl
        have k0 : wc.cell? ⟨b7, 0, none⟩ = some (.int .u64 7) := HB6.out.c0
        have k1 : wc.cell? ⟨b7, 1, none⟩ = some (.int .u32 1) := HB6.out.c1
        have k2 : wc.cell? ⟨b7, 2, none⟩ = some (.int .u8 255) := HB6.out.c2
        have k3 : wc.cell? ⟨b7, 3, none⟩ = some (.int .u64 (s1 : Int)) := HB6.out.c3
        have v0 := HF6.out.box.c0
        have v1 := HF6.out.box.c1
        have v2 := HF6.out.box.c2
        have v3 := HF6.out.box.c3
        have z := HF6.out.box.z
        have hn := HN7.out
        have hne : b7 ≠ gc := by omega
        clear hd3
        go_wp2_with fail
        go_meet
        exact ⟨_, HF6.out.put ⟨7, 1, 255, s1⟩ (cp_ok (by decide) (by decide) (by decide) HS1.out)⟩
      · have hd4 : ((d : Int) == 3) = false := by rw [beq_eq_false_iff_ne]; omega
        go_wp2_with fail
        go_meet
        exact ⟨_, HF6.out⟩
    case rest =>
      clear HF6 HB6 x
      obtain ⟨⟨cp, co, cr, cc⟩, F⟩ := hcut
      obtain ⟨wq, hwq⟩ : ∃ x, wc = x := ⟨_, rfl⟩
      rw [hwq] at F ⊢
      clear hwq wc
      have HF7 := hide F
      have hand := and_word (cc : Int) (by omega) (by have := F.ok.2.2.2; simp only at this; omega)
      rw [cutF_nat] at hand
      obtain ⟨y, hy⟩ : ∃ y, cc % 281474976710656 = y := ⟨_, rfl⟩
      rw [hy] at hand
      obtain ⟨W8, hW8⟩ : ∃ V, wq.setCell ⟨gc, 3, none⟩ (.int .u64 (y : Int)) = V := ⟨_, rfl⟩
      have HF8 : Hid (ForS w W8 g gc bt ws (t1 + 1) e1 T3 L ⟨cp, co, cr, y⟩) := hW8 ▸ F.cut y (by omega)
      have v3 := F.box.c3
      have z := F.box.z
      clear F hy HF7
      go_wp2_with fail
      clear hW8 z v3 hand hd1 hq1 hq3
      go_loopg [19, 92] 3 (fun gk vs vi wr => ForRel W8 L ⟨cp, co, cr, y⟩ gk vs vi wr)
      case atStart => exact ⟨0, false, by omega, rfl, rfl, by simp, Below.refl _ _⟩
      case round =>
        obtain ⟨i, bb, hi, rfl, rfl, hb, b⟩ := hrel
        have HFr := hide (HF8.out.grow b)
        have HBr := hide b
        have HBB := hide hb
        clear b hb
        cases gk with
        | zero =>
          obtain rfl : i = 3 := by omega
          have hbl : bb = true ↔ Cp.mk cp co cr y ∈ L := by
            have := HBB.out
            rwa [List.take_of_length_le (by rw [HLL.out]; omega)] at this
          have hok := HFr.out.ok
          have HOK := hide hok
          have v0 : wr.cell? ⟨gc, 0, none⟩ = some (.int .u64 (cp : Int)) := HFr.out.box.c0
          have v1 : wr.cell? ⟨gc, 1, none⟩ = some (.int .u32 (co : Int)) := HFr.out.box.c1
          have v2 : wr.cell? ⟨gc, 2, none⟩ = some (.int .u8 (cr : Int)) := HFr.out.box.c2
          have v3 : wr.cell? ⟨gc, 3, none⟩ = some (.int .u64 (y : Int)) := HFr.out.box.c3
          have HSr := hide HFr.out.sd
          have HCr := hide HFr.out.box
          clear HBB HF8 hi hok
          cases bb with
          | true =>
            have hg := HGO.out _ (hbl.1 rfl)
            have HLEN : Hid (e1.length ≤ 10) := by have := HE1.out; simp at this; show _ ≤ _; omega
            clear hbl HGO H3 HFr
            have hand := and_nat cr need HOK.out.2.2.1 HN.out
            obtain ⟨z, hz⟩ : ∃ z, cr &&& need = z := ⟨_, rfl⟩
            simp only at hg
            rw [hz] at hand hg
            clear hz
            by_cases hzn : z = need
            · rw [if_pos hzn] at hg
              have HGG := hide hg
              subst hzn
              clear hg
              go_wp2_with fail
              refine (sd_check ⟨cp, co, cr, y⟩ z _ HSr.out HOK.out HN.out (by have := HLEN.out; omega) _ HGG.out).mono ?_; rintro e w11 ⟨rfl, S11, k11⟩
              simp only [show erN ((0 : Nat) : Int) = .nilIface from rfl]
              have HS11 := hide S11
              have HC11 := hide (HCr.out.kp k11)
              clear S11 k11 v0 v1 v2 v3
              have v2 : ∀ q, (w11.drewN q).cell? ⟨gc, 2, none⟩ = some (.int .u8 (cr : Int)) := fun _ => HC11.out.c2
              go_upto_region 25 with fail
              go_quiet (fail)
              go_wp2
              go_ret
              exact ⟨rfl, below_drewN HS11.out.bel _⟩
            · rw [if_neg hzn] at hg
              have HGG := hide hg
              have hzf : ((z : Int) == (need : Int)) = false := by rw [beq_eq_false_iff_ne]; omega
              clear hg hzn
              go_wp2_with fail
              refine (sd_check ⟨cp, co, cr, y⟩ need _ HSr.out HOK.out HN.out (by have := HLEN.out; omega) _ HGG.out).mono ?_; rintro e w11 ⟨rfl, S11, k11⟩
              simp only [erN_not (show (((2 : Nat) : Int)) ≠ 0 by decide)]
              have HS11 := hide S11
              have HC11 := hide (HCr.out.kp k11)
              clear S11 k11 v0 v1 v2 v3
              have v2 : w11.cell? ⟨gc, 2, none⟩ = some (.int .u8 (cr : Int)) := HC11.out.c2
              go_upto_region 25 with fail
              have hC : Hid (CBox (w11.drewN 1) gc cp co cr y) := HC11.out.drewN 1
              go_region_held (fun W => W.cell? ⟨gc, 2, none⟩ = some (.int .u8 (cr : Int))) (exact hC.out.c2) (first
                | (go_at_call 21; refine (number_errno 2 _ ((HS11.out.drewN 1).glob HG.out)).mono ?_; rintro e wx ⟨rfl, bx⟩; have HSX := hide ((HS11.out.drewN 1).grow bx); have hC := hide (hC.out.grow bx)))
              go_wp2
              go_ret
              exact ⟨rfl, HSX.out.bel⟩
          | false =>
            obtain ⟨K, hK⟩ : ∃ K, chkF ws (t1 + 1) e1 7 T3 ⟨cp, co, cr, y⟩ need = K := ⟨_, rfl⟩
            have h3 := H3.out ⟨cp, co, cr, y⟩
            rw [hK] at h3
            have HLEN : Hid (e1.length ≤ 10) := by have := HE1.out; simp at this; show _ ≤ _; omega
            have HKK := hide hK
            have HH3 := hide h3
            obtain ⟨Kk, Ke, Kt, Kes⟩ := K
            clear hbl HGO H3 HFr hK h3
            go_wp2_with fail
            refine (sd_check ⟨cp, co, cr, y⟩ need _ HSr.out HOK.out HN.out (by have := HLEN.out; omega) _ HKK.out).mono ?_; rintro e w11 ⟨rfl, S11, k11⟩
            have HS11 := hide S11
            have HC11 := hide (HCr.out.kp k11)
            clear S11 k11 v0 v1 v2 v3
            by_cases hk1 : Ke = 1
            · have hk2 : ((Ke : Int) == 1) = true := by rw [hk1]; rfl
              clear hk1
              go_wp2_with fail
              refine (number_any _ _ (HS11.out.glob HG.out)).mono ?_; rintro e w12 ⟨rfl, b12⟩
              have HS12 := hide (HS11.out.grow b12)
              clear b12
              go_wp2
              go_ret
              exact ⟨rfl, HS12.out.bel⟩
            · obtain ⟨j, hj1, hj2⟩ : ∃ j, j < ws.length ∧ y = ws.getD j 0 := by
                rcases HH3.out with e | e
                · exact absurd e hk1
                · exact e
              have HJ := hide (And.intro hj1 hj2)
              have hk2 : ((Ke : Int) == 1) = false := by rw [beq_eq_false_iff_ne]; omega
              clear hk1 hj1 hj2
              go_wp2_with fail
              refine (number_any _ _ (HS11.out.glob HG.out)).mono ?_; rintro e w12 ⟨rfl, b12⟩
              have HS12 := hide (HS11.out.grow b12)
              have HC12 := hide (HC11.out.grow b12)
              clear b12
              have v0 : w12.cell? ⟨gc, 0, none⟩ = some (.int .u64 (cp : Int)) := HC12.out.c0
              have v1 : w12.cell? ⟨gc, 1, none⟩ = some (.int .u32 (co : Int)) := HC12.out.c1
              have v2 : w12.cell? ⟨gc, 2, none⟩ = some (.int .u8 (cr : Int)) := HC12.out.c2
              have v3 : w12.cell? ⟨gc, 3, none⟩ = some (.int .u64 (y : Int)) := HC12.out.c3
              go_wp2_with fail
              refine (HSO.out ⟨cp, co, cr, y⟩ j _ (by have := HJ.out.1; have := HWL.out; omega) HJ.out.2).mono ?_; rintro e w13 ⟨rfl, b13⟩
              have HS13 := hide (HS12.out.grow b13)
              clear b13
              go_wp2
              go_ret
              exact ⟨rfl, HS13.out.bel⟩
        | succ g1 =>
          have hlt : (i : Int) < 3 := by omega
          have HI := hide hi
          rcases hx : L.getD i Cp.zero with ⟨xp, xo, xr, xc⟩
          obtain ⟨k0, k1, k2, k3⟩ := HFr.out.told.at i (by rw [HLL.out]; omega) xp xo xr xc hx
          obtain ⟨V, hV⟩ : ∃ V, wr.alloc (.cells #[.int .u64 (xp : Int), .int .u32 (xo : Int), .int .u8 (xr : Int), .int .u64 (xc : Int)] 49) = V := ⟨_, rfl⟩
          have bV : Below wr.heap.size wr V := hV ▸ below_alloc _ _
          have HXB : Hid (CBox V wr.heap.size xp xo xr xc) := hV ▸ CBox.new wr xp xo xr xc
          have HFV := hide (HFr.out.grow bV)
          have HBV := hide (below_one HBr.out bV)
          have HX := hide hx
          have hmem := mem_take (L := L) (i := i) (by rw [HLL.out]; omega) ⟨cp, co, cr, y⟩
          rw [hx] at hmem
          have HMEM := hide hmem
          clear bV hx hmem hi
          cases bb with
          | true =>
            have HB1 : Hid (Cp.mk cp co cr y ∈ L.take i) := HBB.out.1 rfl
            clear HBB
            go_wp2
            go_roundg g1
            case measure => have := HI.out; omega
            case rel => exact ⟨i + 1, true, by have := HI.out; omega, by go_num, rfl, ⟨fun _ => HMEM.out.2 (.inl HB1.out), fun _ => rfl⟩, HBV.out⟩
          | false =>
            have HB0 : Hid (¬ Cp.mk cp co cr y ∈ L.take i) := fun h => absurd (HBB.out.2 h) (by decide)
            clear HBB
            have c0 : V.cell? ⟨wr.heap.size, 0, none⟩ = some (.int .u64 (xp : Int)) := HXB.out.c0
            have c1 : V.cell? ⟨wr.heap.size, 1, none⟩ = some (.int .u32 (xo : Int)) := HXB.out.c1
            have c2 : V.cell? ⟨wr.heap.size, 2, none⟩ = some (.int .u8 (xr : Int)) := HXB.out.c2
            have c3 : V.cell? ⟨wr.heap.size, 3, none⟩ = some (.int .u64 (xc : Int)) := HXB.out.c3
            have v0 : V.cell? ⟨gc, 0, none⟩ = some (.int .u64 (cp : Int)) := HFV.out.box.c0
            have v1 : V.cell? ⟨gc, 1, none⟩ = some (.int .u32 (co : Int)) := HFV.out.box.c1
            have v2 : V.cell? ⟨gc, 2, none⟩ = some (.int .u8 (cr : Int)) := HFV.out.box.c2
            have v3 : V.cell? ⟨gc, 3, none⟩ = some (.int .u64 (y : Int)) := HFV.out.box.c3
            obtain ⟨be, hbe⟩ : ∃ be, decide ((xp : Int) = (cp : Int) ∧ (xo : Int) = (co : Int) ∧ (xr : Int) = (cr : Int) ∧ (xc : Int) = (y : Int)) = be := ⟨_, rfl⟩
            have hE := eql_cap xp xo xr xc cp co cr y
            rw [hbe] at hE
            have HBE := hide hbe
            clear hbe
            go_wp2
            go_roundg g1
            case measure => have := HI.out; omega
            case rel =>
              refine ⟨i + 1, be, by have := HI.out; omega, by go_num, rfl, ?_, HBV.out⟩
              rw [HMEM.out, ← HBE.out, decide_eq_true_eq]
              constructor
              · rintro ⟨h1, h2, h3, h4⟩
                right
                obtain rfl : xp = cp := by omega
                obtain rfl : xo = co := by omega
                obtain rfl : xr = cr := by omega
                obtain rfl : xc = y := by omega
                rfl
              · rintro (h | h)
                · exact absurd h HB0.out
                · cases h; exact ⟨rfl, rfl, rfl, rfl⟩
end Go.Proofs.YtgcmompldcnhlaaDoor
