/-
  The walk of ObjectsNarrow.
-/
import Derived.Test.YtgcmompldcnhlaaDoorIAns
namespace Go.Proofs.YtgcmompldcnhlaaDoor
open Go.RowKit
set_option maxHeartbeats 3200000 in
theorem walk_narrow (a b n : Nat) (w : World) (ha : a ≤ 255) (hb : b ≤ 255) (hn : n ≤ 255) (hg : Glob w) :
    Calls Tryd.prog 6 #[.int .u8 (a : Int), .int .u8 (b : Int), .int .u8 (n : Int)] w fun e w' => e = .returned (.bool true) ∧ Below w.heap.size w w' := by
  have HG := hide hg
  have hu := spr_unlike 20
  have hlen := sprL_len 20
  have hwd : ∀ j, (sprL 20).getD j 0 ≤ 281474976710655 := fun j => sprL_word 20 j (by omega)
  have hcut := sprL_cut 20 (by omega)
  have hspr := spread_any 20
  obtain ⟨ws, hws⟩ : ∃ ws, sprL 20 = ws := ⟨_, rfl⟩
  rw [hws] at hu hlen hwd hcut hspr
  obtain ⟨s, hs⟩ : ∃ s, ws.getD 0 0 = s := ⟨_, rfl⟩
  have hs0 : s ≤ 281474976710655 := hs ▸ hwd 0
  obtain ⟨m, hm⟩ : ∃ m, a &&& b = m := ⟨_, rfl⟩
  have hm0 : m ≤ 255 := hm ▸ and_le ha
  obtain ⟨y, hy⟩ : ∃ y, m &&& n = y := ⟨_, rfl⟩
  have hand1 := and_nat a b ha hb
  have hand2 := and_nat m n hm0 hn
  rw [hm] at hand1
  rw [hy] at hand2
  obtain ⟨T1, hT1⟩ : ∃ T1, updO noneO 0 ⟨s, 0, 1, 24⟩ = T1 := ⟨_, rfl⟩
  have hTs : (T1 0).s = s := by rw [← hT1, updO_same]
  have hTh : hasO T1 0 = true := by rw [← hT1]; exact has_upd (by omega) (by show 0 < 24; omega)
  have r1 : creF ws 0 [] 7 noneO 1 = ⟨⟨7, 0, 255, s⟩, 0, 1, [], T1⟩ := by
    rw [cre_at 1 free_none (by omega) (by omega), hs, hT1]
  have o1 : Outs ws 1 [] := outs_nil ws (by omega)
  have own : ∀ es, HasA es (T1 0).s 255 s := fun es => by rw [hTs]; exact has_owner hs0
  have q1 := of_ok (ws := ws) (t := 1) (by omega) [] s a
  have q1h := of_has q1
  have q1o := o1.of hu s a
  have q1w := of_word o1 hwd s a
  have q1t := of_t ws 1 [] s a
  have q1l := of_len ws 1 [] s a
  have r2 : resF ws 1 [] 7 T1 ⟨7, 0, 255, s⟩ a = ⟨⟨7, 0, a, (ofF ws 1 [] s a).x⟩, 0, (ofF ws 1 [] s a).t, (ofF ws 1 [] s a).es, T1⟩ := by
    have := res_good (ws := ws) (t := 1) (es := []) (p := 7) (T := T1) (c := ⟨7, 0, 255, s⟩) (mask := a) rfl hTh (own _) (by rw [hTs, and_owner ha]; exact q1)
    rw [this]; simp only [hTs, and_owner ha]
  obtain ⟨X1, hX1⟩ : ∃ X1, ofF ws 1 [] s a = X1 := ⟨_, rfl⟩
  rw [hX1] at q1 q1h q1o q1w q1t q1l r2
  obtain ⟨x1, ok1, t1, e1⟩ := X1
  obtain rfl : ok1 = true := q1
  simp only at q1h q1o q1w q1t q1l r2
  have q2 := of_ok (ws := ws) (t := t1) (by omega) e1 s m
  have q2h := of_has q2
  have q2w := of_word q1o hwd s m
  have q2l := of_len ws t1 e1 s m
  have r3 : resF ws t1 e1 7 T1 ⟨7, 0, a, x1⟩ b = ⟨⟨7, 0, m, (ofF ws t1 e1 s m).x⟩, 0, (ofF ws t1 e1 s m).t, (ofF ws t1 e1 s m).es, T1⟩ := by
    have := res_good (ws := ws) (t := t1) (es := e1) (p := 7) (T := T1) (c := ⟨7, 0, a, x1⟩) (mask := b) rfl hTh (by rw [hTs]; exact q1h) (by rw [hTs]; show (ofF ws t1 e1 s (a &&& b)).ok = true; rw [hm]; exact q2)
    rw [this]; simp only [hTs, hm]
  obtain ⟨X2, hX2⟩ : ∃ X2, ofF ws t1 e1 s m = X2 := ⟨_, rfl⟩
  rw [hX2] at q2 q2h q2w q2l r3
  obtain ⟨x2, ok2, t2, e2⟩ := X2
  obtain rfl : ok2 = true := q2
  simp only at q2h q2w q2l r3
  have r4 : resF ws t2 e2 7 T1 ⟨7, 0, 255, s⟩ m = ⟨⟨7, 0, m, x2⟩, 0, t2, e2, T1⟩ := by
    have e : ofF ws t2 e2 (T1 0).s (255 &&& m) = ⟨x2, true, t2, e2⟩ := by rw [hTs, and_owner hm0]; exact has_of q2h
    have := res_good (ws := ws) (t := t2) (es := e2) (p := 7) (T := T1) (c := ⟨7, 0, 255, s⟩) (mask := m) rfl hTh (own _) (by show (ofF ws t2 e2 (T1 0).s (255 &&& m)).ok = true; rw [e])
    rw [this]
    show Cre.mk ⟨7, 0, 255 &&& m, (ofF ws t2 e2 (T1 0).s (255 &&& m)).x⟩ 0 (ofF ws t2 e2 (T1 0).s (255 &&& m)).t (ofF ws t2 e2 (T1 0).s (255 &&& m)).es T1 = _
    rw [e, and_owner hm0]
  have r5 : chkF ws t2 e2 7 T1 ⟨7, 0, m, x2⟩ n = if y = n then ⟨0, 0, t2, e2⟩ else ⟨0, 2, t2, e2⟩ := by
    rw [← hy]
    exact chk_good rfl hTh (by rw [hTs]; exact q2h)
  have HR1 := hide r1
  have HR2 := hide r2
  have HR3 := hide r3
  have HR4 := hide r4
  have HR5 := hide r5
  have HA := hide ha
  have HB := hide hb
  have HN := hide hn
  have HS0 := hide hs0
  have HW1 := hide q1w
  have HW2 := hide q2w
  have HL1 := hide q1l
  have HL2 := hide q2l
  have HM := hide hm0
  have HSP := hide hspr
  have HCUT := hide hcut
  clear r1 r2 r3 r4 r5 ha hb hn hs0 q1w q2w q1l q2l hm0 hm hy hs hws hspr hcut hu hlen hwd hTs hTh own o1 q1h q1o q1t q2h hX1 hX2 hT1 hg
  go_enter Tryd.func6, Tryd.ntmps6
  go_wp2_with fail
  refine (awake_any _ HG.out).mono ?_; rintro e w1 ⟨rfl, b1⟩
  have HB1 := hide b1
  clear b1
  go_wp2_with fail
  refine (HSP.out _ (by omega)).mono ?_; rintro e w2 ⟨ao, cap, rfl, hu, b2⟩
  have HU := hide hu
  have HB2 := hide (below_one HB1.out b2)
  clear hu b2
  go_wp2_with fail
  refine (of_any _ _ _ ws _ HU.out (by omega)).mono ?_; rintro e w3 ⟨ta, th, tk, rfl, T, _, ha, hh, bel⟩
  rw [HCUT.out] at T
  have HT := hide T
  have HTA := hide ha
  have HTH := hide hh
  have HB3 := hide bel
  clear T bel ha hh
  go_wp2_with fail
  refine (oof_any _ ⟨_, rfl⟩ _).mono ?_; rintro e w4 ⟨go, gm, rfl, O2, bel2⟩
  have HS4 := hide (Tk.made HB2.out HT.out HTA.out HTH.out HB3.out O2 bel2)
  clear O2 bel2 HT HB3 HTA HTH HU
  go_wp2_with fail
  refine (tof_new 7 _).mono ?_; rintro e w5 ⟨rfl, T3, b3⟩
  have HS5 := hide (Sd.made HS4.out T3 b3)
  obtain ⟨g, hgg⟩ : ∃ g, w4.heap.size = g := ⟨_, rfl⟩
  rw [hgg] at HS5 ⊢
  clear T3 b3 HS4 hgg
  go_wp2_with fail
  refine (sd_create 1 _ HS5.out (by decide) _ HR1.out).mono ?_; rintro e w6 ⟨rfl, S6, -⟩
  simp only [Cp.val, show erN ((0 : Nat) : Int) = .nilIface from rfl]
  obtain ⟨V1, hV1⟩ : ∃ V, w6.alloc (.cells #[.int .u64 7, .int .u32 0, .int .u8 255, .int .u64 (s : Int)] 49) = V := ⟨_, rfl⟩
  have bV1 : Below w6.heap.size w6 V1 := hV1 ▸ below_alloc _ _
  have HCV1 : Hid (CBox V1 w6.heap.size 7 0 255 s) := hV1 ▸ CBox.new w6 7 0 255 s
  have HSV1 := hide (S6.grow bV1)
  clear bV1 S6
  have c0 : V1.cell? ⟨w6.heap.size, 0, none⟩ = some (.int .u64 7) := HCV1.out.c0
  have c1 : V1.cell? ⟨w6.heap.size, 1, none⟩ = some (.int .u32 0) := HCV1.out.c1
  have c2 : V1.cell? ⟨w6.heap.size, 2, none⟩ = some (.int .u8 255) := HCV1.out.c2
  have c3 : V1.cell? ⟨w6.heap.size, 3, none⟩ = some (.int .u64 (s : Int)) := HCV1.out.c3
  go_wp2_with fail
  refine (sd_restrict ⟨7, 0, 255, s⟩ a _ HSV1.out (cp_ok (by decide) (by decide) (by decide) HS0.out) HA.out (by decide) _ HR2.out).mono ?_; rintro e w7 ⟨rfl, S7, k7⟩
  simp only [Cp.val, show erN ((0 : Nat) : Int) = .nilIface from rfl]
  have HC1a := hide (HCV1.out.kp k7)
  clear k7 c0 c1 c2 c3 hV1
  obtain ⟨V2, hV2⟩ : ∃ V, w7.alloc (.cells #[.int .u64 7, .int .u32 0, .int .u8 (a : Int), .int .u64 (x1 : Int)] 49) = V := ⟨_, rfl⟩
  have bV2 : Below w7.heap.size w7 V2 := hV2 ▸ below_alloc _ _
  have HCV2 : Hid (CBox V2 w7.heap.size 7 0 a x1) := hV2 ▸ CBox.new w7 7 0 a x1
  have HSV2 := hide (S7.grow bV2)
  have HC1b := hide (HC1a.out.grow bV2)
  clear bV2 S7
  have c0 : V2.cell? ⟨w7.heap.size, 0, none⟩ = some (.int .u64 7) := HCV2.out.c0
  have c1 : V2.cell? ⟨w7.heap.size, 1, none⟩ = some (.int .u32 0) := HCV2.out.c1
  have c2 : V2.cell? ⟨w7.heap.size, 2, none⟩ = some (.int .u8 (a : Int)) := HCV2.out.c2
  have c3 : V2.cell? ⟨w7.heap.size, 3, none⟩ = some (.int .u64 (x1 : Int)) := HCV2.out.c3
  go_wp2_with fail
  refine (sd_restrict ⟨7, 0, a, x1⟩ b _ HSV2.out (cp_ok (by decide) (by decide) HA.out HW1.out) HB.out (by have := HL1.out; simp at this; omega) _ HR3.out).mono ?_; rintro e w8 ⟨rfl, S8, k8⟩
  simp only [Cp.val, show erN ((0 : Nat) : Int) = .nilIface from rfl]
  have HC1c := hide (HC1b.out.kp k8)
  clear k8 c0 c1 c2 c3 hV2
  obtain ⟨V3, hV3⟩ : ∃ V, w8.alloc (.cells #[.int .u64 7, .int .u32 0, .int .u8 (m : Int), .int .u64 (x2 : Int)] 49) = V := ⟨_, rfl⟩
  have bV3 : Below w8.heap.size w8 V3 := hV3 ▸ below_alloc _ _
  have HCV3 : Hid (CBox V3 w8.heap.size 7 0 m x2) := hV3 ▸ CBox.new w8 7 0 m x2
  have HSV3 := hide (S8.grow bV3)
  have HC1d := hide (HC1c.out.grow bV3)
  clear bV3 S8
  have c0 : V3.cell? ⟨w6.heap.size, 0, none⟩ = some (.int .u64 7) := HC1d.out.c0
  have c1 : V3.cell? ⟨w6.heap.size, 1, none⟩ = some (.int .u32 0) := HC1d.out.c1
  have c2 : V3.cell? ⟨w6.heap.size, 2, none⟩ = some (.int .u8 255) := HC1d.out.c2
  have c3 : V3.cell? ⟨w6.heap.size, 3, none⟩ = some (.int .u64 (s : Int)) := HC1d.out.c3
  go_wp2_with fail
  refine (sd_restrict ⟨7, 0, 255, s⟩ m _ HSV3.out (cp_ok (by decide) (by decide) (by decide) HS0.out) HM.out (by have := HL1.out; have := HL2.out; simp at *; omega) _ HR4.out).mono ?_; rintro e w9 ⟨rfl, S9, k9⟩
  simp only [Cp.val, show erN ((0 : Nat) : Int) = .nilIface from rfl]
  have HC3a := hide (HCV3.out.kp k9)
  clear k9 c0 c1 c2 c3 hV3 HC1d HC1a HC1b HC1c
  obtain ⟨V4, hV4⟩ : ∃ V, w9.alloc (.cells #[.int .u64 7, .int .u32 0, .int .u8 (m : Int), .int .u64 (x2 : Int)] 49) = V := ⟨_, rfl⟩
  have bV4 : Below w9.heap.size w9 V4 := hV4 ▸ below_alloc _ _
  have HCV4 : Hid (CBox V4 w9.heap.size 7 0 m x2) := hV4 ▸ CBox.new w9 7 0 m x2
  have HSV4 := hide (S9.grow bV4)
  have HC3b := hide (HC3a.out.grow bV4)
  clear bV4 S9
  have c0 : V4.cell? ⟨w8.heap.size, 0, none⟩ = some (.int .u64 7) := HC3b.out.c0
  have c1 : V4.cell? ⟨w8.heap.size, 1, none⟩ = some (.int .u32 0) := HC3b.out.c1
  have c2 : V4.cell? ⟨w8.heap.size, 2, none⟩ = some (.int .u8 (m : Int)) := HC3b.out.c2
  have c3 : V4.cell? ⟨w8.heap.size, 3, none⟩ = some (.int .u64 (x2 : Int)) := HC3b.out.c3
  obtain ⟨K, hK⟩ : ∃ K, (if y = n then Chk.mk 0 0 t2 e2 else ⟨0, 2, t2, e2⟩) = K := ⟨_, rfl⟩
  go_wp2_with fail
  refine (sd_check ⟨7, 0, m, x2⟩ n _ HSV4.out (cp_ok (by decide) (by decide) HM.out HW2.out) HN.out (by have := HL1.out; have := HL2.out; simp at *; omega) K (HR5.out.trans hK)).mono ?_; rintro e w10 ⟨rfl, S10, k10⟩
  have HC3 := hide (HC3b.out.kp k10)
  have HC4 := hide (HCV4.out.kp k10)
  have HS10 := hide S10
  clear k10 S10 c0 c1 c2 c3 hV4 HC3a HC3b HSV1 HSV2 HSV3 HSV4
  obtain ⟨g3, hg3⟩ : ∃ g, w8.heap.size = g := ⟨_, rfl⟩
  obtain ⟨g4, hg4⟩ : ∃ g, w9.heap.size = g := ⟨_, rfl⟩
  rw [hg3] at HC3 ⊢
  rw [hg4] at HC4 ⊢
  clear hg3 hg4
  have c0 : w10.cell? ⟨g3, 0, none⟩ = some (.int .u64 7) := HC3.out.c0
  have c1 : w10.cell? ⟨g3, 1, none⟩ = some (.int .u32 0) := HC3.out.c1
  have c2 : w10.cell? ⟨g3, 2, none⟩ = some (.int .u8 (m : Int)) := HC3.out.c2
  have c3 : w10.cell? ⟨g3, 3, none⟩ = some (.int .u64 (x2 : Int)) := HC3.out.c3
  have d0 : w10.cell? ⟨g4, 0, none⟩ = some (.int .u64 7) := HC4.out.c0
  have d1 : w10.cell? ⟨g4, 1, none⟩ = some (.int .u32 0) := HC4.out.c1
  have d2 : w10.cell? ⟨g4, 2, none⟩ = some (.int .u8 (m : Int)) := HC4.out.c2
  have d3 : w10.cell? ⟨g4, 3, none⟩ = some (.int .u64 (x2 : Int)) := HC4.out.c3
  have hE := eql_cap 7 0 m x2 7 0 m x2
  simp only [and_self, decide_true] at hE
  by_cases hyn : y = n
  · rw [if_pos hyn] at hK
    subst hK
    have hyn1 : ((y : Int) == (n : Int)) = true := by rw [hyn]; simp
    simp only [show erN ((0 : Nat) : Int) = .nilIface from rfl]
    clear hyn
    go_wp2
    go_ret
    exact ⟨rfl, HS10.out.bel⟩
  · rw [if_neg hyn] at hK
    subst hK
    have hyn1 : ((y : Int) == (n : Int)) = false := by rw [beq_eq_false_iff_ne]; omega
    simp only [erN_not (show (((2 : Nat) : Int)) ≠ 0 by decide)]
    clear hyn
    go_wp2_with fail
    refine (number_errno 2 _ (HS10.out.glob HG.out)).mono ?_; rintro e w11 ⟨rfl, b11⟩
    have HS11 := hide (HS10.out.grow b11)
    clear b11
    go_wp2
    go_ret
    exact ⟨rfl, HS11.out.bel⟩
end Go.Proofs.YtgcmompldcnhlaaDoor
