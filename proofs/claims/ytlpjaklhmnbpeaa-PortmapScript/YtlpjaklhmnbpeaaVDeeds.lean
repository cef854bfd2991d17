/-
  What portmap's Of, Forget, Gone, Len, Find and Learn answer, as contracts.
-/
import Derived.Test.YtlpjaklhmnbpeaaVCon
import Derived.Lib.MinMax
namespace Go.Proofs.Ytlpjaklhmnbpeaa
open Go.RowKit
variable {B g : Nat} {age : Int} {rv : Value} {L : List Pl}
set_option maxHeartbeats 800000 in
theorem of_any (x y : Int) (hy : max x 1 = y) (w : World) :
    Calls Try.prog 9 #[.int .i64 x] w fun e w' => e = .returned (.pointer (some ⟨w.heap.size, 0, none⟩)) ∧ w' = w.alloc (.cells #[.int .i64 y, .slice none 0 0] 51) := by
  go_enter Try.func9, Try.ntmps9
  go_wp2
  go_ret
  exact ⟨rfl, rfl⟩
theorem len_any (w : World) (hT : Pm w B g age rv L) :
    Calls Try.prog 17 #[.pointer (some ⟨g, 0, none⟩)] w fun e w' => e = .returned (.int .i64 (L.length : Int)) ∧ w' = w := by
  have c1 := hT.c1
  obtain ⟨ao, cap, rfl, hnc, hcap⟩ := hT.row.form
  obtain ⟨n, hn⟩ : ∃ n, L.length = n := ⟨_, rfl⟩
  rw [hn] at c1 hnc ⊢
  clear hT hn
  go_enter Try.func17, Try.ntmps17
  go_wp2
  go_ret
  exact ⟨rfl, rfl⟩
/- drop, at any function value that asks q -/
set_option maxRecDepth 20000 in
set_option maxHeartbeats 1600000 in
theorem drop_any (F h : Nat) (q : Pl → Bool) (c : Value) (w : World) (hT : Pm w B g age rv L) (hl : L.length ≤ 1000) (hc : w.cell? ⟨h, 0, none⟩ = some c) (hF : AsksOf F h c q) :
    Calls Try.prog 20 #[.pointer (some ⟨g, 0, none⟩), .func (.func F) #[] #[.pointer (some ⟨h, 0, none⟩)]] w fun e w' => e = .returned (.tuple #[]) ∧ PmEnd w B g age (dropQ q L) w' := by
  have HT := hide hT
  have HLL := hide hl
  have HC := hide hc
  have HFF := hide hF
  have k1 := hT.c1
  clear hT hl hc hF
  go_enter Try.func20, Try.ntmps20
  go_wp2_with fail
  refine (clone_any B rv L _ HT.out.row HLL.out).mono ?_; rintro e w1 ⟨v1, rfl, o1, b1⟩
  have HO1 := hide o1
  have HB1 := hide b1
  have HGL : Hid (h < w.heap.size) := lt_of_cell HC.out
  have HC1 : Hid (w1.cell? ⟨h, 0, none⟩ = some c) := by show _ = _; rw [b1.cell HGL.out, HC.out]
  clear o1 b1 k1
  go_wp2_with fail
  refine (delete_any F q c h w.heap.size v1 L _ HO1.out HC1.out HFF.out HGL.out HLL.out).mono ?_; rintro e w2 ⟨v2, rfl, o2, f2⟩
  have hB2 : Below w.heap.size w w2 := HB1.out.trans (f2.below HB1.out.size (fun k e => (owns_lt HO1.out e).2))
  have T2 := HT.out.grow hB2
  have k1 := T2.c1
  have kz := T2.z 1
  have HE := hide (HT.out.put_end o2 HT.out.size hB2)
  obtain ⟨ao, cap, rfl, hnc, hcap⟩ := OwnV.form o2
  obtain ⟨n, hn⟩ : ∃ n, (dropQ q L).length = n := ⟨_, rfl⟩
  rw [hn] at HE ⊢
  clear o2 f2 hB2 T2 hnc hcap hn
  go_wp2
  go_returns
  exact ⟨rfl, HE.out⟩
set_option maxRecDepth 20000 in
set_option maxHeartbeats 800000 in
theorem forget_any (x : Int) (w : World) (hT : Pm w B g age rv L) (hl : L.length ≤ 1000) :
    Calls Try.prog 13 #[.pointer (some ⟨g, 0, none⟩), .int .u64 x] w fun e w' => e = .returned (.tuple #[]) ∧ PmEnd w B g age (dropQ (isP x) L) w' := by
  obtain ⟨X, hX⟩ : ∃ X, w.alloc (.cells #[.int .u64 x] 29) = X := ⟨_, rfl⟩
  have bX : Below w.heap.size w X := hX ▸ below_alloc w _
  have cX : X.cell? ⟨w.heap.size, 0, none⟩ = some (.int .u64 x) := by rw [← hX]; simp
  have HC := hide cX
  have HB := hide bX
  have HT := hide (hT.grow bX)
  have HLL := hide hl
  clear bX cX hl hT
  go_enter Try.func13, Try.ntmps13
  go_wp2_with fail
  refine (drop_any _ w.heap.size (isP x) _ _ HT.out HLL.out HC.out (fgt_asks _ x)).mono ?_; rintro e w1 ⟨rfl, h1⟩
  have HE := hide (h1.from HB.out)
  clear h1
  go_wp2
  go_returns
  exact ⟨rfl, HE.out⟩
set_option maxRecDepth 20000 in
set_option maxHeartbeats 800000 in
theorem gone_any (x : Int) (w : World) (hT : Pm w B g age rv L) (hl : L.length ≤ 1000) :
    Calls Try.prog 15 #[.pointer (some ⟨g, 0, none⟩), .int .i64 x] w fun e w' => e = .returned (.tuple #[]) ∧ PmEnd w B g age (dropQ (isN x) L) w' := by
  obtain ⟨X, hX⟩ : ∃ X, w.alloc (.cells #[.int .i64 x] 3) = X := ⟨_, rfl⟩
  have bX : Below w.heap.size w X := hX ▸ below_alloc w _
  have cX : X.cell? ⟨w.heap.size, 0, none⟩ = some (.int .i64 x) := by rw [← hX]; simp
  have HC := hide cX
  have HB := hide bX
  have HT := hide (hT.grow bX)
  have HLL := hide hl
  clear bX cX hl hT
  go_enter Try.func15, Try.ntmps15
  go_wp2_with fail
  refine (drop_any _ w.heap.size (isN x) _ _ HT.out HLL.out HC.out (gon_asks _ x)).mono ?_; rintro e w1 ⟨rfl, h1⟩
  have HE := hide (h1.from HB.out)
  clear h1
  go_wp2
  go_returns
  exact ⟨rfl, HE.out⟩
/- whether a place is believed -/
set_option maxRecDepth 20000 in
set_option maxHeartbeats 1600000 in
theorem believes_any (y : Pl) (now : Int) (w : World) (hT : Pm w B g age rv L) (hage : 1 ≤ age ∧ age ≤ 9223372036854775807) (hn : -9223372036854775808 ≤ now ∧ now ≤ 9223372036854775807) (ha : -9223372036854775808 ≤ y.a ∧ y.a ≤ 9223372036854775807) :
    Calls Try.prog 25 #[.pointer (some ⟨g, 0, none⟩), .agg #[.int .u64 y.p, .int .i64 y.n, .int .i64 y.a], .int .i64 now] w fun e w' => e = .returned (.bool (trust age y now)) ∧ Below w.heap.size w w' := by
  obtain ⟨X, hX⟩ : ∃ X, w.alloc (.cells #[.int .u64 y.p, .int .i64 y.n, .int .i64 y.a] 54) = X := ⟨_, rfl⟩
  have bX : Below w.heap.size w X := hX ▸ below_alloc w _
  have k2 : ∀ q, (X.drewN q).cell? ⟨w.heap.size, 2, none⟩ = some (.int .i64 y.a) := fun q => by rw [← hX]; simp
  have k0 : ∀ q, (X.drewN q).cell? ⟨g, 0, none⟩ = some (.int .i64 age) := fun q => (hT.grow bX).c0
  have HB := hide bX
  have hw4 : IntKind.u64.wrap age = age := by rw [IntKind.wrap_u64]; omega
  obtain ⟨u1, hw1⟩ : ∃ u, IntKind.u64.wrap now = u := ⟨_, rfl⟩
  obtain ⟨u2, hw2⟩ : ∃ u, IntKind.u64.wrap y.a = u := ⟨_, rfl⟩
  obtain ⟨d, hw3⟩ : ∃ u, IntKind.u64.wrap (u1 - u2) = u := ⟨_, rfl⟩
  have HD : Hid (y.a ≤ now → d = now - y.a) := by
    intro h
    rw [← hw3, ← hw1, ← hw2, IntKind.wrap_u64, IntKind.wrap_u64, IntKind.wrap_u64]; omega
  clear hage hn ha hT bX
  by_cases h1 : y.a ≤ now
  · have hd := HD.out h1
    by_cases h2 : d < age
    · have HE : Hid (trust age y now = true) := by show trust _ _ _ = _; unfold trust; rw [decide_eq_true h1, decide_eq_true (by omega)]; rfl
      clear hd
      rw [HE.out]
      go_enter Try.func25, Try.ntmps25
      go_wp2_with fail
      go_quiet (fail)
      go_wp2
      go_ret
      exact ⟨rfl, below_drewN HB.out _⟩
    · have HE : Hid (trust age y now = false) := by show trust _ _ _ = _; unfold trust; rw [decide_eq_true h1, decide_eq_false (by omega)]; rfl
      clear hd
      rw [HE.out]
      go_enter Try.func25, Try.ntmps25
      go_wp2_with fail
      go_quiet (fail)
      go_wp2
      go_ret
      exact ⟨by show Ending.returned (Value.bool (decide (d < age))) = _; rw [decide_eq_false (by omega)], below_drewN HB.out _⟩
  · have HE : Hid (trust age y now = false) := by show trust _ _ _ = _; unfold trust; rw [decide_eq_false h1]; rfl
    have hq : decide (y.a ≤ now) = false := decide_eq_false h1
    clear h1
    rw [HE.out]
    go_enter Try.func25, Try.ntmps25
    go_wp2_with fail
    go_quiet (fail)
    go_wp2
    go_ret
    exact ⟨rfl, below_drewN HB.out _⟩
def I64 (x : Int) : Prop := -9223372036854775808 ≤ x ∧ x ≤ 9223372036854775807
def FndEnd (w : World) (age : Int) (L : List Pl) (x now : Int) (e : Ending) (w' : World) : Prop := e = .returned (.tuple #[.int .i64 (findI age L x now), .bool (findB age L x now)]) ∧ Below w.heap.size w w'
set_option maxRecDepth 20000 in
set_option maxHeartbeats 1600000 in
theorem find_any (x now : Int) (w : World) (hT : Pm w B g age rv L) (hage : 1 ≤ age ∧ age ≤ 9223372036854775807) (hn : I64 now) (ha : ∀ y ∈ L, I64 y.a) :
    Calls Try.prog 18 #[.pointer (some ⟨g, 0, none⟩), .int .u64 x, .int .i64 now] w fun e w' => FndEnd w age L x now e w' := by
  obtain ⟨X, hX⟩ : ∃ X, w.alloc (.cells #[.int .u64 x] 29) = X := ⟨_, rfl⟩
  have bX : Below w.heap.size w X := hX ▸ below_alloc w _
  have cX : X.cell? ⟨w.heap.size, 0, none⟩ = some (.int .u64 x) := by rw [← hX]; simp
  have HC := hide cX
  have HB := hide bX
  have HT := hide (hT.grow bX)
  have HAGE := hide hage
  have HNOW := hide hn
  have HRR := hide ha
  have k1 := (hT.grow bX).c1
  clear bX cX hT hage hn ha
  go_enter Try.func18, Try.ntmps18
  go_wp2_with fail
  refine (index_any _ (isP x) _ w.heap.size B rv L _ HT.out.row HC.out (fnd_asks _ x)).mono ?_; rintro e w1 ⟨r, rfl, hr, b1⟩
  have HB1 := hide (HB.out.trans (b1.mono HB.out.size))
  have HT1 := hide (HT.out.grow b1)
  clear b1 k1 hX
  rcases hr with ⟨rfl, h0⟩ | ⟨i, hi, rfl, h1, h2⟩
  · have HE := hide (findV_none (age := age) (now := now) (findP_none h0))
    clear h0
    go_wp2
    go_ret2
    exact ⟨by unfold findI findB; rw [HE.out]; rfl, HB1.out⟩
  · have HE := hide (findV_some (age := age) (now := now) (findP_some hi h1 h2))
    have hneg : ¬ ((i : Int) < 0) := by omega
    obtain ⟨h, ac, hrv, c0, c1, c2, _⟩ := HT1.out.row.elem i hi
    obtain ⟨_, _, e2, hnc, hcap⟩ := HT1.out.row.form
    have hac : L.length ≤ ac ∧ ac ≤ 9223372036854775807 := by rw [hrv] at e2; cases e2; exact ⟨hnc, hcap⟩
    have HYA := hide (HRR.out _ (getV_mem L i hi))
    obtain ⟨n, hn⟩ : ∃ n, L.length = n := ⟨_, rfl⟩
    rw [hn] at hac hrv hi
    have hlt : (i : Int) < (n : Int) := by omega
    obtain ⟨y, hy⟩ : ∃ y, L.getD i Pl.zero = y := ⟨_, rfl⟩
    rw [hy] at c0 c1 c2 HE HYA
    obtain ⟨hac1, hac2⟩ := hac
    have k1 : w1.cell? ⟨g, 1, none⟩ = some (.slice (some ⟨h, 0, none⟩) n ac) := by rw [← hrv]; exact HT1.out.c1
    clear h1 h2 e2 hnc hcap hy hn HRR
    go_wp2_with fail
    refine (believes_any y now _ HT1.out HAGE.out HNOW.out HYA.out).mono ?_; rintro e w2 ⟨rfl, b2⟩
    have HB2 := hide (below_one HB1.out b2)
    have hlh : h < w1.heap.size := lt_of_cell c0
    have j1 : w2.cell? ⟨g, 1, none⟩ = some (.slice (some ⟨h, 0, none⟩) n ac) := by rw [← hrv]; exact (HT1.out.grow b2).c1
    have d1 : w2.cell? ⟨h, i * 3 + 1, none⟩ = some (.int .i64 y.n) := by rw [b2.cell (by exact hlh), c1]
    obtain ⟨q, hq⟩ : ∃ q, trust age y now = q := ⟨_, rfl⟩
    rw [hq] at HE ⊢
    clear hq b2 c0 c1 c2 k1 hlh hrv
    cases q with
    | false =>
      go_wp2
      go_ret2
      exact ⟨by unfold findI findB; rw [HE.out]; rfl, HB2.out⟩
    | true =>
      go_wp2
      go_ret2
      exact ⟨by unfold findI findB; rw [HE.out]; rfl, HB2.out⟩
theorem learn_parts {X : World} {ao : Option Addr} {n c : Nat} {M : List Pl} (p m a : Int) (hA : Lies 3 X ao n c (cellsV M)) {Y Z : World} (hY : X.alloc (.cells #[.int .u64 p, .int .i64 m, .int .i64 a] 54) = Y) (hZ : Y.alloc (.cells #[.slice ao n c, .slice (some ⟨X.heap.size, 0, none⟩) 1 1] 49) = Z) :
    Parts 3 Z ⟨Y.heap.size, 0, none⟩ [⟨ao, n, c, cellsV M⟩, ⟨some ⟨X.heap.size, 0, none⟩, 1, 1, cellsV [⟨p, m, a⟩]⟩] := by
  have h1 : Lies 3 Y ao n c (cellsV M) := hA.carry (hY ▸ below_alloc X _) (Nat.le_refl _)
  have h2 : Lies 3 Y (some ⟨X.heap.size, 0, none⟩) 1 1 (cellsV [⟨p, m, a⟩]) := by rw [← hY]; exact lies_alloc rfl rfl (by omega)
  rw [← hZ]
  exact parts_two h1 h2 (cellsV_one _) (cellsV_one _)
set_option maxRecDepth 20000 in
set_option maxHeartbeats 1600000 in
theorem learn_any (p m a : Int) (w : World) (hT : Pm w B g age rv L) (hl : L.length ≤ 1000) :
    Calls Try.prog 11 #[.pointer (some ⟨g, 0, none⟩), .int .u64 p, .int .i64 m, .int .i64 a] w fun e w' => e = .returned (.tuple #[]) ∧ PmEnd w B g age (learnL L p m a) w' := by
  have HT := hide hT
  have HLL := hide hl
  obtain ⟨M, hM⟩ : ∃ M, dropQ (isP p) L = M := ⟨_, rfl⟩
  have HM := hide hM
  have HML : Hid (M.length ≤ 1000) := by show _ ≤ _; rw [← hM]; exact Nat.le_trans (dropQ_len _ _) hl
  have HLE : Hid (learnL L p m a = cutL M ++ [⟨p, m, a⟩]) := by show learnL _ _ _ _ = _; unfold learnL; rw [hM]
  clear hT hl hM
  go_enter Try.func11, Try.ntmps11
  go_wp2_with fail
  refine (forget_any p _ HT.out HLL.out).mono ?_; rintro e w1 ⟨rfl, rv1, t1, f1⟩
  rw [HM.out] at t1
  have HF1 := hide f1
  have HT1 := hide t1
  obtain ⟨ao, cap, rfl, hli⟩ := owns_lies t1.row
  have k1 := t1.c1
  have hnc := hli.2.1
  have hcap := hli.2.2.1
  obtain ⟨n, hn⟩ : ∃ n, M.length = n := ⟨_, rfl⟩
  rw [hn] at k1 hnc hli
  have HLN := hide hn
  have HLI := hide hli
  have hcap2 : cap ≤ 9223372036854775807 := hcap
  clear t1 f1 hn hli hcap
  by_cases h16 : (16 : Int) ≤ (n : Int)
  · have hcut : (Instr.slice 49 (.slice ao n cap) (some (.int .i64 1)) none none).run Try.prog w1 = .ok (.slice (tailG 3 ao 1 cap) (n - 1) (cap - 1)) w1 := cutG_tail Try.underlying49 Try.sizeOfV w1 ao n cap 1 (by omega)
    have HC : Hid (cutL M = M.drop 1) := by show cutL _ = _; unfold cutL; rw [if_pos (by rw [HLN.out]; omega)]
    have hl2 := HLI.out.tail 1 (by omega)
    rw [show (cellsV M).drop (1 * 3) = cellsV (M.drop 1) from (cellsV_drop M 1).symm] at hl2
    obtain ⟨bo, hbo⟩ : ∃ b, tailG 3 ao 1 cap = b := ⟨_, rfl⟩
    obtain ⟨bn, hbn⟩ : ∃ b, n - 1 = b := ⟨_, rfl⟩
    obtain ⟨bc, hbc⟩ : ∃ b, cap - 1 = b := ⟨_, rfl⟩
    rw [hbo, hbn, hbc] at hcut hl2
    have HCM : Hid (cutL M = M.drop 1) := HC.out
    obtain ⟨D, hD⟩ : ∃ D, M.drop 1 = D := ⟨_, rfl⟩
    rw [hD] at HCM hl2
    have HDL : Hid (bn ≤ 1000) := by show _ ≤ _; have := HML.out; rw [HLN.out] at this; omega
    have HL2 := hide hl2
    clear hl2 hbo hbn hbc hD HC
    obtain ⟨Y, hY⟩ : ∃ Y, w1.alloc (.cells #[.int .u64 p, .int .i64 m, .int .i64 a] 54) = Y := ⟨_, rfl⟩
    obtain ⟨Z, hZ⟩ : ∃ Z, Y.alloc (.cells #[.slice bo bn bc, .slice (some ⟨w1.heap.size, 0, none⟩) 1 1] 49) = Z := ⟨_, rfl⟩
    have HPA := hide (learn_parts p m a HL2.out hY hZ)
    have HBZ := hide (below_one (hY ▸ below_alloc w1 _ : Below w1.heap.size w1 Y) (hZ ▸ below_alloc Y _))
    go_wp2_with fail
    refine (concat_anyV _ 2 _ _ rfl (by omega) HPA.out (by have := HDL.out; show sumN [_, _] 2 ≤ _; simp [sumN]; omega)).mono ?_; rintro e w2 ⟨v2, rfl, o2, b2⟩
    have hB2 := below_one HBZ.out b2
    have T2 := HT1.out.grow hB2
    have k1 := T2.c1
    have kz := T2.z 1
    have ho : w2.ownsRow Z.heap.size 54 3 v2 (bn + 1) (cellsV (D ++ [⟨p, m, a⟩])) := by
      rw [cellsV_append]
      have e1 : sumN [⟨bo, bn, bc, cellsV D⟩, ⟨some ⟨w1.heap.size, 0, none⟩, 1, 1, cellsV [⟨p, m, a⟩]⟩] 2 = bn + 1 := by simp [sumN]
      have e2 : flatV [⟨bo, bn, bc, cellsV D⟩, ⟨some ⟨w1.heap.size, 0, none⟩, 1, 1, cellsV [⟨p, m, a⟩]⟩] 2 = cellsV D ++ cellsV [⟨p, m, a⟩] := by simp [flatV]
      rw [← e1, ← e2]; exact o2
    have HE := hide (HT1.out.put_end ho (Nat.le_trans HT1.out.size HBZ.out.size) hB2)
    obtain ⟨co, cc, rfl⟩ := owns_slice ho
    rw [HLN.out] at k1
    clear o2 b2 ho hB2 T2 hY hZ
    go_wp2
    go_returns
    obtain ⟨v, x, f⟩ := HE.out
    refine ⟨rfl, v, ?_, HF1.out.then f⟩
    rw [HLE.out, HCM.out]
    exact x
  · have HCM : Hid (cutL M = M) := by show cutL _ = _; unfold cutL; rw [if_neg (by rw [HLN.out]; omega)]
    obtain ⟨D, hD⟩ : ∃ D, M = D := ⟨_, rfl⟩
    obtain ⟨bo, hbo⟩ : ∃ b, ao = b := ⟨_, rfl⟩
    obtain ⟨bn, hbn⟩ : ∃ b, n = b := ⟨_, rfl⟩
    obtain ⟨bc, hbc⟩ : ∃ b, cap = b := ⟨_, rfl⟩
    have hl2 := HLI.out
    subst hbo; subst hbn; subst hbc; subst hD
    have HDL : Hid (n ≤ 1000) := by show _ ≤ _; have := HML.out; rw [HLN.out] at this; omega
    have HL2 := hide hl2
    clear hl2
    obtain ⟨Y, hY⟩ : ∃ Y, w1.alloc (.cells #[.int .u64 p, .int .i64 m, .int .i64 a] 54) = Y := ⟨_, rfl⟩
    obtain ⟨Z, hZ⟩ : ∃ Z, Y.alloc (.cells #[.slice ao n cap, .slice (some ⟨w1.heap.size, 0, none⟩) 1 1] 49) = Z := ⟨_, rfl⟩
    have HPA := hide (learn_parts p m a HL2.out hY hZ)
    have HBZ := hide (below_one (hY ▸ below_alloc w1 _ : Below w1.heap.size w1 Y) (hZ ▸ below_alloc Y _))
    go_wp2_with fail
    refine (concat_anyV _ 2 _ _ rfl (by omega) HPA.out (by have := HDL.out; show sumN [_, _] 2 ≤ _; simp [sumN]; omega)).mono ?_; rintro e w2 ⟨v2, rfl, o2, b2⟩
    have hB2 := below_one HBZ.out b2
    have T2 := HT1.out.grow hB2
    have k1 := T2.c1
    have kz := T2.z 1
    have ho : w2.ownsRow Z.heap.size 54 3 v2 (n + 1) (cellsV (M ++ [⟨p, m, a⟩])) := by
      rw [cellsV_append]
      have e1 : sumN [⟨ao, n, cap, cellsV M⟩, ⟨some ⟨w1.heap.size, 0, none⟩, 1, 1, cellsV [⟨p, m, a⟩]⟩] 2 = n + 1 := by simp [sumN]
      have e2 : flatV [⟨ao, n, cap, cellsV M⟩, ⟨some ⟨w1.heap.size, 0, none⟩, 1, 1, cellsV [⟨p, m, a⟩]⟩] 2 = cellsV M ++ cellsV [⟨p, m, a⟩] := by simp [flatV]
      rw [← e1, ← e2]; exact o2
    have HE := hide (HT1.out.put_end ho (Nat.le_trans HT1.out.size HBZ.out.size) hB2)
    obtain ⟨co, cc, rfl⟩ := owns_slice ho
    rw [HLN.out] at k1
    clear o2 b2 ho hB2 T2 hY hZ
    go_wp2
    go_returns
    obtain ⟨v, x, f⟩ := HE.out
    refine ⟨rfl, v, ?_, HF1.out.then f⟩
    rw [HLE.out, HCM.out]
    exact x
end Go.Proofs.Ytlpjaklhmnbpeaa
