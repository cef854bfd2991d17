/-
  The walk of MutexState.
-/
import Derived.Test.YtgbggdmpbbhkaaaDoorXSeq
import Derived.Test.YtgbggdmpbbhkaaaDoorQNum
namespace Go.Proofs.YtgbggdmpbbhkaaaDoor
open Go.RowKit
def LockRel (w : World) (g : Nat) (s : Int) (n gk : Nat) (vi : Value) (wr : World) : Prop := ∃ (i : Nat) (ao : Option Addr) (c : Nat), i + gk = n ∧ vi = .int .i64 (i : Int) ∧ Mx wr g (stepL s i) ao c ∧ Below w.heap.size w wr
theorem step_mem (k r : Nat) : (r : Int) ∈ stepL 1 k ↔ r < k := by
  unfold stepL
  rw [List.mem_map]
  constructor
  · rintro ⟨j, hj, e⟩
    have := List.mem_range.1 hj
    omega
  · intro h
    exact ⟨r, List.mem_range.2 h, by omega⟩
theorem step_hold (k : Nat) (h : 0 < k) : holdF (stepL 1 k) = 0 := by
  have := drop_hold (stepL 1 k) 0 (by rw [stepL_len]; exact h)
  rw [List.drop_zero, stepL_get 1 k 0 h] at this
  rw [this]; rfl
theorem step_next (k : Nat) (h : 1 < k) : holdF ((stepL 1 k).drop 1) = 1 := by
  rw [drop_hold (stepL 1 k) 1 (by rw [stepL_len]; exact h), stepL_get 1 k 1 h]; rfl
theorem step_none : holdF ((stepL 1 1).drop 1) = -1 := rfl
set_option maxRecDepth 20000 in
set_option maxHeartbeats 1600000 in
theorem walk_state (q p : Nat) (w : World) (hq : q ≤ 255) (hp : p ≤ 255) (hgl : Glob w) :
    Calls Tryd.prog 4 #[.int .u8 (q : Int), .int .u8 (p : Int)] w fun e w' => e = .returned (.bool true) ∧ Below w.heap.size w w' := by
  obtain ⟨s, hs⟩ : ∃ s, q % 20 = s := ⟨_, rfl⟩
  have hs1 : (q : Int) % 20 = (s : Int) := by omega
  have hs2 : s < 20 := by omega
  obtain ⟨k, hk⟩ : ∃ k, 1 + s = k := ⟨_, rfl⟩
  have hk1 : 1 + (s : Int) = (k : Int) := by omega
  have hk0 : 0 < k := by omega
  have hk2 : k ≤ 20 := by omega
  obtain ⟨r, hr⟩ : ∃ r, p % (k + 3) = r := ⟨_, rfl⟩
  have hri : r < k + 3 := by rw [← hr]; exact Nat.mod_lt _ (by omega)
  have hr1 : (p : Int).tmod ((k : Int) + 3) = (r : Int) := by rw [← hr, Int.tmod_eq_emod_of_nonneg (by omega)]; exact (Int.natCast_emod p (k + 3)).symm
  have hr2 : (p : Int) % ((k : Int) + 3) = (r : Int) := by rw [← hr]; exact (Int.natCast_emod p (k + 3)).symm
  have hi0 : ¬ ((k : Int) + 3 = 0) := by omega
  have HGL := hide hgl
  clear hs hk hr hgl
  go_enter Tryd.func4, Tryd.ntmps4
  go_wp2_with fail
  refine (awake_any _).mono ?_; rintro e w1 ⟨rfl, b1⟩
  have HB1 := hide (below_one b1 (below_alloc w1 (.cells #[.slice none 0 0] 27)))
  have HG := hide b1.size
  have H1 := hide (mx_new w1)
  clear b1
  go_wp2_with fail
  obtain ⟨g, hg⟩ : ∃ g, w1.heap.size = g := ⟨_, rfl⟩
  rw [hg] at HG H1
  simp only [hg, hs1]
  clear hg
  go_loopg [7] k (fun gk vi wr => LockRel w g 1 k gk vi wr)
  case atStart => exact ⟨0, none, 0, by omega, rfl, H1.out, HB1.out⟩
  case round =>
    clear H1 HB1
    obtain ⟨i, ao, c, hi, rfl, t1, b1⟩ := hrel
    have H1 := hide t1
    have HB := hide b1
    have HI := hide hi
    clear t1 b1
    cases gk with
    | succ g1 =>
      have hlt : (i : Int) < (k : Int) := by omega
      have HLP : Hid (lockL (stepL 1 i) (i : Int) = stepL 1 (i + 1)) := by
        have := stepL_put 1 i (by decide) (by omega)
        rw [Int.one_mul] at this; exact this
      have HLN := hide (stepL_len 1 i)
      clear hi
      go_wp2_with fail
      refine (lock_any (i : Int) _ H1.out (by rw [HLN.out]; have := HI.out; omega)).mono ?_; rintro e w2 ⟨rfl, h2⟩
      obtain ⟨a2, c2, x2, b2⟩ := MxEnd.below h2 HB.out HG.out
      rw [HLP.out] at x2
      have H2 := hide x2
      have HB2 := hide b2
      clear h2 x2 b2
      go_wp2
      go_roundg g1
      case measure => omega
      case rel => exact ⟨i + 1, a2, c2, by have := HI.out; omega, by go_num, H2.out, HB2.out⟩
    | zero =>
      obtain rfl : i = k := by omega
      have hlt : ¬ ((i : Int) < (i : Int)) := by omega
      have HROW := hide (stepL_row 1 i (by decide) (by omega))
      have HLN := hide (stepL_len 1 i)
      have HMEM := hide (step_mem i r)
      have HHOLD := hide (step_hold i hk0)
      have HNEXT := hide (step_next i)
      obtain ⟨L, hL⟩ : ∃ L, stepL 1 i = L := ⟨_, rfl⟩
      have HL := hide hL
      rw [hL] at H1 HROW HLN HMEM HHOLD HNEXT
      clear hi hL
      by_cases hrk : r < i
      · have hrk2 : (r : Int) < (i : Int) := by omega
        have HE : Hid (lockE L (r : Int) = 15) := by show _ = _; unfold lockE; rw [if_neg (by omega), if_pos (HMEM.out.2 hrk)]
        have HLL : Hid (lockL L (r : Int) = L) := by show _ = _; unfold lockL; rw [HE.out, if_neg (by decide)]
        go_wp2_with fail
        refine (lock_any (r : Int) _ H1.out HROW.out.few).mono ?_; rintro e w2 ⟨rfl, h2⟩
        obtain ⟨a2, c2, x2, b2⟩ := MxEnd.below h2 HB.out HG.out
        rw [HLL.out] at x2
        rw [HE.out]
        have H2 := hide x2
        have HB2 := hide b2
        obtain ⟨E15, hE15⟩ : ∃ E, erN 15 = E := ⟨_, rfl⟩
        have HE15 := hide hE15
        rw [hE15, decide_eq_false (fun e => by cases e.1)]
        clear h2 x2 b2 hE15
        by_cases hr0 : r = 0
        · subst hr0
          have HF : Hid (freeE L ((0 : Nat) : Int) = 0) := by show _ = _; unfold freeE; rw [HHOLD.out]; rfl
          by_cases hk3 : i = 1
          · subst hk3
            have HX : Hid (freeX L ((0 : Nat) : Int) = -1) := by show _ = _; unfold freeX; rw [if_pos HF.out, ← HL.out]; rfl
            go_wp2_with fail
            refine (free_any ((0 : Nat) : Int) _ H2.out HROW.out).mono ?_; rintro e w3 ⟨rfl, h3⟩
            obtain ⟨a3, c3, _, b3⟩ := MxEnd.below h3 HB2.out HG.out
            rw [HF.out, HX.out, erN_zero]
            have HB3 := hide b3
            have HG3 := hide (HGL.out.carry b3)
            clear h3 b3
            go_wp2_with fail
            rw [← HE15.out]
            refine (number_any 15 _ HG3.out).mono ?_; rintro e w4 ⟨rfl, b4⟩
            have HB4 := hide (below_one HB3.out b4)
            clear b4
            go_wp2
            go_ret
            exact ⟨rfl, HB4.out⟩
          · have hk4 : 1 < i := by omega
            have hk5 : (1 : Int) < (i : Int) := by omega
            have hk6 : ¬ ((i : Int) = 1) := by omega
            have HX : Hid (freeX L ((0 : Nat) : Int) = 1) := by show _ = _; unfold freeX; rw [if_pos HF.out]; exact HNEXT.out hk4
            go_wp2_with fail
            refine (free_any ((0 : Nat) : Int) _ H2.out HROW.out).mono ?_; rintro e w3 ⟨rfl, h3⟩
            obtain ⟨a3, c3, _, b3⟩ := MxEnd.below h3 HB2.out HG.out
            rw [HF.out, HX.out, erN_zero]
            have HB3 := hide b3
            have HG3 := hide (HGL.out.carry b3)
            clear h3 b3
            go_wp2_with fail
            rw [← HE15.out]
            refine (number_any 15 _ HG3.out).mono ?_; rintro e w4 ⟨rfl, b4⟩
            have HB4 := hide (below_one HB3.out b4)
            clear b4
            go_wp2
            go_ret
            exact ⟨rfl, HB4.out⟩
        · have hr3 : ¬ ((r : Int) = 0) := by omega
          have hr4 : (0 : Int) < (r : Int) := by omega
          have HF : Hid (freeE L (r : Int) = 15) := by show _ = _; unfold freeE; rw [HHOLD.out, if_pos (.inr (by omega))]
          have HX : Hid (freeX L (r : Int) = -1) := by show _ = _; unfold freeX; rw [HF.out, if_neg (by decide)]
          go_wp2_with fail
          refine (free_any (r : Int) _ H2.out HROW.out).mono ?_; rintro e w3 ⟨rfl, h3⟩
          obtain ⟨a3, c3, _, b3⟩ := MxEnd.below h3 HB2.out HG.out
          rw [HF.out, HX.out, HE15.out]
          have HB3 := hide b3
          have HG3 := hide (HGL.out.carry b3)
          clear h3 b3
          go_wp2_with fail
          rw [← HE15.out]
          refine (number_any 15 _ HG3.out).mono ?_; rintro e w4 ⟨rfl, b4⟩
          have HB4 := hide (below_one HB3.out b4)
          have HG4 := hide (HGL.out.carry HB4.out)
          clear b4
          rw [HE15.out]
          go_wp2_with fail
          rw [← HE15.out]
          refine (number_any 15 _ HG4.out).mono ?_; rintro e w5 ⟨rfl, b5⟩
          have HB5 := hide (below_one HB4.out b5)
          clear b5
          go_wp2
          go_ret
          exact ⟨rfl, HB5.out⟩
      · have hrk2 : ¬ ((r : Int) < (i : Int)) := by omega
        have hnm : (r : Int) ∉ L := fun h => hrk (HMEM.out.1 h)
        have HE : Hid (lockE L (r : Int) = 0) := lockE_zero (by omega) hnm (by rw [HLN.out]; omega)
        have HLL : Hid (lockL L (r : Int) = L ++ [(r : Int)]) := by show _ = _; unfold lockL; rw [HE.out, if_pos rfl]
        have HROW2 := hide (HROW.out.locked (r : Int))
        have HH2 : Hid (holdF (L ++ [(r : Int)]) = 0) := by
          show _ = _
          rw [holdF_get _ (by simp), List.getD_eq_getElem?_getD, List.getElem?_append_left (by rw [HLN.out]; exact hk0), ← List.getD_eq_getElem?_getD, ← holdF_get L (by rw [HLN.out]; exact hk0)]
          exact HHOLD.out
        have HWL : Hid (((L ++ [(r : Int)]).drop 1).length = i) := by show _ = _; rw [List.length_drop, List.length_append, HLN.out]; simp
        rw [HLL.out] at HROW2
        go_wp2_with fail
        refine (lock_any (r : Int) _ H1.out HROW.out.few).mono ?_; rintro e w2 ⟨rfl, h2⟩
        obtain ⟨a2, c2, x2, b2⟩ := MxEnd.below h2 HB.out HG.out
        rw [HLL.out] at x2
        rw [HE.out, erN_zero, decide_eq_false (fun e => by have := e.2; rw [HLN.out] at this; omega)]
        obtain ⟨M, hM⟩ : ∃ M, L ++ [(r : Int)] = M := ⟨_, rfl⟩
        rw [hM] at HROW2 HH2 HWL x2
        have H2 := hide x2
        have HB2 := hide b2
        clear h2 x2 b2 hnm hM
        have HF : Hid (freeE M (r : Int) = 15) := by show _ = _; unfold freeE; rw [HH2.out, if_pos (.inr (by omega))]
        have HX : Hid (freeX M (r : Int) = -1) := by show _ = _; unfold freeX; rw [HF.out, if_neg (by decide)]
        have HFL : Hid (freeL M (r : Int) = M) := by show _ = _; unfold freeL; rw [HF.out, if_neg (by decide)]
        go_wp2_with fail
        refine (free_any (r : Int) _ H2.out HROW2.out).mono ?_; rintro e w3 ⟨rfl, h3⟩
        obtain ⟨a3, c3, x3, b3⟩ := MxEnd.below h3 HB2.out HG.out
        rw [HFL.out] at x3
        obtain ⟨E15, hE15⟩ : ∃ E, erN 15 = E := ⟨_, rfl⟩
        have HE15 := hide hE15
        rw [HF.out, HX.out, hE15]
        have H3 := hide x3
        have HB3 := hide b3
        have HG3 := hide (HGL.out.carry b3)
        clear h3 x3 b3 hE15
        go_wp2_with fail
        rw [← HE15.out]
        refine (number_any 15 _ HG3.out).mono ?_; rintro e w4 ⟨rfl, b4⟩
        have H4 := hide (H3.out.grow b4)
        have HB4 := hide (below_one HB3.out b4)
        clear b4
        go_wp2_with fail
        refine (wait_any _ H4.out HROW2.out.few).mono ?_; rintro e w5 ⟨a5, c5, rfl, _, b5, _⟩
        rw [HWL.out]
        have HB5 := hide (below_one HB4.out b5)
        clear b5
        go_wp2
        go_ret
        exact ⟨rfl, HB5.out⟩
end Go.Proofs.YtgbggdmpbbhkaaaDoor
