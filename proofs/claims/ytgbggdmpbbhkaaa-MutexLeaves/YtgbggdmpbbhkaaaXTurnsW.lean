/-
  The walk of MutexTurns.
-/
import Derived.Test.YtgbggdmpbbhkaaaXSeq
namespace Go.Proofs.Ytgbggdmpbbhkaaa
open Go.RowKit
def LockRel (w : World) (g : Nat) (s : Int) (n gk : Nat) (vi : Value) (wr : World) : Prop := ∃ (i : Nat) (ao : Option Addr) (c : Nat), i + gk = n ∧ vi = .int .i64 (i : Int) ∧ Mx wr g (stepL s i) ao c ∧ Below w.heap.size w wr
def TurnRel (w : World) (g k gk : Nat) (vi : Value) (wr : World) : Prop := ∃ (i : Nat) (ao : Option Addr) (c : Nat), i + gk = k ∧ vi = .int .i64 (i : Int) ∧ Mx wr g ((stepL 3 k).drop i) ao c ∧ Below w.heap.size w wr
set_option maxRecDepth 20000 in
set_option maxHeartbeats 1600000 in
theorem walk_turns (q : Nat) (w : World) (hq : q ≤ 255) :
    Calls Try.prog 3 #[.int .u8 (q : Int)] w fun e w' => e = .returned (.bool true) ∧ Below w.heap.size w w' := by
  obtain ⟨k, hk⟩ : ∃ k, q % 65 = k := ⟨_, rfl⟩
  have hk1 : (q : Int) % 65 = (k : Int) := by omega
  have hk2 : k < 65 := by omega
  clear hk
  go_enter Try.func3, Try.ntmps3
  go_wp2_with fail
  refine (awake_any _).mono ?_; rintro e w1 ⟨rfl, b1⟩
  have HB1 := hide (below_one b1 (below_alloc w1 (.cells #[.slice none 0 0] 26)))
  have HG := hide b1.size
  have H1 := hide (mx_new w1)
  clear b1
  go_wp2_with fail
  obtain ⟨g, hg⟩ : ∃ g, w1.heap.size = g := ⟨_, rfl⟩
  rw [hg] at HG H1
  simp only [hg, hk1]
  clear hg
  go_loopg [5] k (fun gk vi wr => LockRel w g 3 k gk vi wr)
  case atStart => exact ⟨0, none, 0, by omega, rfl, H1.out, HB1.out⟩
  case round =>
    clear H1 HB1
    obtain ⟨i, ao, c, hi, rfl, t1, b1⟩ := hrel
    have H1 := hide t1
    have HB := hide b1
    have HI := hide hi
    clear t1 b1
    cases gk with
    | succ g1 =>
      have hlt : (i : Int) < (k : Int) := by omega
      have HLE := hide (stepL_lock 3 i (by decide) (by omega))
      have HLP := hide (stepL_put 3 i (by decide) (by omega))
      have HLN := hide (stepL_len 3 i)
      clear hi
      go_wp2_with fail
      refine (lock_any (3 * (i : Int)) _ H1.out (by rw [HLN.out]; have := HI.out; omega)).mono ?_; rintro e w2 ⟨rfl, h2⟩
      obtain ⟨a2, c2, x2, b2⟩ := MxEnd.below h2 HB.out HG.out
      rw [HLP.out] at x2
      rw [HLE.out, HLN.out, erN_zero]
      have H2 := hide x2
      have HB2 := hide b2
      clear h2 x2 b2
      by_cases hz : i = 0
      · subst hz
        go_wp2
        go_roundg g1
        case measure => omega
        case rel => exact ⟨1, a2, c2, by have := HI.out; omega, by go_num, H2.out, HB2.out⟩
      · have hz2 : ¬ ((i : Int) = 0) := by omega
        rw [decide_eq_false (fun e => hz e.2)]
        go_wp2
        go_roundg g1
        case measure => omega
        case rel => exact ⟨i + 1, a2, c2, by have := HI.out; omega, by go_num, H2.out, HB2.out⟩
    | zero =>
      obtain rfl : i = k := by omega
      have hlt : ¬ ((i : Int) < (i : Int)) := by omega
      clear hi
      go_wp2_with fail
      go_loopg [8] i (fun gk vi wr => TurnRel w g i gk vi wr)
      case atStart => exact ⟨0, ao, c, by omega, rfl, H1.out, HB.out⟩
      case round =>
        rename World => wq
        clear H1 HB
        obtain ⟨j, a3, c3, hj, rfl, t3, b3⟩ := hrel
        have H3 := hide t3
        have HB3 := hide b3
        have HJ := hide hj
        have HR := hide (stepL_row 3 i (by decide) (by omega))
        have HLN := hide (stepL_len 3 i)
        clear t3 b3
        cases gk with
        | succ g2 =>
          have hlt2 : (j : Int) < (i : Int) := by omega
          have hji : j < i := by omega
          have HH : Hid (holdF ((stepL 3 i).drop j) = 3 * (j : Int)) := by show _ = _; rw [drop_hold _ _ (by rw [HLN.out]; omega), stepL_get 3 i j (by omega)]
          have HFE : Hid (freeE ((stepL 3 i).drop j) (3 * (j : Int)) = 0) := by
            have := drop_free HR.out j (by rw [HLN.out]; omega)
            rw [stepL_get 3 i j (by omega)] at this; exact this
          have HFL : Hid (freeL ((stepL 3 i).drop j) (3 * (j : Int)) = (stepL 3 i).drop (j + 1)) := by
            have := drop_next HR.out j (by rw [HLN.out]; omega)
            rw [stepL_get 3 i j (by omega)] at this; exact this
          have HWL : Hid (((stepL 3 i).drop j).drop 1 = (stepL 3 i).drop (j + 1)) := by show _ = _; rw [List.drop_drop]
          obtain ⟨M, hM⟩ : ∃ M, (stepL 3 i).drop j = M := ⟨_, rfl⟩
          have HRM := hide (drop_row HR.out j)
          obtain ⟨N, hN⟩ : ∃ N, (stepL 3 i).drop (j + 1) = N := ⟨_, rfl⟩
          have HNL : Hid (N.length = i - j - 1) := by show _ = _; rw [← hN, List.length_drop, HLN.out]; omega
          have HNE := hide hN
          rw [hM] at H3 HH HFE HFL HWL HRM
          rw [hN] at HFL HWL
          clear hM hN hj
          go_wp2_with fail
          refine (hold_any _ H3.out).mono ?_; rintro e w4 ⟨rfl, rfl⟩
          rw [HH.out]
          go_wp2_with fail
          refine (wait_any _ H3.out HRM.out.few).mono ?_; rintro e w5 ⟨a5, c5, rfl, _, b5, _⟩
          have x5 := H3.out.grow b5
          have HB5 := hide (below_one HB3.out b5)
          have H5 := hide x5
          rw [HWL.out, HNL.out]
          have hs1 : ((i - j - 1 : Nat) : Int) = (i : Int) - (j : Int) - 1 := by omega
          have hs2 : IntKind.i64.wrap ((i : Int) - (j : Int)) = (i : Int) - (j : Int) := by rw [IntKind.wrap_i64]; omega
          have hs3 : IntKind.i64.wrap ((i : Int) - (j : Int) - 1) = (i : Int) - (j : Int) - 1 := by rw [IntKind.wrap_i64]; omega
          clear b5 x5
          go_wp2_with fail
          refine (free_any (3 * (j : Int)) _ H5.out HRM.out).mono ?_; rintro e w6 ⟨rfl, h6⟩
          obtain ⟨a6, c6, x6, b6⟩ := MxEnd.below h6 HB5.out HG.out
          rw [HFL.out] at x6
          rw [HFE.out, erN_zero]
          have H6 := hide x6
          have HB6 := hide b6
          clear h6 x6 b6
          go_wp2
          go_roundg g2
          case measure => omega
          case rel => exact ⟨j + 1, a6, c6, by have := HJ.out; omega, by go_num, by rw [HNE.out]; exact H6.out, HB6.out⟩
        | zero =>
          obtain rfl : j = i := by omega
          have hlt2 : ¬ ((j : Int) < (j : Int)) := by omega
          have HM : Hid ((stepL 3 j).drop j = []) := List.drop_eq_nil_of_le (by rw [HLN.out]; exact Nat.le_refl _)
          rw [HM.out] at H3
          clear hj
          go_wp2_with fail
          refine (hold_any _ H3.out).mono ?_; rintro e w4 ⟨rfl, rfl⟩
          rw [holdF_nil]
          go_wp2
          go_ret
          exact ⟨rfl, HB3.out⟩
end Go.Proofs.Ytgbggdmpbbhkaaa
