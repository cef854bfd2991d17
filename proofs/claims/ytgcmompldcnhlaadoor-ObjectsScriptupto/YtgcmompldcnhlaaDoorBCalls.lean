/-
  What each call of package bits answers, as contracts: Cut, Add, Mul, Turn, Mix, and the turn of the statements' own text; what became of the world.
-/
import Derived.Test.YtgcmompldcnhlaaDoorRows
import Derived.Test.YtgcmompldcnhlaaDoorBMath
import Derived.WalkKit
import Derived.WalkSpells
import Derived.WalkLawsBesides
import Derived.Deep.QuietTactic
import Derived.BigQuiet
namespace Go.Proofs.YtgcmompldcnhlaaDoor
open Go.RowKit

theorem ret_int {k : IntKind} {a b : Int} (h : a = b) : Ending.returned (.int k a) = .returned (.int k b) := by rw [h]

set_option maxHeartbeats 400000 in
theorem cut_any (a : Int) (w : World) (h0 : 0 ≤ a) (h1 : a < 18446744073709551616) :
    Calls Tryd.prog 25 #[.int .u64 a] w fun e w' => e = .returned (.int .u64 (cutF a)) ∧ w' = w := by
  go_enter Tryd.func25, Tryd.ntmps25
  go_wp2
  go_ret
  exact ⟨ret_int (and_word a h0 h1), rfl⟩

set_option maxHeartbeats 400000 in
theorem add_any (a b : Int) (w : World) :
    Calls Tryd.prog 58 #[.int .u64 a, .int .u64 b] w fun e w' => e = .returned (.int .u64 (addF a b)) ∧ w' = w := by
  have hl := wrap_lo (a + b); have hh := wrap_hi (a + b)
  go_enter Tryd.func58, Tryd.ntmps58
  go_wp2_with fail
  refine (cut_any _ _ hl hh).mono ?_; rintro e w' ⟨rfl, rfl⟩
  go_wp2
  go_ret
  exact ⟨ret_int (cut_wrap _), rfl⟩

set_option maxHeartbeats 400000 in
theorem mul_any (a b : Int) (w : World) :
    Calls Tryd.prog 59 #[.int .u64 a, .int .u64 b] w fun e w' => e = .returned (.int .u64 (mulF a b)) ∧ w' = w := by
  have hl := wrap_lo (a * b); have hh := wrap_hi (a * b)
  go_enter Tryd.func59, Tryd.ntmps59
  go_wp2_with fail
  refine (cut_any _ _ hl hh).mono ?_; rintro e w' ⟨rfl, rfl⟩
  go_wp2
  go_ret
  exact ⟨ret_int (cut_wrap _), rfl⟩

theorem tmod_48 (n : Int) : (0 ≤ n.tmod 48 ∧ n.tmod 48 = n % 48) ∨ (n.tmod 48 < 0 ∧ -48 < n.tmod 48 ∧ n.tmod 48 + 48 = n % 48) := by
  have e : n.tmod 48 = n % 48 - ((if 0 ≤ n ∨ (48 : Int) ∣ n then 0 else Int.natAbs 48 : Nat) : Int) := Int.tmod_eq_emod
  by_cases h : 0 ≤ n ∨ (48 : Int) ∣ n
  · rw [if_pos h] at e; omega
  · rw [if_neg h] at e
    have : ¬ n % 48 = 0 := fun h0 => h (Or.inr (Int.dvd_of_emod_eq_zero h0))
    have : ((Int.natAbs 48 : Nat) : Int) = 48 := rfl
    omega
theorem tmod_lo (n : Int) : -48 < n.tmod 48 := by have := tmod_48 n; omega
theorem tmod_hi (n : Int) : n.tmod 48 < 48 := by have := tmod_48 n; omega
theorem tmod_neg (n : Int) (h : n.tmod 48 < 0) : n.tmod 48 + 48 = n % 48 := by have := tmod_48 n; omega
theorem tmod_pos (n : Int) (h : ¬ n.tmod 48 < 0) : n.tmod 48 = n % 48 := by have := tmod_48 n; omega

set_option maxHeartbeats 400000 in
theorem turn_any (a n : Int) (w : World) (h0 : 0 ≤ a) (h1 : a < 18446744073709551616) :
    Calls Tryd.prog 57 #[.int .u64 a, .int .i64 n] w fun e w' => e = .returned (.int .u64 (turnF a n)) ∧ ∃ k, w' = w.drewN k := by
  have t1 := tmod_lo n
  have t2 := tmod_hi n
  by_cases hn : n.tmod 48 < 0
  · have hb := turn_or_bounds a (n.tmod 48 + 48)
    have hl := hb.1
    have hh := hb.2
    clear hb
    have HE := turn_reckoned a n (n.tmod 48 + 48) (tmod_neg n hn)
    have H : Hid _ := HE
    clear HE
    go_enter Tryd.func57, Tryd.ntmps57
    go_wp2_with fail
    refine (cut_any _ _ h0 h1).mono ?_; rintro e w' ⟨rfl, rfl⟩
    go_wp2
    go_quiet ((go_at_call 25; exact Calls.quiet_of_same (cut_any _ _ hl hh)))
    go_wp2
    go_ret
    exact ⟨ret_int H.out, _, rfl⟩
  · have hb := turn_or_bounds a (n.tmod 48)
    have hl := hb.1
    have hh := hb.2
    clear hb
    have HE := turn_reckoned a n (n.tmod 48) (tmod_pos n hn)
    have H : Hid _ := HE
    clear HE
    go_enter Tryd.func57, Tryd.ntmps57
    go_wp2_with fail
    refine (cut_any _ _ h0 h1).mono ?_; rintro e w' ⟨rfl, rfl⟩
    go_wp2
    go_quiet ((go_at_call 25; exact Calls.quiet_of_same (cut_any _ _ hl hh)))
    go_wp2
    go_ret
    exact ⟨ret_int H.out, _, rfl⟩

theorem spin_step (x : Nat) (hx : x < 281474976710656) : IntKind.u64.wrap (bits .and .u64 ((x : Int) * 2) 281474976710655 + (x : Int) / 140737488355328) = ((rot1 x : Nat) : Int) := by
  rw [and_word _ (by omega) (by omega), IntKind.wrap_u64]; unfold cutF rot1
  rw [show (x : Int) * 2 = ((x * 2 : Nat) : Int) from by omega]; generalize hy : x * 2 = y; omega

set_option maxHeartbeats 400000 in
theorem mix_any (a b : Int) (w : World) (h0 : 0 ≤ a) (h1 : a < 18446744073709551616) (hb0 : 0 ≤ b) (hb1 : b < 18446744073709551616) :
    Calls Tryd.prog 50 #[.int .u64 a, .int .u64 b] w fun e w' => e = .returned (.int .u64 (mixF a b)) ∧ ∃ k, w' = w.drewN k := by
  have H : Hid _ := first_reckoned a b
  go_enter Tryd.func50, Tryd.ntmps50
  go_wp2_with fail
  refine (cut_any _ _ h0 h1).mono ?_; rintro e w' ⟨rfl, rfl⟩
  go_wp2_with fail
  refine (turn_any _ _ _ hb0 hb1).mono ?_; rintro e w1 ⟨rfl, j, rfl⟩
  go_wp2_with fail
  go_loopw [5, 6] (fun x i wr => ∃ k : Nat, k ≤ 3 ∧ i = .int .i64 ((k : Int) + 1) ∧ x = .int .u64 (roundsF k (xorF (cutF a) (turnF b 17))) ∧ ∃ q, wr = w'.drewN q) (fun _ i _ => 4 - (intOf i).toNat)
  case atStart => exact ⟨0, by omega, rfl, by rw [H.out]; rfl, j, rfl⟩
  case round =>
    obtain ⟨k, hk, rfl, rfl, q, rfl⟩ := hrel
    have hx0 := roundsF_lo k (xorF (cutF a) (turnF b 17)) (xorF_lo _ _)
    have hx1 := roundsF_hi k (xorF (cutF a) (turnF b 17)) (first_hi a b)
    have HX : Hid _ := round_reckoned ((k : Int) + 1) (roundsF k (xorF (cutF a) (turnF b 17)))
    by_cases hk3 : k < 3
    · go_wp2_with fail
      refine (mul_any _ _ _).mono ?_; rintro e w2 ⟨rfl, rfl⟩
      go_wp2_with fail
      refine (turn_any _ _ _ hx0 (by omega)).mono ?_; rintro e w3 ⟨rfl, j3, rfl⟩
      go_wp2_with fail
      refine (add_any _ _ _).mono ?_; rintro e w4 ⟨rfl, rfl⟩
      go_wp2
      go_roundw
      case rel => exact ⟨k + 1, by omega, by go_num, by rw [HX.out]; rfl, _, rfl⟩
      case measure => simp [intOf]; omega
    · go_wp2
      go_ret
      have e : k = 3 := by omega
      subst e
      exact ⟨rfl, _, rfl⟩
end Go.Proofs.YtgcmompldcnhlaaDoor
