/-
  What the calls that take one capability and make no bytes answer, as contracts: Make, May; what became of the world.
-/
import Derived.Test.YtmgbcnlnikchbaaDoorRows
import Derived.Test.YtmgbcnlnikchbaaDoorPut
import Derived.WalkKit
import Derived.WalkSpells
import Derived.WalkLawsBesides
import Derived.Deep.QuietTactic
import Derived.BigQuiet
import Derived.Laws.StructEq
import Derived.Handy
namespace Go.Proofs.YtmgbcnlnikchbaaDoor
open Go.RowKit
theorem and48 (a : Nat) (h : a ≤ 18446744073709551615) : bits .and .u64 (a : Int) 281474976710655 = ((a % 281474976710656 : Nat) : Int) := by
  have := u64_and_nat a 281474976710655 (by omega) (by omega)
  rw [show (281474976710655 : Int) = ((281474976710655 : Nat) : Int) from rfl, this, show (281474976710655 : Nat) = 2 ^ 48 - 1 from by decide, Nat.and_two_pow_sub_one_eq_mod]
theorem and24 (a : Nat) (h : a ≤ 4294967295) : bits .and .u32 (a : Int) 16777215 = ((a % 16777216 : Nat) : Int) := by
  have := u32_and_nat a 16777215 (by omega) (by omega)
  rw [show (16777215 : Int) = ((16777215 : Nat) : Int) from rfl, this, show (16777215 : Nat) = 2 ^ 24 - 1 from by decide, Nat.and_two_pow_sub_one_eq_mod]
theorem eqGuard26 : Tryd.prog.eqGuardType Tryd.prog.depth 26 = false := by kernel_rfl
theorem eql_cap (p o r c p' o' r' c' : Int) (w : World) : (binOp .eql 26 (.agg #[.int .u64 p, .int .u32 o, .int .u8 r, .int .u64 c]) (.agg #[.int .u64 p', .int .u32 o', .int .u8 r', .int .u64 c'])).run Tryd.prog w = .ok (.bool (decide (p = p' ∧ o = o' ∧ r = r' ∧ c = c'))) w := by
  have hS : Tryd.prog.underlying 26 = some (.struct (Tryd.prog.fieldsOf 26)) := by kernel_rfl
  have hp : Tryd.prog.stoodInHeld 26 = false := by kernel_rfl
  rw [run_eql_struct, show (10000 : Nat) = 9999 + 1 from rfl, run_equalIn_agg w 9999 26 _ _ hS hp]
  simp only [Program.fieldsOf, Tryd.underlying26]
  have u1 := Tryd.underlying22
  have u2 := Tryd.underlying23
  have u3 := Tryd.underlying5
  go_simp
  by_cases h1 : p = p' <;> by_cases h2 : o = o' <;> by_cases h3 : r = r' <;> by_cases h4 : c = c' <;> simp [h1, h2, h3, h4]
theorem neq_cap (p o r c p' o' r' c' : Int) (w : World) : (binOp .neq 26 (.agg #[.int .u64 p, .int .u32 o, .int .u8 r, .int .u64 c]) (.agg #[.int .u64 p', .int .u32 o', .int .u8 r', .int .u64 c'])).run Tryd.prog w = .ok (.bool (!decide (p = p' ∧ o = o' ∧ r = r' ∧ c = c'))) w := by
  have hS : Tryd.prog.underlying 26 = some (.struct (Tryd.prog.fieldsOf 26)) := by kernel_rfl
  have hp : Tryd.prog.stoodInHeld 26 = false := by kernel_rfl
  rw [run_neq_struct, show (10000 : Nat) = 9999 + 1 from rfl, run_equalIn_agg w 9999 26 _ _ hS hp]
  simp only [Program.fieldsOf, Tryd.underlying26]
  have u1 := Tryd.underlying22
  have u2 := Tryd.underlying23
  have u3 := Tryd.underlying5
  go_simp
  by_cases h1 : p = p' <;> by_cases h2 : o = o' <;> by_cases h3 : r = r' <;> by_cases h4 : c = c' <;> simp [h1, h2, h3, h4]
set_option maxHeartbeats 400000 in
theorem may_any (p o r c : Nat) (w : World) (hp : p ≤ 18446744073709551615) (ho : o ≤ 4294967295) (_hr : r ≤ 255) (hc : c ≤ 18446744073709551615) :
    Calls Tryd.prog 23 #[.agg #[.int .u64 p, .int .u32 o, .int .u8 r, .int .u64 c]] w fun e w' => e = .returned (.bool (decide (p ≤ 281474976710655 ∧ o ≤ 16777215 ∧ c ≤ 281474976710655))) ∧
      w' = w.alloc (.cells #[.int .u64 p, .int .u32 o, .int .u8 r, .int .u64 c] 26) := by
  by_cases h1 : p ≤ 281474976710655
  · by_cases h2 : c ≤ 281474976710655
    · by_cases h3 : o ≤ 16777215
      · rw [decide_eq_true (show p ≤ 281474976710655 ∧ o ≤ 16777215 ∧ c ≤ 281474976710655 from ⟨h1, h3, h2⟩)]
        go_enter Tryd.func23, Tryd.ntmps23
        go_wp2
        go_ret
        refine ⟨?_, rfl⟩
        rw [decide_eq_true (show (o : Int) < 16777216 from by omega)]; rfl
      · rw [decide_eq_false (show ¬ (p ≤ 281474976710655 ∧ o ≤ 16777215 ∧ c ≤ 281474976710655) from by omega)]
        go_enter Tryd.func23, Tryd.ntmps23
        go_wp2
        go_ret
        refine ⟨?_, rfl⟩
        rw [decide_eq_false (show ¬ (o : Int) < 16777216 from by omega)]; rfl
    · rw [decide_eq_false (show ¬ (p ≤ 281474976710655 ∧ o ≤ 16777215 ∧ c ≤ 281474976710655) from by omega)]
      go_enter Tryd.func23, Tryd.ntmps23
      go_wp2
      go_ret
      exact ⟨rfl, rfl⟩
  · rw [decide_eq_false (show ¬ (p ≤ 281474976710655 ∧ o ≤ 16777215 ∧ c ≤ 281474976710655) from by omega)]
    go_enter Tryd.func23, Tryd.ntmps23
    go_wp2
    go_ret
    exact ⟨rfl, rfl⟩
/- may the capability be? -/
def mayD (p o c : Nat) : Bool := decide (p ≤ 281474976710655 ∧ o ≤ 16777215 ∧ c ≤ 281474976710655)
end Go.Proofs.YtmgbcnlnikchbaaDoor
