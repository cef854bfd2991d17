/-
  What the calls that take one capability and make no bytes answer, as contracts: Make, May, the statements' own may, Has, Owns; what became of the world.
-/
import Derived.Test.YtmbjgndajlomnaaRows
import Derived.Test.YtmbjgndajlomnaaPut
import Derived.WalkKit
import Derived.WalkSpells
import Derived.WalkLawsBesides
import Derived.Deep.QuietTactic
import Derived.BigQuiet
import Derived.Laws.StructEq
import Derived.Handy
import Derived.Deep.RegionHeld
namespace Go.Proofs.Ytmbjgndajlomnaa
open Go.RowKit
theorem and48 (a : Nat) (h : a ≤ 18446744073709551615) : bits .and .u64 (a : Int) 281474976710655 = ((a % 281474976710656 : Nat) : Int) := by
  have := u64_and_nat a 281474976710655 (by omega) (by omega)
  rw [show (281474976710655 : Int) = ((281474976710655 : Nat) : Int) from rfl, this, show (281474976710655 : Nat) = 2 ^ 48 - 1 from by decide, Nat.and_two_pow_sub_one_eq_mod]
theorem and24 (a : Nat) (h : a ≤ 4294967295) : bits .and .u32 (a : Int) 16777215 = ((a % 16777216 : Nat) : Int) := by
  have := u32_and_nat a 16777215 (by omega) (by omega)
  rw [show (16777215 : Int) = ((16777215 : Nat) : Int) from rfl, this, show (16777215 : Nat) = 2 ^ 24 - 1 from by decide, Nat.and_two_pow_sub_one_eq_mod]
theorem eqGuard25 : Try.prog.eqGuardType Try.prog.depth 25 = false := by kernel_rfl
theorem eql_cap (p o r c p' o' r' c' : Int) (w : World) : (binOp .eql 25 (.agg #[.int .u64 p, .int .u32 o, .int .u8 r, .int .u64 c]) (.agg #[.int .u64 p', .int .u32 o', .int .u8 r', .int .u64 c'])).run Try.prog w = .ok (.bool (decide (p = p' ∧ o = o' ∧ r = r' ∧ c = c'))) w := by
  have hS : Try.prog.underlying 25 = some (.struct (Try.prog.fieldsOf 25)) := by kernel_rfl
  have hp : Try.prog.stoodInHeld 25 = false := by kernel_rfl
  rw [run_eql_struct, show (10000 : Nat) = 9999 + 1 from rfl, run_equalIn_agg w 9999 25 _ _ hS hp]
  simp only [Program.fieldsOf, Try.underlying25]
  have u1 := Try.underlying22
  have u2 := Try.underlying23
  have u3 := Try.underlying5
  go_simp
  by_cases h1 : p = p' <;> by_cases h2 : o = o' <;> by_cases h3 : r = r' <;> by_cases h4 : c = c' <;> simp [h1, h2, h3, h4]
theorem neq_cap (p o r c p' o' r' c' : Int) (w : World) : (binOp .neq 25 (.agg #[.int .u64 p, .int .u32 o, .int .u8 r, .int .u64 c]) (.agg #[.int .u64 p', .int .u32 o', .int .u8 r', .int .u64 c'])).run Try.prog w = .ok (.bool (!decide (p = p' ∧ o = o' ∧ r = r' ∧ c = c'))) w := by
  have hS : Try.prog.underlying 25 = some (.struct (Try.prog.fieldsOf 25)) := by kernel_rfl
  have hp : Try.prog.stoodInHeld 25 = false := by kernel_rfl
  rw [run_neq_struct, show (10000 : Nat) = 9999 + 1 from rfl, run_equalIn_agg w 9999 25 _ _ hS hp]
  simp only [Program.fieldsOf, Try.underlying25]
  have u1 := Try.underlying22
  have u2 := Try.underlying23
  have u3 := Try.underlying5
  go_simp
  by_cases h1 : p = p' <;> by_cases h2 : o = o' <;> by_cases h3 : r = r' <;> by_cases h4 : c = c' <;> simp [h1, h2, h3, h4]
set_option maxHeartbeats 400000 in
theorem make_any (p o r c : Nat) (w : World) (hp : p ≤ 18446744073709551615) (ho : o ≤ 4294967295) (_hr : r ≤ 255) (hc : c ≤ 18446744073709551615) :
    Calls Try.prog 9 #[.agg #[.int .u64 p, .int .u32 o, .int .u8 r, .int .u64 c]] w fun e w' => e = .returned (.agg #[.int .u64 (p % 281474976710656 : Nat), .int .u32 (o % 16777216 : Nat), .int .u8 r, .int .u64 (c % 281474976710656 : Nat)]) ∧
      w' = (w.alloc (.cells #[.int .u64 p, .int .u32 o, .int .u8 r, .int .u64 c] 25)).alloc (.cells #[.int .u64 (p % 281474976710656 : Nat), .int .u32 (o % 16777216 : Nat), .int .u8 r, .int .u64 (c % 281474976710656 : Nat)] 25) := by
  have h1 := and48 p hp
  have h2 := and24 o ho
  have h3 := and48 c hc
  generalize p % 281474976710656 = p' at h1 ⊢
  generalize o % 16777216 = o' at h2 ⊢
  generalize c % 281474976710656 = c' at h3 ⊢
  go_enter Try.func9, Try.ntmps9
  go_wp2
  go_returns
  exact ⟨rfl, rfl⟩
set_option maxHeartbeats 400000 in
theorem may_any (p o r c : Nat) (w : World) (hp : p ≤ 18446744073709551615) (ho : o ≤ 4294967295) (_hr : r ≤ 255) (hc : c ≤ 18446744073709551615) :
    Calls Try.prog 10 #[.agg #[.int .u64 p, .int .u32 o, .int .u8 r, .int .u64 c]] w fun e w' => e = .returned (.bool (decide (p ≤ 281474976710655 ∧ o ≤ 16777215 ∧ c ≤ 281474976710655))) ∧
      w' = w.alloc (.cells #[.int .u64 p, .int .u32 o, .int .u8 r, .int .u64 c] 25) := by
  by_cases h1 : p ≤ 281474976710655
  · by_cases h2 : c ≤ 281474976710655
    · by_cases h3 : o ≤ 16777215
      · rw [decide_eq_true (show p ≤ 281474976710655 ∧ o ≤ 16777215 ∧ c ≤ 281474976710655 from ⟨h1, h3, h2⟩)]
        go_enter Try.func10, Try.ntmps10
        go_wp2
        go_ret
        refine ⟨?_, rfl⟩
        rw [decide_eq_true (show (o : Int) < 16777216 from by omega)]; rfl
      · rw [decide_eq_false (show ¬ (p ≤ 281474976710655 ∧ o ≤ 16777215 ∧ c ≤ 281474976710655) from by omega)]
        go_enter Try.func10, Try.ntmps10
        go_wp2
        go_ret
        refine ⟨?_, rfl⟩
        rw [decide_eq_false (show ¬ (o : Int) < 16777216 from by omega)]; rfl
    · rw [decide_eq_false (show ¬ (p ≤ 281474976710655 ∧ o ≤ 16777215 ∧ c ≤ 281474976710655) from by omega)]
      go_enter Try.func10, Try.ntmps10
      go_wp2
      go_ret
      exact ⟨rfl, rfl⟩
  · rw [decide_eq_false (show ¬ (p ≤ 281474976710655 ∧ o ≤ 16777215 ∧ c ≤ 281474976710655) from by omega)]
    go_enter Try.func10, Try.ntmps10
    go_wp2
    go_ret
    exact ⟨rfl, rfl⟩
/- may the capability be? -/
def mayD (p o c : Nat) : Bool := decide (p ≤ 281474976710655 ∧ o ≤ 16777215 ∧ c ≤ 281474976710655)
set_option maxHeartbeats 400000 in
theorem own_may (p o r c : Nat) (w : World) (hp : p ≤ 18446744073709551615) (ho : o ≤ 4294967295) (_hr : r ≤ 255) (hc : c ≤ 18446744073709551615) :
    Calls Try.prog 11 #[.agg #[.int .u64 p, .int .u32 o, .int .u8 r, .int .u64 c]] w fun e w' => e = .returned (.bool (mayD p o c)) ∧ Below w.heap.size w w' := by
  have hE := eql_cap p o r c (p % 281474976710656 : Nat) (o % 16777216 : Nat) r (c % 281474976710656 : Nat)
  have hd : decide ((p : Int) = (p % 281474976710656 : Nat) ∧ (o : Int) = (o % 16777216 : Nat) ∧ (r : Int) = r ∧ (c : Int) = (c % 281474976710656 : Nat)) = mayD p o c := by
    unfold mayD; apply decide_eq_decide.2; omega
  rw [hd] at hE
  generalize mayD p o c = m at hE ⊢
  have hM := fun w => make_any p o r c w hp ho _hr hc
  generalize p % 281474976710656 = p' at hE hM
  generalize o % 16777216 = o' at hE hM
  generalize c % 281474976710656 = c' at hE hM
  have HM : Hid _ := hM
  have hg := eqGuard25
  clear hM
  go_enter Try.func11, Try.ntmps11
  go_wp2
  go_region_held (fun w' => w'.cell? ⟨w.heap.size, 0, none⟩ = some (.int .u64 p) ∧ w'.cell? ⟨w.heap.size, 1, none⟩ = some (.int .u32 o) ∧ w'.cell? ⟨w.heap.size, 2, none⟩ = some (.int .u8 r) ∧ w'.cell? ⟨w.heap.size, 3, none⟩ = some (.int .u64 c)) (go_keep) (first | (go_at_call 9; refine (HM.out _).mono ?_; rintro e wy ⟨rfl, rfl⟩))
  all_goals go_wp2
  all_goals go_ret
  all_goals exact ⟨rfl, by go_grown⟩
set_option maxHeartbeats 400000 in
theorem has_any (p o r c v : Nat) (w : World) (hr : r ≤ 255) (hv : v ≤ 255) :
    Calls Try.prog 15 #[.agg #[.int .u64 p, .int .u32 o, .int .u8 r, .int .u64 c], .int .u8 v] w fun e w' => e = .returned (.bool (((r &&& v : Nat) : Int) == (v : Int))) ∧
      w' = w.alloc (.cells #[.int .u64 p, .int .u32 o, .int .u8 r, .int .u64 c] 25) := by
  have h1 := u8_and_nat r v (by omega) (by omega)
  go_enter Try.func15, Try.ntmps15
  go_wp2
  go_ret
  exact ⟨rfl, rfl⟩
set_option maxHeartbeats 400000 in
theorem owns_any (p o r c : Nat) (w : World) :
    Calls Try.prog 16 #[.agg #[.int .u64 p, .int .u32 o, .int .u8 r, .int .u64 c]] w fun e w' => e = .returned (.bool ((r : Int) == 255)) ∧
      w' = w.alloc (.cells #[.int .u64 p, .int .u32 o, .int .u8 r, .int .u64 c] 25) := by
  go_enter Try.func16, Try.ntmps16
  go_wp2
  go_ret
  exact ⟨rfl, rfl⟩
end Go.Proofs.Ytmbjgndajlomnaa
