/-
  '==' and '!=' of areas and of parts; api.Number of an error that may be nil.
-/
import Derived.Test.YtigbicggcohcgaaDoorAMk
import Derived.Test.YtigbicggcohcgaaDoorARem
import Derived.Test.YtigbicggcohcgaaDoorAPcs
import Derived.Test.YtigbicggcohcgaaDoorKAlike
namespace Go.Proofs.YtigbicggcohcgaaDoor
open Go.RowKit
theorem eqGuardA : Tryd.prog.eqGuardType Tryd.prog.depth 24 = false := by kernel_rfl
theorem eqGuardP : Tryd.prog.eqGuardType Tryd.prog.depth 46 = false := by kernel_rfl
def sameA (a c : Ar) : Bool := decide (a = c)
theorem sameA_iff (a c : Ar) : sameA a c = decide (a.b = c.b ∧ a.s = c.s ∧ a.g = c.g ∧ a.o = c.o ∧ a.w = c.w) := by
  unfold sameA
  refine decide_eq_decide.2 ⟨fun h => by rw [h]; exact ⟨rfl, rfl, rfl, rfl, rfl⟩, fun ⟨h1, h2, h3, h4, h5⟩ => ?_⟩
  obtain ⟨_, _, _, _, _⟩ := a
  obtain ⟨_, _, _, _, _⟩ := c
  simp only at h1 h2 h3 h4 h5
  rw [h1, h2, h3, h4, h5]
set_option maxHeartbeats 800000 in
theorem eql_area (a c : Ar) (w : World) : (binOp .eql 24 (.agg #[.int .i64 a.b, .int .i64 a.s, .int .i64 a.g, .int .i64 a.o, .bool a.w]) (.agg #[.int .i64 c.b, .int .i64 c.s, .int .i64 c.g, .int .i64 c.o, .bool c.w])).run Tryd.prog w = .ok (.bool (sameA a c)) w := by
  have hS : Tryd.prog.underlying 24 = some (.struct (Tryd.prog.fieldsOf 24)) := by kernel_rfl
  have hp : Tryd.prog.stoodInHeld 24 = false := by kernel_rfl
  rw [run_eql_struct, show (10000 : Nat) = 9999 + 1 from rfl, run_equalIn_agg w 9999 24 _ _ hS hp, sameA_iff]
  simp only [Program.fieldsOf, Tryd.underlying24]
  have u1 := Tryd.underlying3
  have u2 := Tryd.underlying4
  go_simp
  by_cases h1 : a.b = c.b <;> by_cases h2 : a.s = c.s <;> by_cases h3 : a.g = c.g <;> by_cases h4 : a.o = c.o <;> by_cases h5 : a.w = c.w <;> simp [h1, h2, h3, h4, h5]
set_option maxHeartbeats 800000 in
theorem neq_area (a c : Ar) (w : World) : (binOp .neq 24 (.agg #[.int .i64 a.b, .int .i64 a.s, .int .i64 a.g, .int .i64 a.o, .bool a.w]) (.agg #[.int .i64 c.b, .int .i64 c.s, .int .i64 c.g, .int .i64 c.o, .bool c.w])).run Tryd.prog w = .ok (.bool (!sameA a c)) w := by
  have hS : Tryd.prog.underlying 24 = some (.struct (Tryd.prog.fieldsOf 24)) := by kernel_rfl
  have hp : Tryd.prog.stoodInHeld 24 = false := by kernel_rfl
  rw [run_neq_struct, show (10000 : Nat) = 9999 + 1 from rfl, run_equalIn_agg w 9999 24 _ _ hS hp, sameA_iff]
  simp only [Program.fieldsOf, Tryd.underlying24]
  have u1 := Tryd.underlying3
  have u2 := Tryd.underlying4
  go_simp
  by_cases h1 : a.b = c.b <;> by_cases h2 : a.s = c.s <;> by_cases h3 : a.g = c.g <;> by_cases h4 : a.o = c.o <;> by_cases h5 : a.w = c.w <;> simp [h1, h2, h3, h4, h5]
theorem eql_pc (g t z g' t' z' : Int) (w : World) : (binOp .eql 46 (.agg #[.int .i64 g, .int .i64 t, .int .i64 z]) (.agg #[.int .i64 g', .int .i64 t', .int .i64 z'])).run Tryd.prog w = .ok (.bool (decide (g = g' ∧ t = t' ∧ z = z'))) w := by
  have hS : Tryd.prog.underlying 46 = some (.struct (Tryd.prog.fieldsOf 46)) := by kernel_rfl
  have hp : Tryd.prog.stoodInHeld 46 = false := by kernel_rfl
  rw [run_eql_struct, show (10000 : Nat) = 9999 + 1 from rfl, run_equalIn_agg w 9999 46 _ _ hS hp]
  simp only [Program.fieldsOf, Tryd.underlying46]
  have u1 := Tryd.underlying3
  go_simp
  by_cases h1 : g = g' <;> by_cases h2 : t = t' <;> by_cases h3 : z = z' <;> simp [h1, h2, h3]
theorem neq_pc (g t z g' t' z' : Int) (w : World) : (binOp .neq 46 (.agg #[.int .i64 g, .int .i64 t, .int .i64 z]) (.agg #[.int .i64 g', .int .i64 t', .int .i64 z'])).run Tryd.prog w = .ok (.bool (!decide (g = g' ∧ t = t' ∧ z = z'))) w := by
  have hS : Tryd.prog.underlying 46 = some (.struct (Tryd.prog.fieldsOf 46)) := by kernel_rfl
  have hp : Tryd.prog.stoodInHeld 46 = false := by kernel_rfl
  rw [run_neq_struct, show (10000 : Nat) = 9999 + 1 from rfl, run_equalIn_agg w 9999 46 _ _ hS hp]
  simp only [Program.fieldsOf, Tryd.underlying46]
  have u1 := Tryd.underlying3
  go_simp
  by_cases h1 : g = g' <;> by_cases h2 : t = t' <;> by_cases h3 : z = z' <;> simp [h1, h2, h3]
theorem number_any (k : Int) (w : World) (hg : Glob w) : Calls Tryd.prog 13 #[erN k] w fun e w' => e = .returned (.int .i64 k) ∧ Below w.heap.size w w' := by
  by_cases h : k = 0
  · subst h; rw [erN_zero]; exact number_nil w
  · rw [erN_not h]; exact number_errno k w hg
end Go.Proofs.YtigbicggcohcgaaDoor
