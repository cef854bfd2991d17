/-
  A deed of a script on threads: table, model and deed in one memory.
-/
import Derived.Test.YtnfpldndnmbplaaDoorUTurn
namespace Go.Proofs.YtnfpldndnmbplaaDoor
open Go.RowKit
def ActAt (w : World) (a : Nat) (op id wi : Int) : Prop := w.heap[a]? = some (.cells #[.int .u8 op, .int .i8 id, .int .i64 wi] 39 (0, 0))
variable {w w' w0 : World} {B g m a : Nat} {op id wi : Int} {av rv : Value} {T T2 : List Th} {R R2 : List Int} {ao : Option Addr} {c : Nat}
theorem ActAt.c0 (h : ActAt w a op id wi) : w.cell? ⟨a, 0, none⟩ = some (.int .u8 op) := by rw [cell_of_row w a 0 _ _ _ h]; rfl
theorem ActAt.c1 (h : ActAt w a op id wi) : w.cell? ⟨a, 1, none⟩ = some (.int .i8 id) := by rw [cell_of_row w a 1 _ _ _ h]; rfl
theorem ActAt.c2 (h : ActAt w a op id wi) : w.cell? ⟨a, 2, none⟩ = some (.int .i64 wi) := by rw [cell_of_row w a 2 _ _ _ h]; rfl
theorem ActAt.z (h : ActAt w a op id wi) (j : Nat) : w.frozen? ⟨a, j, none⟩ = false := frozen_of_row w a j _ _ h
theorem ActAt.grow (h : ActAt w a op id wi) (b : Below w.heap.size w w') : ActAt w' a op id wi := (b.block a (lt_of_heap h)).trans h
theorem ActAt.table (h : ActAt w a op id wi) (x : Tb w g T R ao c) (f : Foot (fun j => j = g) w w') : ActAt w' a op id wi := by
  obtain ⟨C, hb, _⟩ := x.box
  exact (f.block a (lt_of_heap h) (two_types h hb (by decide))).trans h
theorem act_new (w : World) (op id wi : Int) : ActAt (w.alloc (.cells #[.int .u8 op, .int .i8 id, .int .i64 wi] 39)) w.heap.size op id wi := heap_alloc_new _ _
structure Pk (w0 w : World) (B g m : Nat) (T : List Th) (R : List Int) (ao : Option Addr) (c : Nat) (av rv : Value) : Prop where
  pm : PM w0 w B g m T R ao c av rv T R
  inv : Inv T R
  glob : Glob w0
  pos : 0 < B
theorem Pk.grow (x : Pk w0 w B g m T R ao c av rv) (b : Below w.heap.size w w') : Pk w0 w' B g m T R ao c av rv := ⟨x.pm.grow b, x.inv, x.glob, x.pos⟩
theorem PM.glob (x : PM w0 w B g m T R ao c av rv T2 R2) (h : Glob w0) (hp : 0 < B) : Glob w := h.grow x.bel hp
theorem Pk.few (x : Pk w0 w B g m T R ao c av rv) : R.length ≤ 64 := Nat.le_trans x.inv.len x.inv.few
def StepEnd (w0 : World) (B g m : Nat) (T : List Th) (R : List Int) (e : Ending) (w' : World) : Prop := e = .returned (.bool true) ∧ ∃ ao c av rv, PM w0 w' B g m T R ao c av rv T R
theorem getF_some {T : List Th} {id : Int} (h : (getF T id).s ≠ 0) : ∃ k : Nat, id = (k : Int) ∧ k < T.length ∧ getF T id = thd T k := by
  by_cases h0 : id < 0
  · rw [getF_neg T id h0] at h; exact absurd rfl h
  · obtain ⟨k, rfl⟩ : ∃ k : Nat, id = (k : Int) := ⟨id.toNat, by omega⟩
    refine ⟨k, rfl, ?_, getF_nat T k⟩
    rcases Nat.lt_or_ge k T.length with hl | hl
    · exact hl
    · rw [getF_nat, thd_ge T k hl] at h; exact absurd rfl h
end Go.Proofs.YtnfpldndnmbplaaDoor
