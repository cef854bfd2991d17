/-
  The statements' own first step, awake: the document's example; and what a draw leaves as it was.
-/
import Derived.Test.YtgcmompldcnhlaaDoorTOf
import Derived.Test.YtgcmompldcnhlaaDoorErrIs
namespace Go.Proofs.YtgcmompldcnhlaaDoor
open Go.RowKit
/- no block but one has turned, and none is new -/
structure Touch (g : Nat) (w w' : World) : Prop where
  os : w'.os = w.os
  tape : w'.tape = w.tape
  output : w'.output = w.output
  size : w'.heap.size = w.heap.size
  block : ∀ k, k ≠ g → w'.heap[k]? = w.heap[k]?
theorem Touch.below {g B : Nat} {w w' : World} (h : Touch g w w') (hB : B ≤ g) : Below B w w' := ⟨h.os, h.tape, h.output, Nat.le_of_eq h.size.symm, fun k hk => h.block k (by omega)⟩
theorem touch_draw (w : World) (g q : Nat) (v : Value) : Touch g w ((w.drewN q).setCell ⟨g, 1, none⟩ v) :=
  ⟨rfl, rfl, rfl, by simp [World.setCell, World.drewN], fun k hk => heap_setCell_other _ _ _ _ hk⟩
theorem TapeAt.touch {w w' : World} {g h : Nat} {ws : List Nat} {t k p : Nat} (x : TapeAt w g h ws t k) (b : Touch p w w') (hg : g ≠ p) (hh : h ≠ p) : TapeAt w' g h ws t k :=
  ⟨by rw [b.block g hg]; exact x.box, by rw [RowN, b.block h hh]; exact x.row, x.ne, x.fits, x.word, x.some, x.end_⟩
theorem draw_at (g h : Nat) (ws : List Nat) (t k x : Nat) (w : World) (T : TapeAt w g h ws t k) (ht : t < ws.length) (hx : ws.getD t 0 = x) :
    Calls Tryd.prog 44 #[.pointer (some ⟨g, 0, none⟩)] w fun e w' => e = .returned (.tuple #[.int .u64 (x : Nat), .nilIface]) ∧ TapeAt w' g h ws (t + 1) k ∧ Touch g w w' := by
  refine (draw_yes g h ws t k w T ht).mono ?_
  rintro e w' ⟨rfl, q, rfl⟩
  exact ⟨by rw [hx], (T.drewN q).took ht, touch_draw _ _ _ _⟩
theorem cutN_121 : cutN [1, 2, 1] = [1, 2, 1] := by decide
theorem again_121 {k : Nat} (h : Again [1, 2, 1] k) : k = 2 := by
  obtain ⟨h1, h2, h3⟩ := h
  have h1' : k ≤ 3 := h1
  rcases Nat.lt_or_ge k 3 with h | h
  · rcases Nat.lt_or_ge k 2 with h' | h'
    · obtain ⟨i, hi, e⟩ := h3 (show k < 3 by omega)
      obtain rfl : k = 1 := by omega
      obtain rfl : i = 0 := by omega
      exact absurd e (by decide)
    · omega
  · exact absurd rfl (h2 0 2 (by omega) (by omega))
theorem row_121 (w : World) : RowN (w.alloc (.cells #[.int .u64 1, .int .u64 2, .int .u64 1] 22)) .u64 22 w.heap.size [1, 2, 1] := heap_alloc_new _ _
theorem u64s_121 (w : World) : U64s (w.alloc (.cells #[.int .u64 1, .int .u64 2, .int .u64 1] 22)) (some ⟨w.heap.size, 0, none⟩) 3 3 [1, 2, 1] :=
  (row_121 w).u64s (by decide) (fun j => by
    rcases j with _ | _ | _ | j <;> simp)
end Go.Proofs.YtgcmompldcnhlaaDoor
