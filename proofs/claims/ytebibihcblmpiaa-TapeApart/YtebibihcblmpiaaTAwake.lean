/-
  The statements' own first step, awake: the document's example; and what a draw leaves as it was.
-/
import Derived.Test.YtebibihcblmpiaaTOf
import Derived.Test.YtebibihcblmpiaaErrIs
namespace Go.Proofs.Ytebibihcblmpiaa
open Go.RowKit
/- no block but one has turned, and none is new -/
structure Touch (g : Nat) (w w' : World) : Prop where
  os : w'.os = w.os
  tape : w'.tape = w.tape
  output : w'.output = w.output
  size : w'.heap.size = w.heap.size
  block : ∀ k, k ≠ g → w'.heap[k]? = w.heap[k]?
theorem Touch.below {g B : Nat} {w w' : World} (h : Touch g w w') (hB : B ≤ g) : Below B w w' := ⟨h.os, h.tape, h.output, Nat.le_of_eq h.size.symm, fun k hk => h.block k (by omega)⟩
theorem touch_draw (w : World) (g q : Nat) (v : Value) : Touch g w ((w.drewN q).setCell ⟨g, 1, none⟩ v) :=
  ⟨rfl, rfl, rfl, by simp [World.setCell, World.drewN], fun k hk => heap_setCell_other _ _ _ _ hk⟩
theorem TapeAt.touch {w w' : World} {g h : Nat} {ws : List Nat} {t k p : Nat} (x : TapeAt w g h ws t k) (b : Touch p w w') (hg : g ≠ p) (hh : h ≠ p) : TapeAt w' g h ws t k :=
  ⟨by rw [b.block g hg]; exact x.box, by rw [RowN, b.block h hh]; exact x.row, x.ne, x.fits, x.word, x.some, x.end_⟩
theorem draw_at (g h : Nat) (ws : List Nat) (t k x : Nat) (w : World) (T : TapeAt w g h ws t k) (ht : t < ws.length) (hx : ws.getD t 0 = x) :
    Calls Try.prog 9 #[.pointer (some ⟨g, 0, none⟩)] w fun e w' => e = .returned (.tuple #[.int .u64 (x : Nat), .nilIface]) ∧ TapeAt w' g h ws (t + 1) k ∧ Touch g w w' := by
  refine (draw_yes g h ws t k w T ht).mono ?_
  rintro e w' ⟨rfl, q, rfl⟩
  exact ⟨by rw [hx], (T.drewN q).took ht, touch_draw _ _ _ _⟩
theorem cutN_121 : cutN [1, 2, 1] = [1, 2, 1] := by decide
theorem again_121 {k : Nat} (h : Again [1, 2, 1] k) : k = 2 := by
  obtain ⟨h1, h2, h3⟩ := h
  have h1' : k ≤ 3 := h1
  rcases Nat.lt_or_ge k 3 with h | h
  · rcases Nat.lt_or_ge k 2 with h' | h'
    · obtain ⟨i, hi, e⟩ := h3 (show k < 3 by omega)
      obtain rfl : k = 1 := by omega
      obtain rfl : i = 0 := by omega
      exact absurd e (by decide)
    · omega
  · exact absurd rfl (h2 0 2 (by omega) (by omega))
theorem row_121 (w : World) : RowN (w.alloc (.cells #[.int .u64 1, .int .u64 2, .int .u64 1] 26)) .u64 26 w.heap.size [1, 2, 1] := heap_alloc_new _ _
theorem u64s_121 (w : World) : U64s (w.alloc (.cells #[.int .u64 1, .int .u64 2, .int .u64 1] 26)) (some ⟨w.heap.size, 0, none⟩) 3 3 [1, 2, 1] :=
  (row_121 w).u64s (by decide) (fun j => by
    rcases j with _ | _ | _ | j <;> simp)
set_option maxHeartbeats 1600000 in
theorem awake_any (w : World) :
    Calls Try.prog 7 #[] w fun e w' => e = .returned (.bool true) ∧ Below w.heap.size w w' := by
  go_enter Try.func7, Try.ntmps7
  go_wp2_with fail
  refine (of_any _ _ _ [1, 2, 1] _ (u64s_121 w) (by omega)).mono ?_; rintro e w1 ⟨g, h, k, rfl, T, ha, hg, hh, bel⟩
  rw [cutN_121] at T ha
  obtain rfl := again_121 ha
  have HT := hide T
  have b1 : Below w.heap.size w w1 := (below_alloc w _).trans (bel.mono (below_alloc w _).size)
  have HB := hide b1
  have HG := hide (Nat.le_trans (below_alloc w _).size hg)
  clear T ha bel b1 hg hh
  go_wp2_with fail
  refine (draw_at g h _ 0 2 1 _ HT.out (by decide) rfl).mono ?_; rintro e w2 ⟨rfl, T2, t2⟩
  have HT2 := hide T2
  have HB2 := hide (HB.out.trans (t2.below HG.out))
  clear T2 t2
  go_wp2_with fail
  refine (draw_at g h _ 1 2 2 _ HT2.out (by decide) rfl).mono ?_; rintro e w3 ⟨rfl, T3, t3⟩
  have HT3 := hide T3
  have HB3 := hide (HB2.out.trans (t3.below HG.out))
  clear T3 t3
  go_wp2_with fail
  refine (apart_any g h _ _ 2 _ HT3.out).mono ?_; rintro e w4 ⟨rfl, q, rfl⟩
  go_wp2_with fail
  refine (draw_at g h _ 2 2 1 _ (HT3.out.drewN q) (by decide) rfl).mono ?_; rintro e w5 ⟨rfl, T5, t5⟩
  have HT5 := hide T5
  have HB5 := hide ((below_drewN HB3.out q).trans (t5.below HG.out))
  clear T5 t5
  go_wp2_with fail
  refine (draw_no g h _ 2 _ HT5.out).mono ?_; rintro e w6 ⟨rfl, q6, rfl⟩
  go_wp2_with fail
  refine (apart_any g h _ _ 2 _ (HT5.out.drewN q6)).mono ?_; rintro e w7 ⟨rfl, q7, rfl⟩
  go_wp2_with fail
  refine (is_same 7 _).mono ?_; rintro e w8 ⟨rfl, rfl⟩
  go_wp2
  go_ret
  exact ⟨rfl, below_drewN HB5.out _⟩
end Go.Proofs.Ytebibihcblmpiaa
