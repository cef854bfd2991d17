/-
  A map that was made; the statements' awake: the document's examples: it answers true.
-/
import Derived.Test.YtlpjaklhmnbpeaaVDeeds
namespace Go.Proofs.Ytlpjaklhmnbpeaa
open Go.RowKit
def OfEnd (w : World) (y : Int) (e : Ending) (w' : World) : Prop := ∃ g, e = .returned (.pointer (some ⟨g, 0, none⟩)) ∧ Pm w' g g y (.slice none 0 0) [] ∧ Below w.heap.size w w' ∧ w.heap.size ≤ g
theorem of_made (x y : Int) (hy : max x 1 = y) (w : World) : Calls Try.prog 9 #[.int .i64 x] w fun e w' => OfEnd w y e w' :=
  (of_any x y hy w).mono fun _ _ ⟨he, hw⟩ => ⟨w.heap.size, he, hw ▸ pm_new w y, hw ▸ below_alloc w _, Nat.le_refl _⟩
theorem i64_small {x : Int} (h : -1000000000 ≤ x ∧ x ≤ 1000000000) : I64 x := ⟨by omega, by omega⟩
set_option maxRecDepth 20000 in
set_option maxHeartbeats 1600000 in
theorem awake_any (w : World) :
    Calls Try.prog 8 #[] w fun e w' => e = .returned (.bool true) ∧ Below w.heap.size w w' := by
  go_enter Try.func8, Try.ntmps8
  go_wp2_with fail
  refine (of_made 3 3 rfl _).mono ?_; rintro e w1 ⟨g, rfl, t1, b1, hg⟩
  have HT := hide t1
  have HB := hide b1
  have HG := hide hg
  clear t1 b1 hg
  go_wp2_with fail
  refine (learn_any 7 1 10 _ HT.out (by decide)).mono ?_; rintro e w2 ⟨rfl, h2⟩
  obtain ⟨v2, t2, b2⟩ := h2.below HB.out HG.out
  have HT2 := hide (show Pm w2 g g 3 v2 [⟨7, 1, 10⟩] from t2)
  have HB2 := hide b2
  have HA : Hid (∀ y ∈ ([⟨7, 1, 10⟩] : List Pl), I64 y.a) := fun y hy => by
    rw [List.mem_singleton.1 hy]; exact i64_small (by decide)
  clear h2 t2 b2
  go_wp2_with fail
  refine (find_any 7 12 _ HT2.out (by decide) (i64_small (by decide)) HA.out).mono ?_; rintro e w3 ⟨rfl, b3⟩
  have HB3 := hide (below_one HB2.out b3)
  have HT3 := hide (HT2.out.grow b3)
  rw [show findI 3 [⟨7, 1, 10⟩] 7 12 = 1 from by decide, show findB 3 [⟨7, 1, 10⟩] 7 12 = true from by decide]
  clear b3
  go_wp2_with fail
  refine (find_any 7 13 _ HT3.out (by decide) (i64_small (by decide)) HA.out).mono ?_; rintro e w4 ⟨rfl, b4⟩
  have HB4 := hide (below_one HB3.out b4)
  have HT4 := hide (HT3.out.grow b4)
  rw [show findI 3 [⟨7, 1, 10⟩] 7 13 = 0 from by decide, show findB 3 [⟨7, 1, 10⟩] 7 13 = false from by decide]
  clear b4
  go_wp2_with fail
  refine (find_any 7 9 _ HT4.out (by decide) (i64_small (by decide)) HA.out).mono ?_; rintro e w5 ⟨rfl, b5⟩
  have HB5 := hide (below_one HB4.out b5)
  rw [show findI 3 [⟨7, 1, 10⟩] 7 9 = 0 from by decide, show findB 3 [⟨7, 1, 10⟩] 7 9 = false from by decide]
  clear b5
  go_wp2
  go_ret
  exact ⟨rfl, HB5.out⟩
end Go.Proofs.Ytlpjaklhmnbpeaa
