/-
  The statements' awake: the document's examples: it answers true.
-/
import Derived.Test.YtnfpldndnmbplaaDoorUKill
namespace Go.Proofs.YtnfpldndnmbplaaDoor
open Go.RowKit
variable {g : Nat} {T : List Th} {R : List Int} {ro : Option Addr} {rc : Nat}
/- what a call on a table leaves of the world ahead of it -/
theorem Foot.low {w w1 w2 : World} {B : Nat} (f : Foot (fun j => j = g) w1 w2) (b : Below B w w1) (hB : B ≤ w1.heap.size) (hg : B ≤ g) : Below B w w2 :=
  b.trans (f.below hB fun k e => by rw [e]; exact hg)
theorem ex_inv1 : Inv [⟨5, 1, 0⟩] [0] := inv_nil.start 5 (by decide)
theorem ex_inv2 : Inv [⟨5, 1, 0⟩, ⟨5, 1, 0⟩] [0, 1] := ex_inv1.start 5 (by decide)
theorem ex_inv3 : Inv [⟨5, 2, 9⟩, ⟨5, 1, 0⟩] [1] := ex_inv2.turn 0 2 9 (by decide) (by decide) (by decide)
theorem ex_kill : (killN 5 [⟨5, 2, 9⟩, ⟨5, 1, 0⟩] [1] 64).2.2 = [0, 1] := by
  rw [killN_out _ _ _ _ (by decide)]; decide
set_option maxRecDepth 20000 in
set_option maxHeartbeats 1600000 in
theorem awake_any (w : World) :
    Calls Tryd.prog 5 #[] w fun e w' => e = .returned (.bool true) ∧ Below w.heap.size w w' := by
  have zv := Tryd.zeroTab
  have HT0 := hide (tab_new w)
  obtain ⟨Z, hZ⟩ : ∃ Z, tabZ = Z := ⟨_, rfl⟩
  rw [hZ] at zv HT0
  clear hZ
  go_enter Tryd.func5, Tryd.ntmps5
  go_wp2_with fail
  refine (start_yes 5 _ HT0.out inv_nil (by decide) (by decide)).mono ?_; rintro e w1 ⟨rfl, a1, c1, t1, f1, _⟩
  have H1 := hide (show Tb w1 w.heap.size [⟨5, 1, 0⟩] [0] a1 c1 from t1)
  have HB1 := hide (f1.low (below_alloc w _) (below_alloc w _).size (Nat.le_refl _))
  clear t1 f1
  go_wp2_with fail
  refine (start_yes 5 _ H1.out ex_inv1 (by decide) (by decide)).mono ?_; rintro e w2 ⟨rfl, a2, c2, t2, f2, _⟩
  have H2 := hide (show Tb w2 w.heap.size [⟨5, 1, 0⟩, ⟨5, 1, 0⟩] [0, 1] a2 c2 from t2)
  have HB2 := hide (f2.low HB1.out HB1.out.size (Nat.le_refl _))
  clear t2 f2
  go_wp2_with fail
  refine (block_yes 0 9 _ H2.out ex_inv2 (by decide) rfl).mono ?_; rintro e w3 ⟨rfl, a3, c3, t3, f3, _⟩
  have H3 := hide (show Tb w3 w.heap.size [⟨5, 2, 9⟩, ⟨5, 1, 0⟩] [1] a3 c3 from t3)
  have HB3 := hide (f3.low HB2.out HB2.out.size (Nat.le_refl _))
  clear t3 f3
  go_wp2_with fail
  refine (ready_any _ H3.out (by decide)).mono ?_; rintro e w4 ⟨a4, c4, rfl, n4, b4, _⟩
  have H4 := hide (H3.out.grow b4)
  have HB4 := hide (below_one HB3.out b4)
  have HN4 := hide (show Nums w4 a4 1 c4 [1] from n4)
  rw [show ([1] : List Int).length = 1 from rfl]
  clear n4 b4
  go_wp2_with fail
  refine (same_any _ _ _ _ _ _ [1] [1] _ (HN4.out.carry (below_alloc w4 _)) (nums_alloc w4 [1] _ _ 1 rfl rfl (by omega))).mono ?_; rintro e w5 ⟨rfl, b5⟩
  rw [show decide (([1] : List Int) = [1]) = true from rfl]
  have b5' := below_one (below_alloc w4 _) b5
  have H5 := hide (H4.out.grow b5')
  have HB5 := hide (below_one HB4.out b5')
  clear b5 b5'
  go_wp2_with fail
  refine (kill_any 5 _ H5.out ex_inv3).mono ?_; rintro e w6 ⟨a6, c6, rfl, n6, _, a7, c7, t7, f7, _⟩
  rw [ex_kill] at n6 ⊢
  have HB6 := hide (f7.low HB5.out HB5.out.size (Nat.le_refl _))
  have HN6 := hide (show Nums w6 a6 2 c6 [0, 1] from n6)
  rw [show ([0, 1] : List Int).length = 2 from rfl]
  clear n6 t7 f7
  go_wp2_with fail
  refine (same_any _ _ _ _ _ _ [0, 1] [0, 1] _ (HN6.out.carry (below_alloc w6 _)) (nums_alloc w6 [0, 1] _ _ 2 rfl rfl (by omega))).mono ?_; rintro e w8 ⟨rfl, b8⟩
  rw [show decide (([0, 1] : List Int) = [0, 1]) = true from rfl]
  have HB8 := hide (below_one HB6.out (below_one (below_alloc w6 _) b8))
  clear b8
  go_wp2
  go_ret
  exact ⟨rfl, HB8.out⟩
end Go.Proofs.YtnfpldndnmbplaaDoor
