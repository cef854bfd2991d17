/-
  The statements' awake: the document's examples: it answers true.
-/
import Derived.Test.YtifmeljdkohkkaaDoorYTick
import Derived.Test.YtifmeljdkohkkaaDoorXCalls
namespace Go.Proofs.YtifmeljdkohkkaaDoor
open Go.RowKit
theorem nums_alloc (w : World) (L : List Int) (T : TypeId) (C : Array Value) (n : Nat) (hC : C.toList = cellsI L) (hn : L.length = n) (h : n ≤ 1000) : Nums (w.alloc (.cells C T)) (some ⟨w.heap.size, 0, none⟩) n n L := by
  refine ⟨by rw [cellsI_len, hn]; omega, Nat.le_refl _, by unfold maxLen; omega, (fun e => by cases e), fun ad e j u hu => ?_⟩
  obtain rfl := Option.some.inj e
  exact World.news_of_block (heap_alloc_new w _) j u (by rw [hC]; exact hu)
theorem TickEnd.below {w0 w w' : World} {B g : Nat} {T : Int} {L : List Al} {e : Ending} (h : TickEnd w B g T L e w') (b : Below w0.heap.size w0 w) (hg : w0.heap.size ≤ g) : ∃ ro rc v, e = .returned (.slice ro (ringF L T).length rc) ∧ Nums w' ro (ringF L T).length rc (ringF L T) ∧ Tm w' B g T v (restF L T) ∧ Below w0.heap.size w0 w' := by
  obtain ⟨v, rfl, ho, h⟩ := h
  obtain ⟨ro, rc, rfl, hl⟩ := owns_lies ho
  obtain ⟨rv, x, b'⟩ := h.below b hg
  exact ⟨ro, rc, rv, rfl, hl, x, b'⟩
set_option maxRecDepth 20000 in
set_option maxHeartbeats 1600000 in
theorem awake_any (w : World) :
    Calls Tryd.prog 4 #[] w fun e w' => e = .returned (.bool true) ∧ Below w.heap.size w w' := by
  obtain ⟨X, hX⟩ : ∃ X, w.alloc (.cells #[.int .i64 0, .slice none 0 0] 27) = X := ⟨_, rfl⟩
  obtain ⟨g, hg⟩ : ∃ g, w.heap.size = g := ⟨_, rfl⟩
  have HX : Hid (Tm X g g 0 (.slice none 0 0) []) := by show Tm X _ _ _ _ _; rw [← hX, ← hg]; exact tm_new w
  have HB : Hid (Below w.heap.size w X) := by show Below _ _ _; rw [← hX]; exact below_alloc w _
  have HG : Hid (w.heap.size ≤ g) := by show _ ≤ _; omega
  go_enter Tryd.func4, Tryd.ntmps4
  go_wp2_with fail
  refine (set_any 7 2 _ HX.out (by decide) (by decide)).mono ?_; rintro e w1 ⟨rfl, h1⟩
  obtain ⟨v1, x1, b1⟩ := h1.below HB.out HG.out
  rw [show setE [] 7 2 = 0 from rfl, erN_zero]
  have H1 := hide (show Tm w1 g g 0 v1 [⟨7, 2⟩] from x1)
  have HB1 := hide b1
  clear h1 x1 b1
  go_wp2_with fail
  refine (set_any 8 1 _ H1.out (by decide) (by decide)).mono ?_; rintro e w2 ⟨rfl, h1⟩
  obtain ⟨v2, x1, b1⟩ := h1.below HB1.out HG.out
  rw [show setE [⟨7, 2⟩] 8 1 = 0 from rfl, erN_zero]
  have H2 := hide (show Tm w2 g g 0 v2 [⟨7, 2⟩, ⟨8, 1⟩] from x1)
  have HB2 := hide b1
  clear h1 x1 b1
  go_wp2_with fail
  refine (set_any 9 2 _ H2.out (by decide) (by decide)).mono ?_; rintro e w3 ⟨rfl, h1⟩
  obtain ⟨v3, x1, b1⟩ := h1.below HB2.out HG.out
  rw [show setE [⟨7, 2⟩, ⟨8, 1⟩] 9 2 = 0 from rfl, erN_zero]
  have H3 := hide (show Tm w3 g g 0 v3 [⟨7, 2⟩, ⟨8, 1⟩, ⟨9, 2⟩] from x1)
  have HB3 := hide b1
  clear h1 x1 b1
  go_wp2_with fail
  refine (set_any 7 2 _ H3.out (by decide) (by decide)).mono ?_; rintro e w4 ⟨rfl, h1⟩
  obtain ⟨v4, x1, b1⟩ := h1.below HB3.out HG.out
  rw [show setE [⟨7, 2⟩, ⟨8, 1⟩, ⟨9, 2⟩] 7 2 = 0 from rfl, erN_zero]
  have H4 := hide (show Tm w4 g g 0 v4 [⟨8, 1⟩, ⟨9, 2⟩, ⟨7, 2⟩] from x1)
  have HB4 := hide b1
  clear h1 x1 b1
  go_wp2_with fail
  refine (tick_any _ H4.out (by decide) (by decide)).mono ?_; rintro e w5 h1
  obtain ⟨ro5, rc5, v5, rfl, n5, x1, b1⟩ := h1.below HB4.out HG.out
  rw [show (ringF [⟨8, 1⟩, ⟨9, 2⟩, ⟨7, 2⟩] (0 + 1)).length = 1 from rfl] at n5 ⊢
  have HN5 := hide (show Nums w5 ro5 1 rc5 [8] from n5)
  have H5 := hide (show Tm w5 g g 1 v5 [⟨9, 2⟩, ⟨7, 2⟩] from x1)
  have HB5 := hide b1
  clear h1 x1 b1 n5
  go_wp2_with fail
  refine (same_any _ _ _ _ _ _ [8] [8] _ (HN5.out.carry (below_alloc w5 _)) (nums_alloc w5 [8] _ _ 1 rfl rfl (by omega))).mono ?_; rintro e w6 ⟨rfl, b6⟩
  have HB6 := hide (below_one HB5.out (below_one (below_alloc w5 _) b6))
  have H6 := hide (H5.out.grow (below_one (below_alloc w5 _) b6))
  rw [show decide (([8] : List Int) = [8]) = true from rfl]
  clear b6
  go_wp2_with fail
  refine (tick_any _ H6.out (by decide) (by decide)).mono ?_; rintro e w7 h1
  obtain ⟨ro7, rc7, v7, rfl, n7, x1, b1⟩ := h1.below HB6.out HG.out
  rw [show (ringF [⟨9, 2⟩, ⟨7, 2⟩] (1 + 1)).length = 2 from rfl] at n7 ⊢
  have HN7 := hide (show Nums w7 ro7 2 rc7 [9, 7] from n7)
  have HB7 := hide b1
  clear h1 x1 b1 n7
  go_wp2_with fail
  refine (same_any _ _ _ _ _ _ [9, 7] [9, 7] _ (HN7.out.carry (below_alloc w7 _)) (nums_alloc w7 [9, 7] _ _ 2 rfl rfl (by omega))).mono ?_; rintro e w8 ⟨rfl, b8⟩
  have HB8 := hide (below_one HB7.out (below_one (below_alloc w7 _) b8))
  rw [show decide (([9, 7] : List Int) = [9, 7]) = true from rfl]
  clear b8
  go_wp2
  go_ret
  exact ⟨rfl, HB8.out⟩
end Go.Proofs.YtifmeljdkohkkaaDoor
