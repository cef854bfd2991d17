/-
  The statements' awake: the document's examples: it answers true.
-/
import Derived.Test.YtgbggdmpbbhkaaaDoorXLeave
namespace Go.Proofs.YtgbggdmpbbhkaaaDoor
open Go.RowKit
/- what a deed does to a lock of one's own: all below stays -/
theorem MxEnd.below {w0 w w' : World} {g n : Nat} {M : List Int} {ro : Option Addr} (h : MxEnd w g M ro n w') (b : Below w0.heap.size w0 w) (hg : w0.heap.size ≤ g) : ∃ ao c, Mx w' g M ao c ∧ Below w0.heap.size w0 w' := by
  obtain ⟨ao, c, x, f, _⟩ := h
  exact ⟨ao, c, x, b.trans (f.below b.size (fun k e => by omega))⟩
set_option maxRecDepth 20000 in
set_option maxHeartbeats 1600000 in
theorem awake_any (w : World) :
    Calls Tryd.prog 5 #[] w fun e w' => e = .returned (.bool true) ∧ Below w.heap.size w w' := by
  obtain ⟨X, hX⟩ : ∃ X, w.alloc (.cells #[.slice none 0 0] 27) = X := ⟨_, rfl⟩
  have HX : Hid (Mx X w.heap.size [] none 0) := by show Mx X _ _ _ _; rw [← hX]; exact mx_new w
  have HB : Hid (Below w.heap.size w X) := by show Below _ _ _; rw [← hX]; exact below_alloc w _
  obtain ⟨g, hg⟩ : ∃ g, w.heap.size = g := ⟨_, rfl⟩
  rw [hg] at HX
  have HG : Hid (w.heap.size ≤ g) := by show _ ≤ _; omega
  have r1 : Row [1] := row_nil.locked 1
  have r2 : Row [1, 2] := r1.locked 2
  have r3 : Row [1, 2, 3] := r2.locked 3
  have R3 := hide r3
  have R2 : Hid (Row [2, 3]) := hide (r3.freed 1)
  have R1 : Hid (Row [3]) := hide (R2.out.freed 2)
  clear r1 r2 r3
  go_enter Tryd.func5, Tryd.ntmps5
  go_wp2_with fail
  refine (lock_any 1 _ HX.out (by decide)).mono ?_; rintro e w1 ⟨rfl, h1⟩
  obtain ⟨o1, c1, x1, b1⟩ := MxEnd.below h1 HB.out HG.out
  rw [show lockE [] 1 = 0 from rfl, erN_zero]
  have H1 := hide (show Mx w1 g [1] o1 c1 from x1)
  have HB1 := hide b1
  clear h1 x1 b1
  go_wp2_with fail
  refine (lock_any 2 _ H1.out (by decide)).mono ?_; rintro e w2 ⟨rfl, h1⟩
  obtain ⟨o2, c2, x1, b1⟩ := MxEnd.below h1 HB1.out HG.out
  rw [show lockE [1] 2 = 0 from rfl, erN_zero]
  have H2 := hide (show Mx w2 g [1, 2] o2 c2 from x1)
  have HB2 := hide b1
  clear h1 x1 b1
  go_wp2_with fail
  refine (lock_any 3 _ H2.out (by decide)).mono ?_; rintro e w3 ⟨rfl, h1⟩
  obtain ⟨o3, c3, x1, b1⟩ := MxEnd.below h1 HB2.out HG.out
  rw [show lockE [1, 2] 3 = 0 from rfl, erN_zero]
  have H3 := hide (show Mx w3 g [1, 2, 3] o3 c3 from x1)
  have HB3 := hide b1
  clear h1 x1 b1
  go_wp2_with fail
  refine (free_any 1 _ H3.out R3.out).mono ?_; rintro e w4 ⟨rfl, h1⟩
  obtain ⟨o4, c4, x1, b1⟩ := MxEnd.below h1 HB3.out HG.out
  rw [show freeE [1, 2, 3] 1 = 0 from rfl, erN_zero, show freeX [1, 2, 3] 1 = 2 from rfl]
  have H4 := hide (show Mx w4 g [2, 3] o4 c4 from x1)
  have HB4 := hide b1
  clear h1 x1 b1
  go_wp2_with fail
  refine (leave_any 2 _ H4.out R2.out).mono ?_; rintro e w5 ⟨rfl, h1⟩
  obtain ⟨o5, c5, x1, b1⟩ := MxEnd.below h1 HB4.out HG.out
  rw [show freeX [2, 3] 2 = 3 from rfl]
  have H5 := hide (show Mx w5 g [3] o5 c5 from x1)
  have HB5 := hide b1
  clear h1 x1 b1
  go_wp2_with fail
  refine (free_any 3 _ H5.out R1.out).mono ?_; rintro e w6 ⟨rfl, h1⟩
  obtain ⟨o6, c6, x1, b1⟩ := MxEnd.below h1 HB5.out HG.out
  rw [show freeE [3] 3 = 0 from rfl, erN_zero, show freeX [3] 3 = -1 from rfl]
  have HB6 := hide b1
  clear h1 x1 b1
  go_wp2
  go_ret
  exact ⟨rfl, HB6.out⟩
end Go.Proofs.YtgbggdmpbbhkaaaDoor
