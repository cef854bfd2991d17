/-
  The statements' own first step on pages, awake: the document's example.
-/
import Derived.Test.YtlfophfilehdeaaPOf
import Derived.Test.YtlfophfilehdeaaErrNil
namespace Go.Proofs.Ytlfophfilehdeaa
open Go.RowKit
theorem NewMem.below {w w' w'' : World} {m a b n : Nat} (h : NewMem w w' m a b n) (f : Foot (MemS a b) w' w'') : Below w.heap.size w w'' :=
  h.bel.trans (f.below h.bel.size fun k e => by rcases e with e | e <;> subst e; exact h.ha; exact h.hb)
/- one byte of memory of its own -/
theorem bts_lit (w : World) (c : UInt8) : Bts (w.alloc (.cells #[.int .u8 (c.toNat : Int)] 5)) (some ⟨w.heap.size, 0, none⟩) 1 1 [c] := by
  refine ⟨rfl, Nat.le_refl _, by decide, (fun e => by cases e), fun ad e j hj => ?_⟩
  obtain rfl := Option.some.inj e
  obtain rfl : j = 0 := by simp at hj; exact hj
  simp [Addr.add, bt]
theorem awake_read : pieceF (splice (splice (zeros (2 * 64)) (0 * 64 + 0) [7]) (0 * 64) (zeros 64)) (0 * 64 + 0) 1 = [0] := by decide
theorem Bts.first {w : World} {co : Option Addr} {cc : Nat} {c : UInt8} {n : Nat} {l : List UInt8} (h : Bts w co (n + 1) cc (c :: l)) : ∃ ad, co = some ad ∧ w.cell? ad = some (.int .u8 (c.toNat : Int)) := by
  cases co with
  | none => have := h.none rfl; omega
  | some ad =>
    refine ⟨ad, rfl, ?_⟩
    have := h.2.2.2.2 ad rfl 0 (by simp)
    rw [show ad.add 0 = ad from by unfold Addr.add; simp] at this
    rw [this]; rfl
set_option maxRecDepth 20000 in
set_option maxHeartbeats 1600000 in
theorem awake_any (w : World) :
    Calls Try.prog 7 #[] w fun e w' => e = .returned (.bool true) ∧ Below w.heap.size w w' := by
  go_enter Try.func7, Try.ntmps7
  go_wp2_with fail
  refine (of_any 2 w 2 (by decide) (by omega)).mono ?_; rintro e w1 ⟨m, a, b, rfl, N1⟩
  have HN := hide N1
  clear N1
  go_wp2_with fail
  refine (alloc_yes m a b 2 0 _ _ _ HN.out.mem (by decide) (by omega)).mono ?_; rintro e w2 ⟨rfl, M2, F2⟩
  have H2 := hide M2
  have HF2 := hide F2
  clear M2 F2
  go_wp2_with fail
  refine (alloc_yes m a b 2 1 _ _ _ H2.out (by decide) (by omega)).mono ?_; rintro e w3 ⟨rfl, M3, F3⟩
  have H3 := hide M3
  have HF3 := hide (HF2.out.then F3)
  clear M3 F3 H2 HF2
  go_wp2_with fail
  refine (alloc_no m a b 2 _ _ _ H3.out (by decide)).mono ?_; rintro e w4 ⟨rfl, rfl⟩
  unfold errV
  go_wp2_with fail
  refine (write_yes m a b 2 0 0 _ _ _ 1 1 [7] _ (H3.out.grow (below_alloc _ _)) (by omega) (by decide) (bts_lit _ 7) (by omega)).mono ?_; rintro e w5 ⟨rfl, M5, F5⟩
  have H5 := hide M5
  have HF5 := hide (HF3.out.then ((foot_alloc (MemS a b) w4 _).then F5))
  clear M5 F5 H3 HF3
  go_wp2_with fail
  refine (free_yes m a b 2 0 _ _ _ H5.out (by omega) (by decide)).mono ?_; rintro e w6 ⟨rfl, M6, F6⟩
  have H6 := hide M6
  have HF6 := hide (HF5.out.then F6)
  clear M6 F6 H5 HF5
  go_wp2_with fail
  refine (alloc_yes m a b 2 0 _ _ _ H6.out (by decide) (by omega)).mono ?_; rintro e w7 ⟨rfl, M7, F7⟩
  have H7 := hide M7
  have HF7 := hide (HF6.out.then F7)
  clear M7 F7 H6 HF6
  go_wp2_with fail
  refine (read_yes m a b 2 0 0 1 _ _ _ H7.out (by omega) (by decide) (by omega)).mono ?_; rintro e w8 ⟨co, cc, rfl, B8, _, bel8⟩
  rw [awake_read] at B8
  obtain ⟨ad, rfl, hc⟩ := Bts.first (n := 0) B8
  have hcc : cc ≤ 9223372036854775807 := B8.2.2.1
  have HB := hide ((HN.out.below HF7.out).trans (bel8.mono (HN.out.below HF7.out).size))
  clear B8 bel8 H7 HF7 HN
  go_wp2_with fail
  refine (is_same 6 _).mono ?_; rintro e w9 ⟨rfl, rfl⟩
  go_wp2
  go_ret
  exact ⟨rfl, HB.out⟩
end Go.Proofs.Ytlfophfilehdeaa
