/-
  What the small functions of amap answer, as contracts: has, overlaps, beyond, and the two searches through a map with them.
-/
import Derived.Test.YtigbicggcohcgaaDoorACat
namespace Go.Proofs.YtigbicggcohcgaaDoor
open Go.RowKit
set_option maxHeartbeats 800000 in
theorem has_any (a : Ar) (x : Int) (w : World) :
    Calls Tryd.prog 23 #[.agg #[.int .i64 a.b, .int .i64 a.s, .int .i64 a.g, .int .i64 a.o, .bool a.w], .int .i64 x] w fun e w' => e = .returned (.bool (hasA a x)) ∧ Below w.heap.size w w' := by
  obtain ⟨d, hd⟩ : ∃ d, IntKind.i64.wrap (x - a.b) = d := ⟨_, rfl⟩
  obtain ⟨r, hr⟩ : ∃ r, hasA a x = r := ⟨_, rfl⟩
  rw [hr]
  have HR := hide hr
  clear hr
  by_cases h1 : a.b ≤ x
  · by_cases h2 : d < a.s
    · obtain rfl : r = true := by rw [← HR.out]; unfold hasA; rw [hd, decide_eq_true h1, decide_eq_true h2]; rfl
      go_enter Tryd.func23, Tryd.ntmps23
      go_wp2
      go_ret
      exact ⟨rfl, below_alloc _ _⟩
    · obtain rfl : r = false := by rw [← HR.out]; unfold hasA; rw [hd, decide_eq_true h1, decide_eq_false h2]; rfl
      go_enter Tryd.func23, Tryd.ntmps23
      go_wp2
      go_ret
      exact ⟨rfl, below_alloc _ _⟩
  · obtain rfl : r = false := by rw [← HR.out]; unfold hasA; rw [decide_eq_false h1]; rfl
    clear hd
    go_enter Tryd.func23, Tryd.ntmps23
    go_wp2
    go_ret
    exact ⟨rfl, below_alloc _ _⟩
set_option maxHeartbeats 800000 in
theorem overlaps_any (a x : Ar) (w : World) :
    Calls Tryd.prog 20 #[.agg #[.int .i64 a.b, .int .i64 a.s, .int .i64 a.g, .int .i64 a.o, .bool a.w], .agg #[.int .i64 x.b, .int .i64 x.s, .int .i64 x.g, .int .i64 x.o, .bool x.w]] w fun e w' => e = .returned (.bool (lapA a x)) ∧ Below w.heap.size w w' := by
  obtain ⟨r1, hr1⟩ : ∃ r, hasA a x.b = r := ⟨_, rfl⟩
  obtain ⟨r2, hr2⟩ : ∃ r, hasA x a.b = r := ⟨_, rfl⟩
  obtain ⟨r, hr⟩ : ∃ r, lapA a x = r := ⟨_, rfl⟩
  have HR := hide (show r = (r1 || r2) by rw [← hr]; unfold lapA; rw [hr1, hr2])
  rw [hr]
  clear hr
  obtain ⟨X, hX⟩ : ∃ X, (w.alloc (.cells #[.int .i64 a.b, .int .i64 a.s, .int .i64 a.g, .int .i64 a.o, .bool a.w] 24)).alloc (.cells #[.int .i64 x.b, .int .i64 x.s, .int .i64 x.g, .int .i64 x.o, .bool x.w] 24) = X := ⟨_, rfl⟩
  have bX : Below w.heap.size w X := by rw [← hX]; exact ((below_alloc w _).trans ((below_alloc _ _).mono (below_alloc w _).size))
  have BA : BoxA X w.heap.size a := by rw [← hX]; exact (box_new w a).carry (below_alloc _ _) (Nat.le_refl _)
  have BX : BoxA X (w.heap.size + 1) x := by
    rw [← hX]
    have := box_new (w.alloc (.cells #[.int .i64 a.b, .int .i64 a.s, .int .i64 a.g, .int .i64 a.o, .bool a.w] 24)) x
    simpa using this
  have HA := hide BA
  have HX := hide BX
  have HB := hide bX
  obtain ⟨a0, a1, a2, a3, a4⟩ : _ ∧ _ ∧ _ ∧ _ ∧ _ := ⟨BA.c0, BA.c1, BA.c2, BA.c3, BA.c4⟩
  obtain ⟨x0, x1, x2, x3, x4⟩ : _ ∧ _ ∧ _ ∧ _ ∧ _ := ⟨BX.c0, BX.c1, BX.c2, BX.c3, BX.c4⟩
  clear BA BX bX
  go_enter Tryd.func20, Tryd.ntmps20
  go_wp2_with fail
  refine (has_any a x.b _).mono ?_; rintro e w1 ⟨rfl, b1⟩
  rw [hr1]
  have HB1 := hide (below_one HB.out b1)
  have HA1 := hide (HA.out.carry b1 (Nat.le_refl _))
  have HX1 := hide (HX.out.carry b1 (Nat.le_refl _))
  clear a0 a1 a2 a3 a4 x0 x1 x2 x3 x4 b1 HA HX HB hX hr1
  obtain ⟨a0, a1, a2, a3, a4⟩ : _ ∧ _ ∧ _ ∧ _ ∧ _ := ⟨HA1.out.c0, HA1.out.c1, HA1.out.c2, HA1.out.c3, HA1.out.c4⟩
  obtain ⟨x0, x1, x2, x3, x4⟩ : _ ∧ _ ∧ _ ∧ _ ∧ _ := ⟨HX1.out.c0, HX1.out.c1, HX1.out.c2, HX1.out.c3, HX1.out.c4⟩
  cases r1 with
  | true =>
    go_wp2
    go_ret
    exact ⟨by rw [HR.out]; rfl, HB1.out⟩
  | false =>
    go_wp2_with fail
    refine (has_any x a.b _).mono ?_; rintro e w2 ⟨rfl, b2⟩
    rw [hr2]
    have HB2 := hide (below_one HB1.out b2)
    clear a0 a1 a2 a3 a4 x0 x1 x2 x3 x4 b2 HA1 HX1 hr2
    go_wp2
    go_ret
    exact ⟨by rw [HR.out]; rfl, HB2.out⟩
set_option maxHeartbeats 800000 in
theorem beyond_any (a n : Int) (w : World) (ha : I64 a) :
    Calls Tryd.prog 18 #[.int .i64 a, .int .i64 n] w fun e w' => e = .returned (.bool (outA a n)) ∧ w' = w := by
  obtain ⟨r, hr⟩ : ∃ r, outA a n = r := ⟨_, rfl⟩
  rw [hr]
  have HR := hide hr
  clear hr
  by_cases h1 : a < 0
  · obtain rfl : r = true := by rw [← HR.out]; unfold outA; simp [h1]
    clear ha
    go_enter Tryd.func18, Tryd.ntmps18
    go_wp2
    go_ret
    exact ⟨rfl, rfl⟩
  · have hw : IntKind.i64.wrap (1073741824 - a) = 1073741824 - a := wrap_in ⟨by have := ha.2; omega, by omega⟩
    by_cases h2 : n < 0
    · obtain rfl : r = true := by rw [← HR.out]; unfold outA; simp [h2]
      clear ha hw
      go_enter Tryd.func18, Tryd.ntmps18
      go_wp2
      go_ret
      exact ⟨rfl, rfl⟩
    · obtain ⟨d, hd⟩ : ∃ d, 1073741824 - a = d := ⟨_, rfl⟩
      rw [hd] at hw
      by_cases h3 : d < n
      · obtain rfl : r = true := by rw [← HR.out]; unfold outA; rw [hd]; simp [h3]
        clear ha
        go_enter Tryd.func18, Tryd.ntmps18
        go_wp2
        go_ret
        exact ⟨rfl, rfl⟩
      · obtain rfl : r = false := by rw [← HR.out]; unfold outA; rw [hd, decide_eq_false h1, decide_eq_false h2, decide_eq_false h3]; rfl
        clear ha
        go_enter Tryd.func18, Tryd.ntmps18
        go_wp2
        go_ret
        exact ⟨rfl, rfl⟩
set_option maxHeartbeats 800000 in
theorem same_any (x : Ar) (g : Nat) (c : Int) (w : World) (hc : w.cell? ⟨g, 0, none⟩ = some (.int .i64 c)) :
    Calls Tryd.prog 25 #[.agg #[.int .i64 x.b, .int .i64 x.s, .int .i64 x.g, .int .i64 x.o, .bool x.w], .pointer (some ⟨g, 0, none⟩)] w fun e w' => e = .returned (.bool (x.b == c)) ∧ Below w.heap.size w w' := by
  have hg := lt_of_cell hc
  replace hg : g < w.heap.size := hg
  obtain ⟨r, hr⟩ : ∃ r, (x.b == c) = r := ⟨_, rfl⟩
  rw [hr]
  go_enter Tryd.func25, Tryd.ntmps25
  go_wp2
  go_ret
  exact ⟨rfl, below_alloc _ _⟩
end Go.Proofs.YtigbicggcohcgaaDoor
