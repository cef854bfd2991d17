/-
  The statements' own functions rest, Small, has and Make, as contracts.
-/
import Derived.Test.YtigbicggcohcgaaDoorAFind
namespace Go.Proofs.YtigbicggcohcgaaDoor
open Go.RowKit
theorem rest_is (n k : Int) (hk : 0 < k) : (n.tmod k + k).tmod k = n % k := by
  have h := Int.tmod_eq_emod (a := n) (b := k)
  have hp := Int.emod_nonneg n (show k ≠ 0 by omega)
  have hq := Int.emod_lt_of_pos n hk
  have e1 : k.natAbs = k := by omega
  split at h
  · have h' : n.tmod k = n % k := by omega
    rw [h', Int.tmod_eq_emod_of_nonneg (by omega), Int.add_emod_right, Int.emod_emod]
  · rw [h, e1, show n % k - k + k = n % k by omega, Int.tmod_eq_emod_of_nonneg hp, Int.emod_emod]
theorem tmod_bounds (n k : Int) (hk : 0 < k) : -k < n.tmod k ∧ n.tmod k < k := by
  have h := Int.tmod_eq_emod (a := n) (b := k)
  have hp := Int.emod_nonneg n (show k ≠ 0 by omega)
  have hq := Int.emod_lt_of_pos n hk
  have e1 : k.natAbs = k := by omega
  split at h
  · omega
  · rw [h, e1]
    constructor
    · have : n % k ≠ 0 := by
        intro e
        rename_i hh
        exact hh (.inr (Int.dvd_of_emod_eq_zero e))
      omega
    · omega
set_option maxHeartbeats 800000 in
theorem rest_any (n k : Int) (hk : 0 < k) (hk2 : k ≤ 1073741824) (w : World) :
    Calls Tryd.prog 17 #[.int .i64 n, .int .i64 k] w fun e w' => e = .returned (.int .i64 (n % k)) ∧ w' = w := by
  have h0 : ¬ (k = 0) := by omega
  obtain ⟨r, hr⟩ : ∃ r, n.tmod k = r := ⟨_, rfl⟩
  have hb := tmod_bounds n k hk
  have he := rest_is n k hk
  rw [hr] at hb he
  obtain ⟨v, hv⟩ : ∃ v, n % k = v := ⟨_, rfl⟩
  rw [hv] at he ⊢
  have hvb : 0 ≤ v ∧ v < k := by rw [← hv]; exact ⟨Int.emod_nonneg n (by omega), Int.emod_lt_of_pos n hk⟩
  have hw0 : IntKind.i64.wrap r = r := wrap_in ⟨by omega, by omega⟩
  have hw1 : IntKind.i64.wrap (r + k) = r + k := wrap_in ⟨by omega, by omega⟩
  have hw2 : IntKind.i64.wrap v = v := wrap_in ⟨by omega, by omega⟩
  clear hb hv hvb
  go_enter Tryd.func17, Tryd.ntmps17
  go_wp2
  go_ret
  exact ⟨rfl, rfl⟩
set_option maxHeartbeats 800000 in
theorem lhas_any (a : Ar) (x : Int) (w : World) :
    Calls Tryd.prog 11 #[.agg #[.int .i64 a.b, .int .i64 a.s, .int .i64 a.g, .int .i64 a.o, .bool a.w], .int .i64 x] w fun e w' => e = .returned (.bool (hasA a x)) ∧ Below w.heap.size w w' := by
  obtain ⟨d, hd⟩ : ∃ d, IntKind.i64.wrap (x - a.b) = d := ⟨_, rfl⟩
  obtain ⟨r, hr⟩ : ∃ r, hasA a x = r := ⟨_, rfl⟩
  rw [hr]
  have HR := hide hr
  clear hr
  by_cases h1 : a.b ≤ x
  · by_cases h2 : d < a.s
    · obtain rfl : r = true := by rw [← HR.out]; unfold hasA; rw [hd, decide_eq_true h1, decide_eq_true h2]; rfl
      go_enter Tryd.func11, Tryd.ntmps11
      go_wp2
      go_ret
      exact ⟨rfl, below_alloc _ _⟩
    · obtain rfl : r = false := by rw [← HR.out]; unfold hasA; rw [hd, decide_eq_true h1, decide_eq_false h2]; rfl
      go_enter Tryd.func11, Tryd.ntmps11
      go_wp2
      go_ret
      exact ⟨rfl, below_alloc _ _⟩
  · obtain rfl : r = false := by rw [← HR.out]; unfold hasA; rw [decide_eq_false h1]; rfl
    clear hd
    go_enter Tryd.func11, Tryd.ntmps11
    go_wp2
    go_ret
    exact ⟨rfl, below_alloc _ _⟩
set_option maxRecDepth 20000 in
set_option maxHeartbeats 1600000 in
theorem small_any (a : Ar) (w : World) :
    Calls Tryd.prog 10 #[.agg #[.int .i64 a.b, .int .i64 a.s, .int .i64 a.g, .int .i64 a.o, .bool a.w]] w fun e w' => e = .returned (.agg #[.int .i64 (smallA a).b, .int .i64 (smallA a).s, .int .i64 (smallA a).g, .int .i64 (smallA a).o, .bool (smallA a).w]) ∧ Below w.heap.size w w' := by
  obtain ⟨s, hs⟩ : ∃ s, smallA a = s := ⟨_, rfl⟩
  rw [hs]
  obtain ⟨X, hX⟩ : ∃ X, (w.alloc (.cells #[.int .i64 a.b, .int .i64 a.s, .int .i64 a.g, .int .i64 a.o, .bool a.w] 24)).alloc (.cells #[.int .i64 0, .int .i64 0, .int .i64 0, .int .i64 0, .bool false] 24) = X := ⟨_, rfl⟩
  have bX : Below w.heap.size w X := by rw [← hX]; exact ((below_alloc w _).trans ((below_alloc _ _).mono (below_alloc w _).size))
  have BA : BoxA X w.heap.size a := by rw [← hX]; exact (box_new w a).carry (below_alloc _ _) (Nat.le_refl _)
  have BX : BoxA X (w.heap.size + 1) Ar.zero := by
    rw [← hX]
    have := box_new (w.alloc (.cells #[.int .i64 a.b, .int .i64 a.s, .int .i64 a.g, .int .i64 a.o, .bool a.w] 24)) Ar.zero
    rw [show (w.alloc (.cells #[.int .i64 a.b, .int .i64 a.s, .int .i64 a.g, .int .i64 a.o, .bool a.w] 24)).heap.size = w.heap.size + 1 by simp] at this
    exact this
  have a0 : X.drew.cell? _ = _ := BA.c0
  have a1 : X.drew.cell? _ = _ := BA.c1
  have a2 : X.drew.cell? _ = _ := BA.c2
  have a3 : X.drew.cell? _ = _ := BA.c3
  have a4 : X.drew.cell? _ = _ := BA.c4
  have x0 : X.drew.cell? _ = _ := BX.c0
  have xx0 := BX.c0
  have x1 : X.drew.cell? _ = _ := BX.c1
  have xx1 := BX.c1
  have x2 : X.drew.cell? _ = _ := BX.c2
  have xx2 := BX.c2
  have x3 : X.drew.cell? _ = _ := BX.c3
  have xx3 := BX.c3
  have x4 : X.drew.cell? _ = _ := BX.c4
  have xx4 := BX.c4
  have z0 : X.drew.frozen? _ = _ := BX.z 0
  have zz0 := BX.z 0
  have z1 : X.drew.frozen? _ = _ := BX.z 1
  have zz1 := BX.z 1
  have z2 : X.drew.frozen? _ = _ := BX.z 2
  have zz2 := BX.z 2
  have z3 : X.drew.frozen? _ = _ := BX.z 3
  have zz3 := BX.z 3
  have z4 : X.drew.frozen? _ = _ := BX.z 4
  have zz4 := BX.z 4
  have e0 : a.b % 200 = s.b := by rw [← hs]; rfl
  have e1 : a.s % 30 = s.s - 1 := by rw [← hs]; unfold smallA; simp only; omega
  have e2 : a.g % 5 = s.g := by rw [← hs]; rfl
  have e3 : a.o % 100 = s.o := by rw [← hs]; rfl
  have e4 : a.w = s.w := by rw [← hs]; rfl
  have hw : IntKind.i64.wrap (1 + (s.s - 1)) = s.s := by
    have : 1 ≤ s.s ∧ s.s ≤ 30 := by rw [← hs]; unfold smallA; simp only; omega
    rw [show 1 + (s.s - 1) = s.s by omega]; exact wrap_in ⟨by omega, by omega⟩
  rw [e4] at a4
  obtain ⟨Y, hY⟩ : ∃ Y, ((((X.setCell ⟨w.heap.size + 1, 0, none⟩ (.int .i64 s.b)).setCell ⟨w.heap.size + 1, 1, none⟩ (.int .i64 s.s)).setCell ⟨w.heap.size + 1, 2, none⟩ (.int .i64 s.g)).setCell ⟨w.heap.size + 1, 3, none⟩ (.int .i64 s.o)).setCell ⟨w.heap.size + 1, 4, none⟩ (.bool s.w) = Y := ⟨_, rfl⟩
  have BY : BoxA Y (w.heap.size + 1) s := hY ▸ BX.lay s
  have bY : Below w.heap.size w Y.drew := below_drewN (hY ▸ below_sets bX (by omega) s) 1
  obtain ⟨y0, y1, y2, y3, y4⟩ : _ ∧ _ ∧ _ ∧ _ ∧ _ := ⟨BY.c0, BY.c1, BY.c2, BY.c3, BY.c4⟩
  have BYA : BoxA Y w.heap.size a := by
    rw [← hY]
    unfold BoxA
    rw [heap_setCell_other _ _ _ _ (by simp), heap_setCell_other _ _ _ _ (by simp), heap_setCell_other _ _ _ _ (by simp), heap_setCell_other _ _ _ _ (by simp), heap_setCell_other _ _ _ _ (by simp)]
    exact BA
  have ya0 : Y.drew.cell? _ = _ := BYA.c0
  have ya1 : Y.drew.cell? _ = _ := BYA.c1
  have ya2 : Y.drew.cell? _ = _ := BYA.c2
  have ya3 : Y.drew.cell? _ = _ := BYA.c3
  have ya4 : Y.drew.cell? _ = _ := BYA.c4
  rw [e4] at ya4
  clear BYA
  have HBY := hide bY
  have E0 := hide e0
  have E1 := hide e1
  have E2 := hide e2
  have E3 := hide e3
  clear BY bY BX BA bX e0 e1 e2 e3 e4 hs
  go_enter Tryd.func10, Tryd.ntmps10
  go_wp2_with fail
  go_region_held (fun w' => w'.cell? ⟨w.heap.size, 0, none⟩ = some (.int .i64 a.b) ∧ w'.cell? ⟨w.heap.size, 1, none⟩ = some (.int .i64 a.s) ∧ w'.cell? ⟨w.heap.size, 2, none⟩ = some (.int .i64 a.g) ∧ w'.cell? ⟨w.heap.size, 3, none⟩ = some (.int .i64 a.o) ∧ w'.cell? ⟨w.heap.size, 4, none⟩ = some (.bool s.w)) (first | (rw [a0, a1, a2, a3, a4]; exact ⟨rfl, rfl, rfl, rfl, rfl⟩) | (rw [ya0, ya1, ya2, ya3, ya4]; exact ⟨rfl, rfl, rfl, rfl, rfl⟩)) (first | (go_at_call_of 17 (Value.int IntKind.i64 200); refine (rest_any a.b 200 (by omega) (by omega) _).mono ?_; rintro e wx ⟨rfl, rfl⟩; rw [E0.out]) | (go_at_call_of 17 (Value.int IntKind.i64 30); refine (rest_any a.s 30 (by omega) (by omega) _).mono ?_; rintro e wx ⟨rfl, rfl⟩; rw [E1.out]) | (go_at_call_of 17 (Value.int IntKind.i64 5); refine (rest_any a.g 5 (by omega) (by omega) _).mono ?_; rintro e wx ⟨rfl, rfl⟩; rw [E2.out]) | (go_at_call_of 17 (Value.int IntKind.i64 100); refine (rest_any a.o 100 (by omega) (by omega) _).mono ?_; rintro e wx ⟨rfl, rfl⟩; rw [E3.out]))
  all_goals
    go_wp2
    refine bodyPost_ret (by simp [results, Tryd.results10, go_sem, y0, y1, y2, y3, y4]; rfl) rfl ?_
    exact ⟨rfl, HBY.out⟩
end Go.Proofs.YtigbicggcohcgaaDoor
