/-
  What May, together, and the statements' Same answer, as contracts.
-/
import Derived.Test.YtdfakeddhoolcaaFRow
namespace Go.Proofs.Ytdfakeddhoolcaa
open Go.RowKit
def erN (k : Int) : Value := if k = 0 then .nilIface else .iface 57 (.int .i64 k)
theorem erN_zero : erN 0 = .nilIface := rfl
theorem erN_not {k : Int} (h : k ≠ 0) : erN k = .iface 57 (.int .i64 k) := if_neg h
def Pa.may (p : Pa) : Bool := mayF p.x p.c p.sn
def Pa.with (p q : Pa) : Bool := p.i == q.i && (p.f == q.f && p.t == q.t)
set_option maxRecDepth 20000 in
set_option maxHeartbeats 1600000 in
theorem may_any (p : Pa) (w : World) (hn : p.sn ≤ 9223372036854775807) :
    Calls Try.prog 10 #[.agg #[.int .i64 p.f, .int .i64 p.t, .int .u64 p.i, .int .i64 p.x, .int .i64 p.c, .slice p.so p.sn p.sc]] w fun e w' => e = .returned (.bool p.may) ∧ Below w.heap.size w w' := by
  have hb := below_alloc w (.cells #[.int .i64 p.f, .int .i64 p.t, .int .u64 p.i, .int .i64 p.x, .int .i64 p.c, .slice p.so p.sn p.sc] 35)
  by_cases h1 : 1 ≤ p.c
  · by_cases h2 : p.c ≤ 256
    · by_cases h3 : 0 ≤ p.x
      · by_cases h4 : p.x < p.c
        · by_cases h5 : p.sn ≤ 32768
          · have HR : Hid (p.may = true) := (may_iff _ _ _).2 ⟨h1, h2, h3, h4, h5⟩
            have h5' : (p.sn : Int) ≤ 32768 := by omega
            go_enter Try.func10, Try.ntmps10
            go_wp2
            go_ret
            exact ⟨by rw [HR.out]; rfl, hb⟩
          · have HR : Hid (p.may = false) := by show p.may = false; rw [Bool.eq_false_iff]; intro e; have := (may_iff _ _ _).1 e; omega
            have h5' : ¬ ((p.sn : Int) ≤ 32768) := by omega
            go_enter Try.func10, Try.ntmps10
            go_wp2
            go_ret
            exact ⟨by rw [HR.out]; rfl, hb⟩
        · have HR : Hid (p.may = false) := by show p.may = false; rw [Bool.eq_false_iff]; intro e; have := (may_iff _ _ _).1 e; omega
          go_enter Try.func10, Try.ntmps10
          go_wp2
          go_ret
          exact ⟨by rw [HR.out]; rfl, hb⟩
      · have HR : Hid (p.may = false) := by show p.may = false; rw [Bool.eq_false_iff]; intro e; have := (may_iff _ _ _).1 e; omega
        go_enter Try.func10, Try.ntmps10
        go_wp2
        go_ret
        exact ⟨by rw [HR.out]; rfl, hb⟩
    · have HR : Hid (p.may = false) := by show p.may = false; rw [Bool.eq_false_iff]; intro e; have := (may_iff _ _ _).1 e; omega
      go_enter Try.func10, Try.ntmps10
      go_wp2
      go_ret
      exact ⟨by rw [HR.out]; rfl, hb⟩
  · have HR : Hid (p.may = false) := by show p.may = false; rw [Bool.eq_false_iff]; intro e; have := (may_iff _ _ _).1 e; omega
    go_enter Try.func10, Try.ntmps10
    go_wp2
    go_ret
    exact ⟨by rw [HR.out]; rfl, hb⟩
set_option maxRecDepth 20000 in
set_option maxHeartbeats 1600000 in
theorem with_any (p q : Pa) (w : World) :
    Calls Try.prog 21 #[.agg #[.int .i64 p.f, .int .i64 p.t, .int .u64 p.i, .int .i64 p.x, .int .i64 p.c, .slice p.so p.sn p.sc], .agg #[.int .i64 q.f, .int .i64 q.t, .int .u64 q.i, .int .i64 q.x, .int .i64 q.c, .slice q.so q.sn q.sc]] w fun e w' => e = .returned (.bool (p.with q)) ∧ Below w.heap.size w w' := by
  have hb := below_one (below_alloc w (.cells #[.int .i64 p.f, .int .i64 p.t, .int .u64 p.i, .int .i64 p.x, .int .i64 p.c, .slice p.so p.sn p.sc] 35)) (below_alloc _ (.cells #[.int .i64 q.f, .int .i64 q.t, .int .u64 q.i, .int .i64 q.x, .int .i64 q.c, .slice q.so q.sn q.sc] 35))
  obtain ⟨R, hR⟩ : ∃ R, p.with q = R := ⟨_, rfl⟩
  have HR := hide hR
  rw [hR]
  clear hR
  cases h1 : (p.i == q.i) with
  | false =>
    go_enter Try.func21, Try.ntmps21
    go_wp2
    go_ret
    exact ⟨by rw [← HR.out]; unfold Pa.with; simp [h1], hb⟩
  | true =>
    cases h2 : (p.f == q.f) with
    | false =>
      go_enter Try.func21, Try.ntmps21
      go_wp2
      go_ret
      exact ⟨by rw [← HR.out]; unfold Pa.with; simp [h2], hb⟩
    | true =>
      cases h3 : (p.t == q.t) with
      | false =>
        go_enter Try.func21, Try.ntmps21
        go_wp2
        go_ret
        exact ⟨by rw [← HR.out]; unfold Pa.with; simp [h3], hb⟩
      | true =>
        go_enter Try.func21, Try.ntmps21
        go_wp2
        go_ret
        exact ⟨by rw [← HR.out]; unfold Pa.with; rw [h1, h2, h3]; rfl, hb⟩
end Go.Proofs.Ytdfakeddhoolcaa
