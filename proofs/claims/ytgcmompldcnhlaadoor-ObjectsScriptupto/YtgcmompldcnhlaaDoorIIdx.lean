/-
  slices.IndexFunc over a table's objects, at the function that asks whether one is free: a contract; the lowest number that is free.
-/
import Derived.Test.YtgcmompldcnhlaaDoorIChk
namespace Go.Proofs.YtgcmompldcnhlaaDoor
open Go.RowKit
variable {w w' : World} {g p go : Nat} {T : Nat → Ob}
/- the lowest number that no object has; 64, if there is none -/
def freeO (T : Nat → Ob) : Nat := (List.range 64).findIdx fun k => decide ((T k).l = 0)
theorem freeO_le (T : Nat → Ob) : freeO T ≤ 64 := by
  have := List.findIdx_le_length (xs := List.range 64) (p := fun k => decide ((T k).l = 0))
  rw [List.length_range] at this
  exact this
theorem freeO_before {T : Nat → Ob} {j : Nat} (h : j < freeO T) : (T j).l ≠ 0 := by
  have h64 : j < 64 := Nat.lt_of_lt_of_le h (freeO_le T)
  have := List.not_of_lt_findIdx h
  simpa using this
theorem freeO_is {T : Nat → Ob} (h : freeO T < 64) : (T (freeO T)).l = 0 := by
  have h1 : freeO T < (List.range 64).length := by rw [List.length_range]; exact h
  have := List.findIdx_getElem (xs := List.range 64) (p := fun k => decide ((T k).l = 0)) (w := h1)
  have e := List.getElem_range (n := 64) (h := h1)
  have this := of_decide_eq_true this
  unfold freeO at e ⊢
  rw [e] at this
  exact this
theorem freeO_eq {T : Nat → Ob} {k : Nat} (hk : k < 64) (h0 : (T k).l = 0) (hn : ∀ j, j < k → (T j).l ≠ 0) : freeO T = k := by
  have h1 : ¬ k < freeO T := fun e => freeO_before e h0
  have h2 : ¬ freeO T < k := fun e => hn _ e (freeO_is (by omega))
  omega
theorem freeO_none {T : Nat → Ob} (hn : ∀ j, j < 64 → (T j).l ≠ 0) : freeO T = 64 := by
  have h1 := freeO_le T
  have h2 : ¬ freeO T < 64 := fun e => hn _ e (freeO_is e)
  omega
def freeI (T : Nat → Ob) : Int := if freeO T < 64 then (freeO T : Int) else -1
set_option maxHeartbeats 800000 in
theorem ask_free (x : Ob) (w : World) :
    Calls Tryd.prog 36 #[.agg #[.int .u64 (x.s : Int), .int .i64 (x.e : Int), .int .i64 x.v, .int .i64 (x.l : Int)]] w fun e w' => e = .returned (.bool (decide (x.l = 0))) ∧ Below w.heap.size w w' := by
  obtain ⟨s, ep, v, l⟩ := x
  by_cases h : l = 0
  · subst h
    rw [decide_eq_true rfl]
    go_enter Tryd.func36, Tryd.ntmps36
    go_wp2
    go_ret
    exact ⟨rfl, below_alloc _ _⟩
  · have hl : ((l : Int) == 0) = false := by simpa using h
    rw [decide_eq_false h]
    clear h
    go_enter Tryd.func36, Tryd.ntmps36
    go_wp2
    go_ret
    exact ⟨rfl, below_alloc _ _⟩
def FreeRel (w : World) (T : Nat → Ob) (gk : Nat) (vi : Value) (wr : World) : Prop := ∃ i : Nat, i + gk = 64 ∧ vi = .int .i64 (i : Int) ∧ (∀ j, j < i → (T j).l ≠ 0) ∧ Below w.heap.size w wr
set_option maxRecDepth 20000 in
set_option maxHeartbeats 1600000 in
theorem index_any (w : World) (x : Tb w g p go T) :
    Calls Tryd.prog 35 #[.slice (some ⟨g, 2, none⟩) 64 64, .func (.func 36) #[] #[]] w fun e w' => e = .returned (.int .i64 (freeI T)) ∧ Below w.heap.size w w' := by
  have HX := hide x
  obtain ⟨R, hR⟩ : ∃ R, freeI T = R := ⟨_, rfl⟩
  have HR := hide hR
  rw [hR]
  clear x hR
  go_enter Tryd.func35, Tryd.ntmps35
  go_wp2
  go_loopg [8] 64 (fun gk vi wr => FreeRel w T gk vi wr)
  case atStart => exact ⟨0, by omega, rfl, fun j hj => by omega, Below.refl _ _⟩
  case round =>
    obtain ⟨i, hi, rfl, hno, b⟩ := hrel
    have HN := hide hno
    have HB := hide b
    clear hno b
    cases gk with
    | zero =>
      obtain rfl : i = 64 := by omega
      have e : R = -1 := by rw [← HR.out]; unfold freeI; rw [if_neg (by rw [freeO_none HN.out]; omega)]
      subst e
      go_wp2
      go_ret
      exact ⟨rfl, HB.out⟩
    | succ g1 =>
      have hin : i < 64 := by omega
      have hlt : (i : Int) < 64 := by omega
      rcases hT : T i with ⟨s, ep, v, l⟩
      obtain ⟨k0, k1, k2, k3⟩ := (HX.out.grow HB.out).at i hin s ep v l hT
      have HT := hide hT
      clear hT
      go_wp2_with fail
      refine (ask_free ⟨s, ep, v, l⟩ _).mono ?_; rintro e w1 ⟨rfl, b1⟩
      obtain ⟨r, hr⟩ : ∃ r, decide (l = 0) = r := ⟨_, rfl⟩
      have HRR := hide hr
      rw [show decide ((Ob.mk s ep v l).l = 0) = r from hr]
      have HB1 := hide (below_one HB.out b1)
      clear b1 hr
      cases r with
      | true =>
        have e : R = (i : Int) := by
          have h0 : (T i).l = 0 := by rw [HT.out]; exact of_decide_eq_true HRR.out
          rw [← HR.out]; unfold freeI; rw [freeO_eq hin h0 HN.out, if_pos hin]
        subst e
        go_wp2
        go_ret
        exact ⟨rfl, HB1.out⟩
      | false =>
        go_wp2
        go_roundg g1
        case measure => omega
        case rel =>
          refine ⟨i + 1, by omega, by go_num, fun j hj => ?_, HB1.out⟩
          by_cases e : j = i
          · rw [e, HT.out]; exact of_decide_eq_false HRR.out
          · exact HN.out j (by omega)
end Go.Proofs.YtgcmompldcnhlaaDoor
