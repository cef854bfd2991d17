/-
  A deed of a script on threads: it is what the document says, whatever it is.
-/
import Derived.Test.YtnfpldndnmbplaaDoorUStepA
import Derived.Test.YtnfpldndnmbplaaDoorUStepB
import Derived.Test.YtnfpldndnmbplaaDoorUStepC
namespace Go.Proofs.YtnfpldndnmbplaaDoor
open Go.RowKit
def stepF (T : List Th) (R : List Int) (o : Nat) (id wi : Int) : List Th × List Int :=
  if o % 6 = 0 then (if id < 0 ∨ T.length = 64 then (T, R) else (T ++ [⟨id, 1, 0⟩], R ++ [(T.length : Int)]))
  else if o % 6 = 1 then (if (getF T id).s = 1 then (setT T id.toNat 2 wi, turnR R id 2) else (T, R))
  else if o % 6 = 2 then (if (getF T id).s = 2 then (setT T id.toNat 1 0, turnR R id 1) else (T, R))
  else if o % 6 = 3 then (if (getF T id).s = 1 ∨ (getF T id).s = 2 then (setT T id.toNat 3 0, turnR R id 3) else (T, R))
  else if o % 6 = 4 then ((killN id T R T.length).1, (killN id T R T.length).2.1)
  else if R.length = 0 then (T, R) else (T, turnR R (takeX R wi) 1)
theorem Inv.step {T : List Th} {R : List Int} (h : Inv T R) (o : Nat) (id wi : Int) : Inv (stepF T R o id wi).1 (stepF T R o id wi).2 := by
  unfold stepF
  split
  · split
    · exact h
    · rename_i hh
      exact h.start id (by have := h.few; omega)
  split
  · split
    · rename_i hs
      obtain ⟨k, rfl, hk, _⟩ := getF_some (T := T) (id := id) (by omega)
      exact h.turn k 2 wi hk (.inr (.inl rfl)) (fun e => by cases e)
    · exact h
  split
  · split
    · rename_i hs
      obtain ⟨k, rfl, hk, _⟩ := getF_some (T := T) (id := id) (by omega)
      exact h.turn k 1 0 hk (.inl rfl) (fun _ => rfl)
    · exact h
  split
  · split
    · rename_i hs
      obtain ⟨k, rfl, hk, _⟩ := getF_some (T := T) (id := id) (by omega)
      exact h.turn k 3 0 hk (.inr (.inr rfl)) (fun e => by cases e)
    · exact h
  split
  · exact h.kill id T.length
  split
  · exact h
  · rename_i hR
    obtain ⟨k, e, hk, _, _, _, _, hset⟩ := h.pick wi (by omega)
    have := h.turn k 1 0 hk (.inl rfl) (fun _ => rfl)
    rw [hset] at this
    rw [e]; exact this
variable {w0 : World} {B g m : Nat} {av rv : Value} {T : List Th} {R : List Int} {ao : Option Addr} {c : Nat}
theorem step_any (o : Nat) (id wi : Int) (w : World) (P : Pk w0 w B g m T R ao c av rv) (hob : o ≤ 255) (hid : -128 ≤ id ∧ id ≤ 127) :
    Calls Tryd.prog 6 #[.pointer (some ⟨m, 0, none⟩), .pointer (some ⟨g, 0, none⟩), .agg #[.int .u8 (o : Int), .int .i8 id, .int .i64 wi]] w fun e w' => StepEnd w0 B g m (stepF T R o id wi).1 (stepF T R o id wi).2 e w' := by
  unfold stepF
  by_cases h0 : o % 6 = 0
  · rw [if_pos h0]
    by_cases hh : id < 0 ∨ T.length = 64
    · rw [if_pos hh]
      by_cases h1 : id < 0
      · exact step_start_neg o id wi w P (by omega) hob hid h1
      · exact step_start_full o id wi w P (by omega) hob hid h1 (hh.resolve_left h1)
    · rw [if_neg hh]
      exact step_start_yes o id wi w P (by omega) hob hid (by omega) (by have := P.inv.few; omega)
  rw [if_neg h0]
  by_cases h1 : o % 6 = 1
  · rw [if_pos h1]
    by_cases hs : (getF T id).s = 1
    · rw [if_pos hs]
      obtain ⟨k, rfl, hk, e⟩ := getF_some (T := T) (id := id) (by omega)
      exact step_block_1 o k wi w P (by omega) hob (by omega) hk (by rw [← e]; exact hs)
    · rw [if_neg hs]
      exact step_block_no o id wi w P (by omega) hob hid hs
  rw [if_neg h1]
  by_cases h2 : o % 6 = 2
  · rw [if_pos h2]
    by_cases hs : (getF T id).s = 2
    · rw [if_pos hs]
      obtain ⟨k, rfl, hk, e⟩ := getF_some (T := T) (id := id) (by omega)
      exact step_wake_2 o k wi w P (by omega) hob (by omega) hk (by rw [← e]; exact hs)
    · rw [if_neg hs]
      exact step_wake_no o id wi w P (by omega) hob hid hs
  rw [if_neg h2]
  by_cases h3 : o % 6 = 3
  · rw [if_pos h3]
    by_cases hs : (getF T id).s = 1 ∨ (getF T id).s = 2
    · rw [if_pos hs]
      obtain ⟨k, rfl, hk, e⟩ := getF_some (T := T) (id := id) (by omega)
      rcases hs with hs | hs
      · exact step_exit_1 o k wi w P (by omega) hob (by omega) hk (by rw [← e]; exact hs)
      · exact step_exit_2 o k wi w P (by omega) hob (by omega) hk (by rw [← e]; exact hs)
    · rw [if_neg hs]
      exact step_exit_no o id wi w P (by omega) hob hid ⟨fun h => hs (.inl h), fun h => hs (.inr h)⟩
  rw [if_neg h3]
  by_cases h4 : o % 6 = 4
  · rw [if_pos h4]
    exact step_kill o id wi w P (by omega) hob hid
  rw [if_neg h4]
  by_cases hR : R.length = 0
  · rw [if_pos hR]
    exact step_pick_no o id wi w P (by omega) hob hid hR
  · rw [if_neg hR]
    obtain ⟨k, e, _⟩ := P.inv.pick wi (by omega)
    rw [e]
    exact step_pick_yes o id wi k w P (by omega) hob hid (by omega) e
end Go.Proofs.YtnfpldndnmbplaaDoor
