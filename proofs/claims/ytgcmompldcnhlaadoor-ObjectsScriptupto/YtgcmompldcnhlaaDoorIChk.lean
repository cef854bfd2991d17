/-
  What objects' Check answers, whatever the capability: one contract.
-/
import Derived.Test.YtgcmompldcnhlaaDoorICheck
namespace Go.Proofs.YtgcmompldcnhlaaDoor
open Go.RowKit
variable {w0 w w1 w2 : World} {B g go m a h k p : Nat} {v v1 : Value} {ws : List Nat} {t t1 : Nat} {es es1 : List Ent} {T T1 : Nat → Ob}
theorem check_any (c : Cp) (need : Nat) (w : World) (x : Od w0 w B g go m a h k p v ws t es T) (hc : c.ok) (hnd : need ≤ 255) (hl : es.length ≤ 5000000000000) (R : Chk) (hR : chkF ws t es p T c need = R) :
    Calls Tryd.prog 20 #[.pointer (some ⟨g, 0, none⟩), c.val, .int .u8 (need : Int)] w fun e w' => e = .returned (.tuple #[.int .i64 (R.k : Int), erN (R.e : Int)]) ∧ OdEnd w0 w B g go m a h k p v ws w' R.t R.es T := by
  subst hR
  by_cases hp : c.p = p
  · cases hn : hasO T c.o with
    | false =>
      have e : chkF ws t es p T c need = ⟨0, 1, t, es⟩ := by unfold chkF; rw [if_pos (.inr hn)]
      rw [e]
      refine (check_none c need w x hc hp hn).mono ?_
      rintro e w1 ⟨rfl, b⟩
      exact ⟨rfl, x.stay.to b⟩
    | true =>
      refine (check_has c need w x hc hp hn hnd hl _ rfl).mono ?_
      rintro e w1 ⟨rfl, E⟩
      unfold chkF
      rw [if_neg (show ¬ (c.p ≠ p ∨ hasO T c.o = false) from fun e => by
        rcases e with e | e
        · exact e hp
        · rw [hn] at e; cases e)]
      obtain ⟨X, hX⟩ : ∃ X, ofF ws t es (T c.o).s c.r = X := ⟨_, rfl⟩
      rw [hX] at E ⊢
      obtain ⟨y, ok, t', es'⟩ := X
      cases ok with
      | false => exact ⟨by simp, E⟩
      | true =>
        by_cases hcx : c.c = y
        · by_cases hr : c.r &&& need = need
          · simp [hcx, hr]; exact E
          · simp [hcx, hr]; exact E
        · simp [hcx]; exact E
  · have e : chkF ws t es p T c need = ⟨0, 1, t, es⟩ := by unfold chkF; rw [if_pos (.inl hp)]
    rw [e]
    refine (check_port c need w x hc hp).mono ?_
    rintro e w1 ⟨rfl, b⟩
    exact ⟨rfl, x.stay.to b⟩
end Go.Proofs.YtgcmompldcnhlaaDoor
