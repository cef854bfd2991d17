/-
  What a question's answer is, and what is there behind it, as a function of what is there; the check of a secret; plain facts on them.
-/
import Derived.Test.YtgcmompldcnhlaaDoorOMath
import Derived.Test.YtgcmompldcnhlaaDoorBMath
import Derived.Test.YtgcmompldcnhlaaDoorTOf
namespace Go.Proofs.YtgcmompldcnhlaaDoor
/- an answer; whether there is one; how many draws are taken behind it; what was answered so far -/
structure Ans where
  x : Nat
  ok : Bool
  t : Nat
  es : List Ent
def ansF (ws : List Nat) (t : Nat) (es : List Ent) (f : Int) (i : Nat) : Ans :=
  match findE es f i with
  | some j => ⟨(es.getD j Ent.zero).o, true, t, es⟩
  | none => if t < ws.length then ⟨ws.getD t 0, true, t + 1, es ++ [⟨f, i, ws.getD t 0⟩]⟩ else ⟨0, false, t, es⟩
def ofF (ws : List Nat) (t : Nat) (es : List Ent) (s r : Nat) : Ans :=
  if r = 255 then ⟨s % 281474976710656, true, t, es⟩ else ansF ws t es 1 ((s % 281474976710656) ^^^ r)
def erV (b : Bool) : Value := match b with | true => .nilIface | false => .iface 60 (.int .i64 7)
theorem ans_len (ws : List Nat) (t : Nat) (es : List Ent) (f : Int) (i : Nat) : (ansF ws t es f i).es.length ≤ es.length + 1 := by
  unfold ansF
  split
  · simp
  · split <;> simp
theorem of_len (ws : List Nat) (t : Nat) (es : List Ent) (s r : Nat) : (ofF ws t es s r).es.length ≤ es.length + 1 := by
  unfold ofF
  split
  · simp
  · exact ans_len _ _ _ _ _
theorem ans_no {ws : List Nat} {t : Nat} {es : List Ent} {f : Int} {i : Nat} (h : (ansF ws t es f i).ok = false) : ansF ws t es f i = ⟨0, false, t, es⟩ := by
  unfold ansF at *
  split at h
  · cases h
  · split at h
    · cases h
    · rename_i h2
      rw [if_neg h2]
theorem ans_again (ws : List Nat) (t : Nat) (es : List Ent) (f : Int) (i : Nat) : ansF ws (ansF ws t es f i).t (ansF ws t es f i).es f i = ansF ws t es f i := by
  cases hf : findE es f i with
  | some j =>
    have e : ansF ws t es f i = ⟨(es.getD j Ent.zero).o, true, t, es⟩ := by unfold ansF; rw [hf]
    rw [e]; exact e
  | none =>
    by_cases ht : t < ws.length
    · have e : ansF ws t es f i = ⟨ws.getD t 0, true, t + 1, es ++ [⟨f, i, ws.getD t 0⟩]⟩ := by unfold ansF; rw [hf]; simp only; rw [if_pos ht]
      rw [e]
      unfold ansF
      simp only [findE_snoc, hf, and_self, if_true, Option.none_or]
      rw [getD_snoc_end]
    · have e : ansF ws t es f i = ⟨0, false, t, es⟩ := by unfold ansF; rw [hf]; simp only; rw [if_neg ht]
      rw [e]; exact e
theorem of_again (ws : List Nat) (t : Nat) (es : List Ent) (s r : Nat) : ofF ws (ofF ws t es s r).t (ofF ws t es s r).es s r = ofF ws t es s r := by
  by_cases h : r = 255
  · have e : ∀ t es, ofF ws t es s r = ⟨s % 281474976710656, true, t, es⟩ := fun t es => by unfold ofF; rw [if_pos h]
    rw [e, e]
  · have e : ∀ t es, ofF ws t es s r = ansF ws t es 1 ((s % 281474976710656) ^^^ r) := fun t es => by unfold ofF; rw [if_neg h]
    rw [e, e]
    exact ans_again _ _ _ _ _
theorem of_cut (ws : List Nat) (t : Nat) (es : List Ent) (s r : Nat) : ofF ws t es (s % 281474976710656) r = ofF ws t es s r := by
  unfold ofF; rw [Nat.mod_mod]
theorem of_owner (ws : List Nat) (t : Nat) (es : List Ent) (s : Nat) : ofF ws t es s 255 = ⟨s % 281474976710656, true, t, es⟩ := by unfold ofF; rw [if_pos rfl]
theorem of_no {ws : List Nat} {t : Nat} {es : List Ent} {s r : Nat} (h : (ofF ws t es s r).ok = false) : ofF ws t es s r = ⟨0, false, t, es⟩ := by
  unfold ofF at *
  split at h
  · cases h
  · rename_i h1
    rw [if_neg h1]
    exact ans_no h
theorem xor_lt (s r : Nat) (hr : r ≤ 255) : (s % 281474976710656) ^^^ r < 281474976710656 := by
  have h1 : s % 281474976710656 < 2 ^ 48 := Nat.mod_lt _ (by decide)
  exact Nat.xor_lt_two_pow h1 (by omega)
theorem xor_nat (p r : Nat) (hp : p ≤ 18446744073709551615) (hr : r ≤ 18446744073709551615) : bits .xor .u64 (p : Int) (r : Int) = ((p ^^^ r : Nat) : Int) := by
  rw [xor_u64 _ _ (by omega) (by omega) (by omega) (by omega)]
  unfold xorF
  simp
theorem ans_word {ws : List Nat} {t : Nat} {es : List Ent} {f : Int} {i : Nat} (hw : ∀ j, ws.getD j 0 ≤ 281474976710655) (ho : ∀ x ∈ es, x.ok) : (ansF ws t es f i).x ≤ 281474976710655 := by
  unfold ansF
  split
  · rename_i j hj
    exact (okAt ho j (findE_some hj).1).2.2.2
  · split
    · exact hw t
    · exact Nat.zero_le _
end Go.Proofs.YtgcmompldcnhlaaDoor
