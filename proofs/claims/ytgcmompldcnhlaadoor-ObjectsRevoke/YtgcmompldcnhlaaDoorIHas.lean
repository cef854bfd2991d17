/-
  A question that has its answer keeps it; an answer of an elder secret is none of a later one, where draws are unlike: plain facts.
-/
import Derived.Test.YtgcmompldcnhlaaDoorISpr
namespace Go.Proofs.YtgcmompldcnhlaaDoor
variable {ws : List Nat} {t t1 p : Nat} {es : List Ent} {T : Nat → Ob} {s r x : Nat}
def HasA (es : List Ent) (s r x : Nat) : Prop := if r = 255 then x = s % 281474976710656 else ∃ j, findE es 1 ((s % 281474976710656) ^^^ r) = some j ∧ (es.getD j Ent.zero).o = x
theorem has_of (h : HasA es s r x) : ofF ws t es s r = ⟨x, true, t, es⟩ := by
  unfold HasA at h
  unfold ofF
  by_cases e : r = 255
  · rw [if_pos e] at h ⊢; rw [h]
  · rw [if_neg e] at h ⊢
    obtain ⟨j, h1, h2⟩ := h
    unfold ansF
    rw [h1]
    simp only [h2]
theorem find_app {es : List Ent} {f : Int} {i j : Nat} (h : findE es f i = some j) (more : List Ent) : findE (es ++ more) f i = some j ∧ ((es ++ more).getD j Ent.zero) = es.getD j Ent.zero := by
  refine ⟨?_, ?_⟩
  · unfold findE at h ⊢
    rw [List.findIdx?_append, h]; rfl
  · have := (findE_some h).1
    rw [List.getD_eq_getElem?_getD, List.getD_eq_getElem?_getD, List.getElem?_append_left this]
theorem HasA.ext (h : HasA es s r x) (more : List Ent) : HasA (es ++ more) s r x := by
  unfold HasA at h ⊢
  by_cases e : r = 255
  · rw [if_pos e] at h ⊢; exact h
  · rw [if_neg e] at h ⊢
    obtain ⟨j, h1, h2⟩ := h
    obtain ⟨h3, h4⟩ := find_app h1 more
    exact ⟨j, h3, by rw [h4]; exact h2⟩
/- what an answer leaves -/
theorem of_cases (ws : List Nat) (t : Nat) (es : List Ent) (s r : Nat) :
    (∃ x, HasA es s r x ∧ ofF ws t es s r = ⟨x, true, t, es⟩) ∨
    (r ≠ 255 ∧ findE es 1 ((s % 281474976710656) ^^^ r) = none ∧ t < ws.length ∧ ofF ws t es s r = ⟨ws.getD t 0, true, t + 1, es ++ [⟨1, (s % 281474976710656) ^^^ r, ws.getD t 0⟩]⟩) ∨
    (ws.length ≤ t ∧ ofF ws t es s r = ⟨0, false, t, es⟩) := by
  by_cases e : r = 255
  · have h : HasA es s r (s % 281474976710656) := by unfold HasA; rw [if_pos e]
    exact .inl ⟨_, h, has_of h⟩
  · cases hf : findE es 1 ((s % 281474976710656) ^^^ r) with
    | some j =>
      have h : HasA es s r (es.getD j Ent.zero).o := by unfold HasA; rw [if_neg e]; exact ⟨j, hf, rfl⟩
      exact .inl ⟨_, h, has_of h⟩
    | none =>
      by_cases ht : t < ws.length
      · refine .inr (.inl ⟨e, rfl, ht, ?_⟩)
        unfold ofF ansF; rw [if_neg e, hf]; simp only; rw [if_pos ht]
      · refine .inr (.inr ⟨by omega, ?_⟩)
        unfold ofF ansF; rw [if_neg e, hf]; simp only; rw [if_neg ht]
theorem of_ext (ws : List Nat) (t : Nat) (es : List Ent) (s r : Nat) : ∃ more, (ofF ws t es s r).es = es ++ more := by
  rcases of_cases ws t es s r with ⟨x, _, e⟩ | ⟨_, _, _, e⟩ | ⟨_, e⟩ <;> rw [e]
  · exact ⟨[], by simp⟩
  · exact ⟨_, rfl⟩
  · exact ⟨[], by simp⟩
theorem of_t (ws : List Nat) (t : Nat) (es : List Ent) (s r : Nat) : t ≤ (ofF ws t es s r).t ∧ (ofF ws t es s r).t ≤ t + 1 := by
  rcases of_cases ws t es s r with ⟨x, _, e⟩ | ⟨_, _, _, e⟩ | ⟨_, e⟩ <;> rw [e] <;> simp
theorem of_ok (h : t < ws.length) (es : List Ent) (s r : Nat) : (ofF ws t es s r).ok = true := by
  rcases of_cases ws t es s r with ⟨x, _, e⟩ | ⟨_, _, _, e⟩ | ⟨h2, e⟩
  · rw [e]
  · rw [e]
  · omega
theorem of_has (h : (ofF ws t es s r).ok = true) : HasA (ofF ws t es s r).es s r (ofF ws t es s r).x := by
  rcases of_cases ws t es s r with ⟨x, hx, e⟩ | ⟨e0, hf, _, e⟩ | ⟨_, e⟩
  · rw [e]; exact hx
  · rw [e]
    unfold HasA
    rw [if_neg e0]
    refine ⟨es.length, ?_, by simp only; rw [getD_snoc_end]⟩
    simp only
    rw [findE_snoc, hf]; simp
  · rw [e] at h; cases h
theorem has_owner (hs : s ≤ 281474976710655) : HasA es s 255 s := by
  unfold HasA; rw [if_pos rfl, Nat.mod_eq_of_lt (by omega)]
/- a capability that is good, and one that is not -/
theorem chk_good {c : Cp} {need : Nat} (hp : c.p = p) (hh : hasO T c.o = true) (hx : HasA es (T c.o).s c.r c.c) : chkF ws t es p T c need = if c.r &&& need = need then ⟨c.o, 0, t, es⟩ else ⟨0, 2, t, es⟩ := by
  unfold chkF
  rw [if_neg (fun e => by rcases e with e | e; exact e hp; rw [hh] at e; cases e), has_of hx]
  simp only
  rw [if_neg (by simp), if_neg (by simp)]
  by_cases h : c.r &&& need = need
  · rw [if_pos h, if_neg (fun e => e h)]
  · rw [if_neg h, if_pos h]
theorem chk_bad {c : Cp} {need : Nat} (hp : c.p = p) (hh : hasO T c.o = true) (ho : (ofF ws t es (T c.o).s c.r).ok = true) (hx : c.c ≠ (ofF ws t es (T c.o).s c.r).x) : chkF ws t es p T c need = ⟨0, 1, (ofF ws t es (T c.o).s c.r).t, (ofF ws t es (T c.o).s c.r).es⟩ := by
  unfold chkF
  rw [if_neg (fun e => by rcases e with e | e; exact e hp; rw [hh] at e; cases e), if_neg (by rw [ho]; simp), if_pos hx]
theorem chk_none {c : Cp} {need : Nat} (hh : c.p ≠ p ∨ hasO T c.o = false) : chkF ws t es p T c need = ⟨0, 1, t, es⟩ := by
  unfold chkF; rw [if_pos hh]
/- draws that are unlike; answers that are such -/
def Unlike (ws : List Nat) : Prop := ∀ i j, i < ws.length → j < ws.length → ws.getD i 0 = ws.getD j 0 → i = j
structure Outs (ws : List Nat) (t : Nat) (es : List Ent) : Prop where
  le : t ≤ ws.length
  drawn : ∀ j, j < es.length → ∃ i, i < t ∧ (es.getD j Ent.zero).o = ws.getD i 0
  apart : ∀ i j, i < es.length → j < es.length → (es.getD i Ent.zero).o = (es.getD j Ent.zero).o → i = j
theorem Outs.more (h : Outs ws t es) (ht : t < ws.length) : Outs ws (t + 1) es :=
  ⟨by omega, fun j hj => by obtain ⟨i, h1, h2⟩ := h.drawn j hj; exact ⟨i, by omega, h2⟩, h.apart⟩
theorem Outs.snoc (h : Outs ws t es) (hu : Unlike ws) (ht : t < ws.length) (f : Int) (i : Nat) : Outs ws (t + 1) (es ++ [⟨f, i, ws.getD t 0⟩]) := by
  have get : ∀ j, j < (es ++ [Ent.mk f i (ws.getD t 0)]).length → (j < es.length ∧ (es ++ [Ent.mk f i (ws.getD t 0)]).getD j Ent.zero = es.getD j Ent.zero) ∨ (j = es.length ∧ (es ++ [Ent.mk f i (ws.getD t 0)]).getD j Ent.zero = ⟨f, i, ws.getD t 0⟩) := by
    intro j hj
    rw [List.length_append] at hj
    simp only [List.length_cons, List.length_nil] at hj
    by_cases e : j < es.length
    · exact .inl ⟨e, getD_snoc_lt es _ j e⟩
    · obtain rfl : j = es.length := by omega
      exact .inr ⟨rfl, getD_snoc_end es _⟩
  have no : ∀ j, j < es.length → (es.getD j Ent.zero).o ≠ ws.getD t 0 := by
    intro j hj e
    obtain ⟨k, h1, h2⟩ := h.drawn j hj
    rw [h2] at e
    have := hu k t (by omega) ht e
    omega
  refine ⟨by omega, fun j hj => ?_, fun a b ha hb e => ?_⟩
  · rcases get j hj with ⟨h1, h2⟩ | ⟨_, h2⟩
    · obtain ⟨k, h3, h4⟩ := h.drawn j h1
      exact ⟨k, by omega, by rw [h2]; exact h4⟩
    · exact ⟨t, by omega, by rw [h2]⟩
  · rcases get a ha with ⟨h1, h2⟩ | ⟨h1, h2⟩ <;> rcases get b hb with ⟨h3, h4⟩ | ⟨h3, h4⟩ <;> rw [h2, h4] at e
    · exact h.apart a b h1 h3 e
    · exact absurd e (no a h1)
    · exact absurd e.symm (no b h3)
    · omega
theorem Outs.of (h : Outs ws t es) (hu : Unlike ws) (s r : Nat) : Outs ws (ofF ws t es s r).t (ofF ws t es s r).es := by
  rcases of_cases ws t es s r with ⟨x, _, e⟩ | ⟨_, _, ht, e⟩ | ⟨_, e⟩ <;> rw [e]
  · exact h
  · exact h.snoc hu ht _ _
  · exact h
theorem outs_nil (ws : List Nat) {t : Nat} (h : t ≤ ws.length) : Outs ws t [] := ⟨h, fun j hj => by simp at hj, fun i j hi _ _ => by simp at hi⟩
theorem xor_inj {a b r : Nat} (h : a ^^^ r = b ^^^ r) : a = b := by
  have := congrArg (· ^^^ r) h
  simpa [Nat.xor_assoc] using this
/- what was told of one draw's secret is not the check of another's -/
theorem unlike_of {a b : Nat} (h : Outs ws t es) (hu : Unlike ws) (hw : ∀ j, ws.getD j 0 ≤ 281474976710655) (ha : a < t) (hb : b < t) (hab : a ≠ b) (hx : HasA es (ws.getD a 0) r x) (ho : (ofF ws t es (ws.getD b 0) r).ok = true) : x ≠ (ofF ws t es (ws.getD b 0) r).x := by
  have hne : ws.getD a 0 ≠ ws.getD b 0 := fun e => hab (hu a b (by have := h.le; omega) (by have := h.le; omega) e)
  have ma : ws.getD a 0 % 281474976710656 = ws.getD a 0 := Nat.mod_eq_of_lt (by have := hw a; omega)
  have mb : ws.getD b 0 % 281474976710656 = ws.getD b 0 := Nat.mod_eq_of_lt (by have := hw b; omega)
  have hx0 := hx
  unfold HasA at hx
  by_cases e : r = 255
  · rw [if_pos e, ma] at hx
    subst e
    rw [of_owner, mb, hx]
    exact hne
  · rw [if_neg e, ma] at hx
    obtain ⟨j, h1, h2⟩ := hx
    have f1 := findE_some h1
    rcases of_cases ws t es (ws.getD b 0) r with ⟨y, hy, e1⟩ | ⟨_, _, ht, e1⟩ | ⟨_, e1⟩
    · rw [e1]
      unfold HasA at hy
      rw [if_neg e, mb] at hy
      obtain ⟨k, h3, h4⟩ := hy
      have f2 := findE_some h3
      intro exy
      simp only at exy
      have := h.apart j k f1.1 f2.1 (by rw [h2, h4]; exact exy)
      subst this
      exact hne (xor_inj (f1.2.2.symm.trans f2.2.2))
    · rw [e1]
      intro exy
      simp only at exy
      obtain ⟨i, h3, h4⟩ := h.drawn j f1.1
      rw [h2, exy] at h4
      have := hu t i ht (by omega) h4
      omega
    · rw [e1] at ho; cases ho
theorem spr_unlike (n : Nat) : Unlike (sprL n) := by
  intro i j hi hj e
  rw [sprL_len] at hi hj
  rw [sprL_get hi, sprL_get hj] at e
  unfold sprE at e
  omega
end Go.Proofs.YtgcmompldcnhlaaDoor
