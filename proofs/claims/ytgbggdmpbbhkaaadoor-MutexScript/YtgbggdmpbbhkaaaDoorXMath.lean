/-
  Locks as plain lists of numbers: the one that holds, and those that wait; what each deed makes of the list.
-/
import Derived.Test.YtgbggdmpbbhkaaaDoorQMath
namespace Go.Proofs.YtgbggdmpbbhkaaaDoor
open Go.RowKit
def holdF (L : List Int) : Int := L.getD 0 (-1)
def lockE (L : List Int) (x : Int) : Int := if x < 0 then 4 else if x ∈ L then 15 else if 65 ≤ L.length then 5 else 0
def lockL (L : List Int) (x : Int) : List Int := if lockE L x = 0 then L ++ [x] else L
def freeE (L : List Int) (x : Int) : Int := if x < 0 ∨ holdF L ≠ x then 15 else 0
def freeL (L : List Int) (x : Int) : List Int := if freeE L x = 0 then L.drop 1 else L
def freeX (L : List Int) (x : Int) : Int := if freeE L x = 0 then holdF (L.drop 1) else -1
theorem xdropL_none (R : List Int) (k : Int) (h : k ∉ R) : dropL R k = R := by
  unfold dropL
  rw [List.filter_eq_self]
  intro a ha
  simp only [ne_eq, decide_not, Bool.not_eq_true', decide_eq_false_iff_not]
  intro e; exact h (e ▸ ha)
theorem xmem_dropL (R : List Int) (k x : Int) : x ∈ dropL R k ↔ x ∈ R ∧ x ≠ k := by
  unfold dropL; rw [List.mem_filter]; simp
theorem xdropL_nodup (R : List Int) (k : Int) (h : R.Nodup) : (dropL R k).Nodup := h.filter _
theorem xdropL_app (A B : List Int) (k : Int) : dropL (A ++ B) k = dropL A k ++ dropL B k := by unfold dropL; rw [List.filter_append]
/- of numbers that are each once, one that is taken out at its place is dropped -/
theorem xdrop_at (R : List Int) (i : Nat) (hn : R.Nodup) (h : i < R.length) : R.take i ++ R.drop (i + 1) = dropL R (R.getD i 0) := by
  have e : R.getD i 0 = R[i] := by rw [List.getD_eq_getElem?_getD, List.getElem?_eq_getElem h]; rfl
  rw [e]
  have hs : R = R.take i ++ (R[i] :: R.drop (i + 1)) := by rw [List.getElem_cons_drop, List.take_append_drop]
  have hp := hs ▸ hn
  obtain ⟨x, hx⟩ : ∃ x, R[i] = x := ⟨_, rfl⟩
  obtain ⟨A, hA⟩ : ∃ A, R.take i = A := ⟨_, rfl⟩
  obtain ⟨B, hB⟩ : ∃ B, R.drop (i + 1) = B := ⟨_, rfl⟩
  rw [hx, hA, hB] at hs
  rw [hA, hB, hx]
  rw [hs] at hn
  obtain ⟨_, h2, h3⟩ := List.nodup_append.1 hn
  have hxA : x ∉ A := fun hm => h3 x hm x (List.mem_cons_self ..) rfl
  have hxB : x ∉ B := (List.nodup_cons.1 h2).1
  rw [hs, xdropL_app, xdropL_none A x hxA]
  congr 1
  rw [show x :: B = [x] ++ B from rfl, xdropL_app, xdropL_none B x hxB]
  simp [dropL]
theorem xdrop_len (L : List Int) (x : Int) (h : x ∈ L) : (dropL L x).length < L.length := by
  have h1 := dropL_len L x
  rcases Nat.lt_or_ge (dropL L x).length L.length with h2 | h2
  · exact h2
  · exfalso
    have e : dropL L x = L := List.filter_sublist.eq_of_length (by unfold dropL at h1 h2; omega)
    exact dropL_not L x (by rw [e]; exact h)
theorem xdrop_has (L : List Int) (x : Int) : (dropL L x).length < L.length ↔ x ∈ L := by
  refine ⟨fun h => ?_, xdrop_len L x⟩
  by_cases hm : x ∈ L
  · exact hm
  · rw [xdropL_none L x hm] at h; omega
structure Row (L : List Int) : Prop where
  few : L.length ≤ 65
  nd : L.Nodup
  pos : ∀ x ∈ L, 0 ≤ x
theorem row_nil : Row [] := ⟨by simp, List.nodup_nil, fun x hx => by cases hx⟩
theorem holdF_nil : holdF [] = -1 := rfl
theorem holdF_get (L : List Int) (h : 0 < L.length) : holdF L = L.getD 0 0 := by
  unfold holdF
  rw [List.getD_eq_getElem?_getD, List.getD_eq_getElem?_getD, List.getElem?_eq_getElem h]; rfl
theorem holdF_mem (L : List Int) (h : 0 < L.length) : holdF L ∈ L := by
  rw [holdF_get L h, List.getD_eq_getElem?_getD, List.getElem?_eq_getElem h]; exact List.getElem_mem h
theorem Row.none {L : List Int} (h : Row L) : holdF L = -1 ↔ L.length = 0 := by
  refine ⟨fun e => ?_, fun e => by rw [List.eq_nil_of_length_eq_zero e]; rfl⟩
  rcases Nat.eq_zero_or_pos L.length with h0 | h0
  · exact h0
  · have := h.pos _ (holdF_mem L h0); omega
theorem Row.free {L : List Int} (h : Row L) {x : Int} (he : freeE L x = 0) : 0 < L.length ∧ 0 ≤ x ∧ holdF L = x ∧ L.drop 1 = dropL L x := by
  unfold freeE at he
  have hh : ¬ (x < 0 ∨ holdF L ≠ x) := fun e => by rw [if_pos e] at he; cases he
  have h1 : 0 ≤ x := by
    rcases Int.lt_or_le x 0 with a | a
    · exact absurd (.inl a) hh
    · exact a
  have h2 : holdF L = x := Decidable.of_not_not fun e => hh (.inr e)
  have h3 : 0 < L.length := by
    rcases Nat.eq_zero_or_pos L.length with h0 | h0
    · have := h.none.2 h0; omega
    · exact h0
  refine ⟨h3, h1, h2, ?_⟩
  have := xdrop_at L 0 h.nd h3
  rw [← holdF_get L h3, h2] at this
  simpa using this
theorem Row.drop {L : List Int} (h : Row L) (x : Int) : Row (dropL L x) := ⟨Nat.le_trans (dropL_len L x) h.few, xdropL_nodup L x h.nd, fun y hy => h.pos y ((xmem_dropL L x y).1 hy).1⟩
theorem Row.freed {L : List Int} (h : Row L) (x : Int) : Row (freeL L x) := by
  unfold freeL
  split
  · rename_i he
    rw [(h.free he).2.2.2]; exact h.drop x
  · exact h
theorem lockE_zero {L : List Int} {x : Int} (h0 : 0 ≤ x) (h1 : x ∉ L) (h2 : L.length < 65) : lockE L x = 0 := by unfold lockE; rw [if_neg (by omega), if_neg h1, if_neg (by omega)]
theorem Row.locked {L : List Int} (h : Row L) (x : Int) : Row (lockL L x) := by
  unfold lockL
  split
  · rename_i he
    unfold lockE at he
    split at he
    · cases he
    · split at he
      · cases he
      · split at he
        · cases he
        · rename_i a b c
          refine ⟨by simp; omega, List.nodup_append.2 ⟨h.nd, by simp, fun p hp q hq e => ?_⟩, fun y hy => ?_⟩
          · rw [List.mem_singleton.1 hq] at e; rw [e] at hp; exact b hp
          · rcases List.mem_append.1 hy with hy | hy
            · exact h.pos y hy
            · rw [List.mem_singleton.1 hy]; omega
  · exact h
/- the first place of one that is there -/
theorem first_at (L : List Int) (x : Int) (i : Nat) (hn : L.Nodup) (hi : i < L.length) (e : L.getD i 0 = x) : L.take i ++ L.drop (i + 1) = dropL L x := by
  rw [xdrop_at L i hn hi, e]
end Go.Proofs.YtgbggdmpbbhkaaaDoor
