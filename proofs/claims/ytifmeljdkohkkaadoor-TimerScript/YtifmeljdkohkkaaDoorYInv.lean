/-
  Those that are set, in plain words: what the statement's two rows hold of them, deed by deed.
-/
import Derived.Test.YtifmeljdkohkkaaDoorYTake
namespace Go.Proofs.YtifmeljdkohkkaaDoor
open Go.RowKit
def idsL (L : List Al) : List Int := L.map Al.i
def leftL (now : Int) (L : List Al) : List Int := L.map fun x => x.t - now
theorem ids_len (L : List Al) : (idsL L).length = L.length := by simp [idsL]
theorem left_len (now : Int) (L : List Al) : (leftL now L).length = L.length := by simp [leftL]
theorem ids_get (L : List Al) (k : Nat) (h : k < L.length) : (idsL L).getD k 0 = (L.getD k Al.zero).i := by
  unfold idsL; simp [List.getD_eq_getElem?_getD, List.getElem?_eq_getElem h]
theorem left_get (now : Int) (L : List Al) (k : Nat) (h : k < L.length) : (leftL now L).getD k 0 = (L.getD k Al.zero).t - now := by
  unfold leftL; simp [List.getD_eq_getElem?_getD, List.getElem?_eq_getElem h]
theorem ids_append (A B : List Al) : idsL (A ++ B) = idsL A ++ idsL B := by simp [idsL]
theorem left_append (now : Int) (A B : List Al) : leftL now (A ++ B) = leftL now A ++ leftL now B := by simp [leftL]
theorem ids_cut (L : List Al) (k : Nat) : cutAt (idsL L) k = idsL (L.take k ++ L.drop (k + 1)) := by unfold cutAt idsL; rw [List.map_append, List.map_take, List.map_drop]
theorem left_cut (now : Int) (L : List Al) (k : Nat) : cutAt (leftL now L) k = leftL now (L.take k ++ L.drop (k + 1)) := by unfold cutAt leftL; rw [List.map_append, List.map_take, List.map_drop]
structure Inv (now : Int) (L : List Al) : Prop where
  nd : (idsL L).Nodup
  few : L.length ≤ 64
  rng : ∀ x ∈ L, now < x.t ∧ x.t ≤ now + 1000000
theorem inv_nil (now : Int) : Inv now [] := ⟨List.nodup_nil, by decide, fun _ h => by cases h⟩
theorem mem_ids {L : List Al} {x : Int} : x ∈ idsL L ↔ ∃ y ∈ L, y.i = x := by unfold idsL; simp
theorem drop_notin {L : List Al} {x : Int} (h : x ∉ idsL L) : dropA L x = L := by
  unfold dropA
  rw [List.filter_eq_self]
  intro y hy
  have : y.i ≠ x := fun e => h (mem_ids.2 ⟨y, hy, e⟩)
  simp [this]
theorem dropA_ids (L : List Al) (x : Int) : x ∉ idsL (dropA L x) := fun h => by
  obtain ⟨y, hy, e⟩ := mem_ids.1 h
  have := (List.mem_filter.1 hy).2
  simp [e] at this
theorem dropA_sub (L : List Al) (x : Int) : (dropA L x).Sublist L := List.filter_sublist
theorem Inv.sub {now : Int} {L M : List Al} (h : Inv now L) (s : M.Sublist L) : Inv now M :=
  ⟨h.nd.sublist (s.map Al.i), Nat.le_trans s.length_le h.few, fun x hx => h.rng x (s.subset hx)⟩
theorem Inv.drop {now : Int} {L : List Al} (h : Inv now L) (x : Int) : Inv now (dropA L x) := h.sub (dropA_sub L x)
/- what is taken out at its place is dropped, where all are unlike -/
theorem drop_at : ∀ (L : List Al) (k : Nat) (x : Int), (idsL L).Nodup → k < L.length → (L.getD k Al.zero).i = x → L.take k ++ L.drop (k + 1) = dropA L x := by
  intro L
  induction L with
  | nil => intro k x _ hk; simp at hk
  | cons y L ih =>
    intro k x hn hk e
    have hy : y.i ∉ idsL L := (List.nodup_cons.1 hn).1
    have hn' : (idsL L).Nodup := (List.nodup_cons.1 hn).2
    cases k with
    | zero =>
      have e' : y.i = x := e
      rw [e'] at hy
      have hd := drop_notin hy
      unfold dropA at hd ⊢
      rw [List.filter_cons_of_neg (by simp [e']), hd]; rfl
    | succ k =>
      have e' : (L.getD k Al.zero).i = x := e
      have hk' : k < L.length := by simpa using hk
      have hne : y.i ≠ x := fun e2 => hy (by rw [e2, ← e']; exact mem_ids.2 ⟨_, getA_mem L k hk', rfl⟩)
      have := ih k x hn' hk' e'
      unfold dropA at this ⊢
      rw [List.filter_cons_of_pos (by simp [hne]), ← this]; rfl
theorem drop_len {L : List Al} {x : Int} (hn : (idsL L).Nodup) (hx : x ∈ idsL L) : (dropA L x).length + 1 = L.length := by
  obtain ⟨y, hy, e⟩ := mem_ids.1 hx
  obtain ⟨k, hk, rfl⟩ := List.mem_iff_getElem.1 hy
  have := drop_at L k x hn hk (by rw [List.getD_eq_getElem?_getD, List.getElem?_eq_getElem hk]; exact e)
  rw [← this, List.length_append, List.length_take, List.length_drop]; omega
def hasN (L : List Int) (x : Int) : Int := if x ∈ L then 1 else 0
theorem has_snoc (L : List Int) (x : Int) (k : Nat) (h : k < L.length) : hasN (L.take (k + 1)) x = if L.getD k 0 = x then 1 else hasN (L.take k) x := by
  have e : L.take (k + 1) = L.take k ++ [L.getD k 0] := by rw [List.take_add_one, getI L k h]; rfl
  unfold hasN
  rw [e]
  by_cases h1 : L.getD k 0 = x
  · rw [if_pos h1, if_pos (List.mem_append_right _ (by rw [h1]; exact List.mem_singleton.2 rfl))]
  · rw [if_neg h1]
    by_cases h2 : x ∈ L.take k
    · rw [if_pos h2, if_pos (List.mem_append_left _ h2)]
    · rw [if_neg h2, if_neg (fun h3 => by
        rcases List.mem_append.1 h3 with h3 | h3
        · exact h2 h3
        · exact h1 (List.mem_singleton.1 h3).symm)]
theorem has_len {now : Int} {L : List Al} (h : Inv now L) (x : Int) : ((dropA L x).length : Int) = (L.length : Int) - hasN (idsL L) x := by
  unfold hasN
  by_cases hx : x ∈ idsL L
  · rw [if_pos hx]; have := drop_len h.nd hx; omega
  · rw [if_neg hx, drop_notin hx]; omega
theorem Inv.set {now : Int} {L : List Al} (h : Inv now L) (x k : Int) (he : setE L x k = 0) : Inv now (dropA L x ++ [⟨x, now + k⟩]) := by
  have hk : ¬ (k < 1 ∨ 1000000 < k) := fun hk => by rw [setE_arg hk] at he; cases he
  have hf : ¬ 64 ≤ (dropA L x).length := fun hf => by rw [setE_full hk hf] at he; cases he
  have hd := h.drop x
  refine ⟨?_, by rw [List.length_append]; simp; omega, fun y hy => ?_⟩
  · rw [ids_append]
    refine List.nodup_append.2 ⟨hd.nd, by simp [idsL], fun u hu v hv e => ?_⟩
    have : v = x := by simpa [idsL] using hv
    subst this; subst e
    exact dropA_ids L _ hu
  · rcases List.mem_append.1 hy with hy | hy
    · exact hd.rng y hy
    · obtain rfl := List.mem_singleton.1 hy
      exact ⟨by show now < now + k; omega, by show now + k ≤ _; omega⟩
theorem Inv.tick {now : Int} {L : List Al} (h : Inv now L) : Inv (now + 1) (restF L (now + 1)) := by
  have s : (restF L (now + 1)).Sublist L := List.filter_sublist
  refine ⟨h.nd.sublist (s.map Al.i), Nat.le_trans s.length_le h.few, fun x hx => ?_⟩
  obtain ⟨h1, h2⟩ := List.mem_filter.1 hx
  have h3 := h.rng x h1
  have h4 : x.t ≠ now + 1 := by simpa using h2
  omega
/- who is told apart is found -/
theorem find_at : ∀ (L : List Al) (k : Nat), (idsL L).Nodup → k < L.length → findA L (L.getD k Al.zero).i = some (L.getD k Al.zero) := by
  intro L k hn hk
  refine findA_some hk (by simp) (fun j hj => ?_)
  have hjl : j < L.length := by omega
  have h1 := ids_get L j hjl
  have h2 := ids_get L k hk
  rw [List.getD_eq_getElem?_getD, List.getElem?_eq_getElem (by rw [ids_len]; exact hjl), Option.getD_some] at h1
  rw [List.getD_eq_getElem?_getD, List.getElem?_eq_getElem (by rw [ids_len]; exact hk), Option.getD_some] at h2
  rw [beq_eq_false_iff_ne, ← h1, ← h2]
  intro e
  exact List.pairwise_iff_getElem.1 hn j k (by rw [ids_len]; exact hjl) (by rw [ids_len]; exact hk) hj e
theorem left_at {now : Int} {L : List Al} (h : Inv now L) (k : Nat) (hk : k < L.length) : leftI L now ((idsL L).getD k 0) = (leftL now L).getD k 0 ∧ leftB L ((idsL L).getD k 0) = true := by
  rw [ids_get L k hk, left_get now L k hk]
  unfold leftI leftB
  rw [find_at L k h.nd hk]
  exact ⟨rfl, rfl⟩
theorem Inv.left {now : Int} {L : List Al} (h : Inv now L) : ∀ a ∈ L, 0 ≤ a.t - now ∧ a.t - now ≤ 1000000 := fun a ha => by
  have := h.rng a ha; omega
end Go.Proofs.YtifmeljdkohkkaaDoor
