/-
  Maps of addresses, in plain words, further: one area alone has an address; a map without one of its areas, and with it again; an area over others, address by address; two areas in both orders.
-/
import Derived.Test.YtigbicggcohcgaaDoorAFind
import Derived.Test.YtigbicggcohcgaaDoorAPcs
namespace Go.Proofs.YtigbicggcohcgaaDoor
theorem getD_get {L : List Ar} {i : Nat} (h : i < L.length) : L.getD i Ar.zero = L[i] := by
  rw [List.getD_eq_getElem?_getD, List.getElem?_eq_getElem h]; rfl
theorem Good.get {L : List Ar} (h : Good L) {i : Nat} (hi : i < L.length) : okA (L.getD i Ar.zero) := h.ok _ (getD_mem L i hi)
theorem Good.apart {L : List Ar} (h : Good L) {i j : Nat} (hij : i < j) (hj : j < L.length) : (L.getD i Ar.zero).b + (L.getD i Ar.zero).s ≤ (L.getD j Ar.zero).b := by
  rw [getD_get hj, getD_get (Nat.lt_trans hij hj)]
  exact List.pairwise_iff_getElem.1 h.sort i j (Nat.lt_trans hij hj) hj hij
theorem Good.only {L : List Ar} (h : Good L) {x : Int} (hx : I64 x) {i j : Nat} (hi : i < L.length) (hj : j < L.length) (hne : j ≠ i) (hh : hasA (L.getD i Ar.zero) x = true) : hasA (L.getD j Ar.zero) x = false := by
  have oi := h.get hi
  have oj := h.get hj
  obtain ⟨h1, h2⟩ := (has_iff oi hx).1 hh
  refine (has_not oj hx).2 ?_
  rcases Nat.lt_or_gt_of_ne hne with hlt | hlt
  · have := h.apart hlt hi; omega
  · have := h.apart hlt hj; omega
theorem find_take_no {L : List Ar} {x : Int} {i : Nat} (hi : i < L.length) (hh : hasA (L.getD i Ar.zero) x = false) : findF (L.take (i + 1)) x = findF (L.take i) x := by
  unfold findF
  rw [takeA_snoc L i hi, List.find?_append, List.find?_cons_of_neg (p := (hasA · x)) (by rw [hh]; decide), List.find?_nil, Option.or_none]
theorem getD_take {L : List Ar} {i j : Nat} (h : j < i) : (L.take i).getD j Ar.zero = L.getD j Ar.zero := by
  rw [List.getD_eq_getElem?_getD, List.getElem?_take, if_pos h, ← List.getD_eq_getElem?_getD]
theorem find_take_yes {L : List Ar} (h : Good L) {x : Int} (hx : I64 x) {i : Nat} (hi : i < L.length) (hh : hasA (L.getD i Ar.zero) x = true) : findF (L.take (i + 1)) x = (L.getD i Ar.zero, true) := by
  have e := getD_take (L := L) (show i < i + 1 by omega)
  rw [find_some (L := L.take (i + 1)) (i := i) (by rw [List.length_take]; omega) (by rw [e]; exact hh) (fun j hj => by rw [getD_take (by omega)]; exact h.only hx hi (by omega) (by omega) hh), e]
theorem find_at {L : List Ar} (h : Good L) {x : Int} (hx : I64 x) {i : Nat} (hi : i < L.length) (hh : hasA (L.getD i Ar.zero) x = true) : findF L x = (L.getD i Ar.zero, true) :=
  find_some hi hh (fun j hj => h.only hx hi (by omega) (by omega) hh)
theorem find_cases (L : List Ar) (x : Int) : (findF L x = (Ar.zero, false) ∧ ∀ j, j < L.length → hasA (L.getD j Ar.zero) x = false) ∨ ∃ i, i < L.length ∧ findF L x = (L.getD i Ar.zero, true) ∧ hasA (L.getD i Ar.zero) x = true := by
  unfold findF
  cases hf : L.find? (hasA · x) with
  | none =>
    refine .inl ⟨rfl, fun j hj => ?_⟩
    have := List.find?_eq_none.1 hf _ (getD_mem L j hj)
    simpa using this
  | some a =>
    have h1 := List.mem_of_find?_eq_some hf
    have h2 := List.find?_some hf
    obtain ⟨i, hi, rfl⟩ := List.mem_iff_getElem.1 h1
    exact .inr ⟨i, hi, by rw [getD_get hi], by rw [getD_get hi]; exact h2⟩
/- a map without one of its areas, and with it again -/
def remA (L : List Ar) (i : Nat) : List Ar := L.take i ++ L.drop (i + 1)
theorem mem_remA {L : List Ar} {i : Nat} {y : Ar} (h : y ∈ remA L i) : ∃ j, j < L.length ∧ j ≠ i ∧ L.getD j Ar.zero = y := by
  rcases List.mem_append.1 h with h | h
  · obtain ⟨j, hj, rfl⟩ := List.mem_iff_getElem.1 h
    rw [List.length_take] at hj
    exact ⟨j, by omega, by omega, by rw [getD_get (by omega), List.getElem_take]⟩
  · obtain ⟨j, hj, rfl⟩ := List.mem_iff_getElem.1 h
    rw [List.length_drop] at hj
    exact ⟨i + 1 + j, by omega, by omega, by rw [getD_get (by omega), List.getElem_drop]⟩
theorem insA_mid {a : Ar} {l1 l2 : List Ar} (h1 : ∀ x ∈ l1, x.b < a.b) (h2 : ∀ x ∈ l2, ¬ x.b < a.b) : insA a (l1 ++ l2) = l1 ++ a :: l2 := by
  induction l1 with
  | nil =>
    cases l2 with
    | nil => rfl
    | cons y l2 => rw [List.nil_append, insA, if_neg (h2 y (List.mem_cons_self))]; rfl
  | cons y l1 ih =>
    rw [List.cons_append, insA, if_pos (h1 y (List.mem_cons_self)), ih (fun x hx => h1 x (List.mem_cons_of_mem _ hx))]; rfl
theorem split_at {L : List Ar} {i : Nat} (hi : i < L.length) : L.take i ++ L.getD i Ar.zero :: L.drop (i + 1) = L := by
  rw [← dropA_cons L i hi, List.take_append_drop]
theorem rem_find {L : List Ar} (h : Good L) {x : Int} (hx : I64 x) {i : Nat} (hi : i < L.length) (hh : hasA (L.getD i Ar.zero) x = true) : findF (remA L i) x = (Ar.zero, false) := by
  refine find_none (fun j hj => ?_)
  obtain ⟨k, h1, h2, h3⟩ := mem_remA (getD_mem (remA L i) j hj)
  rw [← h3]; exact h.only hx hi h1 h2 hh
theorem rem_lap {L : List Ar} (h : Good L) {i : Nat} (hi : i < L.length) : ∀ y ∈ remA L i, lapA (L.getD i Ar.zero) y = false := fun y hy => by
  obtain ⟨j, h1, h2, rfl⟩ := mem_remA hy
  refine (lapA_iff (h.get hi) (h.get h1)).2 ?_
  rcases Nat.lt_or_gt_of_ne h2 with hlt | hlt
  · exact .inr (h.apart hlt hi)
  · exact .inl (h.apart hlt h1)
theorem rem_len {L : List Ar} {i : Nat} (hi : i < L.length) : (remA L i).length = L.length - 1 := by
  unfold remA; rw [List.length_append, List.length_take, List.length_drop]; omega
theorem rem_addE {L : List Ar} (h : Good L) {i : Nat} (hi : i < L.length) : addE (remA L i) (L.getD i Ar.zero) = 0 :=
  addE_is (h.get hi) (rem_lap h hi) (by rw [rem_len hi]; have := h.len; omega)
theorem rem_addL {L : List Ar} (h : Good L) {i : Nat} (hi : i < L.length) : addL (remA L i) (L.getD i Ar.zero) = L := by
  unfold addL
  rw [if_pos (rem_addE h hi), putA_ins]
  unfold remA
  rw [insA_mid, split_at hi]
  · intro y hy
    obtain ⟨j, hj, rfl⟩ := List.mem_iff_getElem.1 hy
    rw [List.length_take] at hj
    have := h.apart (show j < i by omega) hi
    have o := (h.get (show j < L.length by omega)).2.1
    rw [List.getElem_take, ← getD_get (show j < L.length by omega)]; omega
  · intro y hy
    obtain ⟨j, hj, rfl⟩ := List.mem_iff_getElem.1 hy
    rw [List.length_drop] at hj
    have := h.apart (show i < i + 1 + j by omega) (by omega)
    have o := (h.get hi).2.1
    rw [List.getElem_drop, ← getD_get (show i + 1 + j < L.length by omega)]; omega
/- an area over others, address by address -/
def upto (a : Ar) (b : Int) (t : Nat) : Bool := (List.range t).any (fun j => hasA a (b + (j : Int)))
theorem upto_succ (a : Ar) (b : Int) (t : Nat) : upto a b (t + 1) = (upto a b t || hasA a (b + (t : Int))) := by
  unfold upto; rw [List.range_succ, List.any_append]; simp
def overX (a x : Ar) : Bool := upto a x.b x.s.toNat
def overF (a : Ar) (L : List Ar) : Bool := L.any (overX a)
theorem over_take (a : Ar) (L : List Ar) (i : Nat) (h : i < L.length) : overF a (L.take (i + 1)) = (overF a (L.take i) || overX a (L.getD i Ar.zero)) := by
  unfold overF; rw [takeA_snoc L i h, List.any_append]; simp
theorem over_lap {a x : Ar} (ha : 0 ≤ a.b ∧ 1 ≤ a.s ∧ a.b + a.s ≤ 1073741824) (hx : okA x) : overX a x = lapA a x := by
  have hasa : ∀ y : Int, I64 y → (hasA a y = true ↔ a.b ≤ y ∧ y < a.b + a.s) := fun y hy => by
    unfold hasA
    obtain ⟨h1, h2⟩ := hy
    by_cases h : a.b ≤ y
    · rw [wrap_in ⟨by omega, by omega⟩]; simp; omega
    · simp; omega
  have hx' := hx
  obtain ⟨x1, x2, x3, _⟩ := hx
  rw [Bool.eq_iff_iff]
  unfold overX upto lapA
  rw [List.any_eq_true, Bool.or_eq_true, hasa x.b ⟨by omega, by omega⟩, has_iff hx' ⟨by omega, by omega⟩]
  constructor
  · rintro ⟨j, hj, hh⟩
    have hj' := List.mem_range.1 hj
    have := (hasa _ ⟨by omega, by omega⟩).1 hh
    omega
  · intro h
    by_cases c : a.b ≤ x.b
    · exact ⟨0, List.mem_range.2 (by omega), (hasa _ ⟨by omega, by omega⟩).2 (by omega)⟩
    · exact ⟨(a.b - x.b).toNat, List.mem_range.2 (by omega), (hasa _ ⟨by omega, by omega⟩).2 (by omega)⟩
theorem overF_lap {a : Ar} {L : List Ar} (ha : 0 ≤ a.b ∧ 1 ≤ a.s ∧ a.b + a.s ≤ 1073741824) (hL : ∀ x ∈ L, okA x) : overF a L = L.any (lapA a) := by
  induction L with
  | nil => rfl
  | cons x L ih =>
    have e1 := over_lap ha (hL x (List.mem_cons_self))
    have e2 := ih (fun y hy => hL y (List.mem_cons_of_mem _ hy))
    unfold overF at e2 ⊢
    rw [List.any_cons, List.any_cons, e1, e2]
/- where an area lies in the map that it was put into -/
theorem put_low {L : List Ar} {a : Ar} {k : Nat} (h : k < posA a.b L) (hp : posA a.b L ≤ L.length) : (putA L a).getD k Ar.zero = L.getD k Ar.zero := by
  unfold putA
  rw [List.getD_eq_getElem?_getD, List.getElem?_append_left (by rw [List.length_take]; omega), List.getElem?_take, if_pos h, ← List.getD_eq_getElem?_getD]
theorem put_at {L : List Ar} {a : Ar} (hp : posA a.b L ≤ L.length) : (putA L a).getD (posA a.b L) Ar.zero = a := by
  unfold putA
  rw [List.getD_eq_getElem?_getD, List.getElem?_append_right (by rw [List.length_take]; omega), List.length_take, Nat.min_eq_left hp, Nat.sub_self]; rfl
theorem put_high {L : List Ar} {a : Ar} {k : Nat} (h : posA a.b L < k) (hp : posA a.b L ≤ L.length) : (putA L a).getD k Ar.zero = L.getD (k - 1) Ar.zero := by
  unfold putA
  rw [List.getD_eq_getElem?_getD, List.getElem?_append_right (by rw [List.length_take]; omega), List.length_take, Nat.min_eq_left hp]
  obtain ⟨d, hd⟩ : ∃ d, k - posA a.b L = d + 1 := ⟨k - posA a.b L - 1, by omega⟩
  rw [hd, List.getElem?_cons_succ, List.getElem?_drop, ← List.getD_eq_getElem?_getD]
  congr 1
  omega
theorem posA_le (x : Int) (L : List Ar) : posA x L ≤ L.length := by
  induction L with
  | nil => exact Nat.le_refl _
  | cons y L ih =>
    unfold posA
    split
    · rw [List.length_cons]; omega
    · omega
theorem not_in {L : List Ar} {a : Ar} (h : addE L a = 0) (hf : a.fit) {j : Nat} (hj : j < L.length) : decide (L.getD j Ar.zero = a) = false := by
  obtain ⟨h1, _, _, _, _, hl, _⟩ := addE_zero h
  refine decide_eq_false fun e => ?_
  have := (List.any_eq_false.1 hl) _ (getD_mem L j hj)
  rw [e] at this
  apply this
  unfold lapA
  rw [(has_iff (addE_ok h hf) hf.1).2 (by omega)]; rfl
end Go.Proofs.YtigbicggcohcgaaDoor
