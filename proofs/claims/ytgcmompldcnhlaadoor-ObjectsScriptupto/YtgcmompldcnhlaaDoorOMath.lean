/-
  Plain facts on the answers of an oracle: where a question's answer stands, that no question stands twice, how many there can be.
-/
import Derived.Test.YtgcmompldcnhlaaDoorRows
namespace Go.Proofs.YtgcmompldcnhlaaDoor
structure Ent where
  f : Int
  i : Nat
  o : Nat
def Ent.zero : Ent := ⟨0, 0, 0⟩
def Ent.ok (x : Ent) : Prop := -9223372036854775808 ≤ x.f ∧ x.f ≤ 9223372036854775807 ∧ x.i ≤ 281474976710655 ∧ x.o ≤ 281474976710655
def Ent.cells (x : Ent) : List Value := [.int .i64 x.f, .int .u64 x.i, .int .u64 x.o]
theorem Ent.cells_len (x : Ent) : x.cells.length = 3 := rfl
def cellsE (xs : List Ent) : List Value := xs.flatMap Ent.cells
theorem cellsE_len (xs : List Ent) : (cellsE xs).length = xs.length * 3 := by
  induction xs with
  | nil => rfl
  | cons x r ih => simp only [cellsE, List.flatMap_cons, List.length_append, List.length_cons] at ih ⊢; rw [ih, Ent.cells_len]; omega
theorem cellsE_snoc (xs : List Ent) (x : Ent) : cellsE (xs ++ [x]) = cellsE xs ++ x.cells := by simp [cellsE]
theorem cellsE_one (xs : List Ent) : ∀ u ∈ cellsE xs, u.oneCell' = true := by
  intro u hu
  simp only [cellsE, List.mem_flatMap] at hu
  obtain ⟨x, _, hx⟩ := hu
  simp only [Ent.cells, List.mem_cons, List.not_mem_nil, or_false] at hx
  rcases hx with rfl | rfl | rfl <;> rfl
theorem ent_one (x : Ent) : ∀ u ∈ x.cells, u.oneCell' = true := by
  intro u hu
  simp only [Ent.cells, List.mem_cons, List.not_mem_nil, or_false] at hu
  rcases hu with rfl | rfl | rfl <;> rfl
theorem cellsE_get (xs : List Ent) (k f : Nat) (h : k < xs.length) (hf : f < 3) : (cellsE xs)[k * 3 + f]? = (xs.getD k Ent.zero).cells[f]? := by
  induction xs generalizing k with
  | nil => simp at h
  | cons x r ih =>
    simp only [cellsE, List.flatMap_cons] at ih ⊢
    cases k with
    | zero => rw [List.getElem?_append_left (by rw [Ent.cells_len]; omega)]; simp
    | succ k =>
      rw [List.getElem?_append_right (by rw [Ent.cells_len]; omega), Ent.cells_len, show (k + 1) * 3 + f - 3 = k * 3 + f from by omega, ih k (by simpa using h)]
      rfl
theorem takeE_snoc (xs : List Ent) (k : Nat) (h : k < xs.length) : xs.take (k + 1) = xs.take k ++ [xs.getD k Ent.zero] := by
  rw [List.take_add_one, List.getElem?_eq_getElem h, List.getD_eq_getElem?_getD, List.getElem?_eq_getElem h]; rfl
/- where the answer to a question stands -/
def isQ (f : Int) (i : Nat) (x : Ent) : Bool := decide (x.f = f ∧ x.i = i)
def findE (es : List Ent) (f : Int) (i : Nat) : Option Nat := es.findIdx? (isQ f i)
theorem findE_nil (f : Int) (i : Nat) : findE [] f i = none := rfl
theorem findE_snoc (es : List Ent) (x : Ent) (f : Int) (i : Nat) : findE (es ++ [x]) f i = (findE es f i).or (if x.f = f ∧ x.i = i then some es.length else none) := by
  unfold findE
  rw [List.findIdx?_append]
  by_cases h : x.f = f ∧ x.i = i <;> simp [isQ, h]
theorem findE_some {es : List Ent} {f : Int} {i j : Nat} (h : findE es f i = some j) : j < es.length ∧ (es.getD j Ent.zero).f = f ∧ (es.getD j Ent.zero).i = i := by
  obtain ⟨hlt, hp, _⟩ := List.findIdx?_eq_some_iff_getElem.1 h
  rw [List.getD_eq_getElem?_getD, List.getElem?_eq_getElem hlt]
  have := of_decide_eq_true hp
  exact ⟨hlt, this.1, this.2⟩
theorem findE_none {es : List Ent} {f : Int} {i : Nat} (h : findE es f i = none) (j : Nat) (hj : j < es.length) : ¬ ((es.getD j Ent.zero).f = f ∧ (es.getD j Ent.zero).i = i) := by
  have := List.findIdx?_eq_none_iff.1 h es[j] (List.getElem_mem hj)
  rw [List.getD_eq_getElem?_getD, List.getElem?_eq_getElem hj]
  exact of_decide_eq_false this
/- no question stands twice -/
def Dist (es : List Ent) : Prop := ∀ a b, a < es.length → b < es.length → (es.getD a Ent.zero).f = (es.getD b Ent.zero).f → (es.getD a Ent.zero).i = (es.getD b Ent.zero).i → a = b
theorem dist_nil : Dist [] := fun a b h => by simp at h
theorem getD_snoc_lt (es : List Ent) (x : Ent) (j : Nat) (h : j < es.length) : (es ++ [x]).getD j Ent.zero = es.getD j Ent.zero := by
  rw [List.getD_eq_getElem?_getD, List.getD_eq_getElem?_getD, List.getElem?_append_left h]
theorem getD_snoc_end (es : List Ent) (x : Ent) : (es ++ [x]).getD es.length Ent.zero = x := by
  rw [List.getD_eq_getElem?_getD, List.getElem?_append_right (Nat.le_refl _)]; simp
theorem Dist.snoc {es : List Ent} (h : Dist es) {x : Ent} (hn : findE es x.f x.i = none) : Dist (es ++ [x]) := by
  intro a b ha hb h1 h2
  simp only [List.length_append, List.length_cons, List.length_nil] at ha hb
  rcases Nat.lt_or_ge a es.length with ha' | ha'
  · rcases Nat.lt_or_ge b es.length with hb' | hb'
    · rw [getD_snoc_lt _ _ _ ha', getD_snoc_lt _ _ _ hb'] at h1 h2; exact h a b ha' hb' h1 h2
    · obtain rfl : b = es.length := by omega
      rw [getD_snoc_lt _ _ _ ha', getD_snoc_end] at h1 h2
      exact absurd ⟨h1, h2⟩ (findE_none hn a ha')
  · obtain rfl : a = es.length := by omega
    rcases Nat.lt_or_ge b es.length with hb' | hb'
    · rw [getD_snoc_lt _ _ _ hb', getD_snoc_end] at h1 h2
      exact absurd ⟨h1.symm, h2.symm⟩ (findE_none hn b hb')
    · omega
theorem Dist.find {es : List Ent} (h : Dist es) {j : Nat} (hj : j < es.length) {f : Int} {i : Nat} (h1 : (es.getD j Ent.zero).f = f) (h2 : (es.getD j Ent.zero).i = i) : findE es f i = some j := by
  cases e : findE es f i with
  | none => exact absurd ⟨h1, h2⟩ (findE_none e j hj)
  | some a =>
    obtain ⟨b1, b2, b3⟩ := findE_some e
    rw [h a j b1 hj (by rw [b2, h1]) (by rw [b3, h2])]
/- of few questions there are few answers -/
theorem pigeon : ∀ (n : Nat) (l : List Nat), l.Nodup → (∀ x ∈ l, x < n) → l.length ≤ n
  | 0, l, _, h => by
    cases l with
    | nil => simp
    | cons x r => exact absurd (h x (by simp)) (by omega)
  | n + 1, l, hn, h => by
    have := pigeon n (l.erase n) (hn.erase n) (fun x hx => by
      have h1 := h x (List.mem_of_mem_erase hx)
      have h2 : x ≠ n := fun e => by subst e; exact (List.Nodup.not_mem_erase hn) hx
      omega)
    rw [List.length_erase] at this
    split at this <;> omega
def Few (es : List Ent) : Prop := ∀ x ∈ es, (x.f = 0 ∨ x.f = 1) ∧ x.i % 3 = 0 ∧ x.i ≤ 12
theorem few_nil : Few [] := fun x hx => by cases hx
theorem Few.snoc {es : List Ent} (h : Few es) {x : Ent} (hx : (x.f = 0 ∨ x.f = 1) ∧ x.i % 3 = 0 ∧ x.i ≤ 12) : Few (es ++ [x]) := by
  intro y hy
  rcases List.mem_append.1 hy with hy | hy
  · exact h y hy
  · rw [List.mem_singleton.1 hy]; exact hx
theorem Few.le {es : List Ent} (h : Few es) (hd : Dist es) : es.length ≤ 10 := by
  have hl : (es.map fun x => x.f.toNat * 5 + x.i / 3).length ≤ 10 := by
    refine pigeon 10 _ ?_ ?_
    · unfold List.Nodup
      rw [List.pairwise_map, List.pairwise_iff_getElem]
      intro a b ha' hb' hab e
      have h1 := h es[a] (List.getElem_mem ha')
      have h2 := h es[b] (List.getElem_mem hb')
      have := hd a b ha' hb' (by rw [List.getD_eq_getElem?_getD, List.getD_eq_getElem?_getD, List.getElem?_eq_getElem ha', List.getElem?_eq_getElem hb']; simp only [Option.getD_some]; omega)
        (by rw [List.getD_eq_getElem?_getD, List.getD_eq_getElem?_getD, List.getElem?_eq_getElem ha', List.getElem?_eq_getElem hb']; simp only [Option.getD_some]; omega)
      omega
    · intro x hx
      obtain ⟨y, hy, rfl⟩ := List.mem_map.1 hx
      have := h y hy
      omega
  simpa using hl
theorem okAt {es : List Ent} (h : ∀ x ∈ es, x.ok) (j : Nat) (hj : j < es.length) : (es.getD j Ent.zero).ok := by
  rw [List.getD_eq_getElem?_getD, List.getElem?_eq_getElem hj]; exact h _ (List.getElem_mem hj)
end Go.Proofs.YtgcmompldcnhlaaDoor
