/-
  Areas and parts in memory: the cells of a slice of them, what stays of it, pieces of it.
-/
import Derived.Test.YtigbicggcohcgaaDoorAMath
import Derived.Maps.AppendAt
namespace Go.Proofs.YtigbicggcohcgaaDoor
open Go.RowKit
def Ar.cells (x : Ar) : List Value := [.int .i64 x.b, .int .i64 x.s, .int .i64 x.g, .int .i64 x.o, .bool x.w]
def Ar.val (x : Ar) : Value := .agg #[.int .i64 x.b, .int .i64 x.s, .int .i64 x.g, .int .i64 x.o, .bool x.w]
def cellsA (xs : List Ar) : List Value := xs.flatMap Ar.cells
theorem cellsA_len (xs : List Ar) : (cellsA xs).length = xs.length * 5 := by
  induction xs with
  | nil => rfl
  | cons x r ih => simp only [cellsA, List.flatMap_cons, List.length_append, List.length_cons] at ih ⊢; rw [ih]; simp only [Ar.cells, List.length_cons, List.length_nil]; omega
theorem cellsA_append (a b : List Ar) : cellsA (a ++ b) = cellsA a ++ cellsA b := by simp [cellsA]
theorem cellsA_one (xs : List Ar) : ∀ u ∈ cellsA xs, u.oneCell' = true := by
  intro u hu
  simp only [cellsA, List.mem_flatMap] at hu
  obtain ⟨x, _, hx⟩ := hu
  simp only [Ar.cells, List.mem_cons, List.not_mem_nil, or_false] at hx
  rcases hx with rfl | rfl | rfl | rfl | rfl <;> rfl
theorem cellsA_get (xs : List Ar) (k f : Nat) (h : k < xs.length) (hf : f < 5) : (cellsA xs)[k * 5 + f]? = (xs.getD k Ar.zero).cells[f]? := by
  induction xs generalizing k with
  | nil => simp at h
  | cons x r ih =>
    simp only [cellsA, List.flatMap_cons] at ih ⊢
    have hl : x.cells.length = 5 := rfl
    cases k with
    | zero => rw [List.getElem?_append_left (by rw [hl]; omega)]; simp
    | succ k =>
      rw [List.getElem?_append_right (by rw [hl]; omega), hl, show (k + 1) * 5 + f - 5 = k * 5 + f from by omega, ih k (by simpa using h)]
      rfl
theorem takeA_snoc (xs : List Ar) (k : Nat) (h : k < xs.length) : xs.take (k + 1) = xs.take k ++ [xs.getD k Ar.zero] := by
  rw [List.take_add_one, List.getElem?_eq_getElem h, List.getD_eq_getElem?_getD, List.getElem?_eq_getElem h]; rfl
def Pc.cells (x : Pc) : List Value := [.int .i64 x.g, .int .i64 x.t, .int .i64 x.z]
def cellsP (xs : List Pc) : List Value := xs.flatMap Pc.cells
theorem cellsP_len (xs : List Pc) : (cellsP xs).length = xs.length * 3 := by
  induction xs with
  | nil => rfl
  | cons x r ih => simp only [cellsP, List.flatMap_cons, List.length_append, List.length_cons] at ih ⊢; rw [ih]; simp only [Pc.cells, List.length_cons, List.length_nil]; omega
theorem cellsP_append (a b : List Pc) : cellsP (a ++ b) = cellsP a ++ cellsP b := by simp [cellsP]
theorem cellsP_one (xs : List Pc) : ∀ u ∈ cellsP xs, u.oneCell' = true := by
  intro u hu
  simp only [cellsP, List.mem_flatMap] at hu
  obtain ⟨x, _, hx⟩ := hu
  simp only [Pc.cells, List.mem_cons, List.not_mem_nil, or_false] at hx
  rcases hx with rfl | rfl | rfl <;> rfl
theorem cellsP_get (xs : List Pc) (k f : Nat) (h : k < xs.length) (hf : f < 3) : (cellsP xs)[k * 3 + f]? = (xs.getD k Pc.zero).cells[f]? := by
  induction xs generalizing k with
  | nil => simp at h
  | cons x r ih =>
    simp only [cellsP, List.flatMap_cons] at ih ⊢
    have hl : x.cells.length = 3 := rfl
    cases k with
    | zero => rw [List.getElem?_append_left (by rw [hl]; omega)]; simp
    | succ k =>
      rw [List.getElem?_append_right (by rw [hl]; omega), hl, show (k + 1) * 3 + f - 3 = k * 3 + f from by omega, ih k (by simpa using h)]
      rfl
/- a slice's elements, so many cells each -/
def Lies (sz : Nat) (w : World) (ao : Option Addr) (n cap : Nat) (cs : List Value) : Prop :=
  cs.length = n * sz ∧ n ≤ cap ∧ cap ≤ maxLen ∧ (ao = none → cap = 0) ∧ ∀ ad, ao = some ad → ∀ j u, cs[j]? = some u → w.cell? (ad.add j) = some u
theorem Lies.carry {sz : Nat} {w w' : World} {ao : Option Addr} {n cap : Nat} {cs : List Value} (h : Lies sz w ao n cap cs) {B : Nat} (b : Below B w w') (hB : w.heap.size ≤ B) : Lies sz w' ao n cap cs :=
  ⟨h.1, h.2.1, h.2.2.1, h.2.2.2.1, fun ad e j u hu => by
    have := h.2.2.2.2 ad e j u hu
    rw [b.cell (Nat.lt_of_lt_of_le (lt_of_cell this) hB), this]⟩
theorem Lies.drewN {sz : Nat} {w : World} {ao : Option Addr} {n cap : Nat} {cs : List Value} (h : Lies sz w ao n cap cs) (q : Nat) : Lies sz (w.drewN q) ao n cap cs := h
theorem lies_nil (sz : Nat) (w : World) : Lies sz w none 0 0 [] := ⟨by simp, Nat.le_refl _, by decide, fun _ => rfl, fun _ e => by cases e⟩
theorem owns_slice {w : World} {base : Nat} {e : TypeId} {size : Nat} {v : Value} {n : Nat} {xs : List Value} (h : w.ownsRow base e size v n xs) : ∃ ao cap, v = .slice ao n cap := by
  rcases h.2 with ⟨rfl, rfl⟩ | ⟨g, cap, cur, rfl, _⟩
  · exact ⟨none, 0, rfl⟩
  · exact ⟨_, cap, rfl⟩
theorem owns_lies {w : World} {base sz : Nat} {e : TypeId} {v : Value} {n : Nat} {xs : List Value} (h : w.ownsRow base e sz v n xs) : ∃ ao cap, v = .slice ao n cap ∧ Lies sz w ao n cap xs := by
  have hl := h.1
  rcases h.2 with ⟨rfl, rfl⟩ | ⟨g, cap, cur, rfl, h1, h2, h3, h4, h5, h6⟩
  · obtain rfl : xs = [] := List.eq_nil_of_length_eq_zero (by simpa using hl)
    exact ⟨none, 0, rfl, lies_nil _ _⟩
  · refine ⟨some ⟨g, 0, none⟩, cap, rfl, hl, h3, h4, (fun e => by cases e), fun ad e j u hu => ?_⟩
    obtain rfl := Option.some.inj e
    exact h.cells (g := g) rfl j u hu
/- areas -/
def Ars (w : World) (ao : Option Addr) (n cap : Nat) (L : List Ar) : Prop := Lies 5 w ao n cap (cellsA L)
theorem Ars.len {w : World} {ao : Option Addr} {n cap : Nat} {L : List Ar} (h : Ars w ao n cap L) : n = L.length := by have := h.1; rw [cellsA_len] at this; omega
theorem Ars.carry {w w' : World} {ao : Option Addr} {n cap : Nat} {L : List Ar} (h : Ars w ao n cap L) (b : Below w.heap.size w w') : Ars w' ao n cap L := Lies.carry h b (Nat.le_refl _)
theorem Ars.over {w w' : World} {ao : Option Addr} {n cap B : Nat} {L : List Ar} (h : Ars w ao n cap L) (b : Below B w w') (hB : w.heap.size ≤ B) : Ars w' ao n cap L := Lies.carry h b hB
theorem ars_nil (w : World) : Ars w none 0 0 [] := lies_nil 5 w
theorem addS (a : Addr) (j : Nat) : a.add (j + 1) = { block := a.block, off := a.off + (j + 1) } := by unfold Addr.add; rw [if_neg (by omega)]
theorem add_add (ad : Addr) (j k : Nat) : (ad.add j).add k = ad.add (j + k) := by
  unfold Addr.add
  by_cases h1 : j = 0
  · subst h1; simp
  · by_cases h2 : k = 0
    · subst h2; simp
    · simp [h1, h2]; omega
structure ElA (w : World) (a : Addr) (x : Ar) : Prop where
  c0 : w.cell? a = some (.int .i64 x.b)
  c1 : w.cell? { block := a.block, off := a.off + 1 } = some (.int .i64 x.s)
  c2 : w.cell? { block := a.block, off := a.off + 2 } = some (.int .i64 x.g)
  c3 : w.cell? { block := a.block, off := a.off + 3 } = some (.int .i64 x.o)
  c4 : w.cell? { block := a.block, off := a.off + 4 } = some (.bool x.w)
theorem Ars.elem {w : World} {ad : Addr} {n cap : Nat} {L : List Ar} (h : Ars w (some ad) n cap L) (k : Nat) (hk : k < n) : ElA w (ad.add (k * 5)) (L.getD k Ar.zero) := by
  have hl := h.len
  have e : ∀ f u, f < 5 → (L.getD k Ar.zero).cells[f]? = some u → w.cell? ((ad.add (k * 5)).add f) = some u := fun f u hf hu => by
    rw [add_add]; exact h.2.2.2.2 ad rfl (k * 5 + f) u (by rw [cellsA_get L k f (by omega) hf, hu])
  have e0 := e 0 _ (by omega) rfl
  have e1 := e 1 _ (by omega) rfl
  have e2 := e 2 _ (by omega) rfl
  have e3 := e 3 _ (by omega) rfl
  have e4 := e 4 _ (by omega) rfl
  rw [addS _ 0] at e1
  rw [addS _ 1] at e2
  rw [addS _ 2] at e3
  rw [addS _ 3] at e4
  exact ⟨by simpa [Addr.add] using e0, e1, e2, e3, e4⟩
theorem Ars.there {w : World} {ao : Option Addr} {n cap : Nat} {L : List Ar} (h : Ars w ao n cap L) {k : Nat} (hk : k < n) : ∃ ad, ao = some ad := by
  cases ao with
  | none => have := h.2.2.2.1 rfl; have := h.2.1; omega
  | some ad => exact ⟨ad, rfl⟩
/- parts -/
def Pcs (w : World) (ao : Option Addr) (n cap : Nat) (L : List Pc) : Prop := Lies 3 w ao n cap (cellsP L)
theorem Pcs.len {w : World} {ao : Option Addr} {n cap : Nat} {L : List Pc} (h : Pcs w ao n cap L) : n = L.length := by have := h.1; rw [cellsP_len] at this; omega
theorem Pcs.carry {w w' : World} {ao : Option Addr} {n cap : Nat} {L : List Pc} (h : Pcs w ao n cap L) (b : Below w.heap.size w w') : Pcs w' ao n cap L := Lies.carry h b (Nat.le_refl _)
theorem Pcs.over {w w' : World} {ao : Option Addr} {n cap B : Nat} {L : List Pc} (h : Pcs w ao n cap L) (b : Below B w w') (hB : w.heap.size ≤ B) : Pcs w' ao n cap L := Lies.carry h b hB
theorem pcs_nil (w : World) : Pcs w none 0 0 [] := lies_nil 3 w
structure ElP (w : World) (a : Addr) (x : Pc) : Prop where
  c0 : w.cell? a = some (.int .i64 x.g)
  c1 : w.cell? { block := a.block, off := a.off + 1 } = some (.int .i64 x.t)
  c2 : w.cell? { block := a.block, off := a.off + 2 } = some (.int .i64 x.z)
theorem Pcs.elem {w : World} {ad : Addr} {n cap : Nat} {L : List Pc} (h : Pcs w (some ad) n cap L) (k : Nat) (hk : k < n) : ElP w (ad.add (k * 3)) (L.getD k Pc.zero) := by
  have hl := h.len
  have e : ∀ f u, f < 3 → (L.getD k Pc.zero).cells[f]? = some u → w.cell? ((ad.add (k * 3)).add f) = some u := fun f u hf hu => by
    rw [add_add]; exact h.2.2.2.2 ad rfl (k * 3 + f) u (by rw [cellsP_get L k f (by omega) hf, hu])
  have e0 := e 0 _ (by omega) rfl
  have e1 := e 1 _ (by omega) rfl
  have e2 := e 2 _ (by omega) rfl
  rw [addS _ 0] at e1
  rw [addS _ 1] at e2
  exact ⟨by simpa [Addr.add] using e0, e1, e2⟩
theorem Pcs.there {w : World} {ao : Option Addr} {n cap : Nat} {L : List Pc} (h : Pcs w ao n cap L) {k : Nat} (hk : k < n) : ∃ ad, ao = some ad := by
  cases ao with
  | none => have := h.2.2.2.1 rfl; have := h.2.1; omega
  | some ad => exact ⟨ad, rfl⟩
/- a struct variable of five cells -/
def BoxA (w : World) (g : Nat) (x : Ar) : Prop := w.heap[g]? = some (.cells #[.int .i64 x.b, .int .i64 x.s, .int .i64 x.g, .int .i64 x.o, .bool x.w] 24 (0, 0))
theorem BoxA.c0 {w : World} {g : Nat} {x : Ar} (h : BoxA w g x) : w.cell? ⟨g, 0, none⟩ = some (.int .i64 x.b) := by rw [cell_of_row w g 0 _ _ _ h]; rfl
theorem BoxA.c1 {w : World} {g : Nat} {x : Ar} (h : BoxA w g x) : w.cell? ⟨g, 1, none⟩ = some (.int .i64 x.s) := by rw [cell_of_row w g 1 _ _ _ h]; rfl
theorem BoxA.c2 {w : World} {g : Nat} {x : Ar} (h : BoxA w g x) : w.cell? ⟨g, 2, none⟩ = some (.int .i64 x.g) := by rw [cell_of_row w g 2 _ _ _ h]; rfl
theorem BoxA.c3 {w : World} {g : Nat} {x : Ar} (h : BoxA w g x) : w.cell? ⟨g, 3, none⟩ = some (.int .i64 x.o) := by rw [cell_of_row w g 3 _ _ _ h]; rfl
theorem BoxA.c4 {w : World} {g : Nat} {x : Ar} (h : BoxA w g x) : w.cell? ⟨g, 4, none⟩ = some (.bool x.w) := by rw [cell_of_row w g 4 _ _ _ h]; rfl
theorem BoxA.z {w : World} {g : Nat} {x : Ar} (h : BoxA w g x) (j : Nat) : w.frozen? ⟨g, j, none⟩ = false := frozen_of_row w g j _ _ h
theorem BoxA.carry {w w' : World} {g : Nat} {x : Ar} (h : BoxA w g x) {B : Nat} (b : Below B w w') (hB : w.heap.size ≤ B) : BoxA w' g x := by
  unfold BoxA; rw [b.block g (Nat.lt_of_lt_of_le (lt_of_heap h) hB)]; exact h
theorem BoxA.five {w w' : World} {g : Nat} {x : Ar} (h : BoxA w g x) (b : Below w.heap.size w w') : w'.cell? ⟨g, 0, none⟩ = some (.int .i64 x.b) ∧ w'.cell? ⟨g, 1, none⟩ = some (.int .i64 x.s) ∧ w'.cell? ⟨g, 2, none⟩ = some (.int .i64 x.g) ∧ w'.cell? ⟨g, 3, none⟩ = some (.int .i64 x.o) ∧ w'.cell? ⟨g, 4, none⟩ = some (.bool x.w) :=
  have k := h.carry b (Nat.le_refl _)
  ⟨k.c0, k.c1, k.c2, k.c3, k.c4⟩
theorem box_new (w : World) (x : Ar) : BoxA (w.alloc (.cells #[.int .i64 x.b, .int .i64 x.s, .int .i64 x.g, .int .i64 x.o, .bool x.w] 24)) w.heap.size x := heap_alloc_new _ _
theorem Tryd.infoA : (Tryd.prog.info? 24).map (fun i => (i.zero, i.size, i.bytes)) = some (some (.agg #[.int .i64 0, .int .i64 0, .int .i64 0, .int .i64 0, .bool false]), 5, 40) := by kernel_rfl
theorem Tryd.infoP : (Tryd.prog.info? 46).map (fun i => (i.zero, i.size, i.bytes)) = some (some (.agg #[.int .i64 0, .int .i64 0, .int .i64 0]), 3, 24) := by kernel_rfl
theorem Tryd.sizeA : Tryd.prog.elem 26 = 24 := by simp [Program.elem, Tryd.underlying26]
end Go.Proofs.YtigbicggcohcgaaDoor
