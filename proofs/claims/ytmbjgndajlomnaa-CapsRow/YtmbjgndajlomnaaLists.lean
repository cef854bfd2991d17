/-
  Several capabilities: their cells and their bytes one behind the other, and what is read of them.
-/
import Derived.Test.YtmbjgndajlomnaaFlip
namespace Go.Proofs.Ytmbjgndajlomnaa
open Go.RowKit
structure Cp where
  p : Nat
  o : Nat
  r : Nat
  c : Nat
def Cp.zero : Cp := ⟨0, 0, 0, 0⟩
def Cp.ok (x : Cp) : Prop := x.p ≤ 18446744073709551615 ∧ x.o ≤ 4294967295 ∧ x.r ≤ 255 ∧ x.c ≤ 18446744073709551615
def Cp.may (x : Cp) : Bool := mayD x.p x.o x.c
def Cp.made (x : Cp) : Cp := ⟨x.p % 281474976710656, x.o % 16777216, x.r, x.c % 281474976710656⟩
def Cp.bytes (x : Cp) : List UInt8 := capF x.p x.o x.r x.c
def Cp.cells (x : Cp) : List Value := [.int .u64 x.p, .int .u32 x.o, .int .u8 x.r, .int .u64 x.c]
theorem Cp.bytes_len (x : Cp) : x.bytes.length = 16 := capF_len _ _ _ _
theorem Cp.cells_len (x : Cp) : x.cells.length = 4 := rfl
theorem Cp.may_made (x : Cp) : x.made.may = true := mayD_true (show x.p % 281474976710656 ≤ _ by omega) (show x.o % 16777216 ≤ _ by omega) (show x.c % 281474976710656 ≤ _ by omega)
theorem Cp.ok_made (x : Cp) (h : x.ok) : x.made.ok := ⟨show x.p % 281474976710656 ≤ _ by omega, show x.o % 16777216 ≤ _ by omega, h.2.2.1, show x.c % 281474976710656 ≤ _ by omega⟩
theorem Cp.may_iff (x : Cp) : x.may = true ↔ (x.p ≤ 281474976710655 ∧ x.o ≤ 16777215 ∧ x.c ≤ 281474976710655) := by unfold Cp.may mayD; exact decide_eq_true_iff
/- of a list: cells, bytes, whether all may be -/
def cellsC (xs : List Cp) : List Value := xs.flatMap Cp.cells
def bytesC (xs : List Cp) : List UInt8 := xs.flatMap Cp.bytes
def mayC (xs : List Cp) : Bool := xs.all Cp.may
theorem cellsC_len (xs : List Cp) : (cellsC xs).length = xs.length * 4 := by
  induction xs with
  | nil => rfl
  | cons x r ih => simp only [cellsC, List.flatMap_cons, List.length_append, List.length_cons] at ih ⊢; rw [ih, Cp.cells_len]; omega
theorem bytesC_len (xs : List Cp) : (bytesC xs).length = xs.length * 16 := by
  induction xs with
  | nil => rfl
  | cons x r ih => simp only [bytesC, List.flatMap_cons, List.length_append, List.length_cons] at ih ⊢; rw [ih, Cp.bytes_len]; omega
theorem cellsC_snoc (xs : List Cp) (x : Cp) : cellsC (xs ++ [x]) = cellsC xs ++ x.cells := by simp [cellsC]
theorem bytesC_snoc (xs : List Cp) (x : Cp) : bytesC (xs ++ [x]) = bytesC xs ++ x.bytes := by simp [bytesC]
theorem mayC_snoc (xs : List Cp) (x : Cp) : mayC (xs ++ [x]) = (mayC xs && x.may) := by simp [mayC]
theorem cellsC_one (xs : List Cp) : ∀ u ∈ cellsC xs, u.oneCell' = true := by
  intro u hu
  simp only [cellsC, List.mem_flatMap] at hu
  obtain ⟨x, _, hx⟩ := hu
  simp only [Cp.cells, List.mem_cons, List.not_mem_nil, or_false] at hx
  rcases hx with rfl | rfl | rfl | rfl <;> rfl
theorem take_snoc (xs : List Cp) (k : Nat) (h : k < xs.length) : xs.take (k + 1) = xs.take k ++ [xs.getD k Cp.zero] := by
  rw [List.take_add_one, List.getElem?_eq_getElem h, List.getD_eq_getElem?_getD, List.getElem?_eq_getElem h]; rfl
theorem cellsC_get (xs : List Cp) (k f : Nat) (h : k < xs.length) (hf : f < 4) : (cellsC xs)[k * 4 + f]? = (xs.getD k Cp.zero).cells[f]? := by
  induction xs generalizing k with
  | nil => simp at h
  | cons x r ih =>
    simp only [cellsC, List.flatMap_cons] at ih ⊢
    cases k with
    | zero => rw [List.getElem?_append_left (by rw [Cp.cells_len]; omega)]; simp
    | succ k =>
      rw [List.getElem?_append_right (by rw [Cp.cells_len]; omega), Cp.cells_len, show (k + 1) * 4 + f - 4 = k * 4 + f from by omega, ih k (by simpa using h)]
      rfl
theorem bytesC_get (xs : List Cp) (k : Nat) (h : k < xs.length) : ((bytesC xs).drop (k * 16)).take 16 = (xs.getD k Cp.zero).bytes := by
  induction xs generalizing k with
  | nil => simp at h
  | cons x r ih =>
    simp only [bytesC, List.flatMap_cons] at ih ⊢
    cases k with
    | zero => rw [Nat.zero_mul, List.drop_zero, List.take_append_of_le_length (by rw [Cp.bytes_len]; omega), List.take_of_length_le (by rw [Cp.bytes_len]; omega)]; rfl
    | succ k =>
      rw [show (k + 1) * 16 = x.bytes.length + k * 16 from by rw [Cp.bytes_len]; omega, List.drop_append, List.drop_of_length_le (by omega), List.nil_append, Nat.add_sub_cancel_left, ih k (by simpa using h)]
      rfl
/- where several capabilities' cells lie -/
def Caps (w : World) (ao : Option Addr) (n cap : Nat) (xs : List Cp) : Prop :=
  n = xs.length ∧ n ≤ cap ∧ cap ≤ maxLen ∧ (ao = none → cap = 0) ∧ (∀ ad, ao = some ad → ∀ j u, (cellsC xs)[j]? = some u → w.cell? (ad.add j) = some u) ∧ ∀ x ∈ xs, x.ok
theorem Caps.carry {w w' : World} {ao : Option Addr} {n cap : Nat} {xs : List Cp} (h : Caps w ao n cap xs) (b : Below w.heap.size w w') : Caps w' ao n cap xs := by
  refine ⟨h.1, h.2.1, h.2.2.1, h.2.2.2.1, fun ad e j u hj => ?_, h.2.2.2.2.2⟩
  have hc := h.2.2.2.2.1 ad e j u hj
  rw [b.cell (lt_of_cell hc), hc]
theorem Caps.okAt {w : World} {ao : Option Addr} {n cap : Nat} {xs : List Cp} (h : Caps w ao n cap xs) (k : Nat) (hk : k < n) : (xs.getD k Cp.zero).ok := by
  have hl : k < xs.length := by have := h.1; omega
  rw [List.getD_eq_getElem?_getD, List.getElem?_eq_getElem hl]
  exact h.2.2.2.2.2 _ (List.getElem_mem hl)
theorem addS (a : Addr) (f : Nat) (hf : 0 < f) : a.add f = ⟨a.block, a.off + f, none⟩ := by unfold Addr.add; rw [if_neg (by omega)]
theorem Caps.elem {w : World} {ad : Addr} {n cap : Nat} {xs : List Cp} (h : Caps w (some ad) n cap xs) (k : Nat) (hk : k < n) (p o r c : Nat) (e : xs.getD k Cp.zero = ⟨p, o, r, c⟩) :
    w.cell? (ad.add (k * 4)) = some (.int .u64 p) ∧ w.cell? ⟨(ad.add (k * 4)).block, (ad.add (k * 4)).off + 1, none⟩ = some (.int .u32 o) ∧ w.cell? ⟨(ad.add (k * 4)).block, (ad.add (k * 4)).off + 2, none⟩ = some (.int .u8 r) ∧ w.cell? ⟨(ad.add (k * 4)).block, (ad.add (k * 4)).off + 3, none⟩ = some (.int .u64 c) := by
  have hl : k < xs.length := by have := h.1; omega
  have g := fun f hf u hu => h.2.2.2.2.1 ad rfl (k * 4 + f) u (by rw [cellsC_get xs k f hl hf, e]; exact hu)
  refine ⟨g 0 (by omega) _ rfl, ?_, ?_, ?_⟩
  · rw [← addS _ 1 (by omega), Addr.add_add]; exact g 1 (by omega) _ rfl
  · rw [← addS _ 2 (by omega), Addr.add_add]; exact g 2 (by omega) _ rfl
  · rw [← addS _ 3 (by omega), Addr.add_add]; exact g 3 (by omega) _ rfl
theorem caps_nil (w : World) : Caps w none 0 0 [] := ⟨rfl, Nat.le_refl _, by decide, fun _ => rfl, (fun ad e => by cases e), fun x hx => by cases hx⟩
theorem owns_caps {w : World} {base : Nat} {v : Value} {n : Nat} {xs : List Cp} (h : w.ownsRow base 25 4 v n (cellsC xs)) (hok : ∀ x ∈ xs, x.ok) : ∃ ao cap, v = .slice ao n cap ∧ Caps w ao n cap xs := by
  have hl := h.1
  rw [cellsC_len] at hl
  have hn : n = xs.length := by omega
  rcases h.2 with ⟨rfl, rfl⟩ | ⟨g, cap, cur, rfl, _, hg, hc, hm, hs, ht⟩
  · refine ⟨none, 0, rfl, hn, Nat.le_refl _, by decide, fun _ => rfl, (fun ad e => by cases e), hok⟩
  · refine ⟨some ⟨g, 0, none⟩, cap, rfl, hn, hc, hm, (fun e => by cases e), fun ad e j u hj => ?_, hok⟩
    obtain rfl := Option.some.inj e
    rw [addr0, cell_of_row w g j cur 25 (0, 0) hg]
    rw [← ht, List.getElem?_take] at hj
    split at hj
    · rw [← Array.getElem?_toList]; exact hj
    · cases hj
theorem Try.info25 : (Try.prog.info? 25).map (fun i => (i.zero, i.size, i.bytes)) = some (some (.agg #[.int .u64 0, .int .u32 0, .int .u8 0, .int .u64 0]), 4, 24) := by kernel_rfl
end Go.Proofs.Ytmbjgndajlomnaa
