/-
  Parts of a slice whose elements have so many cells each; several slices, one behind the other, as slices.Concat takes them.
-/
import Derived.Test.YtnkfdnmaocfjnaaDoorQLies
namespace Go.Proofs.YtnkfdnmaocfjnaaDoor
open Go.RowKit
def tailG (sz : Nat) (ao : Option Addr) (k cap : Nat) : Option Addr := if cap = k then ao else ao.map (·.add (k * sz))
theorem cutG_tail {t e : TypeId} {sz : Nat} (ht : Tryd.prog.underlying t = some (.slice e)) (hs : ∀ w : World, (sizeOf e).run Tryd.prog w = .ok sz w) (w : World) (ao : Option Addr) (n cap k : Nat) (h : k ≤ n) : (Instr.slice t (.slice ao n cap) (some (.int .i64 (k : Int))) none none).run Tryd.prog w = .ok (.slice (tailG sz ao k cap) (n - k) (cap - k)) w := by
  have he : Tryd.prog.elem t = e := by simp [Program.elem, ht]
  rw [run_slice_l (P := Tryd.prog) w t ao n cap (by rw [he]; exact ht) .i64 (k : Int) (by omega) (by omega), he, hs]
  simp [Result.andThen, sliced, tailG]
theorem cutG_head {t e : TypeId} {sz : Nat} (ht : Tryd.prog.underlying t = some (.slice e)) (hs : ∀ w : World, (sizeOf e).run Tryd.prog w = .ok sz w) (w : World) (ao : Option Addr) (n cap k : Nat) (h : k ≤ cap) : (Instr.slice t (.slice ao n cap) none (some (.int .i64 (k : Int))) none).run Tryd.prog w = .ok (.slice ao k cap) w := by
  have he : Tryd.prog.elem t = e := by simp [Program.elem, ht]
  rw [run_slice_h (P := Tryd.prog) w t ao n cap (by rw [he]; exact ht) .i64 (k : Int) (by omega) (by omega), he, hs]
  have hz : ao.map (fun x => x.add 0) = ao := by cases ao <;> simp [Addr.add]
  simp [Result.andThen, sliced, hz]
theorem Lies.head {sz : Nat} {w : World} {ao : Option Addr} {n cap : Nat} {cs : List Value} (h : Lies sz w ao n cap cs) (k : Nat) (hk : k ≤ n) : Lies sz w ao k cap (cs.take (k * sz)) := by
  refine ⟨?_, Nat.le_trans hk h.2.1, h.2.2.1, h.2.2.2.1, fun ad e j u hu => h.2.2.2.2 ad e j u ?_⟩
  · rw [List.length_take, h.1]; exact Nat.min_eq_left (Nat.mul_le_mul_right sz hk)
  · rw [List.getElem?_take] at hu
    split at hu
    · exact hu
    · cases hu
theorem Lies.tail {sz : Nat} {w : World} {ao : Option Addr} {n cap : Nat} {cs : List Value} (h : Lies sz w ao n cap cs) (k : Nat) (hk : k ≤ n) : Lies sz w (tailG sz ao k cap) (n - k) (cap - k) (cs.drop (k * sz)) := by
  have h2 := h.2.1
  have h3 := h.2.2.1
  refine ⟨by rw [List.length_drop, h.1, Nat.sub_mul], by omega, by omega, fun e => ?_, fun ad e j u hu => ?_⟩
  · unfold tailG at e
    split at e
    · omega
    · have := h.2.2.2.1 (by cases ao <;> simp_all); omega
  · rw [List.getElem?_drop] at hu
    have hj := (List.getElem?_eq_some_iff.1 hu).1
    rw [h.1] at hj
    unfold tailG at e
    by_cases hc : cap = k
    · have : n * sz ≤ k * sz := Nat.mul_le_mul_right sz (by omega)
      omega
    · rw [if_neg hc] at e
      obtain ⟨a0, rfl, rfl⟩ := Option.map_eq_some_iff.1 e
      rw [add_add]
      exact h.2.2.2.2 a0 rfl _ u hu
theorem Lies.foot {S : Nat → Prop} {sz : Nat} {w w' : World} {ao : Option Addr} {n cap : Nat} {cs : List Value} (h : Lies sz w ao n cap cs) (f : Foot S w w') (hS : 0 < n → ∀ ad, ao = some ad → ¬ S ad.block) : Lies sz w' ao n cap cs :=
  ⟨h.1, h.2.1, h.2.2.1, h.2.2.2.1, fun ad e j u hu => by
    have := h.2.2.2.2 ad e j u hu
    have hn : 0 < n := by
      have h1 := h.1
      have h2 := (List.getElem?_eq_some_iff.1 hu).1
      rcases Nat.eq_zero_or_pos n with h0 | h0
      · rw [h0, Nat.zero_mul] at h1; omega
      · exact h0
    rw [f.cell (ad.add j) (lt_of_cell this) (by rw [add_block]; exact hS hn ad e), this]⟩
theorem Lies.lt {sz : Nat} {w : World} {ao : Option Addr} {n cap : Nat} {cs : List Value} (h : Lies sz w ao n cap cs) (hs : 0 < sz) (hn : 0 < n) (ad : Addr) (e : ao = some ad) : ad.block < w.heap.size := by
  have h1 := h.1
  have hl : 0 < cs.length := by rw [h1]; exact Nat.mul_pos hn hs
  have := lt_of_cell (h.2.2.2.2 ad e 0 _ (List.getElem?_eq_getElem hl))
  rw [add_block] at this; exact this
theorem Lies.there {sz : Nat} {w : World} {ao : Option Addr} {n cap : Nat} {cs : List Value} (h : Lies sz w ao n cap cs) {k : Nat} (hk : k < n) : ∃ ad, ao = some ad := by
  cases ao with
  | none => have := h.2.2.2.1 rfl; have := h.2.1; omega
  | some ad => exact ⟨ad, rfl⟩
structure Prt where
  a : Option Addr
  n : Nat
  c : Nat
  cs : List Value
def Prt.zero : Prt := ⟨none, 0, 0, []⟩
def Parts (sz : Nat) (w : World) (pa : Addr) (ps : List Prt) : Prop := ∀ j, j < ps.length → w.cell? (pa.add j) = some (.slice (ps.getD j Prt.zero).a (ps.getD j Prt.zero).n (ps.getD j Prt.zero).c) ∧ Lies sz w (ps.getD j Prt.zero).a (ps.getD j Prt.zero).n (ps.getD j Prt.zero).c (ps.getD j Prt.zero).cs ∧ ∀ u ∈ (ps.getD j Prt.zero).cs, u.oneCell' = true
theorem Parts.carry {sz : Nat} {w w' : World} {pa : Addr} {ps : List Prt} (h : Parts sz w pa ps) (b : Below w.heap.size w w') : Parts sz w' pa ps := fun j hj =>
  ⟨by rw [b.cell (lt_of_cell (h j hj).1), (h j hj).1], (h j hj).2.1.carry b (Nat.le_refl _), (h j hj).2.2⟩
def sumN (ps : List Prt) (k : Nat) : Nat := ((ps.take k).map (·.n)).sum
def flatV (ps : List Prt) (k : Nat) : List Value := (ps.take k).flatMap (·.cs)
theorem takeP_snoc (ps : List Prt) (k : Nat) (h : k < ps.length) : ps.take (k + 1) = ps.take k ++ [ps.getD k Prt.zero] := by
  rw [List.take_add_one, List.getElem?_eq_getElem h, List.getD_eq_getElem?_getD, List.getElem?_eq_getElem h]; rfl
theorem sumN_succ (ps : List Prt) (k : Nat) (h : k < ps.length) : sumN ps (k + 1) = sumN ps k + (ps.getD k Prt.zero).n := by
  unfold sumN; rw [takeP_snoc ps k h]; simp
theorem flatV_succ (ps : List Prt) (k : Nat) (h : k < ps.length) : flatV ps (k + 1) = flatV ps k ++ (ps.getD k Prt.zero).cs := by
  unfold flatV; rw [takeP_snoc ps k h]; simp
theorem sumN_mono (ps : List Prt) (k : Nat) : ∀ j, k + j ≤ ps.length → sumN ps k ≤ sumN ps (k + j) := by
  intro j
  induction j with
  | zero => exact fun _ => Nat.le_refl _
  | succ j ih =>
    intro h
    have := ih (by omega)
    rw [show k + (j + 1) = (k + j) + 1 by omega, sumN_succ ps (k + j) (by omega)]
    omega
def CatRel1 (w : World) (ps : List Prt) (k gk : Nat) (vs vi : Value) (wr : World) : Prop := ∃ i, i + gk = k ∧ vi = .int .i64 (i : Int) ∧ vs = .int .i64 (sumN ps i : Nat) ∧ wr = w
def CatRel2 (e : TypeId) (sz : Nat) (w : World) (ps : List Prt) (k gk : Nat) (vs vi : Value) (wr : World) : Prop := ∃ i, i + gk = k ∧ vi = .int .i64 (i : Int) ∧ wr.ownsRow w.heap.size e sz vs (sumN ps i) (flatV ps i) ∧ Below w.heap.size w wr
def CatEnd (sz : Nat) (w : World) (n : Nat) (cs : List Value) (v : Value) (w' : World) : Prop := ∃ ao cap, v = .slice ao n cap ∧ Lies sz w' ao n cap cs ∧ Below w.heap.size w w' ∧ New w ao
def GrowEnd (e : TypeId) (sz : Nat) (w : World) (v : Value) (w' : World) : Prop := w'.ownsRow w.heap.size e sz v 0 [] ∧ Below w.heap.size w w'
theorem parts_two {sz : Nat} {X : World} {a b : Option Addr} {n c m d : Nat} {xs ys : List Value} (hA : Lies sz X a n c xs) (hB : Lies sz X b m d ys) (o1 : ∀ u ∈ xs, u.oneCell' = true) (o2 : ∀ u ∈ ys, u.oneCell' = true) {T : TypeId} :
    Parts sz (X.alloc (.cells #[.slice a n c, .slice b m d] T)) ⟨X.heap.size, 0, none⟩ [⟨a, n, c, xs⟩, ⟨b, m, d, ys⟩] := by
  obtain ⟨Z, hZ⟩ : ∃ Z, X.alloc (.cells #[.slice a n c, .slice b m d] T) = Z := ⟨_, rfl⟩
  rw [hZ]
  have bl : Below X.heap.size X Z := hZ ▸ below_alloc X _
  have hbk : Z.heap[X.heap.size]? = some (.cells #[.slice a n c, .slice b m d] T (0, 0)) := by rw [← hZ]; exact heap_alloc_new _ _
  intro j hj
  rcases j with _ | _ | j
  · exact ⟨by rw [add0, cell_of_row Z _ 0 _ _ _ hbk]; rfl, hA.carry bl (Nat.le_refl _), o1⟩
  · exact ⟨by rw [add0, cell_of_row Z _ 1 _ _ _ hbk]; rfl, hB.carry bl (Nat.le_refl _), o2⟩
  · simp only [List.length_cons, List.length_nil] at hj; omega
theorem parts_three {sz : Nat} {X : World} {a b f : Option Addr} {n c m d k e : Nat} {xs ys zs : List Value} (hA : Lies sz X a n c xs) (hB : Lies sz X b m d ys) (hC : Lies sz X f k e zs) (o1 : ∀ u ∈ xs, u.oneCell' = true) (o2 : ∀ u ∈ ys, u.oneCell' = true) (o3 : ∀ u ∈ zs, u.oneCell' = true) {T : TypeId} :
    Parts sz (X.alloc (.cells #[.slice a n c, .slice b m d, .slice f k e] T)) ⟨X.heap.size, 0, none⟩ [⟨a, n, c, xs⟩, ⟨b, m, d, ys⟩, ⟨f, k, e, zs⟩] := by
  obtain ⟨Z, hZ⟩ : ∃ Z, X.alloc (.cells #[.slice a n c, .slice b m d, .slice f k e] T) = Z := ⟨_, rfl⟩
  rw [hZ]
  have bl : Below X.heap.size X Z := hZ ▸ below_alloc X _
  have hbk : Z.heap[X.heap.size]? = some (.cells #[.slice a n c, .slice b m d, .slice f k e] T (0, 0)) := by rw [← hZ]; exact heap_alloc_new _ _
  intro j hj
  rcases j with _ | _ | _ | j
  · exact ⟨by rw [add0, cell_of_row Z _ 0 _ _ _ hbk]; rfl, hA.carry bl (Nat.le_refl _), o1⟩
  · exact ⟨by rw [add0, cell_of_row Z _ 1 _ _ _ hbk]; rfl, hB.carry bl (Nat.le_refl _), o2⟩
  · exact ⟨by rw [add0, cell_of_row Z _ 2 _ _ _ hbk]; rfl, hC.carry bl (Nat.le_refl _), o3⟩
  · simp only [List.length_cons, List.length_nil] at hj; omega
/- a slice that was written out -/
theorem lies_alloc {sz n : Nat} {X : World} {C : Array Value} {cs : List Value} {T : TypeId} (hc : C = cs.toArray) (hl : cs.length = n * sz) (hn : n ≤ 1000) : Lies sz (X.alloc (.cells C T)) (some ⟨X.heap.size, 0, none⟩) n n cs := by
  refine ⟨hl, Nat.le_refl _, by unfold maxLen; omega, (fun e => by cases e), fun ad e j u hu => ?_⟩
  obtain rfl := Option.some.inj e
  rw [add0, cell_of_row _ X.heap.size j _ _ _ (heap_alloc_new _ _), hc]
  simpa using hu
end Go.Proofs.YtnkfdnmaocfjnaaDoor
