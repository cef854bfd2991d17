/-
  Packets in memory: the cells of a slice of them, their data's bytes, what stays of them.
-/
import Derived.Test.YtdepjclbeocmhaaDoorFBytes
import Derived.Test.YtdepjclbeocmhaaDoorFMath
namespace Go.Proofs.YtdepjclbeocmhaaDoor
open Go.RowKit
/- a packet: from, to, id, index, count, where its data lies, its data -/
structure Pa where
  f : Int
  t : Int
  i : Int
  x : Int
  c : Int
  so : Option Addr
  sn : Nat
  sc : Nat
  l : List UInt8
def Pa.zero : Pa := ⟨0, 0, 0, 0, 0, none, 0, 0, []⟩
def Pa.cells (x : Pa) : List Value := [.int .i64 x.f, .int .i64 x.t, .int .u64 x.i, .int .i64 x.x, .int .i64 x.c, .slice x.so x.sn x.sc]
def cellsK (xs : List Pa) : List Value := xs.flatMap Pa.cells
theorem cellsK_len (xs : List Pa) : (cellsK xs).length = xs.length * 6 := by
  induction xs with
  | nil => rfl
  | cons x r ih => simp only [cellsK, List.flatMap_cons, List.length_append, List.length_cons] at ih ⊢; rw [ih]; simp only [Pa.cells, List.length_cons, List.length_nil]; omega
theorem cellsK_append (a b : List Pa) : cellsK (a ++ b) = cellsK a ++ cellsK b := by simp [cellsK]
theorem cellsK_one (xs : List Pa) : ∀ u ∈ cellsK xs, u.oneCell' = true := by
  intro u hu
  simp only [cellsK, List.mem_flatMap] at hu
  obtain ⟨x, _, hx⟩ := hu
  simp only [Pa.cells, List.mem_cons, List.not_mem_nil, or_false] at hx
  rcases hx with rfl | rfl | rfl | rfl | rfl | rfl <;> rfl
theorem cellsK_get (xs : List Pa) (k f : Nat) (h : k < xs.length) (hf : f < 6) : (cellsK xs)[k * 6 + f]? = (xs.getD k Pa.zero).cells[f]? := by
  induction xs generalizing k with
  | nil => simp at h
  | cons x r ih =>
    simp only [cellsK, List.flatMap_cons] at ih ⊢
    have hl : x.cells.length = 6 := rfl
    cases k with
    | zero => rw [List.getElem?_append_left (by rw [hl]; omega)]; simp
    | succ k =>
      rw [List.getElem?_append_right (by rw [hl]; omega), hl, show (k + 1) * 6 + f - 6 = k * 6 + f from by omega, ih k (by simpa using h)]
      rfl
theorem getK_mem (L : List Pa) (k : Nat) (h : k < L.length) : L.getD k Pa.zero ∈ L := by
  rw [List.getD_eq_getElem?_getD, List.getElem?_eq_getElem h]; exact List.getElem_mem h
theorem takeK_snoc (xs : List Pa) (k : Nat) (h : k < xs.length) : xs.take (k + 1) = xs.take k ++ [xs.getD k Pa.zero] := by
  rw [List.take_add_one, List.getElem?_eq_getElem h, List.getD_eq_getElem?_getD, List.getElem?_eq_getElem h]; rfl
theorem dropK_cons (L : List Pa) (i : Nat) (h : i < L.length) : L.drop i = L.getD i Pa.zero :: L.drop (i + 1) := by
  rw [List.drop_eq_getElem_cons h, List.getD_eq_getElem?_getD, List.getElem?_eq_getElem h]; rfl
/- a packet's data -/
def Pa.has (w : World) (x : Pa) : Prop := Bts w x.so x.sn x.sc x.l
def Pks (w : World) (ao : Option Addr) (n cap : Nat) (L : List Pa) : Prop := Lies 6 w ao n cap (cellsK L) ∧ ∀ x ∈ L, x.has w
theorem Pks.len {w : World} {ao : Option Addr} {n cap : Nat} {L : List Pa} (h : Pks w ao n cap L) : n = L.length := by have := h.1.1; rw [cellsK_len] at this; omega
theorem Pks.carry {w w' : World} {ao : Option Addr} {n cap : Nat} {L : List Pa} (h : Pks w ao n cap L) (b : Below w.heap.size w w') : Pks w' ao n cap L := ⟨Lies.carry h.1 b (Nat.le_refl _), fun x hx => Bts.carry (h.2 x hx) b⟩
theorem Pks.over {w w' : World} {ao : Option Addr} {n cap B : Nat} {L : List Pa} (h : Pks w ao n cap L) (b : Below B w w') (hB : w.heap.size ≤ B) : Pks w' ao n cap L := ⟨Lies.carry h.1 b hB, fun x hx => Bts.over (h.2 x hx) b hB⟩
theorem pks_nil (w : World) : Pks w none 0 0 [] := ⟨lies_nil 6 w, fun _ h => by cases h⟩
structure ElK (w : World) (a : Addr) (x : Pa) : Prop where
  c0 : w.cell? a = some (.int .i64 x.f)
  c1 : w.cell? { block := a.block, off := a.off + 1 } = some (.int .i64 x.t)
  c2 : w.cell? { block := a.block, off := a.off + 2 } = some (.int .u64 x.i)
  c3 : w.cell? { block := a.block, off := a.off + 3 } = some (.int .i64 x.x)
  c4 : w.cell? { block := a.block, off := a.off + 4 } = some (.int .i64 x.c)
  c5 : w.cell? { block := a.block, off := a.off + 5 } = some (.slice x.so x.sn x.sc)
theorem Pks.elem {w : World} {ad : Addr} {n cap : Nat} {L : List Pa} (h : Pks w (some ad) n cap L) (k : Nat) (hk : k < n) : ElK w (ad.add (k * 6)) (L.getD k Pa.zero) := by
  have hl := h.len
  have e : ∀ f u, f < 6 → (L.getD k Pa.zero).cells[f]? = some u → w.cell? ((ad.add (k * 6)).add f) = some u := fun f u hf hu => by
    rw [add_add]; exact h.1.2.2.2.2 ad rfl (k * 6 + f) u (by rw [cellsK_get L k f (by omega) hf, hu])
  have e0 := e 0 _ (by omega) rfl
  have e1 := e 1 _ (by omega) rfl
  have e2 := e 2 _ (by omega) rfl
  have e3 := e 3 _ (by omega) rfl
  have e4 := e 4 _ (by omega) rfl
  have e5 := e 5 _ (by omega) rfl
  rw [addS _ 0] at e1
  rw [addS _ 1] at e2
  rw [addS _ 2] at e3
  rw [addS _ 3] at e4
  rw [addS _ 4] at e5
  exact ⟨by simpa [Addr.add] using e0, e1, e2, e3, e4, e5⟩
theorem Pks.bts {w : World} {ao : Option Addr} {n cap : Nat} {L : List Pa} (h : Pks w ao n cap L) (k : Nat) (hk : k < n) : (L.getD k Pa.zero).has w := h.2 _ (getK_mem L k (by rw [← h.len]; exact hk))
theorem Pks.there {w : World} {ao : Option Addr} {n cap : Nat} {L : List Pa} (h : Pks w ao n cap L) {k : Nat} (hk : k < n) : ∃ ad, ao = some ad := by
  cases ao with
  | none => have := h.1.2.2.2.1 rfl; have := h.1.2.1; omega
  | some ad => exact ⟨ad, rfl⟩
/- a packet in a variable -/
def BoxK (w : World) (g : Nat) (x : Pa) : Prop := w.heap[g]? = some (.cells #[.int .i64 x.f, .int .i64 x.t, .int .u64 x.i, .int .i64 x.x, .int .i64 x.c, .slice x.so x.sn x.sc] 33 (0, 0))
theorem BoxK.c0 {w : World} {g : Nat} {x : Pa} (h : BoxK w g x) : w.cell? ⟨g, 0, none⟩ = some (.int .i64 x.f) := by rw [cell_of_row w g 0 _ _ _ h]; rfl
theorem BoxK.c1 {w : World} {g : Nat} {x : Pa} (h : BoxK w g x) : w.cell? ⟨g, 1, none⟩ = some (.int .i64 x.t) := by rw [cell_of_row w g 1 _ _ _ h]; rfl
theorem BoxK.c2 {w : World} {g : Nat} {x : Pa} (h : BoxK w g x) : w.cell? ⟨g, 2, none⟩ = some (.int .u64 x.i) := by rw [cell_of_row w g 2 _ _ _ h]; rfl
theorem BoxK.c3 {w : World} {g : Nat} {x : Pa} (h : BoxK w g x) : w.cell? ⟨g, 3, none⟩ = some (.int .i64 x.x) := by rw [cell_of_row w g 3 _ _ _ h]; rfl
theorem BoxK.c4 {w : World} {g : Nat} {x : Pa} (h : BoxK w g x) : w.cell? ⟨g, 4, none⟩ = some (.int .i64 x.c) := by rw [cell_of_row w g 4 _ _ _ h]; rfl
theorem BoxK.c5 {w : World} {g : Nat} {x : Pa} (h : BoxK w g x) : w.cell? ⟨g, 5, none⟩ = some (.slice x.so x.sn x.sc) := by rw [cell_of_row w g 5 _ _ _ h]; rfl
theorem BoxK.z {w : World} {g : Nat} {x : Pa} (h : BoxK w g x) (j : Nat) : w.frozen? ⟨g, j, none⟩ = false := frozen_of_row w g j _ _ h
theorem BoxK.carry {w w' : World} {g : Nat} {x : Pa} (h : BoxK w g x) {B : Nat} (b : Below B w w') (hB : w.heap.size ≤ B) : BoxK w' g x := by
  unfold BoxK; rw [b.block g (Nat.lt_of_lt_of_le (lt_of_heap h) hB)]; exact h
theorem boxK_new (w : World) (x : Pa) : BoxK (w.alloc (.cells #[.int .i64 x.f, .int .i64 x.t, .int .u64 x.i, .int .i64 x.x, .int .i64 x.c, .slice x.so x.sn x.sc] 33)) w.heap.size x := heap_alloc_new _ _
theorem Tryd.infoK : (Tryd.prog.info? 33).map (fun i => (i.zero, i.size, i.bytes)) = some (some (.agg #[.int .i64 0, .int .i64 0, .int .u64 0, .int .i64 0, .int .i64 0, .slice none 0 0]), 6, 64) := by kernel_rfl
/- a new row of packets that fills a block -/
def RowK (w : World) (g : Nat) (L : List Pa) : Prop := w.heap[g]? = some (.cells (cellsK L).toArray 33 (0, 0))
theorem RowK.cell {w : World} {g : Nat} {L : List Pa} (h : RowK w g L) (k f : Nat) (hk : k < L.length) (hf : f < 6) : w.cell? ⟨g, k * 6 + f, none⟩ = (L.getD k Pa.zero).cells[f]? := by
  rw [cell_of_row w g _ _ _ _ h]; simpa using cellsK_get L k f hk hf
theorem RowK.z {w : World} {g : Nat} {L : List Pa} (h : RowK w g L) (j : Nat) : w.frozen? ⟨g, j, none⟩ = false := frozen_of_row w g j _ _ h
theorem RowK.carry {w w' : World} {g : Nat} {L : List Pa} (h : RowK w g L) {B : Nat} (b : Below B w w') (hB : w.heap.size ≤ B) : RowK w' g L := by
  unfold RowK; rw [b.block g (Nat.lt_of_lt_of_le (lt_of_heap h) hB)]; exact h
theorem RowK.lies {w : World} {g : Nat} {L : List Pa} (h : RowK w g L) (n : Nat) (hn : n = L.length) (hm : n ≤ 1000) : Lies 6 w (some ⟨g, 0, none⟩) n n (cellsK L) := by
  refine ⟨by rw [cellsK_len, hn], Nat.le_refl _, by unfold maxLen; omega, (fun e => by cases e), fun ad e j u hu => ?_⟩
  obtain rfl := Option.some.inj e
  rw [add0, cell_of_row w g j _ _ _ h]
  simpa using hu
theorem cellsK_set (L : List Pa) (k : Nat) (y : Pa) (hk : k < L.length) :
    ((((((cellsK L).set (k * 6) (.int .i64 y.f)).set (k * 6 + 1) (.int .i64 y.t)).set (k * 6 + 2) (.int .u64 y.i)).set (k * 6 + 3) (.int .i64 y.x)).set (k * 6 + 4) (.int .i64 y.c)).set (k * 6 + 5) (.slice y.so y.sn y.sc) = cellsK (L.set k y) := by
  induction L generalizing k with
  | nil => simp at hk
  | cons x r ih =>
    cases k with
    | zero => rfl
    | succ k =>
      have e : ∀ (A : List Value) (j : Nat) (v : Value), (x.cells ++ A).set ((k + 1) * 6 + j) v = x.cells ++ A.set (k * 6 + j) v := by
        intro A j v
        rw [List.set_append_right _ _ (by show 6 ≤ _; omega), show (k + 1) * 6 + j - x.cells.length = k * 6 + j from by show _ - 6 = _; omega]
      have ih := ih k (by simpa using hk)
      have e0 := fun A v => e A 0 v
      simp only [Nat.add_zero] at e0
      show ((((((x.cells ++ cellsK r).set ((k + 1) * 6) _).set ((k + 1) * 6 + 1) _).set ((k + 1) * 6 + 2) _).set ((k + 1) * 6 + 3) _).set ((k + 1) * 6 + 4) _).set ((k + 1) * 6 + 5) _ = x.cells ++ cellsK (r.set k y)
      rw [e0, e, e, e, e, e, ih]
def layK (w : World) (g k : Nat) (y : Pa) : World :=
  (((((w.setCell ⟨g, k * 6, none⟩ (.int .i64 y.f)).setCell ⟨g, k * 6 + 1, none⟩ (.int .i64 y.t)).setCell ⟨g, k * 6 + 2, none⟩ (.int .u64 y.i)).setCell ⟨g, k * 6 + 3, none⟩ (.int .i64 y.x)).setCell ⟨g, k * 6 + 4, none⟩ (.int .i64 y.c)).setCell ⟨g, k * 6 + 5, none⟩ (.slice y.so y.sn y.sc)
theorem RowK.lay {w : World} {g : Nat} {L : List Pa} (h : RowK w g L) (k : Nat) (hk : k < L.length) (y : Pa) : RowK (layK w g k y) g (L.set k y) := by
  have h1 := heap_setCell_same w g (k * 6) _ _ (.int .i64 y.f) h
  have h2 := heap_setCell_same _ g (k * 6 + 1) _ _ (.int .i64 y.t) h1
  have h3 := heap_setCell_same _ g (k * 6 + 2) _ _ (.int .u64 y.i) h2
  have h4 := heap_setCell_same _ g (k * 6 + 3) _ _ (.int .i64 y.x) h3
  have h5 := heap_setCell_same _ g (k * 6 + 4) _ _ (.int .i64 y.c) h4
  have h6 := heap_setCell_same _ g (k * 6 + 5) _ _ (.slice y.so y.sn y.sc) h5
  unfold RowK layK
  rw [h6, ← cellsK_set L k y hk]
  simp
theorem Foot.put {a w : World} {g : Nat} (h : Foot (fun j => j = g) a w) (o : Nat) (v : Value) : Foot (fun j => j = g) a (w.setCell ⟨g, o, none⟩ v) := h.then (foot_set w ⟨g, o, none⟩ v)
theorem foot_layK (w : World) (g k : Nat) (y : Pa) : Foot (fun j => j = g) w (layK w g k y) := by
  unfold layK
  exact ((((((Foot.refl _ w).put _ _).put _ _).put _ _).put _ _).put _ _).put _ _
/- make([]Packet, n) -/
theorem cellsK_zeros (n : Nat) : cellsK (List.replicate n Pa.zero) = (madeCells #[.int .i64 0, .int .i64 0, .int .u64 0, .int .i64 0, .int .i64 0, .slice none 0 0] (n * 6)).toList := by
  apply List.ext_getElem?
  intro j
  unfold madeCells
  by_cases hj : j < n * 6
  · have h1 := cellsK_get (List.replicate n Pa.zero) (j / 6) (j % 6) (by rw [List.length_replicate]; omega) (by omega)
    rw [show j / 6 * 6 + j % 6 = j by omega] at h1
    rw [h1]
    have h2 : (List.replicate n Pa.zero).getD (j / 6) Pa.zero = Pa.zero := by
      rw [List.getD_eq_getElem?_getD, List.getElem?_replicate]; split <;> rfl
    rw [h2]
    simp only [Array.toList_map, Array.toList_range, List.getElem?_map, List.getElem?_range hj, Option.map_some]
    have h3 : j % 6 < 6 := by omega
    generalize j % 6 = f at h3
    match f, h3 with
    | 0, _ | 1, _ | 2, _ | 3, _ | 4, _ | 5, _ => rfl
  · rw [List.getElem?_eq_none (by rw [cellsK_len, List.length_replicate]; omega), List.getElem?_eq_none (by simp; omega)]
theorem make_pks (n : Nat) (hn : n ≤ 1000) (w : World) :
    (Instr.makeSlice 25 (.int .i64 (n : Int)) (.int .i64 (n : Int))).run Tryd.prog w = .ok (.slice (some ⟨w.heap.size, 0, none⟩) n n) (w.alloc (.cells (cellsK (List.replicate n Pa.zero)).toArray 33)) := by
  obtain ⟨i0, hi, hz0, hz1, hz2⟩ := info_parts Tryd.infoK
  rw [run_make (P := Tryd.prog) w 25 33 i0 _ Tryd.underlying25 hi hz0 .i64 .i64 (n : Int) (n : Int) (by omega) (Int.le_refl _) (by rw [hz2]; omega) (by omega), cellsK_zeros, hz1]
  simp only [Int.toNat_natCast, Array.toArray_toList]
  rfl
end Go.Proofs.YtdepjclbeocmhaaDoor
