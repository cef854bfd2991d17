/-
  Messages in memory: the cells of a slice of them, their data's bytes, what stays of them.
-/
import Derived.Test.YtnkfdnmaocfjnaaDoorFBytes
import Derived.Test.YtnkfdnmaocfjnaaDoorGCat
import Derived.Laws.MakeOwn
import Derived.Deep.AppendLies
import Derived.ArgAppend
namespace Go.Proofs.YtnkfdnmaocfjnaaDoor
open Go.RowKit
/- a message: to, reply, id, op, status, a capability's four parts, argument, where its data lies, its data -/
structure Ms where
  ta : Int
  rp : Int
  id : Int
  op : Int
  st : Int
  p : Int
  o : Int
  r : Int
  c : Int
  ar : Int
  so : Option Addr
  sn : Nat
  sc : Nat
  l : List UInt8
def Ms.zero : Ms := ⟨0, 0, 0, 0, 0, 0, 0, 0, 0, 0, none, 0, 0, []⟩
def Ms.val (x : Ms) : Value := .agg #[.int .u64 x.ta, .int .u64 x.rp, .int .u32 x.id, .int .u16 x.op, .int .u16 x.st, .int .u64 x.p, .int .u32 x.o, .int .u8 x.r, .int .u64 x.c, .int .u64 x.ar, .slice x.so x.sn x.sc]
def Ms.cells (x : Ms) : List Value := [.int .u64 x.ta, .int .u64 x.rp, .int .u32 x.id, .int .u16 x.op, .int .u16 x.st, .int .u64 x.p, .int .u32 x.o, .int .u8 x.r, .int .u64 x.c, .int .u64 x.ar, .slice x.so x.sn x.sc]
/- a message without where its data lies -/
def Ms.nm (x : Ms) : Ms := ⟨x.ta, x.rp, x.id, x.op, x.st, x.p, x.o, x.r, x.c, x.ar, none, 0, 0, x.l⟩
/- the same with other data's place -/
def Ms.at (x : Ms) (so : Option Addr) (sn sc : Nat) : Ms := ⟨x.ta, x.rp, x.id, x.op, x.st, x.p, x.o, x.r, x.c, x.ar, so, sn, sc, x.l⟩
theorem Ms.at_nm (x : Ms) (so : Option Addr) (sn sc : Nat) : (x.at so sn sc).nm = x.nm := rfl
def cellsM (xs : List Ms) : List Value := xs.flatMap Ms.cells
theorem cellsM_len (xs : List Ms) : (cellsM xs).length = xs.length * 11 := by
  induction xs with
  | nil => rfl
  | cons x r ih => simp only [cellsM, List.flatMap_cons, List.length_append, List.length_cons] at ih ⊢; rw [ih]; simp only [Ms.cells, List.length_cons, List.length_nil]; omega
theorem cellsM_append (a b : List Ms) : cellsM (a ++ b) = cellsM a ++ cellsM b := by simp [cellsM]
theorem cellsM_one (xs : List Ms) : ∀ u ∈ cellsM xs, u.oneCell' = true := by
  intro u hu
  simp only [cellsM, List.mem_flatMap] at hu
  obtain ⟨x, _, hx⟩ := hu
  simp only [Ms.cells, List.mem_cons, List.not_mem_nil, or_false] at hx
  rcases hx with rfl | rfl | rfl | rfl | rfl | rfl | rfl | rfl | rfl | rfl | rfl <;> rfl
theorem cellsM_get (xs : List Ms) (k f : Nat) (h : k < xs.length) (hf : f < 11) : (cellsM xs)[k * 11 + f]? = (xs.getD k Ms.zero).cells[f]? := by
  induction xs generalizing k with
  | nil => simp at h
  | cons x r ih =>
    simp only [cellsM, List.flatMap_cons] at ih ⊢
    have hl : x.cells.length = 11 := rfl
    cases k with
    | zero => rw [List.getElem?_append_left (by rw [hl]; omega)]; simp
    | succ k =>
      rw [List.getElem?_append_right (by rw [hl]; omega), hl, show (k + 1) * 11 + f - 11 = k * 11 + f from by omega, ih k (by simpa using h)]
      rfl
theorem getM_mem (L : List Ms) (k : Nat) (h : k < L.length) : L.getD k Ms.zero ∈ L := by
  rw [List.getD_eq_getElem?_getD, List.getElem?_eq_getElem h]; exact List.getElem_mem h
theorem takeM_snoc (xs : List Ms) (k : Nat) (h : k < xs.length) : xs.take (k + 1) = xs.take k ++ [xs.getD k Ms.zero] := by
  rw [List.take_add_one, List.getElem?_eq_getElem h, List.getD_eq_getElem?_getD, List.getElem?_eq_getElem h]; rfl
theorem dropM_cons (L : List Ms) (i : Nat) (h : i < L.length) : L.drop i = L.getD i Ms.zero :: L.drop (i + 1) := by
  rw [List.drop_eq_getElem_cons h, List.getD_eq_getElem?_getD, List.getElem?_eq_getElem h]; rfl
theorem getM_nm (K : List Ms) (k : Nat) : (K.map Ms.nm).getD k Ms.zero = (K.getD k Ms.zero).nm := by
  rw [List.getD_eq_getElem?_getD, List.getD_eq_getElem?_getD, List.getElem?_map]
  cases K[k]? <;> rfl
theorem cellsM_drop (L : List Ms) (k : Nat) : (cellsM L).drop (k * 11) = cellsM (L.drop k) := by
  induction L generalizing k with
  | nil => simp [cellsM]
  | cons x r ih =>
    cases k with
    | zero => simp
    | succ k =>
      show (x.cells ++ cellsM r).drop ((k + 1) * 11) = cellsM (r.drop k)
      rw [List.drop_append, List.drop_eq_nil_of_le (by show 11 ≤ _; omega), List.nil_append, show (k + 1) * 11 - x.cells.length = k * 11 from by show _ - 11 = _; omega, ih]
/- a message's data -/
def Ms.has (w : World) (x : Ms) : Prop := Bts w x.so x.sn x.sc x.l
def Mss (w : World) (ao : Option Addr) (n cap : Nat) (L : List Ms) : Prop := Lies 11 w ao n cap (cellsM L) ∧ ∀ x ∈ L, x.has w
theorem Mss.len {w : World} {ao : Option Addr} {n cap : Nat} {L : List Ms} (h : Mss w ao n cap L) : n = L.length := by have := h.1.1; rw [cellsM_len] at this; omega
theorem Mss.carry {w w' : World} {ao : Option Addr} {n cap : Nat} {L : List Ms} (h : Mss w ao n cap L) (b : Below w.heap.size w w') : Mss w' ao n cap L := ⟨Lies.carry h.1 b (Nat.le_refl _), fun x hx => Bts.carry (h.2 x hx) b⟩
theorem lies_elem {w : World} {ad : Addr} {n cap : Nat} {L : List Ms} (h : Lies 11 w (some ad) n cap (cellsM L)) (k : Nat) (hk : k < n) (x : Ms) (hx : L.getD k Ms.zero = x) (a : Addr) (ha : ad.add (k * 11) = a) : (w.cell? a = some (.int .u64 x.ta) ∧ w.cell? { block := a.block, off := a.off + 1 } = some (.int .u64 x.rp) ∧ w.cell? { block := a.block, off := a.off + 2 } = some (.int .u32 x.id) ∧ w.cell? { block := a.block, off := a.off + 3 } = some (.int .u16 x.op) ∧ w.cell? { block := a.block, off := a.off + 4 } = some (.int .u16 x.st) ∧ w.cell? { block := a.block, off := a.off + 5 } = some (.int .u64 x.p) ∧ w.cell? { block := a.block, off := a.off + 6 } = some (.int .u32 x.o) ∧ w.cell? { block := a.block, off := a.off + 7 } = some (.int .u8 x.r) ∧ w.cell? { block := a.block, off := a.off + 8 } = some (.int .u64 x.c) ∧ w.cell? { block := a.block, off := a.off + 9 } = some (.int .u64 x.ar) ∧ w.cell? { block := a.block, off := a.off + 10 } = some (.slice x.so x.sn x.sc)) := by
  have hl : n = L.length := by have := h.1; rw [cellsM_len] at this; omega
  have e : ∀ f u, f < 11 → (L.getD k Ms.zero).cells[f]? = some u → w.cell? ((ad.add (k * 11)).add f) = some u := fun f u hf hu => by
    rw [add_add]; exact h.2.2.2.2 ad rfl (k * 11 + f) u (by rw [cellsM_get L k f (by omega) hf, hu])
  rw [hx, ha] at e
  have e0 := e 0 _ (by omega) rfl
  have e1 := e 1 _ (by omega) rfl
  have e2 := e 2 _ (by omega) rfl
  have e3 := e 3 _ (by omega) rfl
  have e4 := e 4 _ (by omega) rfl
  have e5 := e 5 _ (by omega) rfl
  have e6 := e 6 _ (by omega) rfl
  have e7 := e 7 _ (by omega) rfl
  have e8 := e 8 _ (by omega) rfl
  have e9 := e 9 _ (by omega) rfl
  have e10 := e 10 _ (by omega) rfl
  rw [addS _ 0] at e1
  rw [addS _ 1] at e2
  rw [addS _ 2] at e3
  rw [addS _ 3] at e4
  rw [addS _ 4] at e5
  rw [addS _ 5] at e6
  rw [addS _ 6] at e7
  rw [addS _ 7] at e8
  rw [addS _ 8] at e9
  rw [addS _ 9] at e10
  exact ⟨by simpa [Addr.add] using e0, e1, e2, e3, e4, e5, e6, e7, e8, e9, e10⟩
/- a message in a variable -/
def BoxM (w : World) (g : Nat) (x : Ms) : Prop := w.heap[g]? = some (.cells #[.int .u64 x.ta, .int .u64 x.rp, .int .u32 x.id, .int .u16 x.op, .int .u16 x.st, .int .u64 x.p, .int .u32 x.o, .int .u8 x.r, .int .u64 x.c, .int .u64 x.ar, .slice x.so x.sn x.sc] 32 (0, 0))
theorem BoxM.all {w : World} {g : Nat} {x : Ms} (h : BoxM w g x) : (w.cell? ⟨g, 0, none⟩ = some (.int .u64 x.ta) ∧ w.cell? ⟨g, 1, none⟩ = some (.int .u64 x.rp) ∧ w.cell? ⟨g, 2, none⟩ = some (.int .u32 x.id) ∧ w.cell? ⟨g, 3, none⟩ = some (.int .u16 x.op) ∧ w.cell? ⟨g, 4, none⟩ = some (.int .u16 x.st) ∧ w.cell? ⟨g, 5, none⟩ = some (.int .u64 x.p) ∧ w.cell? ⟨g, 6, none⟩ = some (.int .u32 x.o) ∧ w.cell? ⟨g, 7, none⟩ = some (.int .u8 x.r) ∧ w.cell? ⟨g, 8, none⟩ = some (.int .u64 x.c) ∧ w.cell? ⟨g, 9, none⟩ = some (.int .u64 x.ar) ∧ w.cell? ⟨g, 10, none⟩ = some (.slice x.so x.sn x.sc)) := by
  refine ⟨?_, ?_, ?_, ?_, ?_, ?_, ?_, ?_, ?_, ?_, ?_⟩ <;> (rw [cell_of_row w g _ _ _ _ h]; rfl)
theorem BoxM.z {w : World} {g : Nat} {x : Ms} (h : BoxM w g x) (j : Nat) : w.frozen? ⟨g, j, none⟩ = false := frozen_of_row w g j _ _ h
theorem BoxM.grow {w w' : World} {g : Nat} {x : Ms} (h : BoxM w g x) (b : Below w.heap.size w w') : BoxM w' g x := (b.block g (lt_of_heap h)).trans h
theorem BoxM.foot {S : Nat → Prop} {w w' : World} {g : Nat} {x : Ms} (h : BoxM w g x) (f : Foot S w w') (hS : ¬ S g) : BoxM w' g x := (f.block g (lt_of_heap h) hS).trans h
theorem boxM_new (w : World) (x : Ms) : BoxM (w.alloc (.cells #[.int .u64 x.ta, .int .u64 x.rp, .int .u32 x.id, .int .u16 x.op, .int .u16 x.st, .int .u64 x.p, .int .u32 x.o, .int .u8 x.r, .int .u64 x.c, .int .u64 x.ar, .slice x.so x.sn x.sc] 32)) w.heap.size x := heap_alloc_new _ _
theorem Tryd.infoM : (Tryd.prog.info? 32).map (fun i => (i.zero, i.size, i.bytes)) = some (some (.agg #[.int .u64 0, .int .u64 0, .int .u32 0, .int .u16 0, .int .u16 0, .int .u64 0, .int .u32 0, .int .u8 0, .int .u64 0, .int .u64 0, .slice none 0 0]), 11, 80) := by kernel_rfl
theorem Tryd.sizeOfM (w : World) : (sizeOf 32).run Tryd.prog w = .ok 11 w := by kernel_rfl
/- a message is stored into a variable -/
def lay11 (w : World) (g : Nat) (y : Ms) : World := (((((((((((w.setCell ⟨g, 0, none⟩ (.int .u64 y.ta)).setCell ⟨g, 1, none⟩ (.int .u64 y.rp)).setCell ⟨g, 2, none⟩ (.int .u32 y.id)).setCell ⟨g, 3, none⟩ (.int .u16 y.op)).setCell ⟨g, 4, none⟩ (.int .u16 y.st)).setCell ⟨g, 5, none⟩ (.int .u64 y.p)).setCell ⟨g, 6, none⟩ (.int .u32 y.o)).setCell ⟨g, 7, none⟩ (.int .u8 y.r)).setCell ⟨g, 8, none⟩ (.int .u64 y.c)).setCell ⟨g, 9, none⟩ (.int .u64 y.ar)).setCell ⟨g, 10, none⟩ (.slice y.so y.sn y.sc))
theorem Foot.put {a w : World} {g : Nat} (h : Foot (fun j => j = g) a w) (o : Nat) (v : Value) : Foot (fun j => j = g) a (w.setCell ⟨g, o, none⟩ v) := h.then (foot_set w ⟨g, o, none⟩ v)
theorem foot_lay11 (w : World) (g : Nat) (y : Ms) : Foot (fun j => j = g) w (lay11 w g y) := by
  unfold lay11
  exact (((((((((((Foot.refl _ w).put _ _).put _ _).put _ _).put _ _).put _ _).put _ _).put _ _).put _ _).put _ _).put _ _).put _ _
theorem BoxM.lay {w : World} {g : Nat} {x : Ms} (h : BoxM w g x) (y : Ms) : BoxM (lay11 w g y) g y := by
  have h1 := heap_setCell_same w g 0 _ _ (.int .u64 y.ta) h
  have h2 := heap_setCell_same _ g 1 _ _ (.int .u64 y.rp) h1
  have h3 := heap_setCell_same _ g 2 _ _ (.int .u32 y.id) h2
  have h4 := heap_setCell_same _ g 3 _ _ (.int .u16 y.op) h3
  have h5 := heap_setCell_same _ g 4 _ _ (.int .u16 y.st) h4
  have h6 := heap_setCell_same _ g 5 _ _ (.int .u64 y.p) h5
  have h7 := heap_setCell_same _ g 6 _ _ (.int .u32 y.o) h6
  have h8 := heap_setCell_same _ g 7 _ _ (.int .u8 y.r) h7
  have h9 := heap_setCell_same _ g 8 _ _ (.int .u64 y.c) h8
  have h10 := heap_setCell_same _ g 9 _ _ (.int .u64 y.ar) h9
  have h11 := heap_setCell_same _ g 10 _ _ (.slice y.so y.sn y.sc) h10
  unfold BoxM lay11
  rw [h11]
  simp
theorem BoxM.put10 {w : World} {g : Nat} {x : Ms} (h : BoxM w g x) (so : Option Addr) (sn sc : Nat) : BoxM (w.setCell ⟨g, 10, none⟩ (.slice so sn sc)) g (x.at so sn sc) := by
  unfold BoxM
  rw [heap_setCell_same w g 10 _ _ _ h]; rfl
theorem owns_carry {w w' : World} {base : Nat} {e : TypeId} {size : Nat} {v : Value} {n : Nat} {xs : List Value} (h : w.ownsRow base e size v n xs) (b : Below w.heap.size w w') : w'.ownsRow base e size v n xs := by
  refine ⟨h.1, ?_⟩
  rcases h.2 with ⟨hv, hn⟩ | ⟨g, cap, cur, hv, hb, hg, h1, h2, h3, h4⟩
  · exact .inl ⟨hv, hn⟩
  · exact .inr ⟨g, cap, cur, hv, hb, (b.block g (lt_of_heap hg)).trans hg, h1, h2, h3, h4⟩
theorem owns_base {w : World} {B B' : Nat} {e : TypeId} {sz n : Nat} {v : Value} {xs : List Value} (h : w.ownsRow B e sz v n xs) (hB : B' ≤ B) : w.ownsRow B' e sz v n xs := by
  refine ⟨h.1, ?_⟩
  rcases h.2 with h0 | ⟨k, cap, cur, h1, h2, h4⟩
  · exact .inl h0
  · exact .inr ⟨k, cap, cur, h1, Nat.le_trans hB h2, h4⟩
/- an own row's block has its type -/
theorem owns_type {w : World} {B : Nat} {e : TypeId} {sz n : Nat} {v : Value} {xs : List Value} (h : w.ownsRow B e sz v n xs) {k : Nat} (hk : v.ownBlock = some k) : ∃ cur, w.heap[k]? = some (.cells cur e (0, 0)) := by
  rcases h.2 with ⟨h0, _⟩ | ⟨j, cap, cur, h1, h2, h3, h4⟩
  · rw [h0] at hk; cases hk
  · rw [h1] at hk
    have : j = k := by simpa [Value.ownBlock] using hk
    subst this
    exact ⟨cur, h3⟩
theorem owns_lt {w : World} {B : Nat} {e : TypeId} {sz n : Nat} {v : Value} {xs : List Value} (h : w.ownsRow B e sz v n xs) {k : Nat} (hk : v.ownBlock = some k) : k < w.heap.size ∧ B ≤ k := by
  rcases h.2 with ⟨h0, _⟩ | ⟨j, cap, cur, h1, h2, h3, h4⟩
  · rw [h0] at hk; cases hk
  · rw [h1] at hk
    have : j = k := by simpa [Value.ownBlock] using hk
    subst this
    exact ⟨lt_of_heap h3, h2⟩
theorem owns_foot {w w' : World} {S : Nat → Prop} {B : Nat} {e : TypeId} {sz n : Nat} {v : Value} {xs : List Value} (h : w.ownsRow B e sz v n xs) (f : Foot S w w') (hS : ∀ k, v.ownBlock = some k → ¬ S k) : w'.ownsRow B e sz v n xs := by
  refine ⟨h.1, ?_⟩
  rcases h.2 with h0 | ⟨k, cap, cur, h1, h2, h3, h4⟩
  · exact .inl h0
  · exact .inr ⟨k, cap, cur, h1, h2, (f.block k (lt_of_heap h3) (hS k (by rw [h1]; rfl))).trans h3, h4⟩
theorem two_types {w : World} {x y : Nat} {c d : Array Value} {t u : TypeId} {e f : Nat × Nat} (h1 : w.heap[x]? = some (.cells c t e)) (h2 : w.heap[y]? = some (.cells d u f)) (h : t ≠ u) : x ≠ y := by
  intro e; subst e; rw [h1] at h2; cases h2; exact h rfl
theorem grown_foot {w w' : World} {row : Option Nat} (h : w.grownBy w' row) : Foot (fun k => row = some k) w w' := ⟨h.os, h.tape, h.output, h.size, fun k hk hn => h.block k hk fun e => hn e.symm⟩
end Go.Proofs.YtnkfdnmaocfjnaaDoor
