/-
  A memory of pages: its cells, the row that tells which are given out, the row of all bytes; what stays of them when other memory turns.
-/
import Derived.Test.YtppdammgmnihgaaDoorPBase
namespace Go.Proofs.YtppdammgmnihgaaDoor
open Go.RowKit
def boolsV (gl : List Bool) : Array Value := (gl.map Value.bool).toArray
/- a row of truths that fills a block -/
def RowT (w : World) (g : Nat) (gl : List Bool) : Prop := w.heap[g]? = some (.cells (gl.map Value.bool).toArray 4 (0, 0))
theorem RowT.cell {w : World} {g : Nat} {gl : List Bool} (h : RowT w g gl) (j : Nat) (hj : j < gl.length) : w.cell? ⟨g, j, none⟩ = some (.bool (gl.getD j true)) := by
  rw [cell_of_row w g j _ _ _ h]; simp [List.getElem?_eq_getElem hj, List.getD_eq_getElem?_getD]
theorem RowT.frozen {w : World} {g : Nat} {gl : List Bool} (h : RowT w g gl) (j : Nat) : w.frozen? ⟨g, j, none⟩ = false := frozen_of_row w g j _ _ h
theorem RowT.set {w : World} {g : Nat} {gl : List Bool} (h : RowT w g gl) (j : Nat) (v : Bool) : RowT (w.setCell ⟨g, j, none⟩ (.bool v)) g (gl.set j v) := by
  have := heap_setCell_same w g j _ 4 (.bool v) h
  rw [RowT, this]
  congr 2
  simp [List.map_set]
theorem row_bools (w : World) (n : Nat) : RowT (w.alloc (.cells (madeCells #[.bool false] n) 4)) w.heap.size (List.replicate n false) := by
  rw [RowT, heap_alloc_new]
  congr 2
  apply Array.ext'
  rw [toList_madeCells_one]; simp
theorem RowT.foot {S : Nat → Prop} {w w' : World} {g : Nat} {gl : List Bool} (h : RowT w g gl) (b : Foot S w w') (hS : ¬ S g) : RowT w' g gl := (b.block g (lt_of_heap h) hS).trans h
/- all bytes of all pages in a block -/
def RowP (w : World) (g : Nat) (bs : List UInt8) : Prop := w.heap[g]? = some (.cells (cellsB bs).toArray 80 (0, 0))
theorem RowP.foot {S : Nat → Prop} {w w' : World} {g : Nat} {bs : List UInt8} (h : RowP w g bs) (b : Foot S w w') (hS : ¬ S g) : RowP w' g bs := (b.block g (lt_of_heap h) hS).trans h
theorem RowP.cell {w : World} {g : Nat} {bs : List UInt8} (h : RowP w g bs) (j : Nat) (hj : j < bs.length) : w.cell? ⟨g, j, none⟩ = some (.int .u8 (bt bs j)) := by
  rw [cell_of_row w g j _ _ _ h]; simpa using cellsB_get bs j hj
/- a piece of a page, as a slice -/
theorem RowP.piece {w : World} {g : Nat} {bs : List UInt8} (h : RowP w g bs) (p n cap : Nat) (hp : p + n ≤ bs.length) (hc : n ≤ cap) (hm : cap ≤ maxLen) : Bts w (some ⟨g, p, none⟩) n cap (pieceF bs p n) := by
  refine ⟨(pieceF_len bs p n hp).symm, hc, hm, (fun e => by cases e), fun ad e j hj => ?_⟩
  obtain rfl := Option.some.inj e
  rw [pieceF_len bs p n hp] at hj
  rw [addN, h.cell (p + j) (by omega)]
  unfold bt; rw [pieceF_get bs p n j hj]
structure MemAt (w : World) (m a b n : Nat) (gl : List Bool) (bs : List UInt8) : Prop where
  box : w.heap[m]? = some (.cells #[.slice (some ⟨a, 0, none⟩) n n, .slice (some ⟨b, 0, none⟩) n n] 77 (0, 0))
  giv : RowT w a gl
  byt : RowP w b bs
  num : gl.length = n
  few : n ≤ 4096
  len : bs.length = n * 64
  clean : Clean gl bs
variable {w w' : World} {m a b n : Nat} {gl : List Bool} {bs : List UInt8}
theorem MemAt.c0 (x : MemAt w m a b n gl bs) : w.cell? ⟨m, 0, none⟩ = some (.slice (some ⟨a, 0, none⟩) n n) := by rw [cell_of_row w m 0 _ _ _ x.box]; rfl
theorem MemAt.c1 (x : MemAt w m a b n gl bs) : w.cell? ⟨m, 1, none⟩ = some (.slice (some ⟨b, 0, none⟩) n n) := by rw [cell_of_row w m 1 _ _ _ x.box]; rfl
theorem MemAt.ma (x : MemAt w m a b n gl bs) : m ≠ a := by intro e; have := x.giv; rw [RowT, ← e, x.box] at this; simp at this
theorem MemAt.mb (x : MemAt w m a b n gl bs) : m ≠ b := by intro e; have := x.byt; rw [RowP, ← e, x.box] at this; simp at this
theorem MemAt.ab (x : MemAt w m a b n gl bs) : a ≠ b := by
  intro e
  have h1 := x.byt
  have h2 := x.giv
  rw [RowP] at h1; rw [RowT, e, h1] at h2; simp at h2
theorem MemAt.drewN (x : MemAt w m a b n gl bs) (q : Nat) : MemAt (w.drewN q) m a b n gl bs := ⟨x.box, x.giv, x.byt, x.num, x.few, x.len, x.clean⟩
theorem MemAt.foot {S : Nat → Prop} (x : MemAt w m a b n gl bs) (f : Foot S w w') (hm : ¬ S m) (ha : ¬ S a) (hb : ¬ S b) : MemAt w' m a b n gl bs :=
  ⟨(f.block m (lt_of_heap x.box) hm).trans x.box, x.giv.foot f ha, x.byt.foot f hb, x.num, x.few, x.len, x.clean⟩
theorem MemAt.grow (x : MemAt w m a b n gl bs) (f : Below w.heap.size w w') : MemAt w' m a b n gl bs := x.foot (below_foot (fun _ => False) f) id id id
/- a page is given out, or taken back -/
theorem MemAt.give (x : MemAt w m a b n gl bs) (k : Nat) : MemAt (w.setCell ⟨a, k, none⟩ (.bool true)) m a b n (gl.set k true) bs :=
  ⟨by rw [heap_setCell_other w ⟨a, k, none⟩ m _ x.ma]; exact x.box, x.giv.set k true, by rw [RowP, heap_setCell_other w ⟨a, k, none⟩ b _ x.ab.symm]; exact x.byt, by rw [List.length_set]; exact x.num, x.few, x.len, x.clean.give k⟩
/- the bytes of pages are laid anew -/
theorem MemAt.lay (x : MemAt w m a b n gl bs) (bs' : List UInt8) (hl : bs'.length = n * 64) (hc : Clean gl bs') : MemAt (w.setRow b (cellsB bs').toArray) m a b n gl bs' :=
  ⟨by rw [setRow_other w b m _ x.mb]; exact x.box, by rw [RowT, setRow_other w b a _ x.ab]; exact x.giv, setRow_heap w b _ _ _ _ x.byt, x.num, x.few, hl, hc⟩
/- what a call on a memory may turn -/
def MemS (a b : Nat) (k : Nat) : Prop := k = a ∨ k = b
end Go.Proofs.YtppdammgmnihgaaDoor
