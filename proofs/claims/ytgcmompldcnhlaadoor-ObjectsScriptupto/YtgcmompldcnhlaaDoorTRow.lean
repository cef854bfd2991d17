/-
  Rows of numbers in memory of their own, a tape's cells, and what stays of them when other memory turns.
-/
import Derived.Test.YtgcmompldcnhlaaDoorRows
import Derived.Test.YtgcmompldcnhlaaDoorTMath
import Derived.WalkKit
import Derived.Below
import Derived.Deep.OwnRows
import Derived.Deep.QuietTactic
import Derived.BigQuiet
namespace Go.Proofs.YtgcmompldcnhlaaDoor
open Go.RowKit
theorem hide {p : Prop} (h : p) : Hid p := h
theorem lt_of_heap {w : World} {g : Nat} {o : Obj} (h : w.heap[g]? = some o) : g < w.heap.size := (Array.getElem?_eq_some_iff.1 h).1
/- a row of numbers that fills a block -/
def RowN (w : World) (k : IntKind) (e : TypeId) (g : Nat) (l : List Nat) : Prop := w.heap[g]? = some (.cells (l.map fun x : Nat => Value.int k (x : Int)).toArray e (0, 0))
theorem RowN.lt {w : World} {k : IntKind} {e : TypeId} {g : Nat} {l : List Nat} (h : RowN w k e g l) : g < w.heap.size := lt_of_heap h
theorem RowN.cell {w : World} {k : IntKind} {e : TypeId} {g : Nat} {l : List Nat} (h : RowN w k e g l) (j : Nat) (hj : j < l.length) : w.cell? ⟨g, j, none⟩ = some (.int k (l.getD j 0 : Nat)) := by
  rw [cell_of_row w g j _ _ _ h]; simp [List.getElem?_eq_getElem hj, List.getD_eq_getElem?_getD]
theorem RowN.frozen {w : World} {k : IntKind} {e : TypeId} {g : Nat} {l : List Nat} (h : RowN w k e g l) (j : Nat) : w.frozen? ⟨g, j, none⟩ = false := frozen_of_row w g j _ _ h
theorem RowN.set {w : World} {k : IntKind} {e : TypeId} {g : Nat} {l : List Nat} (h : RowN w k e g l) (j v : Nat) : RowN (w.setCell ⟨g, j, none⟩ (.int k (v : Int))) k e g (l.set j v) := by
  have := heap_setCell_same w g j _ e (.int k (v : Int)) h
  rw [RowN, this]
  congr 2
  simp [List.map_set]
theorem RowN.far {w : World} {k : IntKind} {e : TypeId} {g : Nat} {l : List Nat} (h : RowN w k e g l) (p : Addr) (v : Value) (hp : g ≠ p.block) : RowN (w.setCell p v) k e g l := by
  rw [RowN, heap_setCell_other w p g v hp]; exact h
theorem RowN.carry {w w' : World} {B : Nat} {k : IntKind} {e : TypeId} {g : Nat} {l : List Nat} (h : RowN w k e g l) (b : Below B w w') (hg : g < B) : RowN w' k e g l := by
  rw [RowN, b.block g hg]; exact h
theorem RowN.alloc {w : World} {k : IntKind} {e : TypeId} {g : Nat} {l : List Nat} (h : RowN w k e g l) (o : Obj) : RowN (w.alloc o) k e g l := by
  rw [RowN, Below.heap_alloc w o g h.lt]; exact h
theorem RowN.drewN {w : World} {k : IntKind} {e : TypeId} {g : Nat} {l : List Nat} (h : RowN w k e g l) (q : Nat) : RowN (w.drewN q) k e g l := h
theorem row_made (w : World) (k : IntKind) (e : TypeId) (n : Nat) : RowN (w.alloc (.cells (madeCells #[.int k 0] n) e)) k e w.heap.size (List.replicate n 0) := by
  rw [RowN, heap_alloc_new]
  congr 2
  apply Array.ext'
  rw [toList_madeCells_one]; simp
/- numbers of a slice of uint64 that came in -/
def U64s (w : World) (ao : Option Addr) (n cap : Nat) (us : List Nat) : Prop :=
  n = us.length ∧ n ≤ cap ∧ cap ≤ maxLen ∧ (ao = none → cap = 0) ∧ (∀ ad, ao = some ad → ∀ j, j < us.length → w.cell? (ad.add j) = some (.int .u64 (us.getD j 0 : Nat))) ∧ ∀ j, us.getD j 0 ≤ 18446744073709551615
theorem lt_of_cell {w : World} {a : Addr} {v : Value} (h : w.cell? a = some v) : a.block < w.heap.size := World.block_lt_of_cell? w a h
theorem U64s.carry {w w' : World} {ao : Option Addr} {n cap : Nat} {l : List Nat} (h : U64s w ao n cap l) (b : Below w.heap.size w w') : U64s w' ao n cap l := by
  refine ⟨h.1, h.2.1, h.2.2.1, h.2.2.2.1, fun ad e j hj => ?_, h.2.2.2.2.2⟩
  have hc := h.2.2.2.2.1 ad e j hj
  rw [b.cell (lt_of_cell hc), hc]
theorem add0 (g j : Nat) : Addr.add ⟨g, 0, none⟩ j = ⟨g, j, none⟩ := by
  unfold Addr.add
  split
  · subst_vars; rfl
  · rw [Nat.zero_add]
theorem RowN.u64s {w : World} {e : TypeId} {g : Nat} {l : List Nat} (h : RowN w .u64 e g l) (hm : l.length ≤ maxLen) (hv : ∀ j, l.getD j 0 ≤ 18446744073709551615) : U64s w (some ⟨g, 0, none⟩) l.length l.length l := by
  refine ⟨rfl, Nat.le_refl _, hm, fun x => (by cases x), fun ad x j hj => ?_, hv⟩
  obtain rfl := Option.some.inj x
  rw [add0]
  exact h.cell j hj
def cutN (us : List Nat) : List Nat := us.map (· % 281474976710656)
theorem cutN_len (us : List Nat) : (cutN us).length = us.length := by simp [cutN]
theorem cutN_get (us : List Nat) (j : Nat) : (cutN us).getD j 0 = us.getD j 0 % 281474976710656 := by
  simp only [cutN, List.getD_eq_getElem?_getD, List.getElem?_map]
  cases us[j]? <;> simp
theorem cutN_le (us : List Nat) (j : Nat) : (cutN us).getD j 0 ≤ 281474976710655 := by rw [cutN_get]; omega
/- a tape: its three cells, and its words in another block -/
structure TapeAt (w : World) (g h : Nat) (ws : List Nat) (t k : Nat) : Prop where
  box : w.heap[g]? = some (.cells #[.slice (some ⟨h, 0, none⟩) ws.length ws.length, .int .i64 (t : Int), .int .i64 (k : Int)] 82 (0, 0))
  row : RowN w .u64 22 h ws
  ne : g ≠ h
  fits : ws.length ≤ 17592186043904
  word : ∀ j, ws.getD j 0 ≤ 281474976710655
  some : t ≤ ws.length
  end_ : k ≤ ws.length
theorem TapeAt.c0 {w : World} {g h : Nat} {ws : List Nat} {t k : Nat} (x : TapeAt w g h ws t k) : w.cell? ⟨g, 0, none⟩ = .some (.slice (.some ⟨h, 0, none⟩) ws.length ws.length) := by
  rw [cell_of_row w g 0 _ _ _ x.box]; rfl
theorem TapeAt.c1 {w : World} {g h : Nat} {ws : List Nat} {t k : Nat} (x : TapeAt w g h ws t k) : w.cell? ⟨g, 1, none⟩ = .some (.int .i64 (t : Int)) := by
  rw [cell_of_row w g 1 _ _ _ x.box]; rfl
theorem TapeAt.c2 {w : World} {g h : Nat} {ws : List Nat} {t k : Nat} (x : TapeAt w g h ws t k) : w.cell? ⟨g, 2, none⟩ = .some (.int .i64 (k : Int)) := by
  rw [cell_of_row w g 2 _ _ _ x.box]; rfl
theorem TapeAt.z1 {w : World} {g h : Nat} {ws : List Nat} {t k : Nat} (x : TapeAt w g h ws t k) : w.frozen? ⟨g, 1, none⟩ = false := frozen_of_row w g 1 _ _ x.box
theorem TapeAt.drewN {w : World} {g h : Nat} {ws : List Nat} {t k : Nat} (x : TapeAt w g h ws t k) (q : Nat) : TapeAt (w.drewN q) g h ws t k := ⟨x.box, x.row, x.ne, x.fits, x.word, x.some, x.end_⟩
theorem TapeAt.carry {w w' : World} {B : Nat} {g h : Nat} {ws : List Nat} {t k : Nat} (x : TapeAt w g h ws t k) (b : Below B w w') (hg : g < B) (hh : h < B) : TapeAt w' g h ws t k :=
  ⟨by rw [b.block g hg]; exact x.box, x.row.carry b hh, x.ne, x.fits, x.word, x.some, x.end_⟩
theorem TapeAt.far {w : World} {g h : Nat} {ws : List Nat} {t k : Nat} (x : TapeAt w g h ws t k) (p : Addr) (v : Value) (hg : g ≠ p.block) (hh : h ≠ p.block) : TapeAt (w.setCell p v) g h ws t k :=
  ⟨by rw [heap_setCell_other w p g v hg]; exact x.box, x.row.far p v hh, x.ne, x.fits, x.word, x.some, x.end_⟩
theorem TapeAt.took {w : World} {g h : Nat} {ws : List Nat} {t k : Nat} (x : TapeAt w g h ws t k) (ht : t < ws.length) : TapeAt (w.setCell ⟨g, 1, none⟩ (.int .i64 ((t : Int) + 1))) g h ws (t + 1) k :=
  ⟨by rw [heap_setCell_same w g 1 _ _ _ x.box]; rfl, x.row.far _ _ x.ne.symm, x.ne, x.fits, x.word, ht, x.end_⟩
theorem below_drewN {B : Nat} {a w : World} (h : Below B a w) (q : Nat) : Below B a (w.drewN q) := ⟨h.os, h.tape, h.output, h.size, h.block⟩
theorem below_alloc (w : World) (o : Obj) : Below w.heap.size w (w.alloc o) := (Below.refl _ _).alloc (Nat.le_refl _) o
end Go.Proofs.YtgcmompldcnhlaaDoor
