/-
  The statement's own model of pages in memory: which are given out, and the bytes of each in a block of its own; its alloc, as a contract; what stays of it when other memory turns.
-/
import Derived.Test.YtlfophfilehdeaaPAct
namespace Go.Proofs.Ytlfophfilehdeaa
open Go.RowKit
def pageV : Option Nat → Value
  | none => .slice none 0 0
  | some g => .slice (some ⟨g, 0, none⟩) 64 64
def RowS (w : World) (y : Nat) (sl : List (Option Nat)) : Prop := w.heap[y]? = some (.cells (sl.map pageV).toArray 31 (0, 0))
theorem RowS.cell {w : World} {y : Nat} {sl : List (Option Nat)} (h : RowS w y sl) (j : Nat) (hj : j < sl.length) : w.cell? ⟨y, j, none⟩ = some (pageV (sl.getD j none)) := by
  rw [cell_of_row w y j _ _ _ h]; simp [List.getElem?_eq_getElem hj, List.getD_eq_getElem?_getD]
theorem RowS.frozen {w : World} {y : Nat} {sl : List (Option Nat)} (h : RowS w y sl) (j : Nat) : w.frozen? ⟨y, j, none⟩ = false := frozen_of_row w y j _ _ h
theorem RowS.set {w : World} {y : Nat} {sl : List (Option Nat)} (h : RowS w y sl) (j g : Nat) : RowS (w.setCell ⟨y, j, none⟩ (.slice (some ⟨g, 0, none⟩) 64 64)) y (sl.set j (some g)) := by
  have := heap_setCell_same w y j _ 31 (.slice (some ⟨g, 0, none⟩) 64 64) h
  rw [RowS, this]
  congr 2
  simp [List.map_set, pageV]
def RowG (w : World) (g : Nat) (l : List UInt8) : Prop := w.heap[g]? = some (.cells (cellsB l).toArray 5 (0, 0))
theorem getD_setO (sl : List (Option Nat)) (k i : Nat) (v : Option Nat) : (sl.set k v).getD i none = if k = i ∧ i < sl.length then v else sl.getD i none := by
  simp only [List.getD_eq_getElem?_getD, List.getElem?_set]
  by_cases h : k = i
  · subst h
    by_cases h2 : k < sl.length
    · simp [h2]
    · simp [h2]
  · simp [h]
structure ModAt (w : World) (B x t y n : Nat) (gl : List Bool) (sl : List (Option Nat)) (bs : List UInt8) : Prop where
  box : w.heap[x]? = some (.cells #[.slice (some ⟨t, 0, none⟩) n n, .slice (some ⟨y, 0, none⟩) n n] 29 (0, 0))
  tak : RowT w t gl
  row : RowS w y sl
  num : gl.length = n
  len : sl.length = n
  few : n ≤ 12
  page : ∀ k, k < n → gl.getD k true = true → ∃ g, sl.getD k none = some g ∧ RowG w g (pieceF bs (k * 64) 64)
  old : ∀ k g, sl.getD k none = some g → g < w.heap.size ∧ B ≤ g ∧ ∃ l, RowG w g l
  inj : ∀ i j g, sl.getD i none = some g → sl.getD j none = some g → i = j
  bx : B ≤ x
  bt : B ≤ t
  by_ : B ≤ y
variable {w w' : World} {B x t y n : Nat} {gl : List Bool} {sl : List (Option Nat)} {bs : List UInt8}
theorem ModAt.c0 (h : ModAt w B x t y n gl sl bs) : w.cell? ⟨x, 0, none⟩ = some (.slice (some ⟨t, 0, none⟩) n n) := by rw [cell_of_row w x 0 _ _ _ h.box]; rfl
theorem ModAt.c1 (h : ModAt w B x t y n gl sl bs) : w.cell? ⟨x, 1, none⟩ = some (.slice (some ⟨y, 0, none⟩) n n) := by rw [cell_of_row w x 1 _ _ _ h.box]; rfl
theorem ModAt.xt (h : ModAt w B x t y n gl sl bs) : x ≠ t := by intro e; have := h.tak; rw [RowT, ← e, h.box] at this; simp at this
theorem ModAt.xy (h : ModAt w B x t y n gl sl bs) : x ≠ y := by intro e; have := h.row; rw [RowS, ← e, h.box] at this; simp at this
theorem ModAt.ty (h : ModAt w B x t y n gl sl bs) : t ≠ y := by
  intro e
  have h1 := h.row
  have h2 := h.tak
  rw [RowS] at h1; rw [RowT, e, h1] at h2; simp at h2
theorem ModAt.gx (h : ModAt w B x t y n gl sl bs) {k g : Nat} (e : sl.getD k none = some g) : g ≠ x ∧ g ≠ t ∧ g ≠ y := by
  obtain ⟨_, _, l, hl⟩ := h.old k g e
  rw [RowG] at hl
  refine ⟨fun e => ?_, fun e => ?_, fun e => ?_⟩
  · subst e; rw [h.box] at hl; simp at hl
  · subst e; have := h.tak; rw [RowT, hl] at this; simp at this
  · subst e; have := h.row; rw [RowS, hl] at this; simp at this
theorem ModAt.foot {S : Nat → Prop} (h : ModAt w B x t y n gl sl bs) (f : Foot S w w') (hx : ¬ S x) (ht : ¬ S t) (hy : ¬ S y) (hg : ∀ k g, sl.getD k none = some g → ¬ S g) : ModAt w' B x t y n gl sl bs := by
  have hG : ∀ k g l, sl.getD k none = some g → RowG w g l → RowG w' g l := fun k g l e hl => (f.block g (lt_of_heap hl) (hg k g e)).trans hl
  refine ⟨(f.block x (lt_of_heap h.box) hx).trans h.box, h.tak.foot f ht, (f.block y (lt_of_heap h.row) hy).trans h.row, h.num, h.len, h.few, fun k hk e => ?_, fun k g e => ?_, h.inj, h.bx, h.bt, h.by_⟩
  · obtain ⟨g, e1, e2⟩ := h.page k hk e; exact ⟨g, e1, hG k g _ e1 e2⟩
  · obtain ⟨h1, h2, l, hl⟩ := h.old k g e; exact ⟨Nat.lt_of_lt_of_le h1 f.size, h2, l, hG k g l e hl⟩
theorem ModAt.grow (h : ModAt w B x t y n gl sl bs) (f : Below w.heap.size w w') : ModAt w' B x t y n gl sl bs := h.foot (below_foot (fun _ => False) f) id id id fun _ _ _ => id
theorem ModAt.drewN (h : ModAt w B x t y n gl sl bs) (q : Nat) : ModAt (w.drewN q) B x t y n gl sl bs := ⟨h.box, h.tak, h.row, h.num, h.len, h.few, h.page, h.old, h.inj, h.bx, h.bt, h.by_⟩
/- a call on the memory leaves the model -/
theorem ModAt.apart {m a b : Nat} {gl' : List Bool} {bs' : List UInt8} (h : ModAt w B x t y n gl sl bs) (M : MemAt w m a b n gl' bs') (hat : a ≠ t) (f : Foot (MemS a b) w w') : ModAt w' B x t y n gl sl bs := by
  have hgiv := M.giv
  have hbyt := M.byt
  have htak := h.tak
  have hrow := h.row
  rw [RowT] at hgiv htak
  rw [RowP] at hbyt
  rw [RowS] at hrow
  refine h.foot f ?_ ?_ ?_ fun k g e => ?_
  · rintro (e | e)
    · rw [← e, h.box] at hgiv; simp at hgiv
    · rw [← e, h.box] at hbyt; simp at hbyt
  · rintro (e | e)
    · exact hat e.symm
    · rw [← e, htak] at hbyt; simp at hbyt
  · rintro (e | e)
    · rw [← e, hrow] at hgiv; simp at hgiv
    · rw [← e, hrow] at hbyt; simp at hbyt
  · obtain ⟨_, _, l, hl⟩ := h.old k g e
    rw [RowG] at hl
    rintro (e | e)
    · rw [← e, hl] at hgiv; simp at hgiv
    · rw [← e, hl] at hbyt; simp at hbyt
/- what the model's own deeds turn -/
def ModS (t y : Nat) (sl : List (Option Nat)) (k : Nat) : Prop := k = t ∨ k = y ∨ ∃ j, sl.getD j none = some k
theorem MemAt.apart {m a b : Nat} {gl' : List Bool} {bs' : List UInt8} (M : MemAt w m a b n gl' bs') (h : ModAt w B x t y n gl sl bs) (hat : a ≠ t) (f : Foot (ModS t y sl) w w') : MemAt w' m a b n gl' bs' := by
  have hgiv := M.giv
  have hbyt := M.byt
  have hbox := M.box
  have htak := h.tak
  have hrow := h.row
  rw [RowT] at hgiv htak
  rw [RowP] at hbyt
  rw [RowS] at hrow
  refine M.foot f ?_ ?_ ?_
  · rintro (e | e | ⟨j, e⟩)
    · rw [e, htak] at hbox; simp at hbox
    · rw [e, hrow] at hbox; simp at hbox
    · obtain ⟨_, _, l, hl⟩ := h.old j m e
      rw [RowG, hbox] at hl; simp at hl
  · rintro (e | e | ⟨j, e⟩)
    · exact hat e
    · rw [e, hrow] at hgiv; simp at hgiv
    · obtain ⟨_, _, l, hl⟩ := h.old j a e
      rw [RowG, hgiv] at hl; simp at hl
  · rintro (e | e | ⟨j, e⟩)
    · rw [e, htak] at hbyt; simp at hbyt
    · rw [e, hrow] at hbyt; simp at hbyt
    · obtain ⟨_, _, l, hl⟩ := h.old j b e
      rw [RowG, hbyt] at hl; simp at hl
theorem ModAt.below (h : ModAt w B x t y n gl sl bs) {w0 : World} (b : Below B w0 w) (f : Foot (ModS t y sl) w w') (hB : B ≤ w.heap.size) : Below B w0 w' :=
  b.trans (f.below hB fun k e => by
    rcases e with e | e | ⟨j, e⟩
    · have := h.bt; omega
    · have := h.by_; omega
    · exact (h.old j k e).2.1)
theorem piece_clean (hc : Clean gl bs) (k : Nat) (hk : k < gl.length) (hf : gl.getD k true = false) (hb : bs.length = gl.length * 64) : pieceF bs (k * 64) 64 = zeros 64 := by
  refine same_row _ _ (by rw [pieceF_len _ _ _ (by omega), zeros_len]) (fun i hi => ?_)
  rw [pieceF_len _ _ _ (by omega)] at hi
  rw [pieceF_get _ _ _ _ hi, zeros_get]; exact hc k hk hf i hi
theorem piece_other (k i p : Nat) (l : List UInt8) (hl : p + l.length ≤ 64) (hki : k ≠ i) (hb : bs.length = n * 64) (hk : k < n) (hi : i < n) : pieceF (splice bs (k * 64 + p) l) (i * 64) 64 = pieceF bs (i * 64) 64 := by
  have hs : (splice bs (k * 64 + p) l).length = bs.length := length_splice _ _ _ (by omega)
  refine same_row _ _ (by rw [pieceF_len _ _ _ (by omega), pieceF_len _ _ _ (by omega)]) (fun j hj => ?_)
  rw [pieceF_len _ _ _ (by omega)] at hj
  rw [pieceF_get _ _ _ _ hj, pieceF_get _ _ _ _ hj, splice_get _ _ _ _ _ (by omega), if_neg (by omega)]
theorem piece_same (k p : Nat) (l : List UInt8) (hl : p + l.length ≤ 64) (hb : bs.length = n * 64) (hk : k < n) : pieceF (splice bs (k * 64 + p) l) (k * 64) 64 = splice (pieceF bs (k * 64) 64) p l := by
  have hs : (splice bs (k * 64 + p) l).length = bs.length := length_splice _ _ _ (by omega)
  have hp : (pieceF bs (k * 64) 64).length = 64 := pieceF_len _ _ _ (by omega)
  refine same_row _ _ (by rw [pieceF_len _ _ _ (by omega), length_splice _ _ _ (by omega), hp]) (fun j hj => ?_)
  rw [pieceF_len _ _ _ (by omega)] at hj
  rw [pieceF_get _ _ _ _ hj, splice_get _ _ _ _ _ (by omega), splice_get _ _ _ _ _ (by omega), pieceF_get _ _ _ _ hj]
  by_cases e : p ≤ j ∧ j < p + l.length
  · rw [if_pos (by omega), if_pos e]; congr 1; omega
  · rw [if_neg (by omega), if_neg e]
theorem piece_piece (k p q : Nat) (hl : p + q ≤ 64) (hb : bs.length = n * 64) (hk : k < n) : pieceF (pieceF bs (k * 64) 64) p q = pieceF bs (k * 64 + p) q := by
  have hp : (pieceF bs (k * 64) 64).length = 64 := pieceF_len _ _ _ (by omega)
  refine same_row _ _ (by rw [pieceF_len _ _ _ (by omega), pieceF_len _ _ _ (by omega)]) (fun j hj => ?_)
  rw [pieceF_len _ _ _ (by omega)] at hj
  rw [pieceF_get _ _ _ _ hj, pieceF_get _ _ _ _ hj, pieceF_get _ _ _ _ (by omega)]; congr 1; omega
end Go.Proofs.Ytlfophfilehdeaa
