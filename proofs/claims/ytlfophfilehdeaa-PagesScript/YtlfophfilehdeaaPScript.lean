/-
  What a script's deeds leave of the statement's own model of pages: a new one, a page taken back, a page written; pieces of its pages.
-/
import Derived.Test.YtlfophfilehdeaaPModA
namespace Go.Proofs.Ytlfophfilehdeaa
open Go.RowKit
variable {w w' : World} {B x t y n : Nat} {gl : List Bool} {sl : List (Option Nat)} {bs : List UInt8}
theorem Try.infoS : (Try.prog.info? 31).map (fun i => (i.zero, i.size, i.bytes)) = some (some (.slice none 0 0), 1, 24) := by kernel_rfl
def slicesV (n : Nat) : Array Value := ((List.replicate n (none : Option Nat)).map pageV).toArray
theorem make_slices (n : Nat) (hn : n ≤ 12) (w : World) :
    (Instr.makeSlice 27 (.int .i64 (n : Int)) (.int .i64 (n : Int))).run Try.prog w = .ok (.slice (some ⟨w.heap.size, 0, none⟩) n n) (w.alloc (.cells (slicesV n) 31)) := by
  rw [run_make_row' (P := Try.prog) 27 31 (.slice none 0 0) 24 Try.underlying27 Try.infoS rfl .i64 .i64 n (by omega) (by omega) w]
  congr 2
  apply congrArg (fun x => Obj.cells x 31 (0, 0))
  apply Array.ext'
  rw [toList_madeCells_one]; simp [slicesV, pageV]
theorem mod_new (B : Nat) (bs : List UInt8) (hx : w.heap[x]? = some (.cells #[.slice (some ⟨t, 0, none⟩) n n, .slice (some ⟨y, 0, none⟩) n n] 29 (0, 0))) (ht : w.heap[t]? = some (.cells (boolsV (List.replicate n false)) 4 (0, 0))) (hy : w.heap[y]? = some (.cells (slicesV n) 31 (0, 0))) (hn : n ≤ 12) (bx : B ≤ x) (bt : B ≤ t) (by_ : B ≤ y) :
    ModAt w B x t y n (List.replicate n false) (List.replicate n none) bs := by
  have h0 : ∀ k, (List.replicate n (none : Option Nat)).getD k none = none := by
    intro k; simp only [List.getD_eq_getElem?_getD, List.getElem?_replicate]; split <;> rfl
  refine ⟨hx, ht, hy, by simp, by simp, hn, fun k hk e => ?_, fun k g e => ?_, fun i j g e => ?_, bx, bt, by_⟩
  · simp [List.getD_eq_getElem?_getD, hk] at e
  · rw [h0] at e; cases e
  · rw [h0] at e; cases e
theorem mod_made (B : Nat) (bs : List UInt8) (w2 : World) (o1 o2 o3 : Obj) (x t y n a : Nat) (T C : Array Value) (hT : boolsV (List.replicate n false) = T) (hC : slicesV n = C) (hn : n ≤ 12) (hB : B ≤ w2.heap.size) (ha : a < w2.heap.size)
    (hx : (((w2.alloc o1).alloc o2).alloc o3).heap[x]? = some (.cells #[.slice (some ⟨t, 0, none⟩) n n, .slice (some ⟨y, 0, none⟩) n n] 29 (0, 0)))
    (ht : (((w2.alloc o1).alloc o2).alloc o3).heap[t]? = some (.cells T 4 (0, 0))) (hy : (((w2.alloc o1).alloc o2).alloc o3).heap[y]? = some (.cells C 31 (0, 0))) (bx : w2.heap.size ≤ x) (bt : w2.heap.size ≤ t) (by_ : w2.heap.size ≤ y) :
    ∃ x' t' y', Value.pointer (some ⟨x, 0, none⟩) = .pointer (some ⟨x', 0, none⟩) ∧ Hid (ModAt (((w2.alloc o1).alloc o2).alloc o3).drew B x' t' y' n (List.replicate n false) (List.replicate n none) bs) ∧ Hid (Below w2.heap.size w2 (((w2.alloc o1).alloc o2).alloc o3).drew) ∧ Hid (a ≠ t') := by
  subst hT; subst hC
  exact ⟨x, t, y, rfl, ModAt.drewN (mod_new B bs hx ht hy hn (by omega) (by omega) (by omega)) 1, below_drewN (below3 _ _ _ _) 1, show a ≠ t by omega⟩
theorem ModAt.freed (h : ModAt w B x t y n gl sl bs) {k : Nat} (hk : k < n) (hb : bs.length = n * 64) : ModAt (w.setCell ⟨t, k, none⟩ (.bool false)) B x t y n (gl.set k false) sl (splice bs (k * 64) (zeros 64)) := by
  have f : Foot (fun j => j = t) w (w.setCell ⟨t, k, none⟩ (.bool false)) := foot_set w ⟨t, k, none⟩ _
  have hG : ∀ j g l, sl.getD j none = some g → RowG w g l → RowG (w.setCell ⟨t, k, none⟩ (.bool false)) g l := fun j g l e hl => (f.block g (lt_of_heap hl) (h.gx e).2.1).trans hl
  refine ⟨(f.block x (lt_of_heap h.box) h.xt).trans h.box, h.tak.set k false, (f.block y (lt_of_heap h.row) h.ty.symm).trans h.row, by rw [List.length_set]; exact h.num, h.len, h.few, fun j hj e => ?_, fun j g e => ?_, h.inj, h.bx, h.bt, h.by_⟩
  · rw [getD_set] at e
    by_cases ej : k = j
    · rw [if_pos ⟨ej, by rw [h.num]; exact hj⟩] at e; cases e
    · rw [if_neg (fun x => ej x.1)] at e
      obtain ⟨g, e1, e2⟩ := h.page j hj e
      refine ⟨g, e1, ?_⟩
      rw [show k * 64 = k * 64 + 0 from rfl, piece_other k j 0 (zeros 64) (by rw [zeros_len]; omega) ej hb hk hj]
      exact hG j g _ e1 e2
  · obtain ⟨h1, h2, l, hl⟩ := h.old j g e
    exact ⟨Nat.lt_of_lt_of_le h1 f.size, h2, l, hG j g l e hl⟩
theorem ModAt.wrote (h : ModAt w B x t y n gl sl bs) {k p g : Nat} {l : List UInt8} (hk : k < n) (hb : bs.length = n * 64) (hg : sl.getD k none = some g) (hr : RowG w g (pieceF bs (k * 64) 64)) (hl : p + l.length ≤ 64) :
    ModAt (w.setRow g (cellsB (splice (pieceF bs (k * 64) 64) p l)).toArray) B x t y n gl sl (splice bs (k * 64 + p) l) := by
  have f : Foot (fun j => j = g) w (w.setRow g (cellsB (splice (pieceF bs (k * 64) 64) p l)).toArray) := foot_row w g _
  have hnew : RowG (w.setRow g (cellsB (splice (pieceF bs (k * 64) 64) p l)).toArray) g (splice (pieceF bs (k * 64) 64) p l) := setRow_heap w g _ _ _ _ hr
  have hG : ∀ j g' l', j ≠ k → sl.getD j none = some g' → RowG w g' l' → RowG (w.setRow g (cellsB (splice (pieceF bs (k * 64) 64) p l)).toArray) g' l' := fun j g' l' ej e hl => (f.block g' (lt_of_heap hl) (fun x => ej (h.inj j k g (by rw [e, x]) hg))).trans hl
  have hgx := h.gx hg
  refine ⟨(f.block x (lt_of_heap h.box) hgx.1.symm).trans h.box, (f.block t (lt_of_heap h.tak) hgx.2.1.symm).trans h.tak, (f.block y (lt_of_heap h.row) hgx.2.2.symm).trans h.row, h.num, h.len, h.few, fun j hj e => ?_, fun j g' e => ?_, h.inj, h.bx, h.bt, h.by_⟩
  · obtain ⟨g', e1, e2⟩ := h.page j hj e
    refine ⟨g', e1, ?_⟩
    by_cases ej : j = k
    · subst ej
      rw [hg] at e1
      obtain rfl := Option.some.inj e1
      rw [piece_same j p l hl hb hj]; exact hnew
    · rw [piece_other k j p l hl (fun x => ej x.symm) hb hk hj]
      exact hG j g' _ ej e1 e2
  · obtain ⟨h1, h2, l', hl'⟩ := h.old j g' e
    refine ⟨Nat.lt_of_lt_of_le h1 f.size, h2, ?_⟩
    by_cases ej : j = k
    · subst ej
      rw [hg] at e
      obtain rfl := Option.some.inj e
      exact ⟨_, hnew⟩
    · exact ⟨l', hG j g' l' ej e hl'⟩
/- a piece of a page of the model's -/
theorem cutS_lh (w : World) (g p l : Nat) (h : p + l ≤ 64) : (Instr.slice 31 (.slice (some ⟨g, 0, none⟩) 64 64) (some (.int .i64 (p : Int))) (some (.int .i64 ((p : Int) + (l : Int)))) none).run Try.prog w = .ok (.slice (some (cutA g 0 p)) l (64 - p)) w := by
  have ht : Try.prog.underlying 31 = some (.slice (Try.prog.elem 31)) := by simp [Program.elem, Try.underlying31]
  have he : Try.prog.elem 31 = 5 := by simp [Program.elem, Try.underlying31]
  rw [run_slice_lh (P := Try.prog) w 31 (some ⟨g, 0, none⟩) 64 64 ht .i64 .i64 (p : Int) ((p : Int) + (l : Int)) (by omega) (by omega) (by omega), he, Try.sizeByte]
  simp only [Result.andThen, sliced, cutA, Nat.mul_one, Int.toNat_natCast]
  rw [show ((p : Int) + (l : Int)).toNat = p + l by omega, show p + l - p = l by omega]
  by_cases e : p = 64
  · subst e; rfl
  · rw [if_neg (by omega), if_neg e]; simp [addN]
theorem cutS_l (w : World) (g p : Nat) (h : p ≤ 64) : (Instr.slice 31 (.slice (some ⟨g, 0, none⟩) 64 64) (some (.int .i64 (p : Int))) none none).run Try.prog w = .ok (.slice (some (cutA g 0 p)) (64 - p) (64 - p)) w := by
  have ht : Try.prog.underlying 31 = some (.slice (Try.prog.elem 31)) := by simp [Program.elem, Try.underlying31]
  have he : Try.prog.elem 31 = 5 := by simp [Program.elem, Try.underlying31]
  rw [run_slice_l (P := Try.prog) w 31 (some ⟨g, 0, none⟩) 64 64 ht .i64 (p : Int) (by omega) (by omega), he, Try.sizeByte]
  simp only [Result.andThen, sliced, cutA, Nat.mul_one, Int.toNat_natCast]
  by_cases e : p = 64
  · subst e; rfl
  · rw [if_neg (by omega), if_neg e]; simp [addN]
theorem cutG_bts {w : World} {g : Nat} {bs : List UInt8} (h : RowG w g bs) (p l : Nat) (hb : bs.length = 64) (hl : p + l ≤ 64) : Bts w (some (cutA g 0 p)) l (64 - p) (pieceF bs p l) := by
  unfold cutA
  refine ⟨(pieceF_len _ _ _ (by omega)).symm, by omega, by unfold maxLen; omega, (fun e => by cases e), fun ad e j hj => ?_⟩
  rw [pieceF_len _ _ _ (by omega)] at hj
  rw [if_neg (by omega)] at e
  obtain rfl := Option.some.inj e
  rw [addN, cell_of_row w g _ _ _ _ h]
  rw [Nat.zero_add]
  have := cellsB_get bs (p + j) (by omega)
  unfold bt at this ⊢
  rw [pieceF_get bs p l j hj]
  simpa using this
theorem copy_modpage {w : World} {g : Nat} {bs : List UInt8} (h : RowG w g bs) (p : Nat) (hk : bs.length = 64) {so : Option Addr} {sn sc : Nat} {l : List UInt8} (hb : Bts w so sn sc l) (hl : p + sn ≤ 64) :
    (Builtin.copy_ #[31, 31] 3 #[.slice (some (cutA g 0 p)) (64 - p) (64 - p), .slice so sn sc]).run Try.prog w = .ok (goInt sn) (w.setRow g (cellsB (splice bs p l)).toArray) := by
  have hll := hb.1
  by_cases h0 : sn = 0
  · subst h0
    obtain rfl : l = [] := List.eq_nil_of_length_eq_zero hll.symm
    rw [splice_nil, setRow_self w g _ _ _ h]
    exact run_copy_none (P := Try.prog) w 31 31 3 5 _ _ _ _ _ _ Try.underlying31 Try.oneByte (Nat.zero_min _)
  · cases so with
    | none => have := hb.none rfl; omega
    | some ad =>
      have hc : cutA g 0 p = ⟨g, p, none⟩ := by unfold cutA; rw [if_neg (by omega), Nat.zero_add]
      have hlen : (cellsB l).length = sn := by rw [cellsB_len]; exact hll.symm
      have := run_copy_row (P := Try.prog) w 31 31 3 5 g p (64 - p) (64 - p) ad sn sc (cellsB bs).toArray 5 (cellsB l) Try.underlying31 Try.oneByte h
        (by rw [hlen]; show sn = min sn (64 - p); omega) (hb.news ad rfl) (by rw [hlen]; simp [cellsB_len]; omega) (cellsB_one l)
      rw [hc, this, hlen, cellsB_splice, splice, hlen, List.append_assoc]
/- the memory, the model, a deed in a variable -/
structure Pk (w wx : World) (m a b n x t y c : Nat) (gl : List Bool) (sl : List (Option Nat)) (bs : List UInt8) (o : Nat) (pg pt : Int) (so : Option Addr) (sn sc : Nat) (l : List UInt8) : Prop where
  mem : MemAt wx m a b n gl bs
  mod : ModAt wx w.heap.size x t y n gl sl bs
  bel : Below w.heap.size w wx
  bts : Bts w so sn sc l
  row : wx.heap[c]? = some (.cells #[.int .u8 (o : Int), .int .i8 pg, .int .i8 pt, .slice so sn sc] 33 (0, 0))
section
variable {wx wy : World} {m a b c o : Nat} {pg pt : Int} {so : Option Addr} {sn sc : Nat} {l : List UInt8}
theorem Pk.q0 (h : Pk w wx m a b n x t y c gl sl bs o pg pt so sn sc l) : wx.cell? ⟨c, 0, none⟩ = some (.int .u8 (o : Int)) := by rw [cell_of_row wx _ 0 _ _ _ h.row]; rfl
theorem Pk.q1 (h : Pk w wx m a b n x t y c gl sl bs o pg pt so sn sc l) : wx.cell? ⟨c, 1, none⟩ = some (.int .i8 pg) := by rw [cell_of_row wx _ 1 _ _ _ h.row]; rfl
theorem Pk.q2 (h : Pk w wx m a b n x t y c gl sl bs o pg pt so sn sc l) : wx.cell? ⟨c, 2, none⟩ = some (.int .i8 pt) := by rw [cell_of_row wx _ 2 _ _ _ h.row]; rfl
theorem Pk.q3 (h : Pk w wx m a b n x t y c gl sl bs o pg pt so sn sc l) : wx.cell? ⟨c, 3, none⟩ = some (.slice so sn sc) := by rw [cell_of_row wx _ 3 _ _ _ h.row]; rfl
theorem Pk.drewN (h : Pk w wx m a b n x t y c gl sl bs o pg pt so sn sc l) (q : Nat) : Pk w (wx.drewN q) m a b n x t y c gl sl bs o pg pt so sn sc l := ⟨h.mem.drewN q, h.mod.drewN q, below_drewN h.bel q, h.bts, h.row⟩
theorem Pk.grow (h : Pk w wx m a b n x t y c gl sl bs o pg pt so sn sc l) (f : Below wx.heap.size wx wy) : Pk w wy m a b n x t y c gl sl bs o pg pt so sn sc l :=
  ⟨h.mem.grow f, h.mod.grow f, h.bel.trans (f.mono h.bel.size), h.bts, (f.block c (lt_of_heap h.row)).trans h.row⟩
theorem Pk.foot3 (h : Pk w wx m a b n x t y c gl sl bs o pg pt so sn sc l) (f : Foot (MemS a b) wx wy) : wy.cell? ⟨c, 3, none⟩ = some (.slice so sn sc) := by
  have hgiv := h.mem.giv
  have hbyt := h.mem.byt
  have hrow := h.row
  rw [RowT] at hgiv
  rw [RowP] at hbyt
  have : wy.heap[c]? = some (.cells #[.int .u8 (o : Int), .int .i8 pg, .int .i8 pt, .slice so sn sc] 33 (0, 0)) := (f.block c (lt_of_heap hrow) (by
    rintro (e | e)
    · rw [← e, hrow] at hgiv; simp at hgiv
    · rw [← e, hrow] at hbyt; simp at hbyt)).trans hrow
  rw [cell_of_row wy _ 3 _ _ _ this]; rfl
theorem Pk.below (h : Pk w wx m a b n x t y c gl sl bs o pg pt so sn sc l) (f : Foot (MemS a b) wx wy) (ha : w.heap.size ≤ a) (hb : w.heap.size ≤ b) : Below w.heap.size w wy :=
  h.bel.trans (f.below h.bel.size fun z e => by rcases e with e | e <;> omega)
theorem ModAt.slot (h : ModAt w B x t y n gl sl bs) {k g : Nat} (hk : k < n) (e : sl.getD k none = some g) : w.cell? ⟨y, k, none⟩ = some (.slice (some ⟨g, 0, none⟩) 64 64) := by
  have := h.row.cell k (by rw [h.len]; exact hk)
  rw [e] at this; exact this
end
theorem addS (a : Addr) (j : Nat) : a.add (j + 1) = { block := a.block, off := a.off + (j + 1) } := by unfold Addr.add; rw [if_neg (by omega)]
theorem low_cases (gl : List Bool) (n : Nat) (h : gl.length = n) : lowF gl = n ∨ lowF gl < n := by have := lowF_le gl; omega
end Go.Proofs.Ytlfophfilehdeaa
