/-
  Rows of a directory: plain facts; an own row of them (of the program's own type, or of the statement's).
  A map of rows by numbers: its block, the rows, that they are apart.
  A half of a script: a table with its oracle, rows by numbers; what a deed leaves of it; two halves in one memory.
  What an operation answers, in a variable; a server's block; which rights an operation needs.
  A table's deeds in a half, as contracts; what comes of a request, as a function.
  Which row has a name: slices.IndexFunc at the server's own question; a row that is struck: slices.Delete; as contracts.
  What the server of names' own parts answer, and what they leave: the table, the oracle, which rights, a directory that is gone.
  A name at data's beginning; a row out of data; all names of a directory; as contracts.
-/
import Derived.Test.YtlmnnjibggdboaaGreatDoorJg
import Derived.Test.YtlmnnjibggdboaaGreatDoorJe
import Derived.Laws.CopyRow
import Derived.Laws.OwnMore
import Derived.ArgAppend
import Derived.Deep.AppendLies
import Derived.Maps.OwnSet
import Derived.Test.YtlmnnjibggdboaaGreatDoorJf
import Derived.Deep.RegionHeldLaw
namespace Go.Proofs.YtlmnnjibggdboaaGreatDoor
section
open Go.RowKit
structure Rw where
  n : List UInt8
  c : Cp
  m : Nat
def Rw.zero : Rw := ⟨[], Cp.zero, 0⟩
def Rw.cells (y : Rw) : List Value := [.string (str y.n), .int .u64 (y.c.p : Int), .int .u32 (y.c.o : Int), .int .u8 (y.c.r : Int), .int .u64 (y.c.c : Int), .int .u8 (y.m : Int)]
def Rw.val (y : Rw) : Value := .agg #[.string (str y.n), .int .u64 (y.c.p : Int), .int .u32 (y.c.o : Int), .int .u8 (y.c.r : Int), .int .u64 (y.c.c : Int), .int .u8 (y.m : Int)]
def zeroR : Value := .agg #[.string { data := #[] }, .int .u64 0, .int .u32 0, .int .u8 0, .int .u64 0, .int .u8 0]
def Rw.ok (y : Rw) : Prop := (1 ≤ y.n.length ∧ y.n.length ≤ 32) ∧ y.c.ok ∧ y.m ≤ 255
def isNm (nm : List UInt8) (y : Rw) : Bool := decide (y.n = nm)
def idxR (L : List Rw) (nm : List UInt8) : Nat := L.findIdx (isNm nm)
def delR (L : List Rw) (k : Nat) : List Rw := L.take k ++ L.drop (k + 1)
def Good (L : List Rw) : Prop := L.length ≤ 64 ∧ (∀ y ∈ L, y.ok) ∧ L.Pairwise (fun a b => a.n ≠ b.n)
theorem good_nil : Good [] := ⟨by decide, (fun _ h => by cases h), List.Pairwise.nil⟩
theorem isNm_iff {nm : List UInt8} {y : Rw} : isNm nm y = true ↔ y.n = nm := by unfold isNm; exact decide_eq_true_iff
theorem isNm_no {nm : List UInt8} {y : Rw} : isNm nm y = false ↔ y.n ≠ nm := by unfold isNm; exact decide_eq_false_iff_not
variable {L : List Rw} {nm : List UInt8}
theorem idx_le : idxR L nm ≤ L.length := List.findIdx_le_length
theorem getR (L : List Rw) (k : Nat) (h : k < L.length) : L.getD k Rw.zero = L[k] := by simp [h]
theorem idx_at (h : idxR L nm < L.length) : (L.getD (idxR L nm) Rw.zero).n = nm := by
  rw [getR L _ h]
  exact isNm_iff.1 (List.findIdx_getElem (w := h))
theorem idx_min {j : Nat} (h : j < idxR L nm) : (L.getD j Rw.zero).n ≠ nm := by
  have hl : j < L.length := Nat.lt_of_lt_of_le h idx_le
  rw [getR L _ hl]
  exact isNm_no.1 (by simpa using List.not_of_lt_findIdx h)
theorem idx_is {k : Nat} (hk : k < L.length) (h1 : (L.getD k Rw.zero).n = nm) (h2 : ∀ j, j < k → (L.getD j Rw.zero).n ≠ nm) : idxR L nm = k := by
  rcases Nat.lt_trichotomy (idxR L nm) k with h | h | h
  · exact absurd (idx_at (Nat.lt_trans h hk)) (h2 _ h)
  · exact h
  · exact absurd h1 (idx_min h)
theorem idx_none (h : ∀ j, j < L.length → (L.getD j Rw.zero).n ≠ nm) : idxR L nm = L.length := by
  rcases Nat.lt_or_ge (idxR L nm) L.length with h1 | h1
  · exact absurd (idx_at h1) (h _ h1)
  · exact Nat.le_antisymm idx_le h1
theorem mem_getR {k : Nat} (h : k < L.length) : L.getD k Rw.zero ∈ L := by rw [getR L k h]; exact List.getElem_mem h
theorem Good.del (h : Good L) (k : Nat) : Good (delR L k) := by
  have hs : (delR L k).Sublist L := by
    unfold delR
    conv => rhs; rw [← List.take_append_drop k L]
    exact List.Sublist.append (List.Sublist.refl _) (by rw [← List.drop_drop]; exact List.drop_sublist _ _)
  exact ⟨Nat.le_trans hs.length_le h.1, fun y hy => h.2.1 y (hs.subset hy), h.2.2.sublist hs⟩
theorem Good.snoc (h : Good L) (y : Rw) (hy : y.ok) (hl : L.length < 64) (hn : ∀ z ∈ L, z.n ≠ y.n) : Good (L ++ [y]) :=
  ⟨by simp; omega, fun z hz => by rcases List.mem_append.1 hz with hz | hz; exact h.2.1 z hz; simp at hz; subst hz; exact hy,
    List.pairwise_append.2 ⟨h.2.2, List.pairwise_singleton _ _, fun a ha b hb => by simp at hb; subst hb; exact hn a ha⟩⟩
theorem Good.set (h : Good L) (k : Nat) (y : Rw) (hy : y.ok) (hk : k < L.length) (hn : (L.getD k Rw.zero).n = y.n) : Good (L.set k y) := by
  refine ⟨by simpa using h.1, fun z hz => ?_, ?_⟩
  · rcases List.mem_or_eq_of_mem_set hz with hz | hz
    · exact h.2.1 z hz
    · subst hz; exact hy
  · have e : (L.set k y).map (·.n) = L.map (·.n) := by
      rw [List.map_set]
      apply List.ext_getElem (by simp)
      intro j h1 h2
      rw [List.getElem_set]
      split
      · rename_i e; subst e; rw [List.getElem_map, ← hn, getR L _ hk]
      · rfl
    have := h.2.2
    rw [← List.pairwise_map (f := fun y : Rw => y.n) (R := fun a b => a ≠ b)] at this ⊢
    rw [e]; exact this
theorem notin_of_idx (h : idxR L nm = L.length) : ∀ z ∈ L, z.n ≠ nm := fun z hz e => by
  obtain ⟨j, hj, rfl⟩ := List.getElem_of_mem hz
  have := idx_min (L := L) (nm := nm) (j := j) (by omega)
  rw [getR L j hj] at this
  exact this e
/- cells -/
def cellsR (L : List Rw) : List Value := L.flatMap Rw.cells
theorem cellsR_cons (y : Rw) (L : List Rw) : cellsR (y :: L) = y.cells ++ cellsR L := by unfold cellsR; simp
theorem cellsR_len (L : List Rw) : (cellsR L).length = L.length * 6 := by
  induction L with
  | nil => rfl
  | cons y L ih => rw [cellsR_cons, List.length_append, ih, List.length_cons, show y.cells.length = 6 from rfl]; omega
theorem cellsR_append (A B : List Rw) : cellsR (A ++ B) = cellsR A ++ cellsR B := by unfold cellsR; simp
theorem cellsR_snoc (A : List Rw) (y : Rw) : cellsR (A ++ [y]) = cellsR A ++ y.cells := by unfold cellsR; simp
theorem cells_one (y : Rw) : ∀ v ∈ y.cells, v.oneCell' = true := by
  intro v h
  simp only [Rw.cells, List.mem_cons, List.not_mem_nil, or_false] at h
  rcases h with rfl | rfl | rfl | rfl | rfl | rfl <;> rfl
theorem cellsR_one (L : List Rw) : ∀ v ∈ cellsR L, v.oneCell' = true := by
  intro v h
  unfold cellsR at h
  obtain ⟨y, _, hy⟩ := List.mem_flatMap.1 h
  exact cells_one y v hy
theorem cellsR_get (L : List Rw) (k f : Nat) (h : k < L.length) (hf : f < 6) : (cellsR L)[k * 6 + f]? = (L.getD k Rw.zero).cells[f]? := by
  induction L generalizing k with
  | nil => simp at h
  | cons x r ih =>
    rw [cellsR_cons]
    cases k with
    | zero => rw [List.getElem?_append_left (by show _ < 6; omega)]; simp
    | succ k =>
      rw [List.getElem?_append_right (by show 6 ≤ _; omega)]
      show (cellsR r)[(k + 1) * 6 + f - 6]? = _
      rw [show (k + 1) * 6 + f - 6 = k * 6 + f from by omega, ih k (by simpa using h)]
      rfl
theorem cellsR_take (L : List Rw) : ∀ k, cellsR (L.take k) = (cellsR L).take (k * 6) := by
  induction L with
  | nil => intro k; simp [cellsR]
  | cons y L ih =>
    intro k
    cases k with
    | zero => simp [cellsR]
    | succ k => rw [List.take_succ_cons, cellsR_cons, cellsR_cons, ih, show (k + 1) * 6 = k * 6 + 1 + 1 + 1 + 1 + 1 + 1 by omega]; rfl
theorem cellsR_drop (L : List Rw) : ∀ k, cellsR (L.drop k) = (cellsR L).drop (k * 6) := by
  induction L with
  | nil => intro k; simp [cellsR]
  | cons y L ih =>
    intro k
    cases k with
    | zero => simp [cellsR]
    | succ k => rw [List.drop_succ_cons, cellsR_cons, ih, show (k + 1) * 6 = k * 6 + 1 + 1 + 1 + 1 + 1 + 1 by omega]; rfl
theorem cellsR_set (L : List Rw) : ∀ k y, k < L.length → cellsR (L.set k y) = ((((((cellsR L).set (k * 6) (.string (str y.n))).set (k * 6 + 1) (.int .u64 (y.c.p : Int))).set (k * 6 + 2) (.int .u32 (y.c.o : Int))).set (k * 6 + 3) (.int .u8 (y.c.r : Int))).set (k * 6 + 4) (.int .u64 (y.c.c : Int))).set (k * 6 + 5) (.int .u8 (y.m : Int)) := by
  induction L with
  | nil => intro k y h; simp at h
  | cons z L ih =>
    intro k y h
    cases k with
    | zero => rw [List.set_cons_zero, cellsR_cons, cellsR_cons]; rfl
    | succ k => rw [List.set_cons_succ, cellsR_cons, cellsR_cons, ih k y (by simpa using h), show (k + 1) * 6 = k * 6 + 1 + 1 + 1 + 1 + 1 + 1 by omega]; rfl
/- an own row -/
variable {w w' : World} {B : Nat} {T sT : TypeId}
abbrev OwnR (T : TypeId) (w : World) (B : Nat) (v : Value) (L : List Rw) : Prop := w.ownsRow B T 6 v L.length (cellsR L)
def nilV : Value := .slice none 0 0
theorem own_nilR (T : TypeId) (w : World) (B : Nat) : OwnR T w B (.slice none 0 0) [] := ⟨rfl, .inl ⟨rfl, rfl⟩⟩
theorem OwnR.form {v : Value} (x : OwnR T w B v L) : ∃ aa ac, v = .slice aa L.length ac ∧ L.length ≤ ac ∧ ac ≤ 9223372036854775807 := by
  obtain ⟨aa, ac, e, l⟩ := owns_lies x
  exact ⟨aa, ac, e, l.2.1, l.2.2.1⟩
theorem OwnR.elem {v : Value} (x : OwnR T w B v L) (k : Nat) (hk : k < L.length) (y : Rw) (hy : L.getD k Rw.zero = y) : ∃ h ac, v = .slice (some ⟨h, 0, none⟩) L.length ac ∧ L.length ≤ ac ∧ ac ≤ 9223372036854775807 ∧ B ≤ h ∧ h < w.heap.size ∧
    (w.cell? ⟨h, k * 6, none⟩ = some (.string (str y.n)) ∧ w.cell? ⟨h, k * 6 + 1, none⟩ = some (.int .u64 (y.c.p : Int)) ∧ w.cell? ⟨h, k * 6 + 2, none⟩ = some (.int .u32 (y.c.o : Int)) ∧ w.cell? ⟨h, k * 6 + 3, none⟩ = some (.int .u8 (y.c.r : Int)) ∧ w.cell? ⟨h, k * 6 + 4, none⟩ = some (.int .u64 (y.c.c : Int)) ∧ w.cell? ⟨h, k * 6 + 5, none⟩ = some (.int .u8 (y.m : Int))) ∧ ∀ j, w.frozen? ⟨h, j, none⟩ = false := by
  rcases x.2 with ⟨_, e⟩ | ⟨h, cap, cur, e, hb, hg, hl, hm, hs, ht⟩
  · omega
  · have get := fun f hf => cellsR_get L k f hk hf
    rw [hy] at get
    have gt2 : ∀ f, f < 6 → w.cell? ⟨h, k * 6 + f, none⟩ = y.cells[f]? := fun f hf => by
      rw [cell_of_row w h _ _ _ _ hg, ← get f hf, ← ht, List.getElem?_take, if_pos (by omega)]; simp
    exact ⟨h, cap, e, hl, by unfold maxLen at hm; omega, hb, lt_of_heap hg, ⟨gt2 0 (by omega), gt2 1 (by omega), gt2 2 (by omega), gt2 3 (by omega), gt2 4 (by omega), gt2 5 (by omega)⟩, fun j => frozen_of_row w h j _ _ hg⟩
theorem OwnR.grow {v : Value} (x : OwnR T w B v L) (b : Below w.heap.size w w') : OwnR T w' B v L := owns_grow x b
def setR (w : World) (h k : Nat) (y : Rw) : World := (((((w.setCell ⟨h, k * 6, none⟩ (.string (str y.n))).setCell ⟨h, k * 6 + 1, none⟩ (.int .u64 (y.c.p : Int))).setCell ⟨h, k * 6 + 2, none⟩ (.int .u32 (y.c.o : Int))).setCell ⟨h, k * 6 + 3, none⟩ (.int .u8 (y.c.r : Int))).setCell ⟨h, k * 6 + 4, none⟩ (.int .u64 (y.c.c : Int))).setCell ⟨h, k * 6 + 5, none⟩ (.int .u8 (y.m : Int))
theorem foot_setR (w : World) (h k : Nat) (y : Rw) : Foot (fun j => j = h) w (setR w h k y) := by
  unfold setR
  exact ((((((Foot.refl _ w).put _ _).put _ _).put _ _).put _ _).put _ _).put _ _
/- one of a row is laid anew -/
theorem OwnR.set {v : Value} (x : OwnR T w B v L) (k : Nat) (hk : k < L.length) (h n ac : Nat) (e : v = .slice (some ⟨h, 0, none⟩) n ac) (y : Rw) : OwnR T (setR w h k y) B v (L.set k y) := by
  rcases x.2 with ⟨_, e0⟩ | ⟨h', cap, cur, e', hb, hg, hl, hm, hs, ht⟩
  · omega
  · obtain rfl : h' = h := by rw [e] at e'; cases e'; rfl
    have h1 := heap_setCell_same w h' (k * 6) _ _ (.string (str y.n)) hg
    have h2 := heap_setCell_same _ h' (k * 6 + 1) _ _ (.int .u64 (y.c.p : Int)) h1
    have h3 := heap_setCell_same _ h' (k * 6 + 2) _ _ (.int .u32 (y.c.o : Int)) h2
    have h4 := heap_setCell_same _ h' (k * 6 + 3) _ _ (.int .u8 (y.c.r : Int)) h3
    have h5 := heap_setCell_same _ h' (k * 6 + 4) _ _ (.int .u64 (y.c.c : Int)) h4
    have h6 := heap_setCell_same _ h' (k * 6 + 5) _ _ (.int .u8 (y.m : Int)) h5
    unfold setR
    refine ⟨by rw [cellsR_len], .inr ⟨h', cap, _, by rw [List.length_set]; exact e', hb, h6, by rw [List.length_set]; exact hl, hm, by simp [hs], ?_⟩⟩
    rw [List.length_set, cellsR_set L k y hk, ← ht]
    simp [List.take_set]
/- its first k -/
theorem OwnR.head {n c : Nat} {ao : Option Addr} (x : OwnR T w B (.slice ao n c) L) (k : Nat) (hk : k ≤ L.length) (h0 : 0 < L.length) : w.ownsRow B T 6 (.slice ao k c) k (cellsR (L.take k)) := by
  rcases x.2 with ⟨_, e0⟩ | ⟨h', cap, cur, e', hb, hg, hl, hm, hs, ht⟩
  · omega
  · cases e'
    refine ⟨by rw [cellsR_len, List.length_take]; congr 1; omega, .inr ⟨h', c, cur, rfl, hb, hg, by omega, hm, hs, ?_⟩⟩
    rw [cellsR_take, ← ht, List.take_take, Nat.min_eq_left (by omega)]
/- what a type of rows has -/
structure RowTy (T sT : TypeId) : Prop where
  und : Tryz.prog.underlying sT = some (.slice T)
  info : (Tryz.prog.info? T).map (fun i => (i.zero, i.size, i.bytes)) = some (some zeroR, 6, 48)
  size : ∀ w, (sizeOf T).run Tryz.prog w = .ok 6 w
  zero : ∀ w, (zeroValue T).run Tryz.prog w = .ok zeroR w
  zeroS : ∀ w, (zeroValue sT).run Tryz.prog w = .ok nilV w
theorem dirTy : RowTy 202 200 := ⟨Tryz.underlying200, by kernel_rfl, fun w => by kernel_rfl, fun w => by kernel_rfl, fun w => by kernel_rfl⟩
theorem RowTy.elem (h : RowTy T sT) : Tryz.prog.elem sT = T := by simp [Program.elem, h.und]
theorem RowTy.und' (h : RowTy T sT) : Tryz.prog.underlying sT = some (.slice (Tryz.prog.elem sT)) := by rw [h.elem]; exact h.und
theorem cut_tailR (hT : RowTy T sT) (w : World) (b n cap k : Nat) (h : k ≤ n) (hk : k < cap) : (Instr.slice sT (.slice (some ⟨b, 0, none⟩) n cap) (some (.int .i64 (k : Int))) none none).run Tryz.prog w = .ok (.slice (some ⟨b, k * 6, none⟩) (n - k) (cap - k)) w := by
  rw [run_slice_l (P := Tryz.prog) w sT (some ⟨b, 0, none⟩) n cap hT.und' .i64 (k : Int) (by omega) (by omega), hT.elem, hT.size]
  have h2 : cap ≠ k := by omega
  simp [Result.andThen, sliced, h2, add0]
theorem cut_headR (hT : RowTy T sT) (w : World) (ao : Option Addr) (n cap k : Nat) (h : k ≤ cap) : (Instr.slice sT (.slice ao n cap) none (some (.int .i64 (k : Int))) none).run Tryz.prog w = .ok (.slice ao k cap) w := by
  rw [run_slice_h (P := Tryz.prog) w sT ao n cap hT.und' .i64 (k : Int) (by omega) (by omega), hT.elem, hT.size]
  have hz : ao.map (fun x => x.add 0) = ao := by cases ao <;> simp [Addr.add]
  simp [Result.andThen, sliced, hz]
end
end Go.Proofs.YtlmnnjibggdboaaGreatDoor
namespace Go.Proofs.YtlmnnjibggdboaaGreatDoor
section
open Go.RowKit
variable {w w1 w2 w' : World} {b q N : Nat} {V : Int → Value} {z : Int} {mT sT T : TypeId} {mb mb' : Option Nat} {L : Int → List Rw}
def heldE (v : Value) : Option (DataW Value × List MemPlace) := some (.held v, [])
theorem lawI : Maps.Keyed Tryz.prog 3 := Maps.int_keyed Tryz.underlying3
def I64 (z : Int) : Prop := -9223372036854775808 ≤ z ∧ z ≤ 9223372036854775807
theorem keyI (h : I64 z) : keyOf Tryz.prog 3 (.int .i64 z) = some (.int .i64 z) := Maps.keyOf_int_mk Tryz.underlying3 (WalkArith.wf_i64 h)
def MapIs (w : World) (b q : Nat) (V : Int → Value) : Prop := ∃ (D : DataW Value) (n : Nat), n ≤ q ∧ w.ownsMap Tryz.prog 3 heldE b n D ∧ ∀ z, I64 z → D.atKey (.int .i64 z) (.held nilV) = .held (V z)
def updV (V : Int → Value) (z : Int) (v : Value) : Int → Value := fun j => if j = z then v else V j
def updL (L : Int → List Rw) (z : Int) (l : List Rw) : Int → List Rw := fun j => if j = z then l else L j
theorem updV_same (V : Int → Value) (z : Int) (v : Value) : updV V z v z = v := if_pos rfl
theorem updV_other (V : Int → Value) {z j : Int} (v : Value) (h : j ≠ z) : updV V z v j = V j := if_neg h
theorem updL_same (L : Int → List Rw) (z : Int) (l : List Rw) : updL L z l z = l := if_pos rfl
theorem updL_other (L : Int → List Rw) {z j : Int} (l : List Rw) (h : j ≠ z) : updL L z l j = L j := if_neg h
structure MapTy (mT sT : TypeId) : Prop where
  und : Tryz.prog.underlying mT = some (.map 3 sT)
  zero : ∀ w, (zeroValue sT).run Tryz.prog w = .ok nilV w
theorem dirMap : MapTy 61 200 := ⟨Tryz.underlying61, fun w => by kernel_rfl⟩
theorem MapIs.block (h : MapIs w b q V) : ∃ a c, w.heap[b]? = some (.map a c) := by obtain ⟨D, n, _, ⟨a, c, h, _⟩, _⟩ := h; exact ⟨a, c, h⟩
theorem MapIs.same (h : MapIs w b q V) (e : w'.heap[b]? = w.heap[b]?) : MapIs w' b q V := by
  obtain ⟨D, n, hn, ⟨a, c, h1, h2⟩, r⟩ := h
  exact ⟨D, n, hn, ⟨a, c, e.trans h1, h2⟩, r⟩
theorem MapIs.le (h : MapIs w b q V) {q' : Nat} (hq : q ≤ q') : MapIs w b q' V := by
  obtain ⟨D, n, hn, r⟩ := h
  exact ⟨D, n, Nat.le_trans hn hq, r⟩
theorem map_new (w : World) : MapIs (w.alloc (.map #[] 0)) w.heap.size 0 (fun _ => nilV) :=
  ⟨.map [], 0, Nat.le_refl _, World.ownsMap_made _ _ _ _, fun _ _ => rfl⟩
theorem map_look (hM : MapTy mT sT) (h : MapIs w b q V) (hz : I64 z) : (Instr.lookup mT (.map (some b)) (.int .i64 z) false).run Tryz.prog w = .ok (V z) w := by
  obtain ⟨D, n, hn, hown, hD⟩ := h
  obtain ⟨v, ps, hrun, hv⟩ := hown.lookup lawI hM.und (hM.zero w) (zd := .held nilV) (zp := []) rfl (keyI hz)
  rw [hD z hz] at hv
  unfold heldE at hv
  simp only [Option.some.injEq, Prod.mk.injEq, DataW.held.injEq] at hv
  rw [hrun, hv.1]
theorem nil_look (hM : MapTy mT sT) (hz : I64 z) : (Instr.lookup mT (.map none) (.int .i64 z) false).run Tryz.prog w = .ok nilV w := by
  have hk := lawI.check w true (keyI hz)
  rcases lawI.find w (keyI hz) [] (by simp) with ⟨h1, _⟩ | ⟨j, e, _, h2, _⟩
  · simp [Instr.lookup, run_underlying hM.und, hk, h1, hM.zero, Result.andThen]
  · cases h2
theorem lit_ne {z j : Int} (h : j ≠ z) : Lit.int .i64 j ≠ Lit.int .i64 z := fun e => h (by cases e; rfl)
theorem foot_turned (h : w.mapTurned w' b) : Foot (fun j => j = b) w w' := by
  obtain ⟨es, clock, es', clock', hb, rfl⟩ := h
  exact ⟨rfl, rfl, rfl, by simp [ChangeMaps.setBlock], fun i _ hi => ChangeMaps.heap_setBlock_other hb _ (fun e => hi (by rw [e]))⟩
theorem map_store (hM : MapTy mT sT) (h : MapIs w b q V) (hz : I64 z) (hq : q < maxLen) (v : Value) :
    ∃ w', (Instr.mapUpdate mT (.map (some b)) (.int .i64 z) v).run Tryz.prog w = .ok () w' ∧ MapIs w' b (q + 1) (updV V z v) ∧ Foot (fun j => j = b) w w' := by
  obtain ⟨D, n, hn, hown, hD⟩ := h
  obtain ⟨w', hrun, hown', hg⟩ := hown.store lawI hM.und (by omega) (keyI hz) (val := v) (d := .held v) (ps := []) rfl
  refine ⟨w', hrun, ⟨_, _, by omega, hown', fun j hj => ?_⟩, foot_turned hg⟩
  by_cases e : j = z
  · subst e
    rw [Maps.atKey_put_same hown.isMap (lawI.key (keyI hz)), updV_same]
  · rw [Maps.atKey_put_other (lit_ne e), hD j hj, updV_other V v e]
theorem map_del (hM : MapTy mT sT) (h : MapIs w b q V) (hz : I64 z) (ty : TypeId) :
    ∃ w', (Builtin.delete_ #[mT, 3] ty #[.map (some b), .int .i64 z]).run Tryz.prog w = .ok (.tuple #[]) w' ∧ MapIs w' b q (updV V z nilV) ∧ Foot (fun j => j = b) w w' := by
  obtain ⟨D, n, hn, hown, hD⟩ := h
  obtain ⟨w', hrun, hown', hg⟩ := hown.drop lawI hM.und (keyI hz) ty
  refine ⟨w', hrun, ⟨_, _, hn, hown', fun j hj => ?_⟩, foot_turned hg⟩
  by_cases e : j = z
  · subst e
    rw [Maps.atKey_del_same, updV_same]
  · rw [Maps.atKey_del_other (lit_ne e), hD j hj, updV_other V nilV e]
theorem nil_del (hM : MapTy mT sT) (hz : I64 z) (ty : TypeId) : (Builtin.delete_ #[mT, 3] ty #[.map none, .int .i64 z]).run Tryz.prog w = .ok (.tuple #[]) w := by
  have hk := lawI.check w true (keyI hz)
  simp [Builtin.delete_, run_underlying hM.und, hk, Result.andThen]
def MapO (w : World) (mb : Option Nat) (q : Nat) (V : Int → Value) : Prop := match mb with | none => ∀ z, V z = nilV | some b => MapIs w b q V
theorem look_any (hM : MapTy mT sT) (h : MapO w mb q V) (hz : I64 z) : (Instr.lookup mT (.map mb) (.int .i64 z) false).run Tryz.prog w = .ok (V z) w := by
  cases mb with
  | none => rw [show V z = nilV from h z]; exact nil_look hM hz
  | some b => exact map_look hM h hz
theorem MapO.foot {S : Nat → Prop} (h : MapO w mb q V) (f : Foot S w w') (no : ∀ b, mb = some b → ¬ S b) : MapO w' mb q V := by
  cases mb with
  | none => exact h
  | some b =>
    obtain ⟨a, c, hb⟩ := MapIs.block h
    exact MapIs.same h (f.block b (lt_of_heap hb) (no b rfl))
/- rows by numbers -/
structure Rws (w : World) (N : Nat) (T : TypeId) (mb : Option Nat) (q : Nat) (V : Int → Value) (L : Int → List Rw) : Prop where
  map : MapO w mb q V
  up : ∀ b, mb = some b → N ≤ b
  row : ∀ z, OwnR T w N (V z) (L z)
  ap : ∀ z z' r, (V z).ownBlock = some r → (V z').ownBlock = some r → z = z'
def RS (mb : Option Nat) (V : Int → Value) (j : Nat) : Prop := mb = some j ∨ ∃ z, (V z).ownBlock = some j
theorem Rws.isMap (x : Rws w N T mb q V L) {b : Nat} (h : mb = some b) : ∃ a c, w.heap[b]? = some (.map a c) := by
  have hm := x.map
  rw [h] at hm
  exact MapIs.block hm
theorem Rws.lt (x : Rws w N T mb q V L) {j : Nat} (h : RS mb V j) : N ≤ j ∧ j < w.heap.size := by
  rcases h with h | ⟨z, h⟩
  · obtain ⟨a, c, hb⟩ := x.isMap h
    exact ⟨x.up j h, lt_of_heap hb⟩
  · obtain ⟨cur, h1, h2⟩ := owns_block (x.row z) h
    exact ⟨h2, lt_of_heap h1⟩
theorem Rws.foot {S : Nat → Prop} (x : Rws w N T mb q V L) (f : Foot S w w') (no : ∀ j, S j → ¬ RS mb V j) : Rws w' N T mb q V L :=
  ⟨x.map.foot f (fun b e h => no b h (.inl e)), x.up, fun z => owns_foot (x.row z) f (fun r e h => no r h (.inr ⟨z, e⟩)), x.ap⟩
theorem Rws.grow (x : Rws w N T mb q V L) (b : Below w.heap.size w w') : Rws w' N T mb q V L := x.foot (below_foot (fun _ => False) b) (fun _ e => e.elim)
theorem Rws.le (x : Rws w N T mb q V L) {q' : Nat} (h : q ≤ q') : Rws w N T mb q' V L := by
  refine ⟨?_, x.up, x.row, x.ap⟩
  have hm := x.map
  cases mb with
  | none => exact hm
  | some b => exact MapIs.le hm h
/- one number's row turns -/
theorem Rws.put {q' : Nat} {v' : Value} {L' : List Rw} {S : Nat → Prop} (x : Rws w N T mb q V L) (f : Foot S w w2) (hS : ∀ j, S j → RS mb V j → (V z).ownBlock = some j ∨ mb' = some j) (hm : MapO w2 mb' q' (updV V z v')) (hr : OwnR T w2 N v' L') (hv : ∀ r, v'.ownBlock = some r → (V z).ownBlock = some r ∨ w.heap.size ≤ r) (hb : ∀ b, mb' = some b → mb = some b ∨ w.heap.size ≤ b) (hN : N ≤ w.heap.size) : Rws w2 N T mb' q' (updV V z v') (updL L z L') := by
  have hlt : ∀ z1 r, (V z1).ownBlock = some r → r < w.heap.size := fun z1 r e => (x.lt (.inr ⟨z1, e⟩)).2
  refine ⟨hm, fun b e => ?_, fun j => ?_, fun z1 z2 r h1 h2 => ?_⟩
  · rcases hb b e with h | h
    · exact x.up b h
    · omega
  · by_cases e : j = z
    · subst e; rw [updV_same, updL_same]; exact hr
    · rw [updV_other V v' e, updL_other L L' e]
      refine owns_foot (x.row j) f (fun r h hs => ?_)
      rcases hS r hs (.inr ⟨j, h⟩) with h2 | h2
      · exact e (x.ap j z r h h2)
      · rcases hb r h2 with h3 | h3
        · obtain ⟨a, c, h4⟩ := x.isMap h3
          obtain ⟨cur, h5, _⟩ := owns_block (x.row j) h
          rw [h4] at h5; cases h5
        · have := hlt j r h; omega
  · by_cases e1 : z1 = z
    · by_cases e2 : z2 = z
      · rw [e1, e2]
      · subst e1
        rw [updV_same] at h1; rw [updV_other V v' e2] at h2
        rcases hv r h1 with h | h
        · exact x.ap _ _ r h h2
        · have := hlt z2 r h2; omega
    · rw [updV_other V v' e1] at h1
      by_cases e2 : z2 = z
      · subst e2
        rw [updV_same] at h2
        rcases hv r h2 with h | h
        · exact x.ap _ _ r h1 h
        · have := hlt z1 r h1; omega
      · rw [updV_other V v' e2] at h2
        exact x.ap _ _ r h1 h2
theorem del_any (hM : MapTy mT sT) (h : MapO w mb q V) (hz : I64 z) (ty : TypeId) :
    ∃ w', (Builtin.delete_ #[mT, 3] ty #[.map mb, .int .i64 z]).run Tryz.prog w = .ok (.tuple #[]) w' ∧ MapO w' mb q (updV V z nilV) ∧ Foot (fun j => mb = some j) w w' := by
  cases mb with
  | none => exact ⟨w, nil_del hM hz ty, fun j => by unfold updV; split; rfl; exact h j, Foot.refl _ _⟩
  | some b =>
    obtain ⟨w', h1, h2, h3⟩ := map_del hM h hz ty
    exact ⟨w', h1, h2, h3.mono (fun j e => by rw [e])⟩
theorem rws_new (w : World) (N : Nat) (T : TypeId) : Rws w N T none 0 (fun _ => nilV) (fun _ => []) :=
  ⟨fun _ => rfl, (fun _ e => by cases e), fun _ => own_nilR T w N, (fun _ _ _ e => by cases e)⟩
theorem updV_id (V : Int → Value) (z : Int) : updV V z (V z) = V := by funext j; unfold updV; split <;> simp_all
theorem updL_id (L : Int → List Rw) (z : Int) : updL L z (L z) = L := by funext j; unfold updL; split <;> simp_all
end
end Go.Proofs.YtlmnnjibggdboaaGreatDoor
namespace Go.Proofs.YtlmnnjibggdboaaGreatDoor
section
open Go.RowKit
/- where a half lies -/
structure Ad where
  B : Nat
  g : Nat
  go : Nat
  m : Nat
  a : Nat
  h : Nat
  k : Nat
  v : Value
  sb : Nat × Bool
  N : Nat
  dv : Option Nat
  nv : Int → Value
def Ad.upd (A : Ad) (v : Value) (dv : Option Nat) (nv : Int → Value) : Ad := ⟨A.B, A.g, A.go, A.m, A.a, A.h, A.k, v, A.sb, A.N, dv, nv⟩
def bT : Bool → TypeId | false => 63 | true => 36
def rT : Bool → TypeId | false => 202 | true => 145
def lastV : Bool → Nat → Int | false, n => (n : Int) | true, n => ((n + 1 : Nat) : Int)
/- the box: its objects, its oracle, the map, the number -/
def BoxIs (w : World) (A : Ad) (n : Nat) : Prop := w.heap[A.sb.1]? = some (.cells #[.pointer (some ⟨A.g, 0, none⟩), .pointer (some ⟨A.go, 0, none⟩), .map A.dv, .int .i64 (lastV A.sb.2 n)] (bT A.sb.2) (0, 0))
/- what a half holds -/
structure Hs where
  t : Nat
  es : List Ent
  T : Nat → Ob
  n : Nat
  q : Nat
  L : Int → List Rw
structure Sv (w0 w : World) (A : Ad) (p : Nat) (ws : List Nat) (s : Hs) : Prop where
  od : Od w0 w A.B A.g A.go A.m A.a A.h A.k p A.v ws s.t s.es s.T
  st : Rws w A.N (rT A.sb.2) A.dv s.q A.nv s.L
  n0 : w0.heap.size ≤ A.N
  nw : A.N ≤ w.heap.size
  m0 : w0.heap.size ≤ A.sb.1
  bx : BoxIs w A s.n
  mo : A.dv ≠ some A.m
  good : ∀ z, Good (s.L z)
def SvS (A : Ad) (j : Nat) : Prop := OdS A.g A.go A.m A.a A.v j ∨ j = A.sb.1 ∨ RS A.dv A.nv j
def MovB (w : World) (mb mb' : Option Nat) : Prop := ∀ j, mb' = some j → mb = some j ∨ w.heap.size ≤ j
def MovC (w : World) (V V' : Int → Value) : Prop := ∀ z j, (V' z).ownBlock = some j → (∃ y, (V y).ownBlock = some j) ∨ w.heap.size ≤ j
theorem MovC.refl (w : World) (V : Int → Value) : MovC w V V := fun z _ e => .inl ⟨z, e⟩
theorem MovB.refl (w : World) (m : Option Nat) : MovB w m m := fun _ e => .inl e
def SvEnd (w0 w : World) (A : Ad) (p : Nat) (ws : List Nat) (w' : World) (s : Hs) : Prop :=
  ∃ v dv nv, Sv w0 w' (A.upd v dv nv) p ws s ∧ Foot (SvS A) w w' ∧ Moved w A.v v ∧ MovB w A.dv dv ∧ MovC w A.nv nv
variable {w0 w w1 w2 w' : World} {A A' : Ad} {p : Nat} {ws : List Nat} {s s' s1 : Hs}
theorem Moved.refl (w : World) (v : Value) : Moved w v v := fun _ e => .inl e
theorem Moved.trans {v v1 v2 : Value} (h : Moved w v v1) (k : Moved w1 v1 v2) (hs : w.heap.size ≤ w1.heap.size) : Moved w v v2 := fun r e => by
  rcases k r e with e | e
  · exact h r e
  · exact .inr (Nat.le_trans hs e)
/- a block of a type that tables and oracles have nothing of -/
theorem Sv.noT (x : Sv w0 w A p ws s) {b : Nat} {cs : Array Value} {ty : TypeId} (hb : w.heap[b]? = some (.cells cs ty (0, 0))) (ht : Odd ty) : ¬ OdS A.g A.go A.m A.a A.v b := fun e => by
  rcases e with e | e
  · exact x.od.tk.noAsk hb ht.1 ht.2.1 ht.2.2.1 e
  · obtain ⟨C, hC⟩ := x.od.tb.blk
    rw [e, hC] at hb; cases hb; exact ht.2.2.2 rfl
/- a type that no half has anything of -/
def Odd3 (ty : TypeId) : Prop := Odd ty ∧ (ty ≠ 63 ∧ ty ≠ 36) ∧ (ty ≠ 202 ∧ ty ≠ 145) ∧ ty ≠ 32
theorem bT_ty (f : Bool) : Odd (bT f) ∧ bT f ≠ 32 := by cases f <;> exact ⟨⟨by decide, by decide, by decide, by decide⟩, by decide⟩
theorem rT_ty (f : Bool) : Odd (rT f) ∧ rT f ≠ 32 := by cases f <;> exact ⟨⟨by decide, by decide, by decide, by decide⟩, by decide⟩
theorem bT_rT (f f' : Bool) : bT f ≠ rT f' := by cases f <;> cases f' <;> decide
theorem Odd3.noBx {ty : TypeId} (h : Odd3 ty) (f : Bool) : bT f ≠ ty := by cases f; exact h.2.1.1.symm; exact h.2.1.2.symm
theorem Odd3.noRw {ty : TypeId} (h : Odd3 ty) (f : Bool) : rT f ≠ ty := by cases f; exact h.2.2.1.1.symm; exact h.2.2.1.2.symm
/- a block of a type that is no row's is none of the rows' -/
theorem Sv.noR (x : Sv w0 w A p ws s) {b : Nat} {cs : Array Value} {ty : TypeId} {z : Nat × Nat} (hb : w.heap[b]? = some (.cells cs ty z)) (ht : rT A.sb.2 ≠ ty ∨ z ≠ (0, 0)) : ¬ RS A.dv A.nv b := fun e => by
  rcases e with e | ⟨y, e⟩
  · obtain ⟨a, c, h⟩ := x.st.isMap e
    rw [h] at hb; cases hb
  · obtain ⟨cur, h, _⟩ := owns_block (x.st.row y) e
    rw [h] at hb; cases hb
    rcases ht with ht | ht
    · exact ht rfl
    · exact ht rfl
theorem Sv.noS (x : Sv w0 w A p ws s) {b : Nat} {cs : Array Value} {ty : TypeId} (hb : w.heap[b]? = some (.cells cs ty (0, 0))) (ht : Odd3 ty) : ¬ SvS A b := fun e => by
  rcases e with e | e | e
  · exact x.noT hb ht.1 e
  · rw [e, show w.heap[A.sb.1]? = _ from x.bx] at hb; cases hb; exact ht.noBx _ rfl
  · exact x.noR hb (.inl (ht.noRw _)) e
/- blocks whose bytes strings share are nobody's -/
theorem Sv.noF (x : Sv w0 w A p ws s) {b : Nat} {cs : Array Value} {ty : TypeId} {z : Nat × Nat} (hb : w.heap[b]? = some (.cells cs ty z)) (hz : z ≠ (0, 0)) : ¬ SvS A b := fun e => by
  rcases e with ((e | e | e | e) | e) | e | e
  · rw [e, x.od.tk.orc.box] at hb; cases hb; exact hz rfl
  · obtain ⟨y, q, hm⟩ := x.od.tk.orc.map.isMap
    rw [e, hm] at hb; cases hb
  · rw [e, x.od.tk.tape.box] at hb; cases hb; exact hz rfl
  · obtain ⟨cur, h1, h2⟩ := owns_block x.od.tk.orc.row e
    rw [h1] at hb; cases hb; exact hz rfl
  · obtain ⟨C, hC⟩ := x.od.tb.blk
    rw [e, hC] at hb; cases hb; exact hz rfl
  · rw [e, show w.heap[A.sb.1]? = _ from x.bx] at hb; cases hb; exact hz rfl
  · exact x.noR hb (.inr hz) e
theorem Sv.up (x : Sv w0 w A p ws s) {j : Nat} (e : SvS A j) : w0.heap.size ≤ j ∧ j < w.heap.size := by
  have b0 := x.od.tk.new.b0
  have a0 := x.od.tk.new.a0
  have n0 := x.n0
  rcases e with ((e | e | e | e) | e) | e | e
  · have := x.od.tk.orc.bg; have := lt_of_heap x.od.tk.orc.box; omega
  · obtain ⟨y, z, hm⟩ := x.od.tk.orc.map.isMap
    have := x.od.tk.orc.bm; have := lt_of_heap hm; omega
  · have := lt_of_heap x.od.tk.tape.box; omega
  · obtain ⟨cur, h1, h2⟩ := owns_block x.od.tk.orc.row e
    have := lt_of_heap h1; omega
  · obtain ⟨C, hC⟩ := x.od.tb.blk
    have := x.od.new; have := lt_of_heap hC; omega
  · have := x.m0; have := lt_of_heap x.bx; omega
  · have := x.st.lt e; omega
theorem odd_u64 : Odd 32 := ⟨by decide, by decide, by decide, by decide⟩
theorem Sv.noH (x : Sv w0 w A p ws s) {b : Nat} {cs : Array Value} (hb : w.heap[b]? = some (.cells cs 32 (0, 0))) : ¬ SvS A b := fun e => by
  rcases e with e | e | e
  · exact x.noT hb odd_u64 e
  · rw [e, show w.heap[A.sb.1]? = _ from x.bx] at hb; exact (bT_ty A.sb.2).2 (Obj.cells.inj (Option.some.inj hb)).2.1
  · exact x.noR hb (.inl (rT_ty A.sb.2).2) e
theorem Od.foot {B g go m a h k : Nat} {v : Value} {t : Nat} {es : List Ent} {T : Nat → Ob} (x : Od w0 w B g go m a h k p v ws t es T) {S : Nat → Prop} (f : Foot S w w') (no : ∀ j, S j → w0.heap.size ≤ j ∧ ¬ OdS g go m a v j ∧ j ≠ h) : Od w0 w' B g go m a h k p v ws t es T :=
  ⟨⟨x.tk.orc.foot f (fun e => (no _ e).2.1 (.inl (.inl rfl))) (fun e => (no _ e).2.1 (.inl (.inr (.inl rfl)))) (fun _ hr e => (no _ e).2.1 (.inl (.inr (.inr (.inr hr))))), x.tk.tape.foot f (fun e => (no _ e).2.1 (.inl (.inr (.inr (.inl rfl))))) (fun e => (no _ e).2.2 rfl),
    ⟨x.tk.new.b0, x.tk.new.a0, x.tk.new.h0, x.tk.new.bel.trans (f.below x.tk.new.bel.size fun j e => (no j e).1), Nat.le_trans x.tk.new.bs f.size⟩⟩, x.tb.foot f (fun e => (no _ e).2.1 (.inr rfl)), x.new⟩
theorem Sv.foot (x : Sv w0 w A p ws s) {S : Nat → Prop} (f : Foot S w w') (no : ∀ j, S j → w0.heap.size ≤ j ∧ ¬ SvS A j ∧ j ≠ A.h) : Sv w0 w' A p ws s :=
  ⟨x.od.foot f (fun j e => ⟨(no j e).1, fun h => (no j e).2.1 (.inl h), (no j e).2.2⟩), x.st.foot f (fun j e h => (no j e).2.1 (.inr (.inr h))), x.n0, Nat.le_trans x.nw f.size, x.m0, (f.block A.sb.1 (lt_of_heap x.bx) (fun e => (no _ e).2.1 (.inr (.inl rfl)))).trans x.bx, x.mo, x.good⟩
theorem Sv.grow (x : Sv w0 w A p ws s) (b : Below w.heap.size w w') : Sv w0 w' A p ws s := x.foot (below_foot (fun _ => False) b) (fun _ e => e.elim)
theorem Sv.drewN (x : Sv w0 w A p ws s) (q : Nat) : Sv w0 (w.drewN q) A p ws s := ⟨x.od.drewN q, x.st.grow (below_drewN (Below.refl _ _) q), x.n0, x.nw, x.m0, x.bx, x.mo, x.good⟩
theorem Sv.bel (x : Sv w0 w A p ws s) : Below w0.heap.size w0 w := x.od.tk.new.bel
theorem Sv.glob (x : Sv w0 w A p ws s) (hg : Glob w0) : Glob w := hg.carry x.bel
theorem Sv.hrow (x : Sv w0 w A p ws s) : ∃ cs, w.heap[A.h]? = some (.cells cs 32 (0, 0)) := ⟨_, x.od.tk.tape.row⟩
/- other memory turns: blocks of types that no half has anything of, and new ones -/
def Fre3 (w : World) (b : Nat) : Prop := w.heap.size ≤ b ∨ ∃ (cs : Array Value) (ty : TypeId), w.heap[b]? = some (.cells cs ty (0, 0)) ∧ Odd3 ty
theorem Sv.off (x : Sv w0 w A p ws s) {S : Nat → Prop} (f : Foot S w w') (hS : ∀ b, S b → w0.heap.size ≤ b ∧ Fre3 w b) : Sv w0 w' A p ws s := by
  refine x.foot f fun j e => ⟨(hS j e).1, ?_, ?_⟩
  · rcases (hS j e).2 with h | ⟨cs, ty, h, ht⟩
    · intro h2; have := (x.up h2).2; omega
    · exact x.noS h ht
  · obtain ⟨cr, hr⟩ := x.hrow
    rcases (hS j e).2 with h | ⟨cs, ty, h, ht⟩
    · have := lt_of_heap hr; omega
    · rintro rfl
      rw [hr] at h; cases h; exact ht.2.2.2 rfl
/- the end of deeds -/
theorem Sv.stay (x : Sv w0 w A p ws s) : SvEnd w0 w A p ws w s := ⟨_, _, _, x, Foot.refl _ _, Moved.refl _ _, MovB.refl _ _, MovC.refl _ _⟩
theorem SvEnd.from (x : SvEnd w0 w1 A p ws w2 s) (b : Below w.heap.size w w1) : SvEnd w0 w A p ws w2 s := by
  obtain ⟨v, dv, nv, S, F, h1, h2, h3⟩ := x
  exact ⟨v, dv, nv, S, (below_foot _ b).trans F (fun _ e => .inl e), (Moved.refl w A.v).trans h1 b.size, fun j e => (h2 j e).imp id (fun z => Nat.le_trans b.size z), fun k j e => (h3 k j e).imp id (fun z => Nat.le_trans b.size z)⟩
theorem SvEnd.to (x : SvEnd w0 w A p ws w1 s) (b : Below w1.heap.size w1 w2) : SvEnd w0 w A p ws w2 s := by
  obtain ⟨v, dv, nv, S, F, h1, h2, h3⟩ := x
  exact ⟨v, dv, nv, S.grow b, F.trans (below_foot (SvS A) b) (fun _ e => .inl e), h1, h2, h3⟩
theorem SvS.upd {v : Value} {dv : Option Nat} {nv : Int → Value} {j : Nat} (h1 : Moved w A.v v) (h2 : MovB w A.dv dv) (h3 : MovC w A.nv nv) (e : SvS (A.upd v dv nv) j) : SvS A j ∨ w.heap.size ≤ j := by
  rcases e with ((e | e | e | e) | e) | e | e | ⟨y, e⟩
  · exact .inl (.inl (.inl (.inl e)))
  · exact .inl (.inl (.inl (.inr (.inl e))))
  · exact .inl (.inl (.inl (.inr (.inr (.inl e)))))
  · rcases h1 j e with e | e
    · exact .inl (.inl (.inl (.inr (.inr (.inr e)))))
    · exact .inr e
  · exact .inl (.inl (.inr e))
  · exact .inl (.inr (.inl e))
  · rcases h2 j e with e | e
    · exact .inl (.inr (.inr (.inl e)))
    · exact .inr e
  · rcases h3 y j e with e | e
    · exact .inl (.inr (.inr (.inr e)))
    · exact .inr e
theorem MovB.trans {m m1 m2 : Option Nat} (h : MovB w m m1) (k : MovB w1 m1 m2) (hs : w.heap.size ≤ w1.heap.size) : MovB w m m2 := fun j e => by
  rcases k j e with e | e
  · exact h j e
  · exact .inr (Nat.le_trans hs e)
theorem MovC.trans {V V1 V2 : Int → Value} (h : MovC w V V1) (k : MovC w1 V1 V2) (hs : w.heap.size ≤ w1.heap.size) : MovC w V V2 := fun z j e => by
  rcases k z j e with ⟨y, e⟩ | e
  · exact h y j e
  · exact .inr (Nat.le_trans hs e)
/- one deed behind the other -/
theorem SvEnd.on {v : Value} {dv : Option Nat} {nv : Int → Value} (F : Foot (SvS A) w w1) (h1 : Moved w A.v v) (h2 : MovB w A.dv dv) (h3 : MovC w A.nv nv) (x : SvEnd w0 w1 (A.upd v dv nv) p ws w2 s) : SvEnd w0 w A p ws w2 s := by
  obtain ⟨v', dv', nv', S, F2, k1, k2, k3⟩ := x
  exact ⟨v', dv', nv', S, F.trans F2 (fun j e => SvS.upd h1 h2 h3 e), h1.trans k1 F.size, h2.trans k2 F.size, h3.trans k3 F.size⟩
/- the oracle's and the table's blocks are none of the rows' -/
theorem Sv.odR (x : Sv w0 w A p ws s) {j : Nat} (e : OdS A.g A.go A.m A.a A.v j) : ¬ RS A.dv A.nv j := fun h => by
  rcases h with h | ⟨y, h⟩
  · obtain ⟨a, c, hm⟩ := x.st.isMap h
    rcases e with (e | e | e | e) | e
    · rw [e, x.od.tk.orc.box] at hm; cases hm
    · exact x.mo (by rw [h, e])
    · rw [e, x.od.tk.tape.box] at hm; cases hm
    · obtain ⟨cur, h1, h2⟩ := owns_block x.od.tk.orc.row e
      rw [h1] at hm; cases hm
    · obtain ⟨C, hC⟩ := x.od.tb.blk
      rw [e, hC] at hm; cases hm
  · obtain ⟨cur, h1, _⟩ := owns_block (x.st.row y) h
    exact x.noT h1 (rT_ty _).1 e
/- a deed on the table -/
theorem Sv.table (x : Sv w0 w A p ws s) {t : Nat} {es : List Ent} {T : Nat → Ob} (E : OdEnd w0 w A.B A.g A.go A.m A.a A.h A.k p A.v ws w' t es T) : SvEnd w0 w A p ws w' ⟨t, es, T, s.n, s.q, s.L⟩ := by
  obtain ⟨v, S, F, hv⟩ := E
  refine ⟨v, A.dv, A.nv, ⟨S, x.st.foot F (fun k e => x.odR e), x.n0, Nat.le_trans x.nw F.size, x.m0, (F.block A.sb.1 (lt_of_heap x.bx) (fun e => x.noT x.bx (bT_ty _).1 e)).trans x.bx, x.mo, x.good⟩, F.mono (fun _ e => .inl e), hv, MovB.refl _ _, MovC.refl _ _⟩
/- a deed on the rows -/
theorem Sv.rows (x : Sv w0 w A p ws s) {dv : Option Nat} {nv : Int → Value} {n q : Nat} {L : Int → List Rw} (R : Rws w' A.N (rT A.sb.2) dv q nv L) (hb : BoxIs w' (A.upd A.v dv nv) n) (F : Foot (fun j => j = A.sb.1 ∨ RS A.dv A.nv j) w w') (h2 : MovB w A.dv dv) (h3 : MovC w A.nv nv) (hg : ∀ z, Good (L z)) : SvEnd w0 w A p ws w' ⟨s.t, s.es, s.T, n, q, L⟩ := by
  refine ⟨A.v, dv, nv, ⟨x.od.foot F (fun j e => ⟨(x.up (.inr e)).1, fun h => ?_, fun h => ?_⟩), R, x.n0, Nat.le_trans x.nw F.size, x.m0, hb, fun e => ?_, hg⟩, F.mono (fun _ e => .inr e), Moved.refl _ _, h2, h3⟩
  · rcases e with e | e
    · rw [e] at h; exact x.noT x.bx (bT_ty _).1 h
    · exact x.odR h e
  · obtain ⟨cr, hr⟩ := x.hrow
    rw [h] at e
    exact x.noH hr (.inr e)
  · obtain ⟨y, z, hm⟩ := x.od.tk.orc.map.isMap
    rcases h2 _ e with h | h
    · exact x.mo h
    · have h5 : A.m < w.heap.size := lt_of_heap hm
      have h6 : w.heap.size ≤ A.m := h
      omega
/- what a deed leaves of other memory -/
structure Kh (w w' : World) : Prop where
  os : w'.os = w.os
  tape : w'.tape = w.tape
  output : w'.output = w.output
  size : w.heap.size ≤ w'.heap.size
  block : ∀ (b : Nat) (cs : Array Value) (ty : TypeId), w.heap[b]? = some (.cells cs ty (0, 0)) → Odd3 ty → w'.heap[b]? = w.heap[b]?
  froz : ∀ (b : Nat) (cs : Array Value) (ty : TypeId) (z : Nat × Nat), w.heap[b]? = some (.cells cs ty z) → z ≠ (0, 0) → w'.heap[b]? = w.heap[b]?
theorem Kh.foot (x : Kh w w') : Foot (Chg w w') w w' := ⟨x.os, x.tape, x.output, x.size, fun _ _ hn => Classical.byContradiction hn⟩
theorem Kh.same (x : Kh w w') {b : Nat} {cs : Array Value} {ty : TypeId} (hb : w.heap[b]? = some (.cells cs ty (0, 0))) (ht : Odd3 ty) : ¬ Chg w w' b := fun e => e (x.block b cs ty hb ht)
theorem Kh.refl (w : World) : Kh w w := ⟨rfl, rfl, rfl, Nat.le_refl _, fun _ _ _ _ _ => rfl, fun _ _ _ _ _ _ => rfl⟩
theorem Kh.trans (x : Kh w w1) (y : Kh w1 w2) : Kh w w2 := ⟨y.os.trans x.os, y.tape.trans x.tape, y.output.trans x.output, Nat.le_trans x.size y.size, fun b cs ty hb ht => (y.block b cs ty ((x.block b cs ty hb ht).trans hb) ht).trans (x.block b cs ty hb ht), fun b cs ty z hb hz => (y.froz b cs ty z ((x.froz b cs ty z hb hz).trans hb) hz).trans (x.froz b cs ty z hb hz)⟩
theorem below_kh (b : Below w.heap.size w w') : Kh w w' := ⟨b.os, b.tape, b.output, b.size, fun i _ _ hb _ => b.block i (lt_of_heap hb), fun i _ _ _ hb _ => b.block i (lt_of_heap hb)⟩
theorem cap_odd3 : Odd3 40 := ⟨⟨by decide, by decide, by decide, by decide⟩, ⟨by decide, by decide⟩, ⟨by decide, by decide⟩, by decide⟩
theorem msg_odd3 : Odd3 55 := ⟨⟨by decide, by decide, by decide, by decide⟩, ⟨by decide, by decide⟩, ⟨by decide, by decide⟩, by decide⟩
theorem srv_odd3 : Odd3 121 := ⟨⟨by decide, by decide, by decide, by decide⟩, ⟨by decide, by decide⟩, ⟨by decide, by decide⟩, by decide⟩
theorem res_odd3 : Odd3 102 := ⟨⟨by decide, by decide, by decide, by decide⟩, ⟨by decide, by decide⟩, ⟨by decide, by decide⟩, by decide⟩
theorem byte_odd3 : Odd3 5 := ⟨⟨by decide, by decide, by decide, by decide⟩, ⟨by decide, by decide⟩, ⟨by decide, by decide⟩, by decide⟩
theorem CBox.kh {b p o r c : Nat} (x : CBox w b p o r c) (f : Kh w w') : CBox w' b p o r c := (f.block _ _ _ x cap_odd3).trans x
theorem MB.kh {g : Nat} {m : Msg} {D : Value} (x : MB w g m D) (f : Kh w w') : MB w' g m D := (f.block _ _ _ x msg_odd3).trans x
theorem owns_kh {base : Nat} {e : TypeId} {size : Nat} {v : Value} {n : Nat} {xs : List Value} (x : w.ownsRow base e size v n xs) (f : Kh w w') (ht : Odd3 e) : w'.ownsRow base e size v n xs := by
  refine owns_foot x f.foot fun r hr => ?_
  obtain ⟨cur, h1, _⟩ := owns_block x hr
  exact f.same h1 ht
theorem Sv.kh (x : Sv w0 w A p ws s) (E : SvEnd w0 w A p ws w' s1) : Kh w w' := by
  obtain ⟨v, dv, nv, S, F, h1, h2, h3⟩ := E
  exact ⟨F.os, F.tape, F.output, F.size, fun b cs ty hb ht => F.block b (lt_of_heap hb) (x.noS hb ht), fun b cs ty z hb hz => F.block b (lt_of_heap hb) (x.noF hb hz)⟩
/- two halves in one memory -/
structure Du (w0 w : World) (A A' : Ad) (p : Nat) (ws : List Nat) (s s' : Hs) : Prop where
  x : Sv w0 w A p ws s
  y : Sv w0 w A' p ws s'
  ap : ∀ j, SvS A j → ¬ SvS A' j
theorem Du.symm (d : Du w0 w A A' p ws s s') : Du w0 w A' A p ws s' s := ⟨d.y, d.x, fun j e h => d.ap j h e⟩
theorem Du.grow (d : Du w0 w A A' p ws s s') (b : Below w.heap.size w w') : Du w0 w' A A' p ws s s' := ⟨d.x.grow b, d.y.grow b, d.ap⟩
theorem Du.drewN (d : Du w0 w A A' p ws s s') (q : Nat) : Du w0 (w.drewN q) A A' p ws s s' := ⟨d.x.drewN q, d.y.drewN q, d.ap⟩
theorem Du.off (d : Du w0 w A A' p ws s s') {S : Nat → Prop} (f : Foot S w w') (hS : ∀ b, S b → w0.heap.size ≤ b ∧ Fre3 w b) : Du w0 w' A A' p ws s s' := ⟨d.x.off f hS, d.y.off f hS, d.ap⟩
/- a deed on the one leaves the other -/
theorem Du.left (d : Du w0 w A A' p ws s s') (E : SvEnd w0 w A p ws w' s1) : ∃ v dv nv, Du w0 w' (A.upd v dv nv) A' p ws s1 s' := by
  obtain ⟨v, dv, nv, S, F, h1, h2, h3⟩ := E
  refine ⟨v, dv, nv, ⟨S, d.y.foot F (fun j e => ⟨(d.x.up e).1, d.ap j e, ?_⟩), fun j e h => ?_⟩⟩
  · rintro rfl
    obtain ⟨cr, hr⟩ := d.y.hrow
    exact d.x.noH hr e
  · rcases SvS.upd h1 h2 h3 e with e | e
    · exact d.ap j e h
    · have := (d.y.up h).2; omega
end
end Go.Proofs.YtlmnnjibggdboaaGreatDoor
namespace Go.Proofs.YtlmnnjibggdboaaGreatDoor
section
open Go.RowKit
variable {w0 w w1 w2 w' : World} {A A' : Ad} {p : Nat} {ws : List Nat} {s s' s1 : Hs}
/- which rights an operation needs -/
def needB (op : Nat) : Bool := decide (100 ≤ op) && decide (op ≤ 105)
def needN (op : Nat) : Nat := if op = 100 then 4 else if op = 101 then 1 else if op = 102 then 2 else if op = 103 then 2 else if op = 104 then 8 else if op = 105 then 1 else 0
theorem needN_le (op : Nat) : needN op ≤ 255 := by unfold needN; repeat' split
                                                   all_goals omega
variable {g n : Nat} {sb : Nat × Bool}
/- the server is the program's own -/
def Mb (_w : World) (_g : Nat) (sb : Nat × Bool) : Prop := sb.2 = false
theorem Mb.kh (h : Mb w g sb) (_k : Kh w w') : Mb w' g sb := h
theorem Mb.grow (h : Mb w g sb) (_b : Below w.heap.size w w') : Mb w' g sb := h
theorem Mb.foot {S : Nat → Prop} (h : Mb w g sb) (_f : Foot S w w') (_hS : ¬ S sb.1) : Mb w' g sb := h
theorem BoxIs.c0 (h : BoxIs w A n) : w.cell? ⟨A.sb.1, 0, none⟩ = some (.pointer (some ⟨A.g, 0, none⟩)) := by rw [cell_of_row w _ _ _ _ _ h]; rfl
theorem BoxIs.c1 (h : BoxIs w A n) : w.cell? ⟨A.sb.1, 1, none⟩ = some (.pointer (some ⟨A.go, 0, none⟩)) := by rw [cell_of_row w _ _ _ _ _ h]; rfl
theorem BoxIs.c2 (h : BoxIs w A n) : w.cell? ⟨A.sb.1, 2, none⟩ = some (.map A.dv) := by rw [cell_of_row w _ _ _ _ _ h]; rfl
theorem BoxIs.c3 (h : BoxIs w A n) : w.cell? ⟨A.sb.1, 3, none⟩ = some (.int .i64 (lastV A.sb.2 n)) := by rw [cell_of_row w _ _ _ _ _ h]; rfl
theorem BoxIs.z (h : BoxIs w A n) (j : Nat) : w.frozen? ⟨A.sb.1, j, none⟩ = false := frozen_of_row w _ j _ _ h
theorem BoxIs.put2 (h : BoxIs w A n) (v : Value) (mb : Option Nat) (V : Int → Value) : BoxIs (w.setCell ⟨A.sb.1, 2, none⟩ (.map mb)) (A.upd v mb V) n := by
  have := heap_setCell_same w A.sb.1 2 _ _ (.map mb) h
  exact this
theorem BoxIs.put3 (h : BoxIs w A n) (m : Nat) : BoxIs (w.setCell ⟨A.sb.1, 3, none⟩ (.int .i64 (lastV A.sb.2 m))) A m := by
  have := heap_setCell_same w A.sb.1 3 _ _ (.int .i64 (lastV A.sb.2 m)) h
  exact this
def mkD (so : Option Addr) (sn sc : Nat) : Value := .slice so sn sc
def resZ : Array Value := #[.int .u64 0, .int .u32 0, .int .u8 0, .int .u64 0, .int .u64 0, .slice none 0 0]
theorem two_types {x y : Nat} {c d : Array Value} {t u : TypeId} {e f : Nat × Nat} (h1 : w.heap[x]? = some (.cells c t e)) (h2 : w.heap[y]? = some (.cells d u f)) (h : t ≠ u) : x ≠ y := by
  intro e; subst e; rw [h1] at h2; cases h2; exact h rfl
/- what an operation answers, in a variable -/
def RB (w : World) (g : Nat) (q : Cp) (ar : Int) (D : Value) : Prop := w.heap[g]? = some (.cells #[.int .u64 (q.p : Int), .int .u32 (q.o : Int), .int .u8 (q.r : Int), .int .u64 (q.c : Int), .int .u64 ar, D] 102 (0, 0))
def resC (q : Cp) (ar : Int) (D : Value) : Array Value := #[.int .u64 (q.p : Int), .int .u32 (q.o : Int), .int .u8 (q.r : Int), .int .u64 (q.c : Int), .int .u64 ar, D]
theorem RB.all {g : Nat} {q : Cp} {ar : Int} {D : Value} (h : RB w g q ar D) : w.cell? ⟨g, 0, none⟩ = some (.int .u64 (q.p : Int)) ∧ w.cell? ⟨g, 1, none⟩ = some (.int .u32 (q.o : Int)) ∧ w.cell? ⟨g, 2, none⟩ = some (.int .u8 (q.r : Int)) ∧ w.cell? ⟨g, 3, none⟩ = some (.int .u64 (q.c : Int)) ∧ w.cell? ⟨g, 4, none⟩ = some (.int .u64 ar) ∧ w.cell? ⟨g, 5, none⟩ = some D := by
  refine ⟨?_, ?_, ?_, ?_, ?_, ?_⟩ <;> (rw [cell_of_row w g _ _ _ _ h]; rfl)
theorem RB.z {g : Nat} {q : Cp} {ar : Int} {D : Value} (h : RB w g q ar D) (j : Nat) : w.frozen? ⟨g, j, none⟩ = false := frozen_of_row w g j _ _ h
theorem RB.grow {g : Nat} {q : Cp} {ar : Int} {D : Value} (h : RB w g q ar D) (b : Below w.heap.size w w') : RB w' g q ar D := (b.block g (lt_of_heap h)).trans h
theorem RB.foot {S : Nat → Prop} {g : Nat} {q : Cp} {ar : Int} {D : Value} (h : RB w g q ar D) (f : Foot S w w') (hS : ¬ S g) : RB w' g q ar D := (f.block g (lt_of_heap h) hS).trans h
theorem RB.kh {g : Nat} {q : Cp} {ar : Int} {D : Value} (h : RB w g q ar D) (k : Kh w w') : RB w' g q ar D := (k.block _ _ _ h res_odd3).trans h
theorem rb_new (w : World) (q : Cp) (ar : Int) (D : Value) : RB (w.alloc (.cells (resC q ar D) 102)) w.heap.size q ar D := heap_alloc_new _ _
def lay6 (w : World) (g : Nat) (q : Cp) (ar : Int) (D : Value) : World := (((((w.setCell ⟨g, 0, none⟩ (.int .u64 (q.p : Int))).setCell ⟨g, 1, none⟩ (.int .u32 (q.o : Int))).setCell ⟨g, 2, none⟩ (.int .u8 (q.r : Int))).setCell ⟨g, 3, none⟩ (.int .u64 (q.c : Int))).setCell ⟨g, 4, none⟩ (.int .u64 ar)).setCell ⟨g, 5, none⟩ D
theorem RB.lay {g : Nat} {x : Cp} {xr : Int} {X : Value} (h : RB w g x xr X) (q : Cp) (ar : Int) (D : Value) : RB (lay6 w g q ar D) g q ar D := by
  have h1 := heap_setCell_same w g 0 _ _ (.int .u64 (q.p : Int)) h
  have h2 := heap_setCell_same _ g 1 _ _ (.int .u32 (q.o : Int)) h1
  have h3 := heap_setCell_same _ g 2 _ _ (.int .u8 (q.r : Int)) h2
  have h4 := heap_setCell_same _ g 3 _ _ (.int .u64 (q.c : Int)) h3
  have h5 := heap_setCell_same _ g 4 _ _ (.int .u64 ar) h4
  have h6 := heap_setCell_same _ g 5 _ _ D h5
  unfold RB lay6
  rw [h6]
  simp
theorem foot_lay6 (w : World) (g : Nat) (q : Cp) (ar : Int) (D : Value) : Foot (fun j => j = g) w (lay6 w g q ar D) := by
  unfold lay6
  exact ((((((Foot.refl _ w).put _ _).put _ _).put _ _).put _ _).put _ _).put _ _
theorem SvEnd.off (x : SvEnd w0 w A p ws w1 s) (hw : w0.heap.size ≤ w.heap.size) {S : Nat → Prop} (f : Foot S w1 w2) (hS : ∀ b, S b → w.heap.size ≤ b ∧ Fre3 w1 b) : SvEnd w0 w A p ws w2 s := by
  obtain ⟨v, dv, nv, X, F, h1, h2, h3⟩ := x
  exact ⟨v, dv, nv, X.off f (fun b e => ⟨Nat.le_trans hw (hS b e).1, (hS b e).2⟩), F.trans f (fun j e => .inr (hS j e).1), h1, h2, h3⟩
theorem SvEnd.res (x : SvEnd w0 w A p ws w1 s) (hw : w0.heap.size ≤ w.heap.size) {g : Nat} {q : Cp} {ar : Int} {D : Value} (h : RB w1 g q ar D) (hg : w.heap.size ≤ g) (f : Foot (fun j => j = g) w1 w2) : SvEnd w0 w A p ws w2 s :=
  x.off hw f (fun b e => ⟨by omega, .inr ⟨_, _, e ▸ h, res_odd3⟩⟩)
theorem SvEnd.msg (x : SvEnd w0 w A p ws w1 s) (hw : w0.heap.size ≤ w.heap.size) {g : Nat} {m : Msg} {D : Value} (h : MB w1 g m D) (hg : w.heap.size ≤ g) (f : Foot (fun j => j = g) w1 w2) : SvEnd w0 w A p ws w2 s :=
  x.off hw f (fun b e => ⟨by omega, .inr ⟨_, _, e ▸ h, msg_odd3⟩⟩)
end
end Go.Proofs.YtlmnnjibggdboaaGreatDoor
namespace Go.Proofs.YtlmnnjibggdboaaGreatDoor
section
open Go.RowKit
variable {w0 w w1 w2 w' : World} {A A' : Ad} {p : Nat} {ws : List Nat} {s s' s1 : Hs} {r g : Nat} {sb : Nat × Bool}
def Hs.tab (s : Hs) (t : Nat) (es : List Ent) (T : Nat → Ob) : Hs := ⟨t, es, T, s.n, s.q, s.L⟩
def Hs.row (s : Hs) (z : Int) (l : List Rw) : Hs := ⟨s.t, s.es, s.T, s.n, s.q + 1, updL s.L z l⟩
def Hs.gon (s : Hs) (z : Int) : Hs := ⟨s.t, s.es, s.T, s.n, s.q, updL s.L z []⟩
def desT (T : Nat → Ob) (K : Chk) : Nat → Ob := if K.e = 0 then updO T K.k Ob.zero else T
def touT (T : Nat → Ob) (K : Chk) : Nat → Ob := if K.e = 0 then updO T K.k (touO (T K.k)) else T
theorem tb_check (c : Cp) (need : Nat) (w : World) (x : Sv w0 w A p ws s) (hc : c.ok) (hn : need ≤ 255) (hl : s.es.length ≤ 5000000000000) (K : Chk) (hK : chkF ws s.t s.es p s.T c need = K) :
    Calls Tryz.prog 34 #[.pointer (some ⟨A.g, 0, none⟩), c.val, .int .u8 (need : Int)] w fun e w' => e = .returned (.tuple #[.int .i64 (K.k : Int), erN (K.e : Int)]) ∧ SvEnd w0 w A p ws w' (s.tab K.t K.es s.T) := by
  refine (check_any c need w x.od hc hn hl K hK).mono ?_
  rintro e w1 ⟨rfl, E⟩
  exact ⟨rfl, x.table E⟩
theorem tb_create (vl : Int) (w : World) (x : Sv w0 w A p ws s) (hl : s.es.length ≤ 5000000000000) (R : Cre) (hR : creF ws s.t s.es p s.T vl = R) :
    Calls Tryz.prog 13 #[.pointer (some ⟨A.g, 0, none⟩), .int .i64 vl] w fun e w' => e = .returned (.tuple #[R.c.val, erN (R.e : Int)]) ∧ SvEnd w0 w A p ws w' (s.tab R.t R.es R.T) := by
  refine (create_any vl w x.od hl R hR).mono ?_
  rintro e w1 ⟨rfl, E⟩
  exact ⟨rfl, x.table E⟩
theorem tb_restrict (c : Cp) (mask : Nat) (w : World) (x : Sv w0 w A p ws s) (hc : c.ok) (hm : mask ≤ 255) (hl : s.es.length < 5000000000000) (R : Cre) (hR : resF ws s.t s.es p s.T c mask = R) :
    Calls Tryz.prog 15 #[.pointer (some ⟨A.g, 0, none⟩), c.val, .int .u8 (mask : Int)] w fun e w' => e = .returned (.tuple #[R.c.val, erN (R.e : Int)]) ∧ SvEnd w0 w A p ws w' (s.tab R.t R.es R.T) := by
  refine (restrict_any c mask w x.od hc hm hl R hR).mono ?_
  rintro e w1 ⟨rfl, E⟩
  exact ⟨rfl, x.table E⟩
theorem tb_revoke (c : Cp) (w : World) (x : Sv w0 w A p ws s) (hc : c.ok) (hl : s.es.length < 5000000000000) (he : ∀ j, (s.T j).e ≤ 9223372036854775806) (R : Cre) (hR : revF ws s.t s.es p s.T c = R) :
    Calls Tryz.prog 56 #[.pointer (some ⟨A.g, 0, none⟩), c.val] w fun e w' => e = .returned (.tuple #[R.c.val, erN (R.e : Int)]) ∧ SvEnd w0 w A p ws w' (s.tab R.t R.es R.T) := by
  refine (revoke_any c w x.od hc hl he R hR).mono ?_
  rintro e w1 ⟨rfl, E⟩
  exact ⟨rfl, x.table E⟩
theorem tb_destroy (c : Cp) (w : World) (x : Sv w0 w A p ws s) (hc : c.ok) (hl : s.es.length ≤ 5000000000000) (K : Chk) (hK : chkF ws s.t s.es p s.T c 8 = K) :
    Calls Tryz.prog 39 #[.pointer (some ⟨A.g, 0, none⟩), c.val] w fun e w' => e = .returned (.tuple #[.int .i64 (K.k : Int), .int .i64 (if K.e = 0 then (s.T K.k).v else 0), erN (K.e : Int)]) ∧ SvEnd w0 w A p ws w' (s.tab K.t K.es (desT s.T K)) := by
  unfold desT
  by_cases h0 : K.e = 0
  · rw [if_pos h0, if_pos h0]
    refine (destroy_yes c w x.od hc hl K hK h0).mono ?_
    rintro e w1 ⟨rfl, E⟩
    exact ⟨by rw [h0]; rfl, x.table E⟩
  · rw [if_neg h0, if_neg h0]
    have hk : K.k = 0 := by rw [← hK] at h0 ⊢; exact chk_not h0
    refine (destroy_no c w x.od hc hl K hK h0).mono ?_
    rintro e w1 ⟨rfl, E⟩
    exact ⟨by rw [hk]; rfl, x.table E⟩
theorem tb_touch (c : Cp) (w : World) (x : Sv w0 w A p ws s) (hc : c.ok) (hl : s.es.length ≤ 5000000000000) (K : Chk) (hK : chkF ws s.t s.es p s.T c 0 = K) :
    Calls Tryz.prog 55 #[.pointer (some ⟨A.g, 0, none⟩), c.val] w fun e w' => e = .returned (erN (K.e : Int)) ∧ SvEnd w0 w A p ws w' (s.tab K.t K.es (touT s.T K)) := by
  unfold touT
  by_cases h0 : K.e = 0
  · rw [if_pos h0]
    refine (touch_yes c w x.od hc hl K hK h0).mono ?_
    rintro e w1 ⟨rfl, E⟩
    exact ⟨by rw [h0]; rfl, x.table E⟩
  · rw [if_neg h0]
    refine (touch_no c w x.od hc hl K hK h0).mono ?_
    rintro e w1 ⟨rfl, E⟩
    exact ⟨rfl, x.table E⟩
/- what comes of a request: an error's number, a capability, a number, data, what is there behind it -/
structure Ro where
  e : Nat
  c : Cp
  ar : Nat
  d : List UInt8
  s : Hs
def mayC (c : Cp) : Bool := decide (c.p ≤ 281474976710655 ∧ c.o ≤ 16777215 ∧ c.c ≤ 281474976710655)
def badF (s : Hs) (e : Nat) : Ro := ⟨e, Cp.zero, 0, [], s⟩
def dstF (s : Hs) (c : Cp) (K : Chk) : Ro :=
  if c.o = 0 then badF (s.tab K.t K.es s.T) (if K.e = 0 then 15 else K.e)
  else if K.e = 0 then badF ⟨K.t, K.es, desT s.T K, s.n, s.q, updL s.L (s.T K.k).v []⟩ 0 else badF (s.tab K.t K.es s.T) K.e
/- a name at data's beginning, and what is behind it -/
def nmN (l : List UInt8) : Nat := numF ((l.drop 0).take 2)
def hasNm (l : List UInt8) : Bool := decide ((2 ≤ l.length ∧ 2 + nmN l ≤ l.length) ∧ 1 ≤ nmN l ∧ nmN l ≤ 32)
def nmOf (l : List UInt8) : List UInt8 := (l.drop 2).take (nmN l)
def restOf (l : List UInt8) : List UInt8 := l.drop (2 + nmN l)
def capD (r : List UInt8) : Cp := ⟨numF ((r.drop 0).take 6), numF ((r.drop 6).take 3), numF ((r.drop 9).take 1), numF ((r.drop 10).take 6)⟩
def lstD (L : List Rw) : List UInt8 := L.flatMap fun y => putF y.n.length 2 ++ y.n
def mkF (ws : List Nat) (p : Nat) (s : Hs) : Ro :=
  if (creF ws s.t s.es p s.T ((s.n + 1 : Nat) : Int)).e = 0 then ⟨0, (creF ws s.t s.es p s.T ((s.n + 1 : Nat) : Int)).c, 0, [], ⟨(creF ws s.t s.es p s.T ((s.n + 1 : Nat) : Int)).t, (creF ws s.t s.es p s.T ((s.n + 1 : Nat) : Int)).es, (creF ws s.t s.es p s.T ((s.n + 1 : Nat) : Int)).T, s.n + 1, s.q, updL s.L ((s.n + 1 : Nat) : Int) []⟩⟩
  else badF (s.tab (creF ws s.t s.es p s.T ((s.n + 1 : Nat) : Int)).t (creF ws s.t s.es p s.T ((s.n + 1 : Nat) : Int)).es (creF ws s.t s.es p s.T ((s.n + 1 : Nat) : Int)).T) (creF ws s.t s.es p s.T ((s.n + 1 : Nat) : Int)).e
def lookF (ws : List Nat) (s : Hs) (y : Rw) : Ro :=
  if y.c.r &&& (255 - y.m) = 0 then ⟨0, y.c, 0, [], s⟩
  else if y.c.r = 255 then
    if (ofF ws s.t s.es y.c.c y.m).ok = true then ⟨0, ⟨y.c.p, y.c.o, y.m, (ofF ws s.t s.es y.c.c y.m).x⟩, 0, [], s.tab (ofF ws s.t s.es y.c.c y.m).t (ofF ws s.t s.es y.c.c y.m).es s.T⟩
    else badF (s.tab (ofF ws s.t s.es y.c.c y.m).t (ofF ws s.t s.es y.c.c y.m).es s.T) 7
  else badF s 2
def entF (s : Hs) (op : Nat) (z : Int) (k : Nat) (y : Rw) : Ro :=
  if op = 103 then badF (s.row z ((s.L z).set k y)) 0
  else if 64 ≤ (s.L z).length then badF s 5 else badF (s.row z (s.L z ++ [y])) 0
def nameF (ws : List Nat) (s : Hs) (op : Nat) (z : Int) (ar : Nat) (l : List UInt8) : Ro :=
  if hasNm l = false then badF s 4
  else if op = 102 ∧ idxR (s.L z) (nmOf l) < (s.L z).length then badF s 11
  else if op ≠ 102 ∧ ¬ idxR (s.L z) (nmOf l) < (s.L z).length then badF s 12
  else if op = 101 then lookF ws s ((s.L z).getD (idxR (s.L z) (nmOf l)) Rw.zero)
  else if op = 104 then badF (s.row z (delR (s.L z) (idxR (s.L z) (nmOf l)))) 0
  else if (restOf l).length ≠ 16 ∨ 255 < ar then badF s 4
  else entF s op z (idxR (s.L z) (nmOf l)) ⟨nmOf l, capD (restOf l), ar⟩
def doF (ws : List Nat) (p : Nat) (s : Hs) (op : Nat) (z : Int) (ar : Nat) (l : List UInt8) : Ro :=
  if op = 100 then mkF ws p s else if op = 105 then ⟨0, Cp.zero, 0, lstD (s.L z), s⟩ else nameF ws s op z ar l
def ownF (ws : List Nat) (p : Nat) (s : Hs) (op : Nat) (ar : Nat) (l : List UInt8) (K : Chk) : Ro :=
  if K.e = 0 then doF ws p (s.tab K.t K.es s.T) op (s.T K.k).v ar l else badF (s.tab K.t K.es s.T) K.e
def outF (ws : List Nat) (p : Nat) (s : Hs) (op : Nat) (c : Cp) (ar : Nat) (l : List UInt8) : Ro :=
  if mayC c = false then badF s 1
  else if op = 5 then dstF s c (chkF ws s.t s.es p s.T c 8)
  else if op < 100 ∨ needB op = false then badF s 3
  else ownF ws p s op ar l (chkF ws s.t s.es p s.T c (needN op))
/- the reply: of an error nothing else -/
def rplF (m : Msg) (R : Ro) : Msg := if R.e = 0 then ⟨m.rp, m.ta, m.id, m.op, 0, R.c.p, R.c.o, R.c.r, R.c.c, R.ar⟩ else ⟨m.rp, m.ta, m.id, m.op, R.e, 0, 0, 0, 0, 0⟩
def datF (R : Ro) (_l : List UInt8) : List UInt8 := if R.e = 0 then R.d else []
theorem chk_err (ws : List Nat) (t : Nat) (es : List Ent) (p : Nat) (T : Nat → Ob) (c : Cp) (need : Nat) : (chkF ws t es p T c need).e ≤ 7 := by
  unfold chkF
  repeat' split
  all_goals (simp only; omega)
theorem cre_err (ws : List Nat) (t : Nat) (es : List Ent) (p : Nat) (T : Nat → Ob) (v : Int) : (creF ws t es p T v).e ≤ 65535 := by
  unfold creF
  repeat' split
  all_goals (simp only; omega)
/- what comes of a request, answered -/
def OutEnd (w0 w : World) (A : Ad) (p : Nat) (ws : List Nat) (R : Ro) (_l : List UInt8) (e : Ending) (w' : World) : Prop := ∃ co n cc, e = .returned (.tuple #[.agg #[.int .u64 (R.c.p : Int), .int .u32 (R.c.o : Int), .int .u8 (R.c.r : Int), .int .u64 (R.c.c : Int), .int .u64 (R.ar : Int), .slice co n cc], erN (R.e : Int)]) ∧ Bts w' co n cc R.d ∧ New w co ∧ n ≤ 4096 ∧ SvEnd w0 w A p ws w' R.s
theorem out_bad {e : Nat} {l : List UInt8} {ve : Value} (hv : erN (e : Int) = ve) (E : SvEnd w0 w A p ws w' s1) : OutEnd w0 w A p ws (badF s1 e) l (.returned (.tuple #[.agg #[.int .u64 0, .int .u32 0, .int .u8 0, .int .u64 0, .int .u64 0, .slice none 0 0], ve])) w' :=
  ⟨none, 0, 0, by rw [← hv]; rfl, bts_nil _, new_none _, by omega, E⟩
end
end Go.Proofs.YtlmnnjibggdboaaGreatDoor
namespace Go.Proofs.YtlmnnjibggdboaaGreatDoor
section
open Go.RowKit
variable {w w' : World} {B : Nat} {L : List Rw}
theorem list_beq (a b : List UInt8) : ((str a).toList == (str b).toList) = decide (a = b) := by
  rw [str_list, str_list]; by_cases h : a = b
  · subst h; simp
  · rw [decide_eq_false h, beq_eq_false_iff_ne]; exact h
set_option maxHeartbeats 800000 in
theorem nam_ask (y : Rw) (g : Nat) (nm : List UInt8) (w : World) (hc : w.cell? ⟨g, 0, none⟩ = some (.string (str nm))) :
    Calls Tryz.prog 115 #[y.val, .pointer (some ⟨g, 0, none⟩)] w fun e w' => e = .returned (.bool (isNm nm y)) ∧ Below w.heap.size w w' := by
  have hg := lt_of_cell hc
  replace hg : g < w.heap.size := hg
  obtain ⟨r, hr⟩ : ∃ r, isNm nm y = r := ⟨_, rfl⟩
  rw [hr]
  have HR : Hid (((str y.n).toList == (str nm).toList) = r) := by show _ = r; rw [list_beq, ← hr]; rfl
  clear hr
  unfold Rw.val
  obtain ⟨sy, hsy⟩ : ∃ s, str y.n = s := ⟨_, rfl⟩
  obtain ⟨sn, hsn⟩ : ∃ s, str nm = s := ⟨_, rfl⟩
  rw [hsy, hsn] at HR
  rw [hsn] at hc
  rw [hsy]
  clear hsy hsn
  go_enter Tryz.func115, Tryz.ntmps115
  go_wp2
  go_ret
  exact ⟨by rw [← HR.out]; rfl, below_alloc _ _⟩
def idxV (L : List Rw) (nm : List UInt8) : Int := if idxR L nm < L.length then (idxR L nm : Int) else -1
def IdxRelR (w : World) (nm : List UInt8) (L : List Rw) (n gk : Nat) (vi : Value) (wr : World) : Prop := ∃ i : Nat, i + gk = n ∧ vi = .int .i64 (i : Int) ∧ (∀ j, j < i → (L.getD j Rw.zero).n ≠ nm) ∧ Below w.heap.size w wr
set_option maxRecDepth 20000 in
set_option maxHeartbeats 1600000 in
theorem index_row (nm : List UInt8) (g : Nat) (v : Value) (w : World) (hA : OwnR 202 w B v L) (hc : w.cell? ⟨g, 0, none⟩ = some (.string (str nm))) :
    Calls Tryz.prog 114 #[v, .func (.func 115) #[] #[.pointer (some ⟨g, 0, none⟩)]] w fun e w' => e = .returned (.int .i64 (idxV L nm)) ∧ Below w.heap.size w w' := by
  obtain ⟨ao, cap, rfl, hnc, hcap⟩ := hA.form
  obtain ⟨n, hn⟩ : ∃ n, L.length = n := ⟨_, rfl⟩
  have HLEN := hide hn
  rw [hn] at hnc
  have HA := hide hA
  rw [hn]
  have HC : Hid (g < w.heap.size) := lt_of_cell hc
  have HCC := hide hc
  have hent : ∀ (xs : Array Value) (w : World), (callFunc 115 xs).run Tryz.prog w = .ok (.enter 115 xs) w := fun xs w => by kernel_rfl
  clear hA hn hc
  go_enter Tryz.func114, Tryz.ntmps114
  go_wp2
  go_loopg [8] n (fun gk vi wr => IdxRelR w nm L n gk vi wr)
  case atStart => exact ⟨0, by omega, rfl, fun j hj => by omega, Below.refl _ _⟩
  case round =>
    obtain ⟨i, hi, rfl, hno, b⟩ := hrel
    have HN := hide hno
    have HB := hide b
    clear hno b
    cases gk with
    | zero =>
      have hlt : ¬ ((i : Int) < (n : Int)) := by omega
      go_wp2
      go_ret
      refine ⟨?_, HB.out⟩
      unfold idxV
      rw [idx_none (fun j hj => HN.out j (by have := HLEN.out; omega)), if_neg (by omega)]
      rfl
    | succ g1 =>
      have hlt : (i : Int) < (n : Int) := by omega
      obtain ⟨y, hy⟩ : ∃ y, L.getD i Rw.zero = y := ⟨_, rfl⟩
      obtain ⟨h, ac, e, _, _, _, _, ⟨c0, c1, c2, c3, c4, c5⟩, _⟩ := (HA.out.grow HB.out).elem i (by have := HLEN.out; omega) y hy
      obtain ⟨rfl, rfl⟩ : ao = some ⟨h, 0, none⟩ ∧ cap = ac := by cases e; exact ⟨rfl, rfl⟩
      have HY := hide hy
      clear hy e
      go_wp2_with fail
      refine (nam_ask y g nm _ (by rw [HB.out.cell HC.out, HCC.out])).mono ?_; rintro e w1 ⟨rfl, b1⟩
      obtain ⟨r, hr⟩ : ∃ r, isNm nm y = r := ⟨_, rfl⟩
      have HR := hide hr
      rw [hr]
      have HB1 := hide (below_one HB.out b1)
      clear b1 hr c0 c1 c2 c3 c4 c5
      cases r with
      | true =>
        go_wp2
        go_ret
        refine ⟨?_, HB1.out⟩
        have e1 : idxR L nm = i := idx_is (by have := HLEN.out; omega) (by rw [HY.out]; exact isNm_iff.1 HR.out) HN.out
        unfold idxV
        rw [e1, if_pos (by have := HLEN.out; omega)]
        rfl
      | false =>
        go_wp2
        go_roundg g1
        case measure => omega
        case rel =>
          refine ⟨i + 1, by omega, by go_num, fun j hj => ?_, HB1.out⟩
          by_cases e : j = i
          · rw [e, HY.out]; exact isNm_no.1 HR.out
          · exact HN.out j (by omega)
/- a row is struck: what is behind it moves up -/
def StrEnd (w : World) (T : TypeId) (B : Nat) (v : Value) (M : List Rw) (e : Ending) (w' : World) : Prop := ∃ v', e = .returned v' ∧ OwnR T w' B v' M ∧ Foot (fun k => v.ownBlock = some k) w w' ∧ v'.ownBlock = v.ownBlock
def tlA (h c k : Nat) : Addr := if c = k then ⟨h, 0, none⟩ else ⟨h, k * 6, none⟩
theorem cut_tlA {T sT : TypeId} (hT : RowTy T sT) (w : World) (b n cap k : Nat) (h : k ≤ n) : (Instr.slice sT (.slice (some ⟨b, 0, none⟩) n cap) (some (.int .i64 (k : Int))) none none).run Tryz.prog w = .ok (.slice (some (tlA b cap k)) (n - k) (cap - k)) w := by
  rw [run_slice_l (P := Tryz.prog) w sT (some ⟨b, 0, none⟩) n cap hT.und' .i64 (k : Int) (by omega) (by omega), hT.elem, hT.size]
  unfold tlA
  by_cases e : cap = k
  · simp [Result.andThen, sliced, e]
  · simp [Result.andThen, sliced, e, add0]
theorem cut_three {T sT : TypeId} (hT : RowTy T sT) (w : World) (b n cap k : Nat) (h : k < n) (hc : n ≤ cap) : (Instr.slice sT (.slice (some ⟨b, 0, none⟩) n cap) (some (.int .i64 (k : Int))) (some (.int .i64 ((k + 1 : Nat) : Int))) (some (.int .i64 (n : Int)))).run Tryz.prog w = .ok (.slice (some ⟨b, k * 6, none⟩) 1 (n - k)) w := by
  rw [run_slice_lhm (P := Tryz.prog) w sT (some ⟨b, 0, none⟩) n cap hT.und' .i64 .i64 .i64 (k : Int) ((k + 1 : Nat) : Int) (n : Int) (by omega) (by omega) (by omega) (by omega), hT.elem, hT.size]
  simp [Result.andThen, sliced, add0, show n ≠ k from by omega]
theorem cut_last {T sT : TypeId} (hT : RowTy T sT) (w : World) (b n cap : Nat) (h : 0 < n) (hc : n ≤ cap) : (Instr.slice sT (.slice (some ⟨b, 0, none⟩) (n - 1) cap) (some (.int .i64 ((n - 1 : Nat) : Int))) (some (.int .i64 (n : Int))) none).run Tryz.prog w = .ok (.slice (some ⟨b, (n - 1) * 6, none⟩) 1 (cap - (n - 1))) w := by
  rw [run_slice_lh (P := Tryz.prog) w sT (some ⟨b, 0, none⟩) (n - 1) cap hT.und' .i64 .i64 ((n - 1 : Nat) : Int) (n : Int) (by omega) (by omega) (by omega), hT.elem, hT.size]
  have h2 : cap ≠ n - 1 := by omega
  simp [Result.andThen, sliced, add0, h2]
  omega
theorem app_tail {T sT ty : TypeId} (hT : RowTy T sT) {h n c : Nat} (k : Nat) (hk : k < n) (hn : L.length = n) (x : w.ownsRow B T 6 (.slice (some ⟨h, 0, none⟩) n c) n (cellsR L)) (hc : n ≤ c) :
    ∃ w', (Builtin.append_ #[sT, sT] ty #[.slice (some ⟨h, 0, none⟩) k c, .slice (some (tlA h c (k + 1))) (n - (k + 1)) (c - (k + 1))]).run Tryz.prog w = .ok (.slice (some ⟨h, 0, none⟩) (n - 1) c) w' ∧ w'.ownsRow B T 6 (.slice (some ⟨h, 0, none⟩) (n - 1) c) (n - 1) (cellsR (delR L k)) ∧ Foot (fun j => j = h) w w' := by
  replace x : OwnR T w B (.slice (some ⟨h, 0, none⟩) n c) L := by show World.ownsRow _ _ _ _ _ _ _; rw [hn]; exact x
  obtain ⟨i0, hi0, hz0, hz1, hz2⟩ := info_parts hT.info
  obtain ⟨w', h1, h2, h3⟩ := run_append_fits (P := Tryz.prog) w B sT ty T i0 6 hT.und hi0 hz1 h k c (cellsR (L.take k)) (OwnR.head x k (by omega) (by omega)) (tlA h c (k + 1)) (n - (k + 1)) (c - (k + 1)) (cellsR (L.drop (k + 1))) (by rw [cellsR_len, List.length_drop, hn]) (fun j u hu => by
      have hj : j < (cellsR (L.drop (k + 1))).length := by
        rcases Nat.lt_or_ge j (cellsR (L.drop (k + 1))).length with hj | hj
        · exact hj
        · rw [List.getElem?_eq_none hj] at hu; cases hu
      rw [cellsR_len, List.length_drop] at hj
      rw [cellsR_drop, List.getElem?_drop] at hu
      have := World.ownsRow.cells x (g := h) rfl _ u hu
      rw [← this]
      unfold tlA
      rw [if_neg (by omega), Addr.add_lit, Addr.add_lit, Nat.zero_add]) (cellsR_one _) (by omega)
  rw [show k + (n - (k + 1)) = n - 1 from by omega, ← cellsR_append] at h2
  rw [show k + (n - (k + 1)) = n - 1 from by omega] at h1
  exact ⟨w', h1, h2, (foot_grown h3).mono (fun j e => by cases e; rfl)⟩
/- clear of one behind a row's end: the row stays -/
theorem clear_one {T sT ty : TypeId} (hT : RowTy T sT) {h n c d : Nat} {M : List Rw} (x : w.ownsRow B T 6 (.slice (some ⟨h, 0, none⟩) n c) n (cellsR M)) (hc : n < c) :
    ∃ w', (Builtin.clear_ #[sT] ty #[.slice (some ⟨h, n * 6, none⟩) 1 d]).run Tryz.prog w = .ok (.tuple #[]) w' ∧ w'.ownsRow B T 6 (.slice (some ⟨h, 0, none⟩) n c) n (cellsR M) ∧ Foot (fun j => j = h) w w' := by
  rcases x.2 with ⟨e0, _⟩ | ⟨h', cap, cur, e', hb, hg, hl, hm, hs, ht⟩
  · cases e0
  · cases e'
    have hz : (Builtin.zeroCells zeroR.cells 1).toList.length = 6 := by simp [Builtin.zeroCells, zeroR, Value.cells]
    have h1 : ∀ v ∈ (Builtin.zeroCells zeroR.cells 1).toList, v.oneCell' = true := by
      intro v hv
      simp only [Builtin.zeroCells, zeroR, Value.cells] at hv
      simp at hv
      obtain ⟨j, _, rfl⟩ := hv
      have : j % 6 = 0 ∨ j % 6 = 1 ∨ j % 6 = 2 ∨ j % 6 = 3 ∨ j % 6 = 4 ∨ j % 6 = 5 := by omega
      rcases this with e | e | e | e | e | e
      all_goals (simp [e]; rfl)
    have hst := run_storeCells_at (P := Tryz.prog) h (n * 6) T _ 0 cur w hg (by rw [hz, hs]; omega) h1
    have hrun : (Builtin.clear_ #[sT] ty #[.slice (some ⟨h, n * 6, none⟩) 1 d]).run Tryz.prog w = ((storeCells ⟨h, n * 6, none⟩ (Builtin.zeroCells zeroR.cells 1).toList 0).run Tryz.prog w).andThen fun _ w => .ok (.tuple #[]) w := by
      simp [Builtin.clear_, run_underlying hT.und, hT.zero]
    rw [hst] at hrun
    obtain ⟨zs, hzs⟩ : ∃ zs, (Builtin.zeroCells zeroR.cells 1).toList = zs := ⟨_, rfl⟩
    rw [hzs] at hrun hz
    refine ⟨_, hrun, ⟨x.1, .inr ⟨h, c, _, rfl, hb, setRow_heap w h cur _ _ _ hg, hl, hm, ?_, ?_⟩⟩, ⟨rfl, rfl, rfl, by simp [World.setRow], fun k _ hn => setRow_other w h k _ (fun e => hn e)⟩⟩
    · simp [hz, hs]; omega
    · rw [← ht]
      show List.take (n * 6) (List.take (n * 6 + 0) cur.toList ++ zs ++ List.drop (n * 6 + 0 + zs.length) cur.toList) = _
      rw [Nat.add_zero, List.append_assoc, List.take_append_of_le_length (by simp [hs]; omega), List.take_take, Nat.min_self]
theorem step_append_run {P : Program} {w : World} {ops : Array Oper} {o : Oper} {a : Act} {K : Act → World → Prop} {Q : Exit → Act → World → Prop} {E : Prop} (hgd : o.guard = none) (s x : Operand) (ts : Array TypeId)
    (ho : o.op = .call { callee := .builtin .append, args := #[s, x], argTypes := ts }) (v u v' : Value) (w' : World) (hs : a.eval s = v) (hx : a.eval x = u) (hr : (Builtin.append_ ts o.type #[v, u]).run P w = .ok v' w') (h : K (a.put o.dst v') w') :
    if Region.wanted o (yielded ops a.tmps) = true then Oper.wp P o a w K Q else E := by
  have hw : Region.wanted o (yielded ops a.tmps) = true := by simp [Region.wanted, hgd]
  rw [if_pos hw]
  unfold Oper.wp execOp
  simp only [ho, resolve, invoke, builtin, Sem.run_bind, Sem.run_pure, Result.andThen_ok, List.map_toArray, List.map_cons, List.map_nil, hs, hx, hr]
  exact h
set_option maxRecDepth 20000 in
set_option maxHeartbeats 1600000 in
theorem strike_any (k : Nat) (v : Value) (w : World) (hA : OwnR 202 w B v L) (hk : k < L.length) (kk : Int) (hkk : kk = ((k + 1 : Nat) : Int)) :
    Calls Tryz.prog 117 #[v, .int .i64 (k : Int), .int .i64 kk] w fun e w' => StrEnd w 202 B v (delR L k) e w' := by
  obtain ⟨y, hy⟩ : ∃ y, L.getD k Rw.zero = y := ⟨_, rfl⟩
  obtain ⟨h, c, rfl, hc, hcm, hbh, hhl, _, _⟩ := hA.elem k hk y hy
  obtain ⟨n, hn⟩ : ∃ n, L.length = n := ⟨_, rfl⟩
  have hA' : w.ownsRow B 202 6 (.slice (some ⟨h, 0, none⟩) n c) n (cellsR L) := by rw [← hn]; exact hA
  rw [hn] at hk hc ⊢
  have HN := hide hn
  have h3 := fun W => cut_three dirTy W h n c k hk hc
  rw [← hkk] at h3
  have hhd := fun W => cut_headR dirTy W (some ⟨h, 0, none⟩) n c k (by omega)
  have htl := fun W => cut_tlA dirTy W h n c (k + 1) (by omega)
  rw [← hkk] at htl
  have hls := fun W => cut_last dirTy W h n c (by omega) hc
  obtain ⟨w1, hr1, ho1, hf1⟩ := app_tail (ty := 200) (w := w.drew) dirTy k hk hn hA' hc
  obtain ⟨w2, hr2, ho2, hf2⟩ := clear_one (ty := 0) (d := c - (n - 1)) dirTy ho1 (by omega)
  have HR1 := hide hr1
  have HO : Hid (OwnR 202 w2 B (.slice (some ⟨h, 0, none⟩) (n - 1) c) (delR L k)) := by
    have e : (delR L k).length = n - 1 := by unfold delR; simp; omega
    show World.ownsRow _ _ _ _ _ _ _; rw [e]; exact ho2
  have HF : Hid (Foot (fun j => j = h) w w2) := ((Foot.refl _ w).drewN 1).then (hf1.then hf2)
  obtain ⟨m1, hm1⟩ : ∃ m, n - (k + 1) = m := ⟨_, rfl⟩
  obtain ⟨d1, hd1⟩ : ∃ m, c - (k + 1) = m := ⟨_, rfl⟩
  obtain ⟨a1, ha1⟩ : ∃ m, tlA h c (k + 1) = m := ⟨_, rfl⟩
  obtain ⟨n1, hn1⟩ : ∃ m, n - 1 = m := ⟨_, rfl⟩
  obtain ⟨d2, hd2⟩ : ∃ m, c - n1 = m := ⟨_, rfl⟩
  rw [hm1, hd1, ha1] at htl
  rw [hm1, hd1, ha1, hn1] at HR1
  rw [hn1, hd2] at hls hr2
  rw [hn1] at HO
  have hne : ¬ (k : Int) = kk := by omega
  clear hr1 ho1 hf1 ho2 hf2 hy hA hA' hm1 hd1 ha1 hd2 hkk
  go_enter Tryz.func117, Tryz.ntmps117
  go_wp2_with fail
  go_region_held_law (fun _ => True) (exact trivial)
    (refine step_append_run (by rfl) _ _ _ (by rfl) _ _ _ _ (by rfl) (by rfl) HR1.out ?_)
  go_wp2
  go_ret
  exact ⟨_, rfl, HO.out, HF.out.mono (fun j e => by rw [e]; rfl), rfl⟩
end
end Go.Proofs.YtlmnnjibggdboaaGreatDoor
namespace Go.Proofs.YtlmnnjibggdboaaGreatDoor
section
open Go.RowKit
variable {w0 w w1 w2 w' : World} {A A' : Ad} {p : Nat} {ws : List Nat} {s s' s1 : Hs} {r g : Nat} {sb : Nat × Bool}
/- one directory's row turns -/
theorem Sv.put (x : Sv w0 w A p ws s) {z : Int} {dv : Option Nat} {q n : Nat} {v : Value} {L : List Rw} {S : Nat → Prop} (f : Foot S w w2) (hS : ∀ j, S j → (A.nv z).ownBlock = some j ∨ dv = some j ∨ j = A.sb.1) (hm : MapO w2 dv q (updV A.nv z v)) (hr : OwnR (rT A.sb.2) w2 A.N v L) (hv : ∀ r, v.ownBlock = some r → (A.nv z).ownBlock = some r ∨ w.heap.size ≤ r) (hb : ∀ b, dv = some b → A.dv = some b ∨ w.heap.size ≤ b) (hbx : BoxIs w2 (A.upd A.v dv (updV A.nv z v)) n) (hg : Good L) : SvEnd w0 w A p ws w2 ⟨s.t, s.es, s.T, n, q, updL s.L z L⟩ := by
  have hR : Rws w2 A.N (rT A.sb.2) dv q (updV A.nv z v) (updL s.L z L) := x.st.put f (fun j hs h => by
    rcases hS j hs with h1 | h1 | h1
    · exact .inl h1
    · exact .inr h1
    · exact absurd (h1 ▸ h) (x.noR x.bx (.inl (bT_rT _ _).symm))) hm hr hv hb x.nw
  refine x.rows hR hbx ((Foot.refl _ w).trans f (fun j hs => ?_)) hb (fun y j e => ?_) (fun y => ?_)
  · rcases hS j hs with h1 | h1 | h1
    · exact .inl (.inr (.inr ⟨z, h1⟩))
    · exact (hb j h1).imp (fun h => .inr (.inl h)) id
    · exact .inl (.inl h1)
  · by_cases e1 : y = z
    · subst e1; rw [updV_same] at e; exact (hv j e).imp (fun h => ⟨_, h⟩) id
    · rw [updV_other _ _ e1] at e; exact .inl ⟨y, e⟩
  · by_cases e1 : y = z
    · subst e1; rw [updL_same]; exact hg
    · rw [updL_other _ _ e1]; exact x.good y
theorem Sv.dirR (x : Sv w0 w A p ws s) (h : Mb w A.g A.sb) (z : Int) : OwnR 202 w A.N (A.nv z) (s.L z) := by
  have := x.st.row z
  rw [show A.sb.2 = false from h] at this
  exact this
theorem Sv.look (x : Sv w0 w A p ws s) {z : Int} (hz : I64 z) : (Instr.lookup 61 (.map A.dv) (.int .i64 z) false).run Tryz.prog w = .ok (A.nv z) w := look_any dirMap x.st.map hz
set_option maxHeartbeats 400000 in
theorem table_any (x : Sv w0 w A p ws s) : Calls Tryz.prog 112 #[.pointer (some ⟨A.sb.1, 0, none⟩)] w fun e w' => e = .returned (.pointer (some ⟨A.g, 0, none⟩)) ∧ w' = w := by
  have c0 := x.bx.c0
  clear x
  go_enter Tryz.func112, Tryz.ntmps112
  go_wp2
  go_ret
  exact ⟨rfl, rfl⟩
set_option maxHeartbeats 400000 in
theorem oracle_ptr (x : Sv w0 w A p ws s) : Calls Tryz.prog 120 #[.pointer (some ⟨A.sb.1, 0, none⟩)] w fun e w' => e = .returned (.pointer (some ⟨A.go, 0, none⟩)) ∧ w' = w := by
  have c0 := x.bx.c1
  clear x
  go_enter Tryz.func120, Tryz.ntmps120
  go_wp2
  go_ret
  exact ⟨rfl, rfl⟩
set_option maxHeartbeats 800000 in
theorem svc_need (a : Option Addr) (op : Nat) (w : World) (ho : op ≤ 65535) :
    Calls Tryz.prog 20 #[.pointer a, .int .u16 (op : Int)] w fun e w' => e = .returned (.tuple #[.int .u8 (needN op : Int), .bool (needB op)]) ∧ w' = w := by
  by_cases h1 : 100 ≤ op ∧ op ≤ 105
  · have : op = 100 ∨ op = 101 ∨ op = 102 ∨ op = 103 ∨ op = 104 ∨ op = 105 := by omega
    clear h1 ho
    rcases this with rfl | rfl | rfl | rfl | rfl | rfl
    all_goals
      go_enter Tryz.func20, Tryz.ntmps20
      go_wp2
      go_ret2
      exact ⟨rfl, rfl⟩
  · have e0 : ¬ (op : Int) = 100 := by omega
    have e1 : ¬ (op : Int) = 101 := by omega
    have e2 : ¬ (op : Int) = 102 := by omega
    have e3 : ¬ (op : Int) = 103 := by omega
    have e4 : ¬ (op : Int) = 104 := by omega
    have e5 : ¬ (op : Int) = 105 := by omega
    rw [show needB op = false from by unfold needB; simp; omega, show needN op = 0 from by unfold needN; rw [if_neg (by omega), if_neg (by omega), if_neg (by omega), if_neg (by omega), if_neg (by omega), if_neg (by omega)]]
    clear h1 ho
    go_enter Tryz.func20, Tryz.ntmps20
    go_wp2
    go_ret2
    exact ⟨rfl, rfl⟩
set_option maxHeartbeats 800000 in
theorem svc_gone (z : Int) (w : World) (_h : Mb w A.g A.sb) (x : Sv w0 w A p ws s) (hz : I64 z) :
    Calls Tryz.prog 108 #[.pointer (some ⟨A.sb.1, 0, none⟩), .int .i64 z] w fun e w' => e = .returned (.tuple #[]) ∧ SvEnd w0 w A p ws w' (s.gon z) := by
  have c2 := x.bx.c2
  obtain ⟨w2, hr, hm, hf⟩ := del_any (ty := 0) dirMap x.st.map hz
  have HE : Hid (SvEnd w0 w A p ws w2 (s.gon z)) := x.put hf (fun j e => .inr (.inl e)) hm (own_nilR _ _ _) (fun r e => by cases e) (fun b e => .inl e) ((hf.block A.sb.1 (lt_of_heap x.bx) (fun e => x.noR x.bx (.inl (bT_rT _ _).symm) (.inl e))).trans x.bx) good_nil
  clear x hm hf
  go_enter Tryz.func108, Tryz.ntmps108
  go_wp2
  simp [bodyPost, results, Tryz.results108, go_sem]
  exact HE.out
end
end Go.Proofs.YtlmnnjibggdboaaGreatDoor
namespace Go.Proofs.YtlmnnjibggdboaaGreatDoor
section
open Go.RowKit
variable {w0 w w1 w2 w' : World} {A A' : Ad} {p : Nat} {ws : List Nat} {s s' s1 : Hs} {r g : Nat} {sb : Nat × Bool}
/- '[]byte(name)': bytes in new memory -/
theorem str_bytes (l : List UInt8) (w : World) (hl : l.length ≤ 140737488355328) :
    ∃ cc X, (convert 9 23 (.string (str l))).run Tryz.prog w = .ok (.slice (some ⟨w.heap.size, 0, none⟩) l.length cc) X ∧ Bts X (some ⟨w.heap.size, 0, none⟩) l.length cc l ∧ Below w.heap.size w X := by
  have hsz : (str l).size = l.length := by simp [str, ByteArray.size]
  have hr := run_bytes_of_string (P := Tryz.prog) w 9 23 5 (str l) Tryz.underlying9 Tryz.underlying23 Tryz.underlying5
  have hge := grownCap_ge w l.length 0 5
  have hle := grownCap_le_maxLen w l.length 0 5 (by unfold maxLen; omega)
  rw [hsz] at hr
  obtain ⟨cc, hcc⟩ : ∃ c, grownCap w l.length 0 5 = c := ⟨_, rfl⟩
  rw [hcc] at hr hge hle
  refine ⟨cc, _, hr, ⟨rfl, hge, hle, (fun e => by cases e), fun ad e j hj => ?_⟩, (below_d w 1).alloc (Nat.le_refl _) _⟩
  cases e
  have h2 : (w.drew.alloc (.cells (bytesRow (str l) cc) 5 ((bytesRow (str l) cc).size, (bytesRow (str l) cc).size + 1))).heap[w.heap.size]? = some (.cells (bytesRow (str l) cc) 5 ((bytesRow (str l) cc).size, (bytesRow (str l) cc).size + 1)) := heap_alloc_new _ _
  rw [addr0, cell_of_row _ _ _ _ _ _ h2]
  unfold bytesRow
  rw [Array.getElem?_append_left (by simp [str]; omega)]
  simp [str, bt, hj]
theorem Bts.app {co : Option Addr} {n cc : Nat} {l : List UInt8} (h : Bts w co n cc l) (b : Below w.heap.size w w') : Bts w' co n cc l := h.carry b
theorem gb_no (ao : Option Addr) (n cap : Nat) (l : List UInt8) (w : World) (hb : Bts w ao n cap l) (x : Nat) (hx : numF ((l.drop 0).take 2) = x) (hno : ¬ (2 ≤ n ∧ 2 + x ≤ n)) :
    Calls Tryz.prog 61 #[.slice ao n cap, .int .i64 0] w fun e w' => e = .returned (.tuple #[.slice none 0 0, .int .i64 0, .bool false]) ∧ Below w.heap.size w w' := by
  refine getBytes_no ao n cap 0 l w hb (fun h => hno ?_)
  have e : numF ((l.drop (Int.toNat 0)).take 2) = x := hx
  rw [e] at h; omega
theorem gb_yes (ao : Option Addr) (n cap : Nat) (l : List UInt8) (w : World) (hb : Bts w ao n cap l) (x : Nat) (hx : numF ((l.drop 0).take 2) = x) (h1 : 2 ≤ n) (h2 : 2 + x ≤ n) (k : Nat) (hk : 2 + x = k) :
    Calls Tryz.prog 61 #[.slice ao n cap, .int .i64 0] w fun e w' => ∃ co cc, e = .returned (.tuple #[.slice co x cc, .int .i64 (k : Int), .bool true]) ∧ Bts w' co x cc ((l.drop 2).take x) ∧ New w co ∧ Below w.heap.size w w' := by
  have h := getBytes_yes ao n cap 0 l w hb (by omega) x hx (by omega)
  rw [show 0 + 2 + x = k from by omega] at h
  exact h
set_option maxHeartbeats 800000 in
theorem split_no (so : Option Addr) (sn sc : Nat) (l : List UInt8) (w : World) (hb : Bts w so sn sc l) (hno : hasNm l = false) :
    Calls Tryz.prog 113 #[.slice so sn sc] w fun e w' => e = .returned (.tuple #[.string (str []), .slice none 0 0, .iface 47 (.int .i64 4)]) ∧ Below w.heap.size w w' := by
  have HB := hide hb
  have hl := hb.1
  obtain ⟨x, hx⟩ : ∃ x, nmN l = x := ⟨_, rfl⟩
  have HX : Hid (numF ((l.drop 0).take 2) = x) := hx
  have hN : ¬ ((2 ≤ l.length ∧ 2 + x ≤ l.length) ∧ 1 ≤ x ∧ x ≤ 32) := by
    intro h; unfold hasNm at hno; rw [hx] at hno; exact absurd h (of_decide_eq_false hno)
  rw [← hl] at hN
  clear hb hno hx hl
  by_cases h1 : 2 ≤ sn ∧ 2 + x ≤ sn
  · go_enter Tryz.func113, Tryz.ntmps113
    go_wp2_with fail
    refine (gb_yes so sn sc l _ HB.out x HX.out h1.1 h1.2 _ rfl).mono ?_; rintro e w1 ⟨co, cc, rfl, _, _, b1⟩
    by_cases h2 : x = 0
    · have hlt : (x : Int) < 1 := by omega
      go_wp2
      refine bodyPost_ret (by simp [results, Tryz.results113, go_sem]; rfl) rfl ?_
      exact ⟨rfl, b1⟩
    · have hlt : ¬ (x : Int) < 1 := by omega
      have hgt : (x : Int) > 32 := by omega
      go_wp2
      refine bodyPost_ret (by simp [results, Tryz.results113, go_sem]; rfl) rfl ?_
      exact ⟨rfl, b1⟩
  · go_enter Tryz.func113, Tryz.ntmps113
    go_wp2_with fail
    refine (gb_no so sn sc l _ HB.out x HX.out h1).mono ?_; rintro e w1 ⟨rfl, b1⟩
    go_wp2
    refine bodyPost_ret (by simp [results, Tryz.results113, go_sem]; rfl) rfl ?_
    exact ⟨rfl, b1⟩
set_option maxHeartbeats 800000 in
theorem split_yes (so : Option Addr) (sn sc : Nat) (l : List UInt8) (w : World) (hb : Bts w so sn sc l) (hyes : hasNm l = true) :
    Calls Tryz.prog 113 #[.slice so sn sc] w fun e w' => ∃ co n cc, e = .returned (.tuple #[.string (str (nmOf l)), .slice co n cc, .nilIface]) ∧ Bts w' co n cc (restOf l) ∧ Below w.heap.size w w' := by
  have HB := hide hb
  have hl := hb.1
  obtain ⟨x, hx⟩ : ∃ x, nmN l = x := ⟨_, rfl⟩
  have HX : Hid (numF ((l.drop 0).take 2) = x) := hx
  have hN : (2 ≤ l.length ∧ 2 + x ≤ l.length) ∧ 1 ≤ x ∧ x ≤ 32 := by
    unfold hasNm at hyes; rw [hx] at hyes; exact of_decide_eq_true hyes
  rw [← hl] at hN
  have HLL := hide hl
  clear hl
  unfold nmOf restOf
  rw [hx]
  clear hb hyes hx
  have hlt : ¬ (x : Int) < 1 := by omega
  have hgt : ¬ (x : Int) > 32 := by omega
  have hcc : sn ≤ sc := HB.out.2.1
  have hcm : sc ≤ 9223372036854775807 := HB.out.2.2.1
  cases so with
  | none => obtain ⟨rfl, rfl⟩ := HB.out.none rfl; omega
  | some ad =>
  obtain ⟨k, hk⟩ : ∃ k, 2 + x = k := ⟨_, rfl⟩
  have hcut : ∀ W : World, (Instr.slice 23 (.slice (some ad) sn sc) (some (.int .i64 (k : Int))) none none).run Tryz.prog W = .ok (.slice (if sc = k then some ad else some (ad.add k)) (sn - k) (sc - k)) W := fun W => by
    have e : Tryz.prog.elem 23 = 5 := by simp [Program.elem, Tryz.underlying23]
    have hs : ∀ w : World, (sizeOf 5).run Tryz.prog w = .ok 1 w := fun w => by kernel_rfl
    rw [run_slice_l (P := Tryz.prog) W 23 (some ad) sn sc (by rw [e]; exact Tryz.underlying23) .i64 (k : Int) (by omega) (by omega), e, hs]
    simp [Result.andThen, sliced]
  obtain ⟨a2, ha2⟩ : ∃ a2, (if sc = k then some ad else some (ad.add k)) = a2 := ⟨_, rfl⟩
  obtain ⟨n2, hn2⟩ : ∃ n2, sn - k = n2 := ⟨_, rfl⟩
  obtain ⟨c2, hc2⟩ : ∃ c2, sc - k = c2 := ⟨_, rfl⟩
  rw [ha2, hn2, hc2] at hcut
  have HR : Hid (Bts w a2 n2 c2 (l.drop (2 + x))) := by
    show Bts _ _ _ _ _
    by_cases e : sc = k
    · rw [← ha2, if_pos e, ← hn2, ← hc2]
      have : l.drop (2 + x) = [] := List.drop_eq_nil_of_le (by have := HLL.out; omega)
      rw [this]
      exact ⟨by rw [List.length_nil]; omega, by omega, by have := HB.out.2.2.1; omega, (fun e => by cases e), fun _ _ j hj => by simp at hj⟩
    · rw [← ha2, if_neg e, ← hn2, ← hc2]
      have h := HB.out.add k (sn - k) (Nat.le_refl _)
      rw [show (l.drop k).take (sn - k) = l.drop (2 + x) from by rw [List.take_of_length_le (by rw [List.length_drop]; have := HLL.out; omega), ← hk]] at h
      exact h
  clear ha2 hn2 hc2
  go_enter Tryz.func113, Tryz.ntmps113
  go_wp2_with fail
  refine (gb_yes (some ad) sn sc l _ HB.out x HX.out (by omega) (by omega) k hk).mono ?_; rintro e w1 ⟨co, cc, rfl, B1, _, b1⟩
  have hcv := fun q => conv_bts (show Bts (w1.drewN q) co x cc _ from B1)
  have HBL := hide b1
  clear b1 B1 hk
  go_wp2_with fail
  go_quiet (fail)
  go_wp2
  refine bodyPost_ret (by simp [results, Tryz.results113, go_sem]; rfl) rfl ?_
  exact ⟨_, _, _, rfl, (HR.out.carry HBL.out).carry (below_drewN (Below.refl _ _) _), below_drewN HBL.out _⟩
end
end Go.Proofs.YtlmnnjibggdboaaGreatDoor
