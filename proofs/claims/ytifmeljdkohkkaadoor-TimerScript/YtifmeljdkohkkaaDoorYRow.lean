/-
  Alarms in memory: an own row of them, and a clock; what stays of both when other memory turns.
-/
import Derived.Test.YtifmeljdkohkkaaDoorYMath
import Derived.Test.YtifmeljdkohkkaaDoorQRow
import Derived.Laws.CopyRow
import Derived.ArgAppend
import Derived.Deep.AppendLies
namespace Go.Proofs.YtifmeljdkohkkaaDoor
open Go.RowKit
variable {w w' : World} {B g : Nat} {now : Int} {rv : Value} {L : List Al}
theorem grown_foot {row : Option Nat} (h : w.grownBy w' row) : Foot (fun k => row = some k) w w' := ⟨h.os, h.tape, h.output, h.size, fun k hk hn => h.block k hk fun e => hn e.symm⟩
theorem owns_foot {S : Nat → Prop} {B : Nat} {e : TypeId} {sz n : Nat} {v : Value} {xs : List Value} (h : w.ownsRow B e sz v n xs) (f : Foot S w w') (hS : ∀ k, v.ownBlock = some k → ¬ S k) : w'.ownsRow B e sz v n xs := by
  refine ⟨h.1, ?_⟩
  rcases h.2 with h0 | ⟨k, cap, cur, h1, h2, h3, h4⟩
  · exact .inl h0
  · exact .inr ⟨k, cap, cur, h1, h2, (f.block k (lt_of_heap h3) (hS k (by rw [h1]; rfl))).trans h3, h4⟩
theorem owns_grow {B : Nat} {e : TypeId} {sz n : Nat} {v : Value} {xs : List Value} (h : w.ownsRow B e sz v n xs) (b : Below w.heap.size w w') : w'.ownsRow B e sz v n xs := owns_foot h (below_foot (fun _ => False) b) (fun _ _ => id)
theorem owns_base {B B' : Nat} {e : TypeId} {sz n : Nat} {v : Value} {xs : List Value} (h : w.ownsRow B e sz v n xs) (hB : B' ≤ B) : w.ownsRow B' e sz v n xs := by
  refine ⟨h.1, ?_⟩
  rcases h.2 with h0 | ⟨k, cap, cur, h1, h2, h4⟩
  · exact .inl h0
  · exact .inr ⟨k, cap, cur, h1, Nat.le_trans hB h2, h4⟩
/- an own row's block has its type -/
theorem owns_type {B : Nat} {e : TypeId} {sz n : Nat} {v : Value} {xs : List Value} (h : w.ownsRow B e sz v n xs) {k : Nat} (hk : v.ownBlock = some k) : ∃ cur, w.heap[k]? = some (.cells cur e (0, 0)) := by
  rcases h.2 with ⟨h0, _⟩ | ⟨j, cap, cur, h1, h2, h3, h4⟩
  · rw [h0] at hk; cases hk
  · rw [h1] at hk
    have : j = k := by simpa [Value.ownBlock] using hk
    subst this
    exact ⟨cur, h3⟩
theorem owns_lt {B : Nat} {e : TypeId} {sz n : Nat} {v : Value} {xs : List Value} (h : w.ownsRow B e sz v n xs) {k : Nat} (hk : v.ownBlock = some k) : k < w.heap.size ∧ B ≤ k := by
  rcases h.2 with ⟨h0, _⟩ | ⟨j, cap, cur, h1, h2, h3, h4⟩
  · rw [h0] at hk; cases hk
  · rw [h1] at hk
    have : j = k := by simpa [Value.ownBlock] using hk
    subst this
    exact ⟨lt_of_heap h3, h2⟩
theorem two_types {x y : Nat} {c d : Array Value} {t u : TypeId} {e f : Nat × Nat} (h1 : w.heap[x]? = some (.cells c t e)) (h2 : w.heap[y]? = some (.cells d u f)) (h : t ≠ u) : x ≠ y := by
  intro e; subst e; rw [h1] at h2; cases h2; exact h rfl
/- what was appended to lies where it lay, or in new memory -/
def Moved (w : World) (v v' : Value) : Prop := ∀ k, v'.ownBlock = some k → v.ownBlock = some k ∨ w.heap.size ≤ k
def cellsY (L : List Al) : List Value := L.flatMap fun y => [.int .i64 y.i, .int .i64 y.t]
theorem cellsY_cons (y : Al) (L : List Al) : cellsY (y :: L) = .int .i64 y.i :: .int .i64 y.t :: cellsY L := by unfold cellsY; simp
theorem cellsY_len (L : List Al) : (cellsY L).length = L.length * 2 := by
  induction L with
  | nil => rfl
  | cons y L ih => rw [cellsY_cons, List.length_cons, List.length_cons, ih, List.length_cons]; omega
theorem cellsY_append (A B : List Al) : cellsY (A ++ B) = cellsY A ++ cellsY B := by unfold cellsY; simp
theorem cellsY_one (L : List Al) : ∀ v ∈ cellsY L, v.oneCell' = true := by
  induction L with
  | nil => intro v h; cases h
  | cons y L ih =>
    intro v h
    rw [cellsY_cons] at h
    rcases List.mem_cons.1 h with rfl | h
    · rfl
    rcases List.mem_cons.1 h with rfl | h
    · rfl
    exact ih v h
theorem cellsY_get (L : List Al) : ∀ k, k < L.length → (cellsY L)[k * 2]? = some (.int .i64 (L.getD k Al.zero).i) ∧ (cellsY L)[k * 2 + 1]? = some (.int .i64 (L.getD k Al.zero).t) := by
  induction L with
  | nil => intro k h; simp at h
  | cons y L ih =>
    intro k h
    rw [cellsY_cons]
    cases k with
    | zero => exact ⟨rfl, rfl⟩
    | succ k =>
      obtain ⟨h1, h2⟩ := ih k (by simpa using h)
      rw [show (k + 1) * 2 = k * 2 + 1 + 1 by omega]
      exact ⟨h1, h2⟩
theorem cellsY_take (L : List Al) : ∀ k, cellsY (L.take k) = (cellsY L).take (k * 2) := by
  induction L with
  | nil => intro k; simp [cellsY]
  | cons y L ih =>
    intro k
    cases k with
    | zero => simp [cellsY]
    | succ k => rw [List.take_succ_cons, cellsY_cons, cellsY_cons, ih, show (k + 1) * 2 = k * 2 + 1 + 1 by omega]; rfl
theorem cellsY_set (L : List Al) : ∀ k y, k < L.length → cellsY (L.set k y) = ((cellsY L).set (k * 2) (.int .i64 y.i)).set (k * 2 + 1) (.int .i64 y.t) := by
  induction L with
  | nil => intro k y h; simp at h
  | cons z L ih =>
    intro k y h
    cases k with
    | zero => rw [List.set_cons_zero, cellsY_cons, cellsY_cons]; rfl
    | succ k => rw [List.set_cons_succ, cellsY_cons, cellsY_cons, ih k y (by simpa using h), show (k + 1) * 2 = k * 2 + 1 + 1 by omega]; rfl
abbrev OwnY (w : World) (B : Nat) (v : Value) (L : List Al) : Prop := w.ownsRow B 46 2 v L.length (cellsY L)
theorem own_nilY (w : World) (B : Nat) : OwnY w B (.slice none 0 0) [] := owns_nil _ _ _ _
theorem OwnY.form {v : Value} (x : OwnY w B v L) : ∃ aa ac, v = .slice aa L.length ac ∧ L.length ≤ ac ∧ ac ≤ 9223372036854775807 := by
  obtain ⟨aa, ac, e, l⟩ := owns_lies x
  exact ⟨aa, ac, e, l.2.1, l.2.2.1⟩
theorem OwnY.elem {v : Value} (x : OwnY w B v L) (k : Nat) (hk : k < L.length) : ∃ h ac, v = .slice (some ⟨h, 0, none⟩) L.length ac ∧ w.cell? ⟨h, k * 2, none⟩ = some (.int .i64 (L.getD k Al.zero).i) ∧ w.cell? ⟨h, k * 2 + 1, none⟩ = some (.int .i64 (L.getD k Al.zero).t) ∧ ∀ j, w.frozen? ⟨h, j, none⟩ = false := by
  rcases x.2 with ⟨_, e⟩ | ⟨h, cap, cur, e, hb, hg, hl, hm, hs, ht⟩
  · omega
  · obtain ⟨g0, g1⟩ := cellsY_get L k hk
    have get : ∀ j, j < L.length * 2 → cur[j]? = (cellsY L)[j]? := fun j hj => by
      rw [← ht, List.getElem?_take, if_pos hj]; simp
    refine ⟨h, cap, e, ?_, ?_, fun j => frozen_of_row w h j _ _ hg⟩
    · rw [cell_of_row w h _ _ _ _ hg, get _ (by omega)]; exact g0
    · rw [cell_of_row w h _ _ _ _ hg, get _ (by omega)]; exact g1
theorem OwnY.grow {v : Value} (x : OwnY w B v L) (b : Below w.heap.size w w') : OwnY w' B v L := owns_grow x b
/- one of a row is laid anew -/
theorem OwnY.set {v : Value} (x : OwnY w B v L) (k : Nat) (hk : k < L.length) (h n ac : Nat) (e : v = .slice (some ⟨h, 0, none⟩) n ac) (y : Al) : OwnY ((w.setCell ⟨h, k * 2, none⟩ (.int .i64 y.i)).setCell ⟨h, k * 2 + 1, none⟩ (.int .i64 y.t)) B v (L.set k y) := by
  rcases x.2 with ⟨_, e0⟩ | ⟨h', cap, cur, e', hb, hg, hl, hm, hs, ht⟩
  · omega
  · obtain rfl : h' = h := by rw [e] at e'; cases e'; rfl
    have h1 := heap_setCell_same w h' (k * 2) _ _ (.int .i64 y.i) hg
    have h2 := heap_setCell_same _ h' (k * 2 + 1) _ _ (.int .i64 y.t) h1
    refine ⟨by rw [cellsY_len], .inr ⟨h', cap, _, by rw [List.length_set]; exact e', hb, h2, by rw [List.length_set]; exact hl, hm, by simp [hs], ?_⟩⟩
    rw [List.length_set, cellsY_set L k y hk, ← ht]
    simp [List.take_set]
/- its first k -/
theorem OwnY.head {n c : Nat} {ao : Option Addr} (x : OwnY w B (.slice ao n c) L) (k : Nat) (hk : k ≤ L.length) (h0 : 0 < L.length) : w.ownsRow B 46 2 (.slice ao k c) k (cellsY (L.take k)) := by
  rcases x.2 with ⟨_, e0⟩ | ⟨h', cap, cur, e', hb, hg, hl, hm, hs, ht⟩
  · omega
  · cases e'
    refine ⟨by rw [cellsY_len, List.length_take]; congr 1; omega, .inr ⟨h', c, cur, rfl, hb, hg, by omega, hm, hs, ?_⟩⟩
    rw [cellsY_take, ← ht, List.take_take, Nat.min_eq_left (by omega)]
theorem Tryd.infoY : (Tryd.prog.info? 46).map (fun i => (i.zero, i.size, i.bytes)) = some (some (.agg #[.int .i64 0, .int .i64 0]), 2, 16) := by kernel_rfl
theorem Tryd.sizeOfY (w : World) : (sizeOf 46).run Tryd.prog w = .ok 2 w := by kernel_rfl
theorem Tryd.elemY : Tryd.prog.elem 25 = 46 := by simp [Program.elem, Tryd.underlying25]
theorem cut_tailY (w : World) (b n cap k : Nat) (h : k < n) (hc : n ≤ cap) : (Instr.slice 25 (.slice (some ⟨b, 0, none⟩) n cap) (some (.int .i64 (k : Int))) none none).run Tryd.prog w = .ok (.slice (some ⟨b, k * 2, none⟩) (n - k) (cap - k)) w := by
  have ht : Tryd.prog.underlying 25 = some (.slice (Tryd.prog.elem 25)) := by rw [Tryd.elemY]; exact Tryd.underlying25
  rw [run_slice_l (P := Tryd.prog) w 25 (some ⟨b, 0, none⟩) n cap ht .i64 (k : Int) (by omega) (by omega), Tryd.elemY, Tryd.sizeOfY]
  have h2 : cap ≠ k := by omega
  simp [Result.andThen, sliced, h2, add0]
theorem cut_headY (w : World) (ao : Option Addr) (n cap k : Nat) (h : k ≤ cap) : (Instr.slice 25 (.slice ao n cap) none (some (.int .i64 (k : Int))) none).run Tryd.prog w = .ok (.slice ao k cap) w := by
  have ht : Tryd.prog.underlying 25 = some (.slice (Tryd.prog.elem 25)) := by rw [Tryd.elemY]; exact Tryd.underlying25
  rw [run_slice_h (P := Tryd.prog) w 25 ao n cap ht .i64 (k : Int) (by omega) (by omega), Tryd.elemY, Tryd.sizeOfY]
  have hz : ao.map (fun x => x.add 0) = ao := by cases ao <;> simp [Addr.add]
  simp [Result.andThen, sliced, hz]
/- clear of a row's tail: what is ahead of it stays -/
theorem clear_tail {ty : TypeId} {n c : Nat} {h : Nat} (x : OwnY w B (.slice (some ⟨h, 0, none⟩) n c) L) (k : Nat) (hk : k < n) :
    ∃ w', (Builtin.clear_ #[25] ty #[.slice (some ⟨h, k * 2, none⟩) (n - k) (c - k)]).run Tryd.prog w = .ok (.tuple #[]) w' ∧ w'.ownsRow B 46 2 (.slice (some ⟨h, 0, none⟩) k c) k (cellsY (L.take k)) ∧ Foot (fun j => j = h) w w' := by
  rcases x.2 with ⟨e0, _⟩ | ⟨h', cap, cur, e', hb, hg, hl, hm, hs, ht⟩
  · cases e0
  · cases e'
    have hz : (Builtin.zeroCells (Value.agg #[.int .i64 0, .int .i64 0]).cells (L.length - k)).toList.length = (L.length - k) * 2 := by simp [Builtin.zeroCells, Value.cells]
    have h1 : ∀ v ∈ (Builtin.zeroCells (Value.agg #[.int .i64 0, .int .i64 0]).cells (L.length - k)).toList, v.oneCell' = true := by
      intro v hv
      simp only [Builtin.zeroCells, Value.cells] at hv
      simp at hv
      obtain ⟨j, _, rfl⟩ := hv
      rcases Nat.mod_two_eq_zero_or_one j with e | e
      · simp [e]; rfl
      · simp [e]; rfl
    have hst := run_storeCells_at (P := Tryd.prog) h (k * 2) 46 _ 0 cur w hg (by rw [hz, hs]; omega) h1
    obtain ⟨m, hm2⟩ : ∃ m, L.length - k = m + 1 := ⟨L.length - k - 1, by omega⟩
    have hv : ∀ w, (zeroValue 46).run Tryd.prog w = .ok (.agg #[.int .i64 0, .int .i64 0]) w := fun w => by kernel_rfl
    rw [hm2] at hst hz ⊢
    have hrun : (Builtin.clear_ #[25] ty #[.slice (some ⟨h, k * 2, none⟩) (m + 1) (c - k)]).run Tryd.prog w = ((storeCells ⟨h, k * 2, none⟩ (Builtin.zeroCells (Value.agg #[.int .i64 0, .int .i64 0]).cells (m + 1)).toList 0).run Tryd.prog w).andThen fun _ w => .ok (.tuple #[]) w := by
      simp [Builtin.clear_, run_underlying Tryd.underlying25, hv]
    rw [hst] at hrun
    obtain ⟨zs, hzs⟩ : ∃ zs, (Builtin.zeroCells (Value.agg #[.int .i64 0, .int .i64 0]).cells (m + 1)).toList = zs := ⟨_, rfl⟩
    rw [hzs] at hrun hz
    refine ⟨_, hrun, ⟨by rw [cellsY_len, List.length_take]; congr 1; omega, .inr ⟨h, c, _, rfl, hb, setRow_heap w h cur _ _ _ hg, by omega, hm, ?_, ?_⟩⟩, foot_row w h _⟩
    · simp [hz, hs]; omega
    · rw [cellsY_take, ← ht, List.take_take, Nat.min_eq_left (by omega)]
      show List.take (k * 2) (List.take (k * 2 + 0) cur.toList ++ zs ++ List.drop (k * 2 + 0 + zs.length) cur.toList) = _
      rw [Nat.add_zero, List.append_assoc, List.take_append_of_le_length (by simp [hs]; omega), List.take_take, Nat.min_self]
/- an alarm is appended -/
theorem app_al {ty : TypeId} {n : Nat} {v : Value} (i t : Int) (h : w.ownsRow B 46 2 v n (cellsY L)) (hn : n ≤ 1000) (hB : B ≤ w.heap.size) :
    ∃ v' w', (Builtin.append_ #[25, 25] ty #[v, .slice (some ⟨w.heap.size, 0, none⟩) 1 1]).run Tryd.prog (w.alloc (.cells #[.int .i64 i, .int .i64 t] 46)) = .ok v' w' ∧ w'.ownsRow B 46 2 v' (n + 1) (cellsY (L ++ [⟨i, t⟩])) ∧ Foot (fun k => v.ownBlock = some k) w w' ∧ Moved w v v' := by
  obtain ⟨i0, hi0, hz0, hz1, hz2⟩ := info_parts Tryd.infoY
  obtain ⟨v', w', hr, ho, hg, _, hm⟩ := run_append_own_at (P := Tryd.prog) (w.alloc (.cells #[.int .i64 i, .int .i64 t] 46)) B 25 ty 46 i0 _ 2 16 Tryd.underlying25 hi0 hz0 hz1 hz2 rfl (by omega) v n _ (h.alloc _) ⟨w.heap.size, 0, none⟩ 1 1 (cellsY [⟨i, t⟩]) rfl (fun j u hu => World.news_of_block (heap_alloc_new w _) j u hu) (cellsY_one _) (by unfold maxLen; omega) (by omega) (Nat.le_trans hB (below_alloc w _).size)
  refine ⟨v', w', hr, by rw [cellsY_append]; exact ho, (foot_alloc _ w _).then (grown_foot hg), fun k e => ?_⟩
  rcases hm with hm | hm
  · exact .inl (by rw [← hm]; exact e)
  · rw [hm] at e; cases e; exact .inr (below_alloc w _).size
/- a number is appended to an own row of numbers -/
theorem app_one {ty : TypeId} {B n : Nat} {v : Value} {L : List Int} (x : Int) (h : w.ownsRow B 3 1 v n (cellsI L)) (hn : n ≤ 17592186044400) (hB : B ≤ w.heap.size) :
    ∃ v' w', (Builtin.append_ #[28, 28] ty #[v, .slice (some ⟨w.heap.size, 0, none⟩) 1 1]).run Tryd.prog (w.alloc (.cells #[.int .i64 x] 3)) = .ok v' w' ∧ w'.ownsRow B 3 1 v' (n + 1) (cellsI (L ++ [x])) ∧ Foot (fun k => v.ownBlock = some k) w w' ∧ Moved w v v' := by
  obtain ⟨i0, hi0, hz0, hz1, hz2⟩ := info_parts Tryd.infoN
  obtain ⟨v', w', hr, ho, hg, _, hm⟩ := run_append_own_at (P := Tryd.prog) (w.alloc (.cells #[.int .i64 x] 3)) B 28 ty 3 i0 _ 1 8 Tryd.underlying28 hi0 hz0 hz1 hz2 rfl (by omega) v n _ (h.alloc _) ⟨w.heap.size, 0, none⟩ 1 1 (cellsI [x]) rfl (fun j u hu => World.news_of_block (heap_alloc_new w _) j u hu) (cellsI_one [x]) (by unfold maxLen; omega) (by omega) (Nat.le_trans hB (below_alloc w _).size)
  refine ⟨v', w', hr, by rw [cellsI_append]; exact ho, (foot_alloc _ w _).then (grown_foot hg), fun k e => ?_⟩
  rcases hm with hm | hm
  · exact .inl (by rw [← hm]; exact e)
  · rw [hm] at e; cases e; exact .inr (below_alloc w _).size
/- a clock -/
structure Tm (w : World) (B g : Nat) (now : Int) (rv : Value) (L : List Al) : Prop where
  box : w.heap[g]? = some (.cells #[.int .i64 now, rv] 27 (0, 0))
  row : OwnY w B rv L
  low : B ≤ g
theorem Tm.lt (x : Tm w B g now rv L) : g < w.heap.size := lt_of_heap x.box
theorem Tm.size (x : Tm w B g now rv L) : B ≤ w.heap.size := Nat.le_trans x.low (Nat.le_of_lt x.lt)
theorem Tm.c0 (x : Tm w B g now rv L) : w.cell? ⟨g, 0, none⟩ = some (.int .i64 now) := by rw [cell_of_row w g _ _ _ _ x.box]; rfl
theorem Tm.c1 (x : Tm w B g now rv L) : w.cell? ⟨g, 1, none⟩ = some rv := by rw [cell_of_row w g _ _ _ _ x.box]; rfl
theorem Tm.z (x : Tm w B g now rv L) (j : Nat) : w.frozen? ⟨g, j, none⟩ = false := frozen_of_row w g j _ _ x.box
theorem Tm.off (x : Tm w B g now rv L) : rv.ownBlock ≠ some g := fun e => by
  obtain ⟨cur, h⟩ := owns_type x.row e
  exact two_types h x.box (by decide) rfl
theorem Tm.foot {S : Nat → Prop} (x : Tm w B g now rv L) (f : Foot S w w') (hg : ¬ S g) (hr : ∀ k, rv.ownBlock = some k → ¬ S k) : Tm w' B g now rv L :=
  ⟨(f.block g x.lt hg).trans x.box, owns_foot x.row f hr, x.low⟩
theorem Tm.grow (x : Tm w B g now rv L) (b : Below w.heap.size w w') : Tm w' B g now rv L := x.foot (below_foot (fun _ => False) b) id (fun _ _ => id)
/- the row is laid anew -/
theorem Tm.put {v : Value} {M : List Al} {n : Nat} (x : Tm w B g now rv L) (h : w.ownsRow B 46 2 v n (cellsY M)) : Tm (w.setCell ⟨g, 1, none⟩ v) B g now v M := by
  have hn : n = M.length := by have := h.1; rw [cellsY_len] at this; omega
  subst hn
  refine ⟨?_, owns_foot h (foot_set w ⟨g, 1, none⟩ v) (fun k e (e2 : k = g) => ?_), x.low⟩
  · rw [heap_setCell_same w g 1 _ _ v x.box]; rfl
  · subst e2
    obtain ⟨cur, hh⟩ := owns_type h e
    exact two_types hh x.box (by decide) rfl
/- it is later -/
theorem Tm.tick (x : Tm w B g now rv L) (t : Int) : Tm (w.setCell ⟨g, 0, none⟩ (.int .i64 t)) B g t rv L := by
  refine ⟨?_, owns_foot x.row (foot_set w ⟨g, 0, none⟩ _) (fun k e (e2 : k = g) => x.off (by rw [e, e2])), x.low⟩
  rw [heap_setCell_same w g 0 _ _ _ x.box]; rfl
theorem tm_new (w : World) : Tm (w.alloc (.cells #[.int .i64 0, .slice none 0 0] 27)) w.heap.size w.heap.size 0 (.slice none 0 0) [] :=
  ⟨heap_alloc_new _ _, own_nilY _ _, Nat.le_refl _⟩
/- what a deed leaves: no block but the clock's own has turned -/
def TmEnd (w : World) (B g : Nat) (now : Int) (L : List Al) (w' : World) : Prop := ∃ rv', Tm w' B g now rv' L ∧ Foot (fun j => j = g) w w'
theorem Tm.same (x : Tm w B g now rv L) (b : Below w.heap.size w w') : TmEnd w B g now L w' := ⟨rv, x.grow b, below_foot _ b⟩
theorem TmEnd.from {w0 : World} (h : TmEnd w B g now L w') (b : Below w0.heap.size w0 w) : TmEnd w0 B g now L w' := by
  obtain ⟨v, x, f⟩ := h
  exact ⟨v, x, (below_foot _ b).then f⟩
theorem TmEnd.to {w2 : World} (h : TmEnd w B g now L w') (b : Below w'.heap.size w' w2) : TmEnd w B g now L w2 := by
  obtain ⟨v, x, f⟩ := h
  exact ⟨v, x.grow b, f.then (below_foot _ b)⟩
theorem TmEnd.below {w0 : World} (h : TmEnd w B g now L w') (b : Below w0.heap.size w0 w) (hg : w0.heap.size ≤ g) : ∃ v, Tm w' B g now v L ∧ Below w0.heap.size w0 w' := by
  obtain ⟨v, x, f⟩ := h
  exact ⟨v, x, b.trans (f.below b.size (fun k e => by omega))⟩
end Go.Proofs.YtifmeljdkohkkaaDoor
