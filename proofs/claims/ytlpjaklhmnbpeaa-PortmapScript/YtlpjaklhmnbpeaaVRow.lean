/-
  Places in memory: an own row of them (of the program's own type, or of the statement's), and a map; what stays of both when other memory turns.
-/
import Derived.Test.YtlpjaklhmnbpeaaVMath
import Derived.Test.YtlpjaklhmnbpeaaQLies
import Derived.Laws.CopyRow
import Derived.ArgAppend
import Derived.Deep.AppendLies
namespace Go.Proofs.Ytlpjaklhmnbpeaa
open Go.RowKit
variable {w w' : World} {B g : Nat} {age : Int} {rv : Value} {L : List Pl} {T : TypeId}
theorem grown_foot {row : Option Nat} (h : w.grownBy w' row) : Foot (fun k => row = some k) w w' := ⟨h.os, h.tape, h.output, h.size, fun k hk hn => h.block k hk fun e => hn e.symm⟩
theorem owns_foot {S : Nat → Prop} {B : Nat} {e : TypeId} {sz n : Nat} {v : Value} {xs : List Value} (h : w.ownsRow B e sz v n xs) (f : Foot S w w') (hS : ∀ k, v.ownBlock = some k → ¬ S k) : w'.ownsRow B e sz v n xs := by
  refine ⟨h.1, ?_⟩
  rcases h.2 with h0 | ⟨k, cap, cur, h1, h2, h3, h4⟩
  · exact .inl h0
  · exact .inr ⟨k, cap, cur, h1, h2, (f.block k (lt_of_heap h3) (hS k (by rw [h1]; rfl))).trans h3, h4⟩
theorem owns_grow {B : Nat} {e : TypeId} {sz n : Nat} {v : Value} {xs : List Value} (h : w.ownsRow B e sz v n xs) (b : Below w.heap.size w w') : w'.ownsRow B e sz v n xs := owns_foot h (below_foot (fun _ => False) b) (fun _ _ => id)
theorem owns_base {B B' : Nat} {e : TypeId} {sz n : Nat} {v : Value} {xs : List Value} (h : w.ownsRow B e sz v n xs) (hB : B' ≤ B) : w.ownsRow B' e sz v n xs := by
  refine ⟨h.1, ?_⟩
  rcases h.2 with h0 | ⟨k, cap, cur, h1, h2, h4⟩
  · exact .inl h0
  · exact .inr ⟨k, cap, cur, h1, Nat.le_trans hB h2, h4⟩
/- an own row's block has its type -/
theorem owns_type {B : Nat} {e : TypeId} {sz n : Nat} {v : Value} {xs : List Value} (h : w.ownsRow B e sz v n xs) {k : Nat} (hk : v.ownBlock = some k) : ∃ cur, w.heap[k]? = some (.cells cur e (0, 0)) := by
  rcases h.2 with ⟨h0, _⟩ | ⟨j, cap, cur, h1, h2, h3, h4⟩
  · rw [h0] at hk; cases hk
  · rw [h1] at hk
    have : j = k := by simpa [Value.ownBlock] using hk
    subst this
    exact ⟨cur, h3⟩
theorem owns_lt {B : Nat} {e : TypeId} {sz n : Nat} {v : Value} {xs : List Value} (h : w.ownsRow B e sz v n xs) {k : Nat} (hk : v.ownBlock = some k) : k < w.heap.size ∧ B ≤ k := by
  rcases h.2 with ⟨h0, _⟩ | ⟨j, cap, cur, h1, h2, h3, h4⟩
  · rw [h0] at hk; cases hk
  · rw [h1] at hk
    have : j = k := by simpa [Value.ownBlock] using hk
    subst this
    exact ⟨lt_of_heap h3, h2⟩
theorem two_types {x y : Nat} {c d : Array Value} {t u : TypeId} {e f : Nat × Nat} (h1 : w.heap[x]? = some (.cells c t e)) (h2 : w.heap[y]? = some (.cells d u f)) (h : t ≠ u) : x ≠ y := by
  intro e; subst e; rw [h1] at h2; cases h2; exact h rfl
/- what was appended to lies where it lay, or in new memory -/
def Moved (w : World) (v v' : Value) : Prop := ∀ k, v'.ownBlock = some k → v.ownBlock = some k ∨ w.heap.size ≤ k
def cellsV (L : List Pl) : List Value := L.flatMap fun y => [.int .u64 y.p, .int .i64 y.n, .int .i64 y.a]
theorem cellsV_cons (y : Pl) (L : List Pl) : cellsV (y :: L) = .int .u64 y.p :: .int .i64 y.n :: .int .i64 y.a :: cellsV L := by unfold cellsV; simp
theorem cellsV_len (L : List Pl) : (cellsV L).length = L.length * 3 := by
  induction L with
  | nil => rfl
  | cons y L ih => rw [cellsV_cons, List.length_cons, List.length_cons, List.length_cons, ih, List.length_cons]; omega
theorem cellsV_append (A B : List Pl) : cellsV (A ++ B) = cellsV A ++ cellsV B := by unfold cellsV; simp
theorem cellsV_one (L : List Pl) : ∀ v ∈ cellsV L, v.oneCell' = true := by
  induction L with
  | nil => intro v h; cases h
  | cons y L ih =>
    intro v h
    rw [cellsV_cons] at h
    rcases List.mem_cons.1 h with rfl | h
    · rfl
    rcases List.mem_cons.1 h with rfl | h
    · rfl
    rcases List.mem_cons.1 h with rfl | h
    · rfl
    exact ih v h
theorem cellsV_get (L : List Pl) : ∀ k, k < L.length → (cellsV L)[k * 3]? = some (.int .u64 (L.getD k Pl.zero).p) ∧ (cellsV L)[k * 3 + 1]? = some (.int .i64 (L.getD k Pl.zero).n) ∧ (cellsV L)[k * 3 + 2]? = some (.int .i64 (L.getD k Pl.zero).a) := by
  induction L with
  | nil => intro k h; simp at h
  | cons y L ih =>
    intro k h
    rw [cellsV_cons]
    cases k with
    | zero => exact ⟨rfl, rfl, rfl⟩
    | succ k =>
      obtain ⟨h1, h2, h3⟩ := ih k (by simpa using h)
      rw [show (k + 1) * 3 = k * 3 + 1 + 1 + 1 by omega]
      exact ⟨h1, h2, h3⟩
theorem cellsV_take (L : List Pl) : ∀ k, cellsV (L.take k) = (cellsV L).take (k * 3) := by
  induction L with
  | nil => intro k; simp [cellsV]
  | cons y L ih =>
    intro k
    cases k with
    | zero => simp [cellsV]
    | succ k => rw [List.take_succ_cons, cellsV_cons, cellsV_cons, ih, show (k + 1) * 3 = k * 3 + 1 + 1 + 1 by omega]; rfl
theorem cellsV_drop (L : List Pl) : ∀ k, cellsV (L.drop k) = (cellsV L).drop (k * 3) := by
  induction L with
  | nil => intro k; simp [cellsV]
  | cons y L ih =>
    intro k
    cases k with
    | zero => simp [cellsV]
    | succ k => rw [List.drop_succ_cons, cellsV_cons, ih, show (k + 1) * 3 = k * 3 + 1 + 1 + 1 by omega]; rfl
theorem cellsV_set (L : List Pl) : ∀ k y, k < L.length → cellsV (L.set k y) = (((cellsV L).set (k * 3) (.int .u64 y.p)).set (k * 3 + 1) (.int .i64 y.n)).set (k * 3 + 2) (.int .i64 y.a) := by
  induction L with
  | nil => intro k y h; simp at h
  | cons z L ih =>
    intro k y h
    cases k with
    | zero => rw [List.set_cons_zero, cellsV_cons, cellsV_cons]; rfl
    | succ k => rw [List.set_cons_succ, cellsV_cons, cellsV_cons, ih k y (by simpa using h), show (k + 1) * 3 = k * 3 + 1 + 1 + 1 by omega]; rfl
/- an own row of places, of the type T -/
abbrev OwnV (T : TypeId) (w : World) (B : Nat) (v : Value) (L : List Pl) : Prop := w.ownsRow B T 3 v L.length (cellsV L)
theorem own_nilV (T : TypeId) (w : World) (B : Nat) : OwnV T w B (.slice none 0 0) [] := owns_nil _ _ _ _
theorem OwnV.form {v : Value} (x : OwnV T w B v L) : ∃ aa ac, v = .slice aa L.length ac ∧ L.length ≤ ac ∧ ac ≤ 9223372036854775807 := by
  obtain ⟨aa, ac, e, l⟩ := owns_lies x
  exact ⟨aa, ac, e, l.2.1, l.2.2.1⟩
theorem OwnV.elem {v : Value} (x : OwnV T w B v L) (k : Nat) (hk : k < L.length) : ∃ h ac, v = .slice (some ⟨h, 0, none⟩) L.length ac ∧ w.cell? ⟨h, k * 3, none⟩ = some (.int .u64 (L.getD k Pl.zero).p) ∧ w.cell? ⟨h, k * 3 + 1, none⟩ = some (.int .i64 (L.getD k Pl.zero).n) ∧ w.cell? ⟨h, k * 3 + 2, none⟩ = some (.int .i64 (L.getD k Pl.zero).a) ∧ ∀ j, w.frozen? ⟨h, j, none⟩ = false := by
  rcases x.2 with ⟨_, e⟩ | ⟨h, cap, cur, e, hb, hg, hl, hm, hs, ht⟩
  · omega
  · obtain ⟨g0, g1, g2⟩ := cellsV_get L k hk
    have get : ∀ j, j < L.length * 3 → cur[j]? = (cellsV L)[j]? := fun j hj => by
      rw [← ht, List.getElem?_take, if_pos hj]; simp
    refine ⟨h, cap, e, ?_, ?_, ?_, fun j => frozen_of_row w h j _ _ hg⟩
    · rw [cell_of_row w h _ _ _ _ hg, get _ (by omega)]; exact g0
    · rw [cell_of_row w h _ _ _ _ hg, get _ (by omega)]; exact g1
    · rw [cell_of_row w h _ _ _ _ hg, get _ (by omega)]; exact g2
theorem OwnV.grow {v : Value} (x : OwnV T w B v L) (b : Below w.heap.size w w') : OwnV T w' B v L := owns_grow x b
/- one of a row is laid anew -/
theorem OwnV.set {v : Value} (x : OwnV T w B v L) (k : Nat) (hk : k < L.length) (h n ac : Nat) (e : v = .slice (some ⟨h, 0, none⟩) n ac) (y : Pl) : OwnV T (((w.setCell ⟨h, k * 3, none⟩ (.int .u64 y.p)).setCell ⟨h, k * 3 + 1, none⟩ (.int .i64 y.n)).setCell ⟨h, k * 3 + 2, none⟩ (.int .i64 y.a)) B v (L.set k y) := by
  rcases x.2 with ⟨_, e0⟩ | ⟨h', cap, cur, e', hb, hg, hl, hm, hs, ht⟩
  · omega
  · obtain rfl : h' = h := by rw [e] at e'; cases e'; rfl
    have h1 := heap_setCell_same w h' (k * 3) _ _ (.int .u64 y.p) hg
    have h2 := heap_setCell_same _ h' (k * 3 + 1) _ _ (.int .i64 y.n) h1
    have h3 := heap_setCell_same _ h' (k * 3 + 2) _ _ (.int .i64 y.a) h2
    refine ⟨by rw [cellsV_len], .inr ⟨h', cap, _, by rw [List.length_set]; exact e', hb, h3, by rw [List.length_set]; exact hl, hm, by simp [hs], ?_⟩⟩
    rw [List.length_set, cellsV_set L k y hk, ← ht]
    simp [List.take_set]
/- its first k -/
theorem OwnV.head {n c : Nat} {ao : Option Addr} (x : OwnV T w B (.slice ao n c) L) (k : Nat) (hk : k ≤ L.length) (h0 : 0 < L.length) : w.ownsRow B T 3 (.slice ao k c) k (cellsV (L.take k)) := by
  rcases x.2 with ⟨_, e0⟩ | ⟨h', cap, cur, e', hb, hg, hl, hm, hs, ht⟩
  · omega
  · cases e'
    refine ⟨by rw [cellsV_len, List.length_take]; congr 1; omega, .inr ⟨h', c, cur, rfl, hb, hg, by omega, hm, hs, ?_⟩⟩
    rw [cellsV_take, ← ht, List.take_take, Nat.min_eq_left (by omega)]
theorem Try.infoV : (Try.prog.info? 54).map (fun i => (i.zero, i.size, i.bytes)) = some (some (.agg #[.int .u64 0, .int .i64 0, .int .i64 0]), 3, 24) := by kernel_rfl
theorem Try.sizeOfV (w : World) : (sizeOf 54).run Try.prog w = .ok 3 w := by kernel_rfl
theorem Try.elemV : Try.prog.elem 49 = 54 := by simp [Program.elem, Try.underlying49]
theorem cut_tailV (w : World) (b n cap k : Nat) (h : k < n) (hc : n ≤ cap) : (Instr.slice 49 (.slice (some ⟨b, 0, none⟩) n cap) (some (.int .i64 (k : Int))) none none).run Try.prog w = .ok (.slice (some ⟨b, k * 3, none⟩) (n - k) (cap - k)) w := by
  have ht : Try.prog.underlying 49 = some (.slice (Try.prog.elem 49)) := by rw [Try.elemV]; exact Try.underlying49
  rw [run_slice_l (P := Try.prog) w 49 (some ⟨b, 0, none⟩) n cap ht .i64 (k : Int) (by omega) (by omega), Try.elemV, Try.sizeOfV]
  have h2 : cap ≠ k := by omega
  simp [Result.andThen, sliced, h2, add0]
theorem cut_headV (w : World) (ao : Option Addr) (n cap k : Nat) (h : k ≤ cap) : (Instr.slice 49 (.slice ao n cap) none (some (.int .i64 (k : Int))) none).run Try.prog w = .ok (.slice ao k cap) w := by
  have ht : Try.prog.underlying 49 = some (.slice (Try.prog.elem 49)) := by rw [Try.elemV]; exact Try.underlying49
  rw [run_slice_h (P := Try.prog) w 49 ao n cap ht .i64 (k : Int) (by omega) (by omega), Try.elemV, Try.sizeOfV]
  have hz : ao.map (fun x => x.add 0) = ao := by cases ao <;> simp [Addr.add]
  simp [Result.andThen, sliced, hz]
/- clear of a row's tail: what is ahead of it stays -/
theorem clear_tail {ty : TypeId} {n c : Nat} {h : Nat} (x : OwnV 54 w B (.slice (some ⟨h, 0, none⟩) n c) L) (k : Nat) (hk : k < n) :
    ∃ w', (Builtin.clear_ #[49] ty #[.slice (some ⟨h, k * 3, none⟩) (n - k) (c - k)]).run Try.prog w = .ok (.tuple #[]) w' ∧ w'.ownsRow B 54 3 (.slice (some ⟨h, 0, none⟩) k c) k (cellsV (L.take k)) ∧ Foot (fun j => j = h) w w' := by
  rcases x.2 with ⟨e0, _⟩ | ⟨h', cap, cur, e', hb, hg, hl, hm, hs, ht⟩
  · cases e0
  · cases e'
    have hz : (Builtin.zeroCells (Value.agg #[.int .u64 0, .int .i64 0, .int .i64 0]).cells (L.length - k)).toList.length = (L.length - k) * 3 := by simp [Builtin.zeroCells, Value.cells]
    have h1 : ∀ v ∈ (Builtin.zeroCells (Value.agg #[.int .u64 0, .int .i64 0, .int .i64 0]).cells (L.length - k)).toList, v.oneCell' = true := by
      intro v hv
      simp only [Builtin.zeroCells, Value.cells] at hv
      simp at hv
      obtain ⟨j, _, rfl⟩ := hv
      have : j % 3 = 0 ∨ j % 3 = 1 ∨ j % 3 = 2 := by omega
      rcases this with e | e | e
      · simp [e]; rfl
      · simp [e]; rfl
      · simp [e]; rfl
    have hst := run_storeCells_at (P := Try.prog) h (k * 3) 54 _ 0 cur w hg (by rw [hz, hs]; omega) h1
    obtain ⟨m, hm2⟩ : ∃ m, L.length - k = m + 1 := ⟨L.length - k - 1, by omega⟩
    have hv : ∀ w, (zeroValue 54).run Try.prog w = .ok (.agg #[.int .u64 0, .int .i64 0, .int .i64 0]) w := fun w => by kernel_rfl
    rw [hm2] at hst hz ⊢
    have hrun : (Builtin.clear_ #[49] ty #[.slice (some ⟨h, k * 3, none⟩) (m + 1) (c - k)]).run Try.prog w = ((storeCells ⟨h, k * 3, none⟩ (Builtin.zeroCells (Value.agg #[.int .u64 0, .int .i64 0, .int .i64 0]).cells (m + 1)).toList 0).run Try.prog w).andThen fun _ w => .ok (.tuple #[]) w := by
      simp [Builtin.clear_, run_underlying Try.underlying49, hv]
    rw [hst] at hrun
    obtain ⟨zs, hzs⟩ : ∃ zs, (Builtin.zeroCells (Value.agg #[.int .u64 0, .int .i64 0, .int .i64 0]).cells (m + 1)).toList = zs := ⟨_, rfl⟩
    rw [hzs] at hrun hz
    refine ⟨_, hrun, ⟨by rw [cellsV_len, List.length_take]; congr 1; omega, .inr ⟨h, c, _, rfl, hb, setRow_heap w h cur _ _ _ hg, by omega, hm, ?_, ?_⟩⟩, foot_row w h _⟩
    · simp [hz, hs]; omega
    · rw [cellsV_take, ← ht, List.take_take, Nat.min_eq_left (by omega)]
      show List.take (k * 3) (List.take (k * 3 + 0) cur.toList ++ zs ++ List.drop (k * 3 + 0 + zs.length) cur.toList) = _
      rw [Nat.add_zero, List.append_assoc, List.take_append_of_le_length (by simp [hs]; omega), List.take_take, Nat.min_self]
/- a map -/
structure Pm (w : World) (B g : Nat) (age : Int) (rv : Value) (L : List Pl) : Prop where
  box : w.heap[g]? = some (.cells #[.int .i64 age, rv] 51 (0, 0))
  row : OwnV 54 w B rv L
  low : B ≤ g
theorem Pm.lt (x : Pm w B g age rv L) : g < w.heap.size := lt_of_heap x.box
theorem Pm.size (x : Pm w B g age rv L) : B ≤ w.heap.size := Nat.le_trans x.low (Nat.le_of_lt x.lt)
theorem Pm.c0 (x : Pm w B g age rv L) : w.cell? ⟨g, 0, none⟩ = some (.int .i64 age) := by rw [cell_of_row w g _ _ _ _ x.box]; rfl
theorem Pm.c1 (x : Pm w B g age rv L) : w.cell? ⟨g, 1, none⟩ = some rv := by rw [cell_of_row w g _ _ _ _ x.box]; rfl
theorem Pm.z (x : Pm w B g age rv L) (j : Nat) : w.frozen? ⟨g, j, none⟩ = false := frozen_of_row w g j _ _ x.box
theorem Pm.off (x : Pm w B g age rv L) : rv.ownBlock ≠ some g := fun e => by
  obtain ⟨cur, h⟩ := owns_type x.row e
  exact two_types h x.box (by decide) rfl
theorem Pm.foot {S : Nat → Prop} (x : Pm w B g age rv L) (f : Foot S w w') (hg : ¬ S g) (hr : ∀ k, rv.ownBlock = some k → ¬ S k) : Pm w' B g age rv L :=
  ⟨(f.block g x.lt hg).trans x.box, owns_foot x.row f hr, x.low⟩
theorem Pm.grow (x : Pm w B g age rv L) (b : Below w.heap.size w w') : Pm w' B g age rv L := x.foot (below_foot (fun _ => False) b) id (fun _ _ => id)
/- the row is laid anew -/
theorem Pm.put {v : Value} {M : List Pl} {n : Nat} (x : Pm w B g age rv L) (h : w.ownsRow B 54 3 v n (cellsV M)) : Pm (w.setCell ⟨g, 1, none⟩ v) B g age v M := by
  have hn : n = M.length := by have := h.1; rw [cellsV_len] at this; omega
  subst hn
  refine ⟨?_, owns_foot h (foot_set w ⟨g, 1, none⟩ v) (fun k e (e2 : k = g) => ?_), x.low⟩
  · rw [heap_setCell_same w g 1 _ _ v x.box]; rfl
  · subst e2
    obtain ⟨cur, hh⟩ := owns_type h e
    exact two_types hh x.box (by decide) rfl
theorem pm_new (w : World) (age : Int) : Pm (w.alloc (.cells #[.int .i64 age, .slice none 0 0] 51)) w.heap.size w.heap.size age (.slice none 0 0) [] :=
  ⟨heap_alloc_new _ _, own_nilV _ _ _, Nat.le_refl _⟩
/- what a deed leaves: no block but the map's own has turned -/
def PmEnd (w : World) (B g : Nat) (age : Int) (L : List Pl) (w' : World) : Prop := ∃ rv', Pm w' B g age rv' L ∧ Foot (fun j => j = g) w w'
theorem Pm.same (x : Pm w B g age rv L) (b : Below w.heap.size w w') : PmEnd w B g age L w' := ⟨rv, x.grow b, below_foot _ b⟩
theorem Pm.put_end {w1 : World} {v : Value} {M : List Pl} {n b : Nat} (x : Pm w B g age rv L) (h : w1.ownsRow b 54 3 v n (cellsV M)) (hb : B ≤ b) (bl : Below w.heap.size w w1) : PmEnd w B g age M (w1.setCell ⟨g, 1, none⟩ v) :=
  ⟨v, (x.grow bl).put (owns_base h hb), (below_foot _ bl).then (foot_set w1 ⟨g, 1, none⟩ v)⟩
theorem PmEnd.from {w0 : World} (h : PmEnd w B g age L w') (b : Below w0.heap.size w0 w) : PmEnd w0 B g age L w' := by
  obtain ⟨v, x, f⟩ := h
  exact ⟨v, x, (below_foot _ b).then f⟩
theorem PmEnd.to {w2 : World} (h : PmEnd w B g age L w') (b : Below w'.heap.size w' w2) : PmEnd w B g age L w2 := by
  obtain ⟨v, x, f⟩ := h
  exact ⟨v, x.grow b, f.then (below_foot _ b)⟩
theorem PmEnd.below {w0 : World} (h : PmEnd w B g age L w') (b : Below w0.heap.size w0 w) (hg : w0.heap.size ≤ g) : ∃ v, Pm w' B g age v L ∧ Below w0.heap.size w0 w' := by
  obtain ⟨v, x, f⟩ := h
  exact ⟨v, x, b.trans (f.below b.size (fun k e => by omega))⟩
end Go.Proofs.Ytlpjaklhmnbpeaa
