/-
  Requests that were taken, in memory: a Served of them; what stays of it when other memory turns.
-/
import Derived.Test.YtnkfdnmaocfjnaaDoorMRow
namespace Go.Proofs.YtnkfdnmaocfjnaaDoor
open Go.RowKit
def erN (k : Int) : Value := if k = 0 then .nilIface else .iface 50 (.int .i64 k)
theorem erN_zero : erN 0 = .nilIface := rfl
theorem erN_not {k : Int} (h : k ≠ 0) : erN k = .iface 50 (.int .i64 k) := if_neg h
/- where data lies that is one's own: in a block of bytes -/
def OwnD (w : World) (x : Ms) : Prop := 0 < x.sn → ∀ ad, x.so = some ad → ∃ cur, w.heap[ad.block]? = some (.cells cur 5 (0, 0))
theorem OwnD.grow {w w' : World} {x : Ms} (h : OwnD w x) (b : Below w.heap.size w w') : OwnD w' x := fun hn ad e => by
  obtain ⟨cur, hc⟩ := h hn ad e
  exact ⟨cur, (b.block _ (lt_of_heap hc)).trans hc⟩
theorem OwnD.foot {S : Nat → Prop} {w w' : World} {x : Ms} (h : OwnD w x) (f : Foot S w w') (hS : ∀ k cur, w.heap[k]? = some (.cells cur 5 (0, 0)) → ¬ S k) : OwnD w' x := fun hn ad e => by
  obtain ⟨cur, hc⟩ := h hn ad e
  exact ⟨cur, (f.block _ (lt_of_heap hc) (hS _ _ hc)).trans hc⟩
theorem OwnD.has {S : Nat → Prop} {w w' : World} {x : Ms} (h : OwnD w x) (k : x.has w) (f : Foot S w w') (hS : ∀ k cur, w.heap[k]? = some (.cells cur 5 (0, 0)) → ¬ S k) : x.has w' := by
  refine ⟨k.1, k.2.1, k.2.2.1, k.2.2.2.1, fun ad e j hj => ?_⟩
  have hc := k.2.2.2.2 ad e j hj
  obtain ⟨cur, ht⟩ := h (by have := k.1; omega) ad e
  rw [f.cell _ (lt_of_cell hc) (by rw [add_block]; exact hS _ _ ht), hc]
theorem own_zero (w : World) : OwnD w Ms.zero := fun h => absurd h (by show ¬ 0 < 0; omega)
theorem has_zero (w : World) : Ms.zero.has w := bts_nil w
/- a request: the port and the number it is told by, has it a reply, its reply -/
structure Rq where
  p : Int
  i : Int
  b : Bool
  m : Ms
def Rq.zero : Rq := ⟨0, 0, false, Ms.zero⟩
def Rq.cells (x : Rq) : List Value := [.int .u64 x.p, .int .u32 x.i, .bool x.b, .int .u64 x.m.ta, .int .u64 x.m.rp, .int .u32 x.m.id, .int .u16 x.m.op, .int .u16 x.m.st, .int .u64 x.m.p, .int .u32 x.m.o, .int .u8 x.m.r, .int .u64 x.m.c, .int .u64 x.m.ar, .slice x.m.so x.m.sn x.m.sc]
def Rq.nm (x : Rq) : Rq := ⟨x.p, x.i, x.b, x.m.nm⟩
def rq (T : List Rq) (j : Nat) : Rq := T.getD j Rq.zero
theorem rq_mem (T : List Rq) (j : Nat) (h : j < T.length) : rq T j ∈ T := by
  unfold rq; rw [List.getD_eq_getElem?_getD, List.getElem?_eq_getElem h]; exact List.getElem_mem h
theorem rq_nm (T : List Rq) (j : Nat) : rq (T.map Rq.nm) j = (rq T j).nm := by
  unfold rq
  rw [List.getD_eq_getElem?_getD, List.getD_eq_getElem?_getD, List.getElem?_map]
  cases T[j]? <;> rfl
theorem rq_snoc (T : List Rq) (x : Rq) (j : Nat) : rq (T ++ [x]) j = if j = T.length then x else rq T j := by
  unfold rq
  rw [List.getD_eq_getElem?_getD, List.getD_eq_getElem?_getD]
  by_cases h : j = T.length
  · subst h; simp
  · rw [if_neg h]
    by_cases h2 : j < T.length
    · rw [List.getElem?_append_left h2]
    · rw [List.getElem?_eq_none (by simp; omega), List.getElem?_eq_none (by omega)]
theorem rq_set (T : List Rq) (x : Rq) (k j : Nat) (hk : k < T.length) : rq (T.set k x) j = if j = k then x else rq T j := by
  unfold rq
  rw [List.getD_eq_getElem?_getD, List.getD_eq_getElem?_getD, List.getElem?_set]
  by_cases h : k = j
  · subst h; simp [hk]
  · rw [if_neg h, if_neg (fun e => h e.symm)]
theorem rq_erase (T : List Rq) (k j : Nat) : rq (T.eraseIdx k) j = if j < k then rq T j else rq T (j + 1) := by
  unfold rq
  rw [List.getD_eq_getElem?_getD, List.getElem?_eraseIdx]
  split <;> rw [List.getD_eq_getElem?_getD]
theorem mem_set {T : List Rq} {x y : Rq} {k : Nat} (h : y ∈ T.set k x) : y ∈ T ∨ y = x := by
  rcases List.mem_or_eq_of_mem_set h with h | h
  · exact .inl h
  · exact .inr h
theorem erase_nm (T : List Rq) (k : Nat) : (T.eraseIdx k).map Rq.nm = (T.map Rq.nm).eraseIdx k := by
  rw [List.eraseIdx_eq_take_drop_succ, List.eraseIdx_eq_take_drop_succ, List.map_append, List.map_take, List.map_drop]
/- the cells of a Served -/
structure StC (C : Array Value) (T : List Rq) : Prop where
  size : C.size = 449
  b : C[448]? = some (.int .i64 (T.length : Int))
  c : ∀ j f, j < T.length → f < 14 → C[j * 14 + f]? = (rq T j).cells[f]?
structure Sv (w : World) (g : Nat) (T : List Rq) : Prop where
  box : ∃ C, w.heap[g]? = some (.cells C 37 (0, 0)) ∧ StC C T
  few : T.length ≤ 32
  has : ∀ x ∈ T, x.m.has w ∧ OwnD w x.m ∧ x.m.sn ≤ 140737488355328
variable {w w' : World} {g : Nat} {T : List Rq}
theorem Sv.lt (x : Sv w g T) : g < w.heap.size := by obtain ⟨C, h, _⟩ := x.box; exact lt_of_heap h
theorem Sv.cm (x : Sv w g T) : w.cell? ⟨g, 448, none⟩ = some (.int .i64 (T.length : Int)) := by
  obtain ⟨C, h, c⟩ := x.box; rw [cell_of_row w g _ _ _ _ h]; exact c.b
theorem Sv.at (x : Sv w g T) (k : Nat) (hk : k < T.length) (y : Rq) (hy : rq T k = y) : (w.cell? ⟨g, k * 14, none⟩ = some (.int .u64 y.p) ∧ w.cell? ⟨g, k * 14 + 1, none⟩ = some (.int .u32 y.i) ∧ w.cell? ⟨g, k * 14 + 2, none⟩ = some (.bool y.b) ∧ w.cell? ⟨g, k * 14 + 3, none⟩ = some (.int .u64 y.m.ta) ∧ w.cell? ⟨g, k * 14 + 4, none⟩ = some (.int .u64 y.m.rp) ∧ w.cell? ⟨g, k * 14 + 5, none⟩ = some (.int .u32 y.m.id) ∧ w.cell? ⟨g, k * 14 + 6, none⟩ = some (.int .u16 y.m.op) ∧ w.cell? ⟨g, k * 14 + 7, none⟩ = some (.int .u16 y.m.st) ∧ w.cell? ⟨g, k * 14 + 8, none⟩ = some (.int .u64 y.m.p) ∧ w.cell? ⟨g, k * 14 + 9, none⟩ = some (.int .u32 y.m.o) ∧ w.cell? ⟨g, k * 14 + 10, none⟩ = some (.int .u8 y.m.r) ∧ w.cell? ⟨g, k * 14 + 11, none⟩ = some (.int .u64 y.m.c) ∧ w.cell? ⟨g, k * 14 + 12, none⟩ = some (.int .u64 y.m.ar) ∧ w.cell? ⟨g, k * 14 + 13, none⟩ = some (.slice y.m.so y.m.sn y.m.sc)) := by
  obtain ⟨C, h, c⟩ := x.box
  subst hy
  have e : ∀ f, f < 14 → C[k * 14 + f]? = (rq T k).cells[f]? := fun f hf => c.c k f hk hf
  refine ⟨?_, ?_, ?_, ?_, ?_, ?_, ?_, ?_, ?_, ?_, ?_, ?_, ?_, ?_⟩ <;> rw [cell_of_row w g _ _ _ _ h]
  · exact e 0 (by omega)
  · exact e 1 (by omega)
  · exact e 2 (by omega)
  · exact e 3 (by omega)
  · exact e 4 (by omega)
  · exact e 5 (by omega)
  · exact e 6 (by omega)
  · exact e 7 (by omega)
  · exact e 8 (by omega)
  · exact e 9 (by omega)
  · exact e 10 (by omega)
  · exact e 11 (by omega)
  · exact e 12 (by omega)
  · exact e 13 (by omega)
/- any cell of it is there -/
theorem Sv.any (x : Sv w g T) (j : Nat) (hj : j < 449) : ∃ v, w.cell? ⟨g, j, none⟩ = some v := by
  obtain ⟨C, h, c⟩ := x.box
  rw [cell_of_row w g _ _ _ _ h]
  exact ⟨_, Array.getElem?_eq_getElem (by have := c.size; omega)⟩
theorem Sv.z (x : Sv w g T) (j : Nat) : w.frozen? ⟨g, j, none⟩ = false := by
  obtain ⟨C, h, c⟩ := x.box; exact frozen_of_row w g j _ _ h
/- what turns is neither its block nor one of bytes -/
theorem Sv.foot {S : Nat → Prop} (x : Sv w g T) (f : Foot S w w') (hS : ∀ k cur t, w.heap[k]? = some (.cells cur t (0, 0)) → t = 37 ∨ t = 5 → ¬ S k) : Sv w' g T := by
  obtain ⟨C, h, c⟩ := x.box
  have h8 : ∀ k cur, w.heap[k]? = some (.cells cur 5 (0, 0)) → ¬ S k := fun k cur e => hS k cur _ e (.inr rfl)
  exact ⟨⟨C, (f.block g (lt_of_heap h) (hS g C _ h (.inl rfl))).trans h, c⟩, x.few, fun y hy => ⟨(x.has y hy).2.1.has (x.has y hy).1 f h8, (x.has y hy).2.1.foot f h8, (x.has y hy).2.2⟩⟩
theorem Sv.grow (x : Sv w g T) (b : Below w.heap.size w w') : Sv w' g T := x.foot (below_foot (fun _ => False) b) (fun _ _ _ _ _ => id)
theorem Sv.drewN (x : Sv w g T) (q : Nat) : Sv (w.drewN q) g T := x.grow (below_d w q)
/- a Served, without where its replies' data lies -/
def St (w : World) (g : Nat) (L : List Rq) : Prop := ∃ T, Sv w g T ∧ T.map Rq.nm = L
variable {L : List Rq}
theorem St.grow (h : St w g L) (b : Below w.heap.size w w') : St w' g L := by
  obtain ⟨T, h1, h2⟩ := h; exact ⟨T, h1.grow b, h2⟩
theorem St.foot {S : Nat → Prop} (h : St w g L) (f : Foot S w w') (hS : ∀ k cur t, w.heap[k]? = some (.cells cur t (0, 0)) → t = 37 ∨ t = 5 → ¬ S k) : St w' g L := by
  obtain ⟨T, h1, h2⟩ := h; exact ⟨T, h1.foot f hS, h2⟩
theorem St.lt (h : St w g L) : g < w.heap.size := by obtain ⟨T, h1, h2⟩ := h; exact h1.lt
theorem St.few (h : St w g L) : L.length ≤ 32 := by obtain ⟨T, h1, rfl⟩ := h; rw [List.length_map]; exact h1.few
theorem St.type (h : St w g L) : ∃ cur, w.heap[g]? = some (.cells cur 37 (0, 0)) := by
  obtain ⟨T, h1, _⟩ := h; obtain ⟨C, h2, _⟩ := h1.box; exact ⟨C, h2⟩
theorem foot_on {w0 : World} (b : Below w0.heap.size w0 w) (hg : w0.heap.size ≤ g) (f : Foot (· = g) w w') : Below w0.heap.size w0 w' := b.trans (f.below b.size (fun k e => by omega))
/- what a deed leaves: no block but its own has turned -/
def StEnd (w : World) (g : Nat) (L : List Rq) (w' : World) : Prop := St w' g L ∧ Foot (· = g) w w'
theorem StEnd.from {w0 : World} (h : StEnd w g L w') (b : Below w0.heap.size w0 w) : StEnd w0 g L w' := ⟨h.1, (below_foot _ b).then h.2⟩
theorem StEnd.to {w2 : World} (h : StEnd w g L w') (b : Below w'.heap.size w' w2) : StEnd w g L w2 := ⟨h.1.grow b, h.2.then (below_foot _ b)⟩
theorem StEnd.below {w0 : World} (h : StEnd w g L w') (b : Below w0.heap.size w0 w) (hg : w0.heap.size ≤ g) : St w' g L ∧ Below w0.heap.size w0 w' := ⟨h.1, foot_on b hg h.2⟩
theorem set_get (C : Array Value) (i j : Nat) (v : Value) (hi : i < C.size) : (C.setIfInBounds i v)[j]? = if j = i then some v else C[j]? := by
  rw [Array.getElem?_setIfInBounds]
  by_cases e : i = j
  · subst e; simp [hi]
  · rw [if_neg e, if_neg (fun x => e x.symm)]
/- cells are laid anew -/
def setC (C : Array Value) (o : Nat) (l : List Value) : Array Value :=
  match l with
  | [] => C
  | v :: r => setC (C.setIfInBounds o v) (o + 1) r
theorem setC_size (l : List Value) : ∀ (C : Array Value) (o : Nat), (setC C o l).size = C.size := by
  induction l with
  | nil => intro C o; rfl
  | cons v r ih => intro C o; rw [setC, ih]; simp
theorem setC_get (l : List Value) : ∀ (C : Array Value) (o j : Nat), o + l.length ≤ C.size → (setC C o l)[j]? = if o ≤ j ∧ j < o + l.length then l[j - o]? else C[j]? := by
  induction l with
  | nil => intro C o j _; rw [setC, if_neg (by simp only [List.length_nil]; omega)]
  | cons v r ih =>
    intro C o j h
    rw [List.length_cons] at h ⊢
    rw [setC, ih _ _ _ (by simp; omega), set_get _ _ _ _ (by omega)]
    by_cases h1 : o + 1 ≤ j ∧ j < o + 1 + r.length
    · rw [if_pos h1, if_pos (by omega), show j - o = (j - (o + 1)) + 1 by omega, List.getElem?_cons_succ]
    · rw [if_neg h1]
      by_cases h2 : j = o
      · subst h2; rw [if_pos rfl, if_pos (by omega), Nat.sub_self]; rfl
      · rw [if_neg h2, if_neg (by omega)]
def lay14 (w : World) (g o : Nat) (y : Rq) : World := ((((((((((((((w.setCell ⟨g, o, none⟩ (.int .u64 y.p)).setCell ⟨g, o + 1, none⟩ (.int .u32 y.i)).setCell ⟨g, o + 2, none⟩ (.bool y.b)).setCell ⟨g, o + 3, none⟩ (.int .u64 y.m.ta)).setCell ⟨g, o + 4, none⟩ (.int .u64 y.m.rp)).setCell ⟨g, o + 5, none⟩ (.int .u32 y.m.id)).setCell ⟨g, o + 6, none⟩ (.int .u16 y.m.op)).setCell ⟨g, o + 7, none⟩ (.int .u16 y.m.st)).setCell ⟨g, o + 8, none⟩ (.int .u64 y.m.p)).setCell ⟨g, o + 9, none⟩ (.int .u32 y.m.o)).setCell ⟨g, o + 10, none⟩ (.int .u8 y.m.r)).setCell ⟨g, o + 11, none⟩ (.int .u64 y.m.c)).setCell ⟨g, o + 12, none⟩ (.int .u64 y.m.ar)).setCell ⟨g, o + 13, none⟩ (.slice y.m.so y.m.sn y.m.sc))
theorem foot_lay14 (w : World) (g o : Nat) (y : Rq) : Foot (fun j => j = g) w (lay14 w g o y) := by
  unfold lay14
  exact ((((((((((((((Foot.refl _ w).put _ _).put _ _).put _ _).put _ _).put _ _).put _ _).put _ _).put _ _).put _ _).put _ _).put _ _).put _ _).put _ _).put _ _
theorem lay14_heap {C : Array Value} {t : TypeId} (h : w.heap[g]? = some (.cells C t (0, 0))) (o : Nat) (y : Rq) : (lay14 w g o y).heap[g]? = some (.cells (setC C o y.cells) t (0, 0)) := by
  have h1 := heap_setCell_same w g o _ _ (.int .u64 y.p) h
  have h2 := heap_setCell_same _ g (o + 1) _ _ (.int .u32 y.i) h1
  have h3 := heap_setCell_same _ g (o + 2) _ _ (.bool y.b) h2
  have h4 := heap_setCell_same _ g (o + 3) _ _ (.int .u64 y.m.ta) h3
  have h5 := heap_setCell_same _ g (o + 4) _ _ (.int .u64 y.m.rp) h4
  have h6 := heap_setCell_same _ g (o + 5) _ _ (.int .u32 y.m.id) h5
  have h7 := heap_setCell_same _ g (o + 6) _ _ (.int .u16 y.m.op) h6
  have h8 := heap_setCell_same _ g (o + 7) _ _ (.int .u16 y.m.st) h7
  have h9 := heap_setCell_same _ g (o + 8) _ _ (.int .u64 y.m.p) h8
  have h10 := heap_setCell_same _ g (o + 9) _ _ (.int .u32 y.m.o) h9
  have h11 := heap_setCell_same _ g (o + 10) _ _ (.int .u8 y.m.r) h10
  have h12 := heap_setCell_same _ g (o + 11) _ _ (.int .u64 y.m.c) h11
  have h13 := heap_setCell_same _ g (o + 12) _ _ (.int .u64 y.m.ar) h12
  have h14 := heap_setCell_same _ g (o + 13) _ _ (.slice y.m.so y.m.sn y.m.sc) h13
  exact h14
/- a reply is laid: it has one now, and its eleven cells -/
def layR (w : World) (g o : Nat) (y : Ms) : World := (((((((((((w.setCell ⟨g, o + 3, none⟩ (.int .u64 y.ta)).setCell ⟨g, o + 4, none⟩ (.int .u64 y.rp)).setCell ⟨g, o + 5, none⟩ (.int .u32 y.id)).setCell ⟨g, o + 6, none⟩ (.int .u16 y.op)).setCell ⟨g, o + 7, none⟩ (.int .u16 y.st)).setCell ⟨g, o + 8, none⟩ (.int .u64 y.p)).setCell ⟨g, o + 9, none⟩ (.int .u32 y.o)).setCell ⟨g, o + 10, none⟩ (.int .u8 y.r)).setCell ⟨g, o + 11, none⟩ (.int .u64 y.c)).setCell ⟨g, o + 12, none⟩ (.int .u64 y.ar)).setCell ⟨g, o + 13, none⟩ (.slice y.so y.sn y.sc))
theorem foot_layR (w : World) (g o : Nat) (y : Ms) : Foot (fun j => j = g) w (layR w g o y) := by
  unfold layR
  exact (((((((((((Foot.refl _ w).put _ _).put _ _).put _ _).put _ _).put _ _).put _ _).put _ _).put _ _).put _ _).put _ _).put _ _
theorem layR_heap {C : Array Value} {t : TypeId} (h : w.heap[g]? = some (.cells C t (0, 0))) (o : Nat) (y : Ms) : (layR w g o y).heap[g]? = some (.cells (setC C (o + 3) y.cells) t (0, 0)) := by
  have h4 := heap_setCell_same w g (o + 3) _ _ (.int .u64 y.ta) h
  have h5 := heap_setCell_same _ g (o + 4) _ _ (.int .u64 y.rp) h4
  have h6 := heap_setCell_same _ g (o + 5) _ _ (.int .u32 y.id) h5
  have h7 := heap_setCell_same _ g (o + 6) _ _ (.int .u16 y.op) h6
  have h8 := heap_setCell_same _ g (o + 7) _ _ (.int .u16 y.st) h7
  have h9 := heap_setCell_same _ g (o + 8) _ _ (.int .u64 y.p) h8
  have h10 := heap_setCell_same _ g (o + 9) _ _ (.int .u32 y.o) h9
  have h11 := heap_setCell_same _ g (o + 10) _ _ (.int .u8 y.r) h10
  have h12 := heap_setCell_same _ g (o + 11) _ _ (.int .u64 y.c) h11
  have h13 := heap_setCell_same _ g (o + 12) _ _ (.int .u64 y.ar) h12
  have h14 := heap_setCell_same _ g (o + 13) _ _ (.slice y.so y.sn y.sc) h13
  exact h14
/- a request is laid behind all, and counted -/
theorem Sv.snoc (x : Sv w g T) (hk : T.length < 32) (y : Rq) (hy : y.m.has w ∧ OwnD w y.m ∧ y.m.sn ≤ 140737488355328) : Sv ((lay14 w g (T.length * 14) y).setCell ⟨g, 448, none⟩ (.int .i64 ((T.length : Int) + 1))) g (T ++ [y]) := by
  obtain ⟨C, h, c⟩ := x.box
  have f := (foot_lay14 w g (T.length * 14) y).then (foot_set _ ⟨g, 448, none⟩ (.int .i64 ((T.length : Int) + 1)))
  have nb : ∀ k cur, w.heap[k]? = some (.cells cur 5 (0, 0)) → ¬ k = g := fun k cur e i => by
    rw [i, h] at e; cases e
  have hs := c.size
  have ln : y.cells.length = 14 := rfl
  have get := fun j => setC_get y.cells C (T.length * 14) j (by rw [ln]; omega)
  rw [ln] at get
  refine ⟨⟨_, heap_setCell_same _ g 448 _ _ _ (lay14_heap h _ y), ?_⟩, by simp; omega, fun z hz => ?_⟩
  · have get3 := fun j => set_get (setC C (T.length * 14) y.cells) 448 j (.int .i64 ((T.length : Int) + 1)) (by rw [setC_size]; omega)
    refine ⟨by simp [setC_size, hs], ?_, fun j f hj hf => ?_⟩
    · rw [get3, if_pos rfl]; simp
    · rw [List.length_append, List.length_singleton] at hj
      rw [get3, if_neg (by omega), get, rq_snoc]
      by_cases e : j = T.length
      · subst e; rw [if_pos (by omega), if_pos rfl, show T.length * 14 + f - T.length * 14 = f by omega]
      · rw [if_neg (by omega), if_neg e]; exact c.c j f (by omega) hf
  · have hz' : z.m.has w ∧ OwnD w z.m ∧ z.m.sn ≤ 140737488355328 := by
      rcases List.mem_append.1 hz with h | h
      · exact x.has z h
      · rw [List.mem_singleton.1 h]; exact hy
    exact ⟨hz'.2.1.has hz'.1 f nb, hz'.2.1.foot f nb, hz'.2.2⟩
/- a request gets its reply -/
theorem Sv.flag (x : Sv w g T) (k : Nat) (hk : k < T.length) (p i : Int) (b : Bool) (m : Ms) (hy : rq T k = ⟨p, i, b, m⟩) : Sv (w.setCell ⟨g, k * 14 + 2, none⟩ (.bool true)) g (T.set k ⟨p, i, true, m⟩) := by
  obtain ⟨C, h, c⟩ := x.box
  have ft := foot_set w ⟨g, k * 14 + 2, none⟩ (.bool true)
  have nb : ∀ k cur, w.heap[k]? = some (.cells cur 5 (0, 0)) → ¬ k = g := fun k cur e i => by
    rw [i, h] at e; cases e
  have hs := c.size
  have hf := x.few
  have get := fun j => set_get C (k * 14 + 2) j (.bool true) (by omega)
  refine ⟨⟨_, heap_setCell_same _ g (k * 14 + 2) _ _ _ h, by simp [hs], ?_, fun j f hj hf => ?_⟩, by simpa using x.few, fun z hz => ?_⟩
  · rw [get, if_neg (by omega), List.length_set]; exact c.b
  · rw [List.length_set] at hj
    rw [get, rq_set T _ k j hk]
    have e := c.c j f hj hf
    by_cases ej : j = k
    · subst ej
      rw [if_pos rfl]
      rw [hy] at e
      by_cases ef : f = 2
      · subst ef; rw [if_pos rfl]; rfl
      · rw [if_neg (by omega), e]
        match f, ef, hf with
        | 0, _, _ | 1, _, _ | 3, _, _ | 4, _, _ | 5, _, _ | 6, _, _ | 7, _, _ | 8, _, _ | 9, _, _ | 10, _, _ | 11, _, _ | 12, _, _ | 13, _, _ => rfl
    · rw [if_neg ej, if_neg (by omega)]; exact e
  · have hz' : z.m.has w ∧ OwnD w z.m ∧ z.m.sn ≤ 140737488355328 := by
      rcases mem_set hz with h | rfl
      · exact x.has z h
      · have := x.has _ (rq_mem T k hk)
        rw [hy] at this
        exact this
    exact ⟨hz'.2.1.has hz'.1 ft nb, hz'.2.1.foot ft nb, hz'.2.2⟩
theorem Sv.reply (x : Sv w g T) (k : Nat) (hk : k < T.length) (p i : Int) (b : Bool) (m : Ms) (hy : rq T k = ⟨p, i, b, m⟩) (y : Ms) (hm : y.has w ∧ OwnD w y ∧ y.sn ≤ 140737488355328) : Sv (layR w g (k * 14) y) g (T.set k ⟨p, i, b, y⟩) := by
  obtain ⟨C, h, c⟩ := x.box
  have ft := foot_layR w g (k * 14) y
  have nb : ∀ k cur, w.heap[k]? = some (.cells cur 5 (0, 0)) → ¬ k = g := fun k cur e i => by
    rw [i, h] at e; cases e
  have hs := c.size
  have hf := x.few
  have ln : y.cells.length = 11 := rfl
  have get := fun j => setC_get y.cells C (k * 14 + 3) j (by rw [ln]; omega)
  rw [ln] at get
  refine ⟨⟨_, layR_heap h _ y, by rw [setC_size]; exact hs, ?_, fun j f hj hf => ?_⟩, by simpa using x.few, fun z hz => ?_⟩
  · rw [get, if_neg (by omega), List.length_set]; exact c.b
  · rw [List.length_set] at hj
    rw [get, rq_set T _ k j hk]
    have e := c.c j f hj hf
    by_cases ej : j = k
    · subst ej
      rw [if_pos rfl]
      rw [hy] at e
      by_cases ef : f < 3
      · rw [if_neg (by omega), e]
        match f, ef with
        | 0, _ | 1, _ | 2, _ => rfl
      · rw [if_pos (by omega), show j * 14 + f - (j * 14 + 3) = f - 3 by omega]
        match f, ef, hf with
        | 3, _, _ | 4, _, _ | 5, _, _ | 6, _, _ | 7, _, _ | 8, _, _ | 9, _, _ | 10, _, _ | 11, _, _ | 12, _, _ | 13, _, _ => rfl
    · rw [if_neg ej, if_neg (by omega)]; exact e
  · have hz' : z.m.has w ∧ OwnD w z.m ∧ z.m.sn ≤ 140737488355328 := by
      rcases mem_set hz with h | rfl
      · exact x.has z h
      · exact hm
    exact ⟨hz'.2.1.has hz'.1 ft nb, hz'.2.1.foot ft nb, hz'.2.2⟩
/- a request in a variable -/
def BoxR (w : World) (g : Nat) (x : Rq) : Prop := w.heap[g]? = some (.cells #[.int .u64 x.p, .int .u32 x.i, .bool x.b, .int .u64 x.m.ta, .int .u64 x.m.rp, .int .u32 x.m.id, .int .u16 x.m.op, .int .u16 x.m.st, .int .u64 x.m.p, .int .u32 x.m.o, .int .u8 x.m.r, .int .u64 x.m.c, .int .u64 x.m.ar, .slice x.m.so x.m.sn x.m.sc] 34 (0, 0))
theorem BoxR.all {x : Rq} (h : BoxR w g x) : (w.cell? ⟨g, 0, none⟩ = some (.int .u64 x.p) ∧ w.cell? ⟨g, 1, none⟩ = some (.int .u32 x.i) ∧ w.cell? ⟨g, 2, none⟩ = some (.bool x.b) ∧ w.cell? ⟨g, 3, none⟩ = some (.int .u64 x.m.ta) ∧ w.cell? ⟨g, 4, none⟩ = some (.int .u64 x.m.rp) ∧ w.cell? ⟨g, 5, none⟩ = some (.int .u32 x.m.id) ∧ w.cell? ⟨g, 6, none⟩ = some (.int .u16 x.m.op) ∧ w.cell? ⟨g, 7, none⟩ = some (.int .u16 x.m.st) ∧ w.cell? ⟨g, 8, none⟩ = some (.int .u64 x.m.p) ∧ w.cell? ⟨g, 9, none⟩ = some (.int .u32 x.m.o) ∧ w.cell? ⟨g, 10, none⟩ = some (.int .u8 x.m.r) ∧ w.cell? ⟨g, 11, none⟩ = some (.int .u64 x.m.c) ∧ w.cell? ⟨g, 12, none⟩ = some (.int .u64 x.m.ar) ∧ w.cell? ⟨g, 13, none⟩ = some (.slice x.m.so x.m.sn x.m.sc)) := by
  refine ⟨?_, ?_, ?_, ?_, ?_, ?_, ?_, ?_, ?_, ?_, ?_, ?_, ?_, ?_⟩ <;> (rw [cell_of_row w g _ _ _ _ h]; rfl)
theorem BoxR.grow {x : Rq} (h : BoxR w g x) (b : Below w.heap.size w w') : BoxR w' g x := (b.block g (lt_of_heap h)).trans h
theorem boxR_new (w : World) (x : Rq) : BoxR (w.alloc (.cells #[.int .u64 x.p, .int .u32 x.i, .bool x.b, .int .u64 x.m.ta, .int .u64 x.m.rp, .int .u32 x.m.id, .int .u16 x.m.op, .int .u16 x.m.st, .int .u64 x.m.p, .int .u32 x.m.o, .int .u8 x.m.r, .int .u64 x.m.c, .int .u64 x.m.ar, .slice x.m.so x.m.sn x.m.sc] 34)) w.heap.size x := heap_alloc_new _ _
theorem size_al (w : World) (o : Obj) : (w.alloc o).heap.size = w.heap.size + 1 := by simp
end Go.Proofs.YtnkfdnmaocfjnaaDoor
