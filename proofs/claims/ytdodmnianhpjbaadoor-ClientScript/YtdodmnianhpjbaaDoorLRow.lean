/-
  Calls that wait for their replies, in memory: a client of them; what stays of it when other memory turns.
-/
import Derived.Test.YtdodmnianhpjbaaDoorMRow
namespace Go.Proofs.YtdodmnianhpjbaaDoor
open Go.RowKit
def erN (k : Int) : Value := if k = 0 then .nilIface else .iface 42 (.int .i64 k)
theorem erN_zero : erN 0 = .nilIface := rfl
theorem erN_not {k : Int} (h : k ≠ 0) : erN k = .iface 42 (.int .i64 k) := if_neg h
/- where data lies that is one's own: in a block of bytes -/
def OwnD (w : World) (x : Ms) : Prop := 0 < x.sn → ∀ ad, x.so = some ad → ∃ cur, w.heap[ad.block]? = some (.cells cur 5 (0, 0))
theorem OwnD.grow {w w' : World} {x : Ms} (h : OwnD w x) (b : Below w.heap.size w w') : OwnD w' x := fun hn ad e => by
  obtain ⟨cur, hc⟩ := h hn ad e
  exact ⟨cur, (b.block _ (lt_of_heap hc)).trans hc⟩
theorem OwnD.foot {S : Nat → Prop} {w w' : World} {x : Ms} (h : OwnD w x) (f : Foot S w w') (hS : ∀ k cur, w.heap[k]? = some (.cells cur 5 (0, 0)) → ¬ S k) : OwnD w' x := fun hn ad e => by
  obtain ⟨cur, hc⟩ := h hn ad e
  exact ⟨cur, (f.block _ (lt_of_heap hc) (hS _ _ hc)).trans hc⟩
theorem OwnD.has {S : Nat → Prop} {w w' : World} {x : Ms} (h : OwnD w x) (k : x.has w) (f : Foot S w w') (hS : ∀ k cur, w.heap[k]? = some (.cells cur 5 (0, 0)) → ¬ S k) : x.has w' := by
  refine ⟨k.1, k.2.1, k.2.2.1, k.2.2.2.1, fun ad e j hj => ?_⟩
  have hc := k.2.2.2.2 ad e j hj
  obtain ⟨cur, ht⟩ := h (by have := k.1; omega) ad e
  rw [f.cell _ (lt_of_cell hc) (by rw [add_block]; exact hS _ _ ht), hc]
/- a call: its state, its message, how often it was sent, ticks since -/
structure Cl where
  s : Int
  m : Ms
  n : Int
  a : Int
def Cl.zero : Cl := ⟨0, Ms.zero, 0, 0⟩
def Cl.cells (x : Cl) : List Value := [.int .i64 x.s, .int .u64 x.m.ta, .int .u64 x.m.rp, .int .u32 x.m.id, .int .u16 x.m.op, .int .u16 x.m.st, .int .u64 x.m.p, .int .u32 x.m.o, .int .u8 x.m.r, .int .u64 x.m.c, .int .u64 x.m.ar, .slice x.m.so x.m.sn x.m.sc, .int .i64 x.n, .int .i64 x.a]
def Cl.nm (x : Cl) : Cl := ⟨x.s, x.m.nm, x.n, x.a⟩
def cl (T : List Cl) (j : Nat) : Cl := T.getD j Cl.zero
theorem cl_ge (T : List Cl) (j : Nat) (h : T.length ≤ j) : cl T j = Cl.zero := by
  unfold cl; rw [List.getD_eq_getElem?_getD, List.getElem?_eq_none h]; rfl
theorem cl_mem (T : List Cl) (j : Nat) (h : j < T.length) : cl T j ∈ T := by
  unfold cl; rw [List.getD_eq_getElem?_getD, List.getElem?_eq_getElem h]; exact List.getElem_mem h
theorem cl_nm (T : List Cl) (j : Nat) : cl (T.map Cl.nm) j = (cl T j).nm := by
  unfold cl
  rw [List.getD_eq_getElem?_getD, List.getD_eq_getElem?_getD, List.getElem?_map]
  cases T[j]? <;> rfl
theorem cl_snoc (T : List Cl) (x : Cl) (j : Nat) : cl (T ++ [x]) j = if j = T.length then x else cl T j := by
  unfold cl
  rw [List.getD_eq_getElem?_getD, List.getD_eq_getElem?_getD]
  by_cases h : j = T.length
  · subst h; simp
  · rw [if_neg h]
    by_cases h2 : j < T.length
    · rw [List.getElem?_append_left h2]
    · rw [List.getElem?_eq_none (by simp; omega), List.getElem?_eq_none (by omega)]
theorem cl_set (T : List Cl) (x : Cl) (k j : Nat) (hk : k < T.length) : cl (T.set k x) j = if j = k then x else cl T j := by
  unfold cl
  rw [List.getD_eq_getElem?_getD, List.getD_eq_getElem?_getD, List.getElem?_set]
  by_cases h : k = j
  · subst h; simp [hk]
  · rw [if_neg h, if_neg (fun e => h e.symm)]
theorem cl_set_ge (T : List Cl) (x : Cl) (k : Nat) (hk : T.length ≤ k) : T.set k x = T := by
  apply List.ext_getElem?
  intro j
  rw [List.getElem?_set]
  by_cases h : k = j
  · subst h; rw [if_pos rfl, if_neg (by omega), List.getElem?_eq_none hk]
  · rw [if_neg h]
theorem mem_set {T : List Cl} {x y : Cl} {k : Nat} (h : y ∈ T.set k x) : y ∈ T ∨ y = x := by
  rcases List.mem_or_eq_of_mem_set h with h | h
  · exact .inl h
  · exact .inr h
/- the cells of a client -/
structure CtC (C : Array Value) (rp wt tr : Int) (T : List Cl) : Prop where
  size : C.size = 900
  r : C[0]? = some (.int .u64 rp)
  w : C[1]? = some (.int .i64 wt)
  t : C[2]? = some (.int .i64 tr)
  b : C[3]? = some (.int .i64 (T.length : Int))
  c : ∀ j f, j < 64 → f < 14 → C[4 + j * 14 + f]? = (cl T j).cells[f]?
/- a call that may be: it has begun; while it waits it is younger than it may become, and was sent no more often than it should be -/
def Cl.ok (wt tr : Int) (x : Cl) : Prop := (x.s = 1 ∧ 0 ≤ x.a ∧ x.a < wt ∧ 1 ≤ x.n ∧ x.n ≤ tr) ∨ x.s = 2 ∨ x.s = 3
structure Ct (w : World) (g : Nat) (rp wt tr : Int) (T : List Cl) : Prop where
  box : ∃ C, w.heap[g]? = some (.cells C 63 (0, 0)) ∧ CtC C rp wt tr T
  few : T.length ≤ 64
  rng : 1 ≤ wt ∧ wt ≤ 9223372036854775807 ∧ 1 ≤ tr ∧ tr ≤ 9223372036854775807
  ok : ∀ x ∈ T, x.ok wt tr
  has : ∀ x ∈ T, x.m.has w ∧ OwnD w x.m ∧ x.m.sn ≤ 140737488355328
variable {w w' : World} {g : Nat} {rp wt tr : Int} {T : List Cl}
theorem Ct.lt (x : Ct w g rp wt tr T) : g < w.heap.size := by obtain ⟨C, h, _⟩ := x.box; exact lt_of_heap h
theorem Ct.c0 (x : Ct w g rp wt tr T) : w.cell? ⟨g, 0, none⟩ = some (.int .u64 rp) := by
  obtain ⟨C, h, c⟩ := x.box; rw [cell_of_row w g _ _ _ _ h]; exact c.r
theorem Ct.c1 (x : Ct w g rp wt tr T) : w.cell? ⟨g, 1, none⟩ = some (.int .i64 wt) := by
  obtain ⟨C, h, c⟩ := x.box; rw [cell_of_row w g _ _ _ _ h]; exact c.w
theorem Ct.c2 (x : Ct w g rp wt tr T) : w.cell? ⟨g, 2, none⟩ = some (.int .i64 tr) := by
  obtain ⟨C, h, c⟩ := x.box; rw [cell_of_row w g _ _ _ _ h]; exact c.t
theorem Ct.c3 (x : Ct w g rp wt tr T) : w.cell? ⟨g, 3, none⟩ = some (.int .i64 (T.length : Int)) := by
  obtain ⟨C, h, c⟩ := x.box; rw [cell_of_row w g _ _ _ _ h]; exact c.b
theorem Ct.at (x : Ct w g rp wt tr T) (k : Nat) (hk : k < 64) (y : Cl) (hy : cl T k = y) : (w.cell? ⟨g, 4 + k * 14, none⟩ = some (.int .i64 y.s) ∧ w.cell? ⟨g, 4 + k * 14 + 1, none⟩ = some (.int .u64 y.m.ta) ∧ w.cell? ⟨g, 4 + k * 14 + 2, none⟩ = some (.int .u64 y.m.rp) ∧ w.cell? ⟨g, 4 + k * 14 + 3, none⟩ = some (.int .u32 y.m.id) ∧ w.cell? ⟨g, 4 + k * 14 + 4, none⟩ = some (.int .u16 y.m.op) ∧ w.cell? ⟨g, 4 + k * 14 + 5, none⟩ = some (.int .u16 y.m.st) ∧ w.cell? ⟨g, 4 + k * 14 + 6, none⟩ = some (.int .u64 y.m.p) ∧ w.cell? ⟨g, 4 + k * 14 + 7, none⟩ = some (.int .u32 y.m.o) ∧ w.cell? ⟨g, 4 + k * 14 + 8, none⟩ = some (.int .u8 y.m.r) ∧ w.cell? ⟨g, 4 + k * 14 + 9, none⟩ = some (.int .u64 y.m.c) ∧ w.cell? ⟨g, 4 + k * 14 + 10, none⟩ = some (.int .u64 y.m.ar) ∧ w.cell? ⟨g, 4 + k * 14 + 11, none⟩ = some (.slice y.m.so y.m.sn y.m.sc) ∧ w.cell? ⟨g, 4 + k * 14 + 12, none⟩ = some (.int .i64 y.n) ∧ w.cell? ⟨g, 4 + k * 14 + 13, none⟩ = some (.int .i64 y.a)) := by
  obtain ⟨C, h, c⟩ := x.box
  subst hy
  have e : ∀ f, f < 14 → C[4 + k * 14 + f]? = (cl T k).cells[f]? := fun f hf => c.c k f hk hf
  refine ⟨?_, ?_, ?_, ?_, ?_, ?_, ?_, ?_, ?_, ?_, ?_, ?_, ?_, ?_⟩ <;> rw [cell_of_row w g _ _ _ _ h]
  · exact e 0 (by omega)
  · exact e 1 (by omega)
  · exact e 2 (by omega)
  · exact e 3 (by omega)
  · exact e 4 (by omega)
  · exact e 5 (by omega)
  · exact e 6 (by omega)
  · exact e 7 (by omega)
  · exact e 8 (by omega)
  · exact e 9 (by omega)
  · exact e 10 (by omega)
  · exact e 11 (by omega)
  · exact e 12 (by omega)
  · exact e 13 (by omega)
theorem Ct.z (x : Ct w g rp wt tr T) (j : Nat) : w.frozen? ⟨g, j, none⟩ = false := by
  obtain ⟨C, h, c⟩ := x.box; exact frozen_of_row w g j _ _ h
/- what turns is neither the client's block nor one of bytes -/
theorem Ct.foot {S : Nat → Prop} (x : Ct w g rp wt tr T) (f : Foot S w w') (hS : ∀ k cur t, w.heap[k]? = some (.cells cur t (0, 0)) → t = 63 ∨ t = 5 → ¬ S k) : Ct w' g rp wt tr T := by
  obtain ⟨C, h, c⟩ := x.box
  have h8 : ∀ k cur, w.heap[k]? = some (.cells cur 5 (0, 0)) → ¬ S k := fun k cur e => hS k cur _ e (.inr rfl)
  exact ⟨⟨C, (f.block g (lt_of_heap h) (hS g C _ h (.inl rfl))).trans h, c⟩, x.few, x.rng, x.ok, fun y hy => ⟨(x.has y hy).2.1.has (x.has y hy).1 f h8, (x.has y hy).2.1.foot f h8, (x.has y hy).2.2⟩⟩
theorem Ct.grow (x : Ct w g rp wt tr T) (b : Below w.heap.size w w') : Ct w' g rp wt tr T := x.foot (below_foot (fun _ => False) b) (fun _ _ _ _ _ => id)
theorem Ct.drewN (x : Ct w g rp wt tr T) (q : Nat) : Ct (w.drewN q) g rp wt tr T := x.grow (below_d w q)
/- a client, without where its messages' data lies -/
def St (w : World) (g : Nat) (rp wt tr : Int) (L : List Cl) : Prop := ∃ T, Ct w g rp wt tr T ∧ T.map Cl.nm = L
variable {L : List Cl}
theorem St.grow (h : St w g rp wt tr L) (b : Below w.heap.size w w') : St w' g rp wt tr L := by
  obtain ⟨T, h1, h2⟩ := h; exact ⟨T, h1.grow b, h2⟩
theorem St.foot {S : Nat → Prop} (h : St w g rp wt tr L) (f : Foot S w w') (hS : ∀ k cur t, w.heap[k]? = some (.cells cur t (0, 0)) → t = 63 ∨ t = 5 → ¬ S k) : St w' g rp wt tr L := by
  obtain ⟨T, h1, h2⟩ := h; exact ⟨T, h1.foot f hS, h2⟩
theorem St.lt (h : St w g rp wt tr L) : g < w.heap.size := by obtain ⟨T, h1, h2⟩ := h; exact h1.lt
theorem St.few (h : St w g rp wt tr L) : L.length ≤ 64 := by obtain ⟨T, h1, rfl⟩ := h; rw [List.length_map]; exact h1.few
theorem St.type (h : St w g rp wt tr L) : ∃ cur, w.heap[g]? = some (.cells cur 63 (0, 0)) := by
  obtain ⟨T, h1, _⟩ := h; obtain ⟨C, h2, _⟩ := h1.box; exact ⟨C, h2⟩
theorem foot_on {w0 : World} (b : Below w0.heap.size w0 w) (hg : w0.heap.size ≤ g) (f : Foot (· = g) w w') : Below w0.heap.size w0 w' := b.trans (f.below b.size (fun k e => by omega))
/- what a deed leaves: no block but the client's own has turned -/
def StEnd (w : World) (g : Nat) (rp wt tr : Int) (L : List Cl) (w' : World) : Prop := St w' g rp wt tr L ∧ Foot (· = g) w w'
theorem StEnd.from {w0 : World} (h : StEnd w g rp wt tr L w') (b : Below w0.heap.size w0 w) : StEnd w0 g rp wt tr L w' := ⟨h.1, (below_foot _ b).then h.2⟩
theorem StEnd.to {w2 : World} (h : StEnd w g rp wt tr L w') (b : Below w'.heap.size w' w2) : StEnd w g rp wt tr L w2 := ⟨h.1.grow b, h.2.then (below_foot _ b)⟩
theorem StEnd.below {w0 : World} (h : StEnd w g rp wt tr L w') (b : Below w0.heap.size w0 w) (hg : w0.heap.size ≤ g) : St w' g rp wt tr L ∧ Below w0.heap.size w0 w' := ⟨h.1, foot_on b hg h.2⟩
theorem set_get (C : Array Value) (i j : Nat) (v : Value) (hi : i < C.size) : (C.setIfInBounds i v)[j]? = if j = i then some v else C[j]? := by
  rw [Array.getElem?_setIfInBounds]
  by_cases e : i = j
  · subst e; simp [hi]
  · rw [if_neg e, if_neg (fun x => e x.symm)]
/- fourteen cells are laid anew -/
def lay14 (w : World) (g o : Nat) (y : Cl) : World := ((((((((((((((w.setCell ⟨g, o, none⟩ (.int .i64 y.s)).setCell ⟨g, o + 1, none⟩ (.int .u64 y.m.ta)).setCell ⟨g, o + 2, none⟩ (.int .u64 y.m.rp)).setCell ⟨g, o + 3, none⟩ (.int .u32 y.m.id)).setCell ⟨g, o + 4, none⟩ (.int .u16 y.m.op)).setCell ⟨g, o + 5, none⟩ (.int .u16 y.m.st)).setCell ⟨g, o + 6, none⟩ (.int .u64 y.m.p)).setCell ⟨g, o + 7, none⟩ (.int .u32 y.m.o)).setCell ⟨g, o + 8, none⟩ (.int .u8 y.m.r)).setCell ⟨g, o + 9, none⟩ (.int .u64 y.m.c)).setCell ⟨g, o + 10, none⟩ (.int .u64 y.m.ar)).setCell ⟨g, o + 11, none⟩ (.slice y.m.so y.m.sn y.m.sc)).setCell ⟨g, o + 12, none⟩ (.int .i64 y.n)).setCell ⟨g, o + 13, none⟩ (.int .i64 y.a))
theorem foot_lay14 (w : World) (g o : Nat) (y : Cl) : Foot (fun j => j = g) w (lay14 w g o y) := by
  unfold lay14
  exact ((((((((((((((Foot.refl _ w).put _ _).put _ _).put _ _).put _ _).put _ _).put _ _).put _ _).put _ _).put _ _).put _ _).put _ _).put _ _).put _ _).put _ _
def setC (C : Array Value) (o : Nat) (l : List Value) : Array Value :=
  match l with
  | [] => C
  | v :: r => setC (C.setIfInBounds o v) (o + 1) r
theorem setC_size (l : List Value) : ∀ (C : Array Value) (o : Nat), (setC C o l).size = C.size := by
  induction l with
  | nil => intro C o; rfl
  | cons v r ih => intro C o; rw [setC, ih]; simp
theorem setC_get (l : List Value) : ∀ (C : Array Value) (o j : Nat), o + l.length ≤ C.size → (setC C o l)[j]? = if o ≤ j ∧ j < o + l.length then l[j - o]? else C[j]? := by
  induction l with
  | nil => intro C o j _; rw [setC, if_neg (by simp only [List.length_nil]; omega)]
  | cons v r ih =>
    intro C o j h
    rw [List.length_cons] at h ⊢
    rw [setC, ih _ _ _ (by simp; omega), set_get _ _ _ _ (by omega)]
    by_cases h1 : o + 1 ≤ j ∧ j < o + 1 + r.length
    · rw [if_pos h1, if_pos (by omega), show j - o = (j - (o + 1)) + 1 by omega, List.getElem?_cons_succ]
    · rw [if_neg h1]
      by_cases h2 : j = o
      · subst h2; rw [if_pos rfl, if_pos (by omega), Nat.sub_self]; rfl
      · rw [if_neg h2, if_neg (by omega)]
theorem lay14_heap {C : Array Value} {t : TypeId} (h : w.heap[g]? = some (.cells C t (0, 0))) (o : Nat) (y : Cl) : (lay14 w g o y).heap[g]? = some (.cells (setC C o y.cells) t (0, 0)) := by
  have h1 := heap_setCell_same w g o _ _ (.int .i64 y.s) h
  have h2 := heap_setCell_same _ g (o + 1) _ _ (.int .u64 y.m.ta) h1
  have h3 := heap_setCell_same _ g (o + 2) _ _ (.int .u64 y.m.rp) h2
  have h4 := heap_setCell_same _ g (o + 3) _ _ (.int .u32 y.m.id) h3
  have h5 := heap_setCell_same _ g (o + 4) _ _ (.int .u16 y.m.op) h4
  have h6 := heap_setCell_same _ g (o + 5) _ _ (.int .u16 y.m.st) h5
  have h7 := heap_setCell_same _ g (o + 6) _ _ (.int .u64 y.m.p) h6
  have h8 := heap_setCell_same _ g (o + 7) _ _ (.int .u32 y.m.o) h7
  have h9 := heap_setCell_same _ g (o + 8) _ _ (.int .u8 y.m.r) h8
  have h10 := heap_setCell_same _ g (o + 9) _ _ (.int .u64 y.m.c) h9
  have h11 := heap_setCell_same _ g (o + 10) _ _ (.int .u64 y.m.ar) h10
  have h12 := heap_setCell_same _ g (o + 11) _ _ (.slice y.m.so y.m.sn y.m.sc) h11
  have h13 := heap_setCell_same _ g (o + 12) _ _ (.int .i64 y.n) h12
  have h14 := heap_setCell_same _ g (o + 13) _ _ (.int .i64 y.a) h13
  exact h14
/- a call is laid anew -/
theorem CtC.lay {C : Array Value} (c : CtC C rp wt tr T) (T' : List Cl) (k : Nat) (hk : k < 64) (hl : T'.length = T.length) (hT : ∀ j, j ≠ k → cl T' j = cl T j) (y : Cl) (hy : ∀ f : Nat, (cl T' k).cells[f]? = y.cells[f]?) : CtC (setC C (4 + k * 14) y.cells) rp wt tr T' := by
  have hs := c.size
  have ln : y.cells.length = 14 := rfl
  have get := fun j => setC_get y.cells C (4 + k * 14) j (by rw [ln]; omega)
  rw [ln] at get
  refine ⟨by rw [setC_size]; exact hs, ?_, ?_, ?_, ?_, fun j f hj hf => ?_⟩
  · rw [get, if_neg (by omega)]; exact c.r
  · rw [get, if_neg (by omega)]; exact c.w
  · rw [get, if_neg (by omega)]; exact c.t
  · rw [get, if_neg (by omega), hl]; exact c.b
  · rw [get]
    by_cases e : j = k
    · subst e; rw [if_pos (by omega), hy, show 4 + j * 14 + f - (4 + j * 14) = f by omega]
    · rw [if_neg (by omega), hT j e]; exact c.c j f hj hf
theorem Ct.lay (x : Ct w g rp wt tr T) (k : Nat) (hk : k < T.length) (y : Cl) (ho : y.ok wt tr) (hy : y.m.has w ∧ OwnD w y.m ∧ y.m.sn ≤ 140737488355328) : Ct (lay14 w g (4 + k * 14) y) g rp wt tr (T.set k y) := by
  obtain ⟨C, h, c⟩ := x.box
  have f := foot_lay14 w g (4 + k * 14) y
  have nb : ∀ k cur, w.heap[k]? = some (.cells cur 5 (0, 0)) → ¬ k = g := fun k cur e i => by
    rw [i, h] at e; cases e
  refine ⟨⟨_, lay14_heap h _ y, c.lay (T.set k y) k (by have := x.few; omega) (by simp) (fun j hj => by rw [cl_set T y k j hk, if_neg hj]) y (fun f => by rw [cl_set T y k k hk, if_pos rfl])⟩, by simpa using x.few, x.rng, fun z hz => by
    rcases mem_set hz with h | rfl
    · exact x.ok z h
    · exact ho, fun z hz => ?_⟩
  have hz' : z.m.has w ∧ OwnD w z.m ∧ z.m.sn ≤ 140737488355328 := by
    rcases mem_set hz with h | rfl
    · exact x.has z h
    · exact hy
  exact ⟨hz'.2.1.has hz'.1 f nb, hz'.2.1.foot f nb, hz'.2.2⟩
/- a call is laid behind all, and counted -/
theorem Ct.snoc (x : Ct w g rp wt tr T) (hk : T.length < 64) (y : Cl) (ho : y.ok wt tr) (hy : y.m.has w ∧ OwnD w y.m ∧ y.m.sn ≤ 140737488355328) : Ct ((lay14 w g (4 + T.length * 14) y).setCell ⟨g, 3, none⟩ (.int .i64 ((T.length : Int) + 1))) g rp wt tr (T ++ [y]) := by
  obtain ⟨C, h, c⟩ := x.box
  have f := (foot_lay14 w g (4 + T.length * 14) y).then (foot_set _ ⟨g, 3, none⟩ (.int .i64 ((T.length : Int) + 1)))
  have nb : ∀ k cur, w.heap[k]? = some (.cells cur 5 (0, 0)) → ¬ k = g := fun k cur e i => by
    rw [i, h] at e; cases e
  have hs := c.size
  have ln : y.cells.length = 14 := rfl
  have get := fun j => setC_get y.cells C (4 + T.length * 14) j (by rw [ln]; omega)
  rw [ln] at get
  refine ⟨⟨_, heap_setCell_same _ g 3 _ _ _ (lay14_heap h _ y), ?_⟩, by simp; omega, x.rng, fun z hz => by
    rcases List.mem_append.1 hz with h | h
    · exact x.ok z h
    · rw [List.mem_singleton.1 h]; exact ho, fun z hz => ?_⟩
  · have get3 := fun j => set_get (setC C (4 + T.length * 14) y.cells) 3 j (.int .i64 ((T.length : Int) + 1)) (by rw [setC_size]; omega)
    refine ⟨by simp [setC_size, hs], ?_, ?_, ?_, ?_, fun j f hj hf => ?_⟩
    · rw [get3, if_neg (by omega), get, if_neg (by omega)]; exact c.r
    · rw [get3, if_neg (by omega), get, if_neg (by omega)]; exact c.w
    · rw [get3, if_neg (by omega), get, if_neg (by omega)]; exact c.t
    · rw [get3, if_pos rfl]; simp
    · rw [get3, if_neg (by omega), get, cl_snoc]
      by_cases e : j = T.length
      · subst e; rw [if_pos (by omega), if_pos rfl, show 4 + T.length * 14 + f - (4 + T.length * 14) = f by omega]
      · rw [if_neg (by omega), if_neg e]; exact c.c j f hj hf
  · have hz' : z.m.has w ∧ OwnD w z.m ∧ z.m.sn ≤ 140737488355328 := by
      rcases List.mem_append.1 hz with h | h
      · exact x.has z h
      · rw [List.mem_singleton.1 h]; exact hy
    exact ⟨hz'.2.1.has hz'.1 f nb, hz'.2.1.foot f nb, hz'.2.2⟩
/- a call in a variable -/
def BoxC (w : World) (g : Nat) (x : Cl) : Prop := w.heap[g]? = some (.cells #[.int .i64 x.s, .int .u64 x.m.ta, .int .u64 x.m.rp, .int .u32 x.m.id, .int .u16 x.m.op, .int .u16 x.m.st, .int .u64 x.m.p, .int .u32 x.m.o, .int .u8 x.m.r, .int .u64 x.m.c, .int .u64 x.m.ar, .slice x.m.so x.m.sn x.m.sc, .int .i64 x.n, .int .i64 x.a] 60 (0, 0))
theorem BoxC.all {x : Cl} (h : BoxC w g x) : (w.cell? ⟨g, 0, none⟩ = some (.int .i64 x.s) ∧ w.cell? ⟨g, 1, none⟩ = some (.int .u64 x.m.ta) ∧ w.cell? ⟨g, 2, none⟩ = some (.int .u64 x.m.rp) ∧ w.cell? ⟨g, 3, none⟩ = some (.int .u32 x.m.id) ∧ w.cell? ⟨g, 4, none⟩ = some (.int .u16 x.m.op) ∧ w.cell? ⟨g, 5, none⟩ = some (.int .u16 x.m.st) ∧ w.cell? ⟨g, 6, none⟩ = some (.int .u64 x.m.p) ∧ w.cell? ⟨g, 7, none⟩ = some (.int .u32 x.m.o) ∧ w.cell? ⟨g, 8, none⟩ = some (.int .u8 x.m.r) ∧ w.cell? ⟨g, 9, none⟩ = some (.int .u64 x.m.c) ∧ w.cell? ⟨g, 10, none⟩ = some (.int .u64 x.m.ar) ∧ w.cell? ⟨g, 11, none⟩ = some (.slice x.m.so x.m.sn x.m.sc) ∧ w.cell? ⟨g, 12, none⟩ = some (.int .i64 x.n) ∧ w.cell? ⟨g, 13, none⟩ = some (.int .i64 x.a)) := by
  refine ⟨?_, ?_, ?_, ?_, ?_, ?_, ?_, ?_, ?_, ?_, ?_, ?_, ?_, ?_⟩ <;> (rw [cell_of_row w g _ _ _ _ h]; rfl)
theorem BoxC.z {x : Cl} (h : BoxC w g x) (j : Nat) : w.frozen? ⟨g, j, none⟩ = false := frozen_of_row w g j _ _ h
theorem BoxC.grow {x : Cl} (h : BoxC w g x) (b : Below w.heap.size w w') : BoxC w' g x := (b.block g (lt_of_heap h)).trans h
theorem BoxC.foot {S : Nat → Prop} {x : Cl} (h : BoxC w g x) (f : Foot S w w') (hS : ¬ S g) : BoxC w' g x := (f.block g (lt_of_heap h) hS).trans h
theorem boxC_new (w : World) (x : Cl) : BoxC (w.alloc (.cells #[.int .i64 x.s, .int .u64 x.m.ta, .int .u64 x.m.rp, .int .u32 x.m.id, .int .u16 x.m.op, .int .u16 x.m.st, .int .u64 x.m.p, .int .u32 x.m.o, .int .u8 x.m.r, .int .u64 x.m.c, .int .u64 x.m.ar, .slice x.m.so x.m.sn x.m.sc, .int .i64 x.n, .int .i64 x.a] 60)) w.heap.size x := heap_alloc_new _ _
theorem BoxC.lay {x : Cl} (h : BoxC w g x) (y : Cl) : BoxC (lay14 w g 0 y) g y := by
  unfold BoxC
  rw [lay14_heap h]
  simp [setC, Cl.cells]
theorem BoxC.put12 {x : Cl} (h : BoxC w g x) (v : Int) : BoxC (w.setCell ⟨g, 12, none⟩ (.int .i64 v)) g ⟨x.s, x.m, v, x.a⟩ := by
  unfold BoxC
  rw [heap_setCell_same w g 12 _ _ _ h]; rfl
theorem BoxC.put13 {x : Cl} (h : BoxC w g x) (v : Int) : BoxC (w.setCell ⟨g, 13, none⟩ (.int .i64 v)) g ⟨x.s, x.m, x.n, v⟩ := by
  unfold BoxC
  rw [heap_setCell_same w g 13 _ _ _ h]; rfl
theorem St.of (h : St w g rp wt tr L) : (1 ≤ wt ∧ wt ≤ 9223372036854775807 ∧ 1 ≤ tr ∧ tr ≤ 9223372036854775807) ∧ ∀ x ∈ L, x.ok wt tr := by
  obtain ⟨T, h1, rfl⟩ := h
  refine ⟨h1.rng, fun x hx => ?_⟩
  obtain ⟨y, hy, rfl⟩ := List.mem_map.1 hx
  exact h1.ok y hy
theorem size_al (w : World) (o : Obj) : (w.alloc o).heap.size = w.heap.size + 1 := by simp
end Go.Proofs.YtdodmnianhpjbaaDoor
