/-
  Threads that wait, requests that wait, and a match of both in memory; what stays of it when other memory turns.
-/
import Derived.Test.YtfjchchjdjjepaaDoorMRow
namespace Go.Proofs.YtfjchchjdjjepaaDoor
open Go.RowKit
/- a thread that waits: at which port, which thread -/
structure Wt where
  p : Int
  t : Int
  deriving DecidableEq
def Wt.zero : Wt := ⟨0, 0⟩
def cellsW (L : List Wt) : List Value := L.flatMap fun y => [.int .u64 y.p, .int .i64 y.t]
theorem cellsW_cons (y : Wt) (L : List Wt) : cellsW (y :: L) = .int .u64 y.p :: .int .i64 y.t :: cellsW L := by unfold cellsW; simp
theorem cellsW_len (L : List Wt) : (cellsW L).length = L.length * 2 := by
  induction L with
  | nil => rfl
  | cons y L ih => rw [cellsW_cons, List.length_cons, List.length_cons, ih, List.length_cons]; omega
theorem cellsW_append (A B : List Wt) : cellsW (A ++ B) = cellsW A ++ cellsW B := by unfold cellsW; simp
theorem cellsW_one (L : List Wt) : ∀ v ∈ cellsW L, v.oneCell' = true := by
  induction L with
  | nil => intro v h; cases h
  | cons y L ih =>
    intro v h
    rw [cellsW_cons] at h
    rcases List.mem_cons.1 h with rfl | h
    · rfl
    rcases List.mem_cons.1 h with rfl | h
    · rfl
    exact ih v h
theorem cellsW_get (L : List Wt) : ∀ k, k < L.length → (cellsW L)[k * 2]? = some (.int .u64 (L.getD k Wt.zero).p) ∧ (cellsW L)[k * 2 + 1]? = some (.int .i64 (L.getD k Wt.zero).t) := by
  induction L with
  | nil => intro k h; simp at h
  | cons y L ih =>
    intro k h
    rw [cellsW_cons]
    cases k with
    | zero => exact ⟨rfl, rfl⟩
    | succ k =>
      obtain ⟨h1, h2⟩ := ih k (by simpa using h)
      rw [show (k + 1) * 2 = k * 2 + 1 + 1 by omega]
      exact ⟨h1, h2⟩
theorem cellsW_take (L : List Wt) : ∀ k, cellsW (L.take k) = (cellsW L).take (k * 2) := by
  induction L with
  | nil => intro k; simp [cellsW]
  | cons y L ih =>
    intro k
    cases k with
    | zero => simp [cellsW]
    | succ k => rw [List.take_succ_cons, cellsW_cons, cellsW_cons, ih, show (k + 1) * 2 = k * 2 + 1 + 1 by omega]; rfl
theorem cellsW_drop (L : List Wt) : ∀ k, cellsW (L.drop k) = (cellsW L).drop (k * 2) := by
  induction L with
  | nil => intro k; simp [cellsW]
  | cons y L ih =>
    intro k
    cases k with
    | zero => simp [cellsW]
    | succ k => rw [List.drop_succ_cons, cellsW_cons, ih, show (k + 1) * 2 = k * 2 + 1 + 1 by omega]; rfl
theorem cellsM_take (L : List Ms) (k : Nat) : (cellsM L).take (k * 11) = cellsM (L.take k) := by
  have e : cellsM L = cellsM (L.take k) ++ cellsM (L.drop k) := by rw [← cellsM_append, List.take_append_drop]
  rcases Nat.lt_or_ge k L.length with hk | hk
  · rw [e, List.take_append_of_le_length (by rw [cellsM_len, List.length_take]; omega), List.take_of_length_le (by rw [cellsM_len, List.length_take]; omega)]
  · rw [List.take_of_length_le (by rw [cellsM_len]; omega), List.take_of_length_le hk]
theorem liesW_len {w : World} {ao : Option Addr} {n cap : Nat} {L : List Wt} (h : Lies 2 w ao n cap (cellsW L)) : n = L.length := by have := h.1; rw [cellsW_len] at this; omega
theorem liesM_len {w : World} {ao : Option Addr} {n cap : Nat} {L : List Ms} (h : Lies 11 w ao n cap (cellsM L)) : n = L.length := by have := h.1; rw [cellsM_len] at this; omega
/- a thread of a row -/
theorem liesW_elem {w : World} {ad : Addr} {n cap : Nat} {L : List Wt} (h : Lies 2 w (some ad) n cap (cellsW L)) (k : Nat) (hk : k < n) (x : Wt) (hx : L.getD k Wt.zero = x) (a : Addr) (ha : ad.add (k * 2) = a) : w.cell? a = some (.int .u64 x.p) ∧ w.cell? { block := a.block, off := a.off + 1 } = some (.int .i64 x.t) := by
  have hl := liesW_len h
  obtain ⟨h0, h1⟩ := cellsW_get L k (by omega)
  have e0 := h.2.2.2.2 ad rfl _ _ h0
  have e1 := h.2.2.2.2 ad rfl _ _ h1
  rw [← add_add, ha, addS _ 0] at e1
  rw [ha, hx] at e0
  rw [hx] at e1
  exact ⟨e0, e1⟩
/- where so many elements lie is no block of which S holds -/
def OffO (S : Nat → Prop) (n : Nat) (ao : Option Addr) : Prop := 0 < n → ∀ ad, ao = some ad → ¬ S ad.block
theorem OffO.new {S : Nat → Prop} {w : World} {n : Nat} {ao : Option Addr} (h : New w ao) (hS : ∀ k, S k → k < w.heap.size) : OffO S n ao := fun _ ad e x => by
  have := h ad e; have := hS _ x; omega
theorem OffO.either {S T : Nat → Prop} {sz : Nat} (hsz : 0 < sz) {w : World} {ao : Option Addr} {n cap : Nat} {cs : List Value} (h : OffO S n ao) (hp : Lies sz w ao n cap cs) (hT : ∀ k, T k → S k ∨ w.heap.size ≤ k) : OffO T n ao := fun hn ad e x => by
  rcases hT _ x with y | y
  · exact h hn ad e y
  · have := hp.lt hsz hn ad e; omega
theorem Bts.footN {S : Nat → Prop} {w w' : World} {ao : Option Addr} {n cap : Nat} {l : List UInt8} (h : Bts w ao n cap l) (b : Foot S w w') (hS : OffO S n ao) : Bts w' ao n cap l := by
  refine ⟨h.1, h.2.1, h.2.2.1, h.2.2.2.1, fun ad e j hj => ?_⟩
  have hc := h.2.2.2.2 ad e j hj
  have hl := lt_of_cell hc
  have h1 := h.1
  rw [b.cell _ hl (by rw [add_block]; exact hS (by omega) ad e), hc]
theorem Bts.lt {w : World} {ao : Option Addr} {n cap : Nat} {l : List UInt8} (h : Bts w ao n cap l) (hn : 0 < n) (ad : Addr) (e : ao = some ad) : ad.block < w.heap.size := by
  have h1 := h.1
  have := lt_of_cell (h.2.2.2.2 ad e 0 (by omega))
  rw [add_block] at this; exact this
def FarM (S : Nat → Prop) (ao : Option Addr) (n : Nat) (L : List Ms) : Prop := OffO S n ao ∧ ∀ x ∈ L, OffO S x.sn x.so
theorem Mss.foot {S : Nat → Prop} {w w' : World} {ao : Option Addr} {n cap : Nat} {L : List Ms} (h : Mss w ao n cap L) (f : Foot S w w') (hS : FarM S ao n L) : Mss w' ao n cap L :=
  ⟨h.1.foot f hS.1, fun x hx => Bts.footN (h.2 x hx) f (hS.2 x hx)⟩
theorem FarM.either {S T : Nat → Prop} {w : World} {ao : Option Addr} {n cap : Nat} {L : List Ms} (h : FarM S ao n L) (hp : Mss w ao n cap L) (hT : ∀ k, T k → S k ∨ w.heap.size ≤ k) : FarM T ao n L :=
  ⟨h.1.either (by omega) hp.1 hT, fun q hq hn ad e x => by
    rcases hT _ x with y | y
    · exact h.2 q hq hn ad e y
    · have := Bts.lt (hp.2 q hq) hn ad e; omega⟩
theorem mss_nil (w : World) : Mss w none 0 0 [] := ⟨lies_nil 11 w, fun _ h => by cases h⟩
theorem farM_no (bo : Option Addr) (n : Nat) (K : List Ms) : FarM (fun _ => False) bo n K := ⟨fun _ _ _ => id, fun _ _ _ _ _ => id⟩
theorem farM_nil (S : Nat → Prop) (bo : Option Addr) : FarM S bo 0 [] := ⟨(fun h => by cases h), fun _ h => by cases h⟩
def erN (k : Int) : Value := if k = 0 then .nilIface else .iface 47 (.int .i64 k)
theorem erN_zero : erN 0 = .nilIface := rfl
theorem erN_not {k : Int} (h : k ≠ 0) : erN k = .iface 47 (.int .i64 k) := if_neg h
/- a match -/
structure Mt (w : World) (g : Nat) (ao : Option Addr) (ac : Nat) (bo : Option Addr) (bc : Nat) (T : List Wt) (K : List Ms) : Prop where
  box : w.heap[g]? = some (.cells #[.slice ao T.length ac, .slice bo K.length bc] 28 (0, 0))
  thr : Lies 2 w ao T.length ac (cellsW T)
  req : Mss w bo K.length bc K
  offT : OffO (· = g) T.length ao
  offR : FarM (· = g) bo K.length K
  few : T.length ≤ 64 ∧ K.length ≤ 64
  low : ∀ x ∈ K, x.sn ≤ 140737488355328
variable {w w' : World} {g : Nat} {ao : Option Addr} {ac : Nat} {bo : Option Addr} {bc : Nat} {T : List Wt} {K : List Ms}
theorem Mt.lt (x : Mt w g ao ac bo bc T K) : g < w.heap.size := lt_of_heap x.box
theorem Mt.c0 (x : Mt w g ao ac bo bc T K) : w.cell? ⟨g, 0, none⟩ = some (.slice ao T.length ac) := by rw [cell_of_row w g _ _ _ _ x.box]; rfl
theorem Mt.c1 (x : Mt w g ao ac bo bc T K) : w.cell? ⟨g, 1, none⟩ = some (.slice bo K.length bc) := by rw [cell_of_row w g _ _ _ _ x.box]; rfl
theorem Mt.z (x : Mt w g ao ac bo bc T K) (j : Nat) : w.frozen? ⟨g, j, none⟩ = false := frozen_of_row w g j _ _ x.box
theorem Mt.foot {S : Nat → Prop} (x : Mt w g ao ac bo bc T K) (f : Foot S w w') (hg : ¬ S g) (hT : OffO S T.length ao) (hR : FarM S bo K.length K) : Mt w' g ao ac bo bc T K :=
  ⟨(f.block g x.lt hg).trans x.box, x.thr.foot f hT, x.req.foot f hR, x.offT, x.offR, x.few, x.low⟩
theorem Mt.grow (x : Mt w g ao ac bo bc T K) (b : Below w.heap.size w w') : Mt w' g ao ac bo bc T K := x.foot (below_foot (fun _ => False) b) id (fun _ _ _ => id) (farM_no _ _ _)
/- a match, without where its requests lie -/
def St (w : World) (g : Nat) (S : Nat → Prop) (T : List Wt) (L : List Ms) : Prop := ∃ ao ac bo bc K, Mt w g ao ac bo bc T K ∧ OffO S T.length ao ∧ FarM S bo K.length K ∧ K.map Ms.nm = L
variable {S S' : Nat → Prop} {L : List Ms}
theorem St.grow (h : St w g S T L) (b : Below w.heap.size w w') : St w' g S T L := by
  obtain ⟨ao, ac, bo, bc, K, h1, h2, h3, h4⟩ := h
  exact ⟨ao, ac, bo, bc, K, h1.grow b, h2, h3, h4⟩
theorem St.lt (h : St w g S T L) : g < w.heap.size := by
  obtain ⟨_, _, _, _, _, h1, _⟩ := h; exact h1.lt
theorem St.few (h : St w g S T L) : T.length ≤ 64 ∧ L.length ≤ 64 := by
  obtain ⟨_, _, _, _, _, h1, _, _, rfl⟩ := h; rw [List.length_map]; exact h1.few
theorem St.type (h : St w g S T L) : ∃ cur, w.heap[g]? = some (.cells cur 28 (0, 0)) := by
  obtain ⟨_, _, _, _, _, h1, _⟩ := h; exact ⟨_, h1.box⟩
theorem St.foot (h : St w g S T L) (f : Foot S w w') (hg : ¬ S g) : St w' g S T L := by
  obtain ⟨ao, ac, bo, bc, K, h1, h2, h3, h4⟩ := h
  exact ⟨ao, ac, bo, bc, K, h1.foot f hg h2 h3, h2, h3, h4⟩
theorem St.either (h : St w g S T L) (hT : ∀ k, S' k → S k ∨ w.heap.size ≤ k) : St w g S' T L := by
  obtain ⟨ao, ac, bo, bc, K, h1, h2, h3, h4⟩ := h
  exact ⟨ao, ac, bo, bc, K, h1, h2.either (by omega) h1.thr hT, h3.either h1.req hT, h4⟩
theorem st_new (w : World) (S : Nat → Prop) : St (w.alloc (.cells #[.slice none 0 0, .slice none 0 0] 28)) w.heap.size S [] [] :=
  ⟨none, 0, none, 0, [], ⟨heap_alloc_new _ _, lies_nil 2 _, mss_nil _, (fun h => by cases h), farM_nil _ _, by simp, fun _ h => by cases h⟩, (fun h => by cases h), farM_nil _ _, rfl⟩
/- what a deed leaves: no block but the match's own has turned -/
def MtEnd (w : World) (g : Nat) (S : Nat → Prop) (T : List Wt) (L : List Ms) (w' : World) : Prop := St w' g S T L ∧ Foot (· = g) w w'
theorem St.same (x : St w g S T L) (b : Below w.heap.size w w') : MtEnd w g S T L w' := ⟨x.grow b, below_foot _ b⟩
theorem MtEnd.from {w0 : World} (h : MtEnd w g S T L w') (b : Below w0.heap.size w0 w) : MtEnd w0 g S T L w' := ⟨h.1, (below_foot _ b).then h.2⟩
theorem MtEnd.to {w2 : World} (h : MtEnd w g S T L w') (b : Below w'.heap.size w' w2) : MtEnd w g S T L w2 := ⟨h.1.grow b, h.2.then (below_foot _ b)⟩
theorem foot_on {w0 : World} (b : Below w0.heap.size w0 w) (hg : w0.heap.size ≤ g) (f : Foot (· = g) w w') : Below w0.heap.size w0 w' := b.trans (f.below b.size (fun k e => by omega))
/- the threads are laid anew -/
theorem Mt.put0 (x : Mt w g ao ac bo bc T K) (hR : FarM S bo K.length K) (hS : ∀ k, S k → k < w.heap.size) {w5 : World} {co : Option Addr} {n c : Nat} {N : List Wt} (hA : Lies 2 w5 co n c (cellsW N)) (b : Below w.heap.size w w5) (hn : New w co) (hf : N.length ≤ 64) :
    MtEnd w g S N (K.map Ms.nm) (w5.setCell ⟨g, 0, none⟩ (.slice co n c)) := by
  have hl := liesW_len hA
  subst hl
  have hg : ∀ k, k = g → k < w.heap.size := fun k e => by rw [e]; exact x.lt
  have ft := foot_set w5 ⟨g, 0, none⟩ (.slice co N.length c)
  have x5 := x.grow b
  have og : OffO (· = g) N.length co := OffO.new hn hg
  refine ⟨⟨co, c, bo, bc, K, ⟨?_, hA.foot ft og, x5.req.foot ft x.offR, og, x.offR, ⟨hf, x.few.2⟩, x.low⟩, OffO.new hn hS, hR, rfl⟩, (below_foot _ b).then ft⟩
  rw [heap_setCell_same w5 g 0 _ _ _ x5.box]; rfl
/- the requests are laid anew -/
theorem Mt.put1 (x : Mt w g ao ac bo bc T K) (hT : OffO S T.length ao) (hR : FarM S bo K.length K) (hS : ∀ k, S k → k < w.heap.size) {w5 : World} {co : Option Addr} {n c : Nat} {N : List Ms} (hA : Lies 11 w5 co n c (cellsM N)) (b : Below w.heap.size w w5) (hn : New w co) (hN : ∀ p ∈ N, p ∈ K ∨ (p.has w5 ∧ New w p.so ∧ p.sn ≤ 140737488355328)) (hf : N.length ≤ 64) :
    MtEnd w g S T (N.map Ms.nm) (w5.setCell ⟨g, 1, none⟩ (.slice co n c)) := by
  have hl := liesM_len hA
  subst hl
  have hg : ∀ k, k = g → k < w.heap.size := fun k e => by rw [e]; exact x.lt
  have far : ∀ S : Nat → Prop, FarM S bo K.length K → (∀ k, S k → k < w.heap.size) → FarM S co N.length N := fun S h1 h2 => ⟨OffO.new hn h2, fun p hp => by
    rcases hN p hp with h | ⟨_, h, _⟩
    · exact h1.2 p h
    · exact OffO.new h h2⟩
  have ft := foot_set w5 ⟨g, 1, none⟩ (.slice co N.length c)
  have x5 := x.grow b
  have fg := far _ x.offR hg
  refine ⟨⟨ao, ac, co, c, N, ⟨?_, x5.thr.foot ft x.offT, ⟨hA.foot ft fg.1, fun p hp => Bts.footN ?_ ft (fg.2 p hp)⟩, x.offT, fg, ⟨x.few.1, hf⟩, fun p hp => ?_⟩, hT, far S hR hS, rfl⟩, (below_foot _ b).then ft⟩
  · rw [heap_setCell_same w5 g 1 _ _ _ x5.box]; rfl
  · rcases hN p hp with h | ⟨h, _⟩
    · exact x5.req.2 p h
    · exact h
  · rcases hN p hp with h | ⟨_, _, h⟩
    · exact x.low p h
    · exact h
end Go.Proofs.YtfjchchjdjjepaaDoor
