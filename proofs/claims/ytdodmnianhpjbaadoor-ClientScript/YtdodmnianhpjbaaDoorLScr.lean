/-
  A client and the statement's own rows in one memory: what stays of them, deed by deed.
-/
import Derived.Test.YtdodmnianhpjbaaDoorLMod
import Derived.Test.YtdodmnianhpjbaaDoorLFitsW
namespace Go.Proofs.YtdodmnianhpjbaaDoor
open Go.RowKit
structure Sc (w0 w : World) (g : Nat) (rp W N : Int) (v : Value) (L : List Cl) (K : List Mc) : Prop where
  st : St w g rp W N L
  own : OwnR w w0.heap.size v K
  bel : Below w0.heap.size w0 w
  gl : w0.heap.size ≤ g
variable {w0 w w' : World} {g : Nat} {rp W N : Int} {v : Value} {L L' : List Cl} {K : List Mc}
/- blocks of another type than the statement's calls stay -/
def Keep (w w' : World) : Prop := ∀ (k : Nat) (cur : Array Value) (t : TypeId), t ≠ 46 → w.heap[k]? = some (.cells cur t (0, 0)) → w'.heap[k]? = some (.cells cur t (0, 0))
theorem Keep.box {h : Nat} {q : Ms} (k : Keep w w') (b : BoxM w h q) : BoxM w' h q := k h _ _ (by decide) b
theorem Sc.grow (x : Sc w0 w g rp W N v L K) (b : Below w.heap.size w w') : Sc w0 w' g rp W N v L K := ⟨x.st.grow b, owns_carry x.own b, below_one x.bel b, x.gl⟩
theorem Sc.deed (x : Sc w0 w g rp W N v L K) (E : StEnd w g rp W N L' w') : Sc w0 w' g rp W N v L' K := by
  obtain ⟨cur, hg⟩ := x.st.type
  refine ⟨E.1, owns_foot x.own E.2 (fun k hk e => ?_), foot_on x.bel x.gl E.2, x.gl⟩
  obtain ⟨c2, h2⟩ := owns_type x.own hk
  rw [e, hg] at h2; cases h2
/- what a deed leaves of a message in a variable -/
theorem Sc.boxD {h : Nat} {q : Ms} (x : Sc w0 w g rp W N v L K) (E : StEnd w g rp W N L' w') (b : BoxM w h q) : BoxM w' h q := by
  obtain ⟨cur, hg⟩ := x.st.type
  exact b.foot E.2 (fun e => by rw [e] at b; rw [b] at hg; cases hg)
/- a store into a variable that holds a message -/
theorem Sc.box {h : Nat} {q : Ms} (x : Sc w0 w g rp W N v L K) (b : BoxM w h q) (f : Foot (fun j => j = h) w w') (hh : w0.heap.size ≤ h) : Sc w0 w' g rp W N v L K := by
  refine ⟨x.st.box b f, owns_foot x.own f (fun k hk e => ?_), foot_on x.bel hh f, x.gl⟩
  obtain ⟨c2, h2⟩ := owns_type x.own hk
  rw [e, b] at h2; cases h2
/- what a store into the row leaves of the rest -/
theorem Sc.row {h n ac : Nat} {K' : List Mc} (x : Sc w0 w g rp W N (.slice (some ⟨h, 0, none⟩) n ac) L K) (f : Foot (fun j => j = h) w w') (o : OwnR w' w0.heap.size (.slice (some ⟨h, 0, none⟩) n ac) K') : Sc w0 w' g rp W N (.slice (some ⟨h, 0, none⟩) n ac) L K' ∧ Keep w w' := by
  obtain ⟨c2, h2⟩ := owns_type x.own (k := h) rfl
  have hB := (owns_lt x.own (k := h) rfl).2
  refine ⟨⟨x.st.foot f (fun k cur t e ht i => ?_), o, foot_on x.bel hB f, x.gl⟩, fun k cur t ht e => (f.block k (lt_of_heap e) (fun i => ?_)).trans e⟩
  · rw [i, h2] at e
    cases e
    rcases ht with ht | ht <;> cases ht
  · rw [i, h2] at e
    cases e
    exact ht rfl
theorem set_set (K : List Mc) (k : Nat) (x y : Mc) : (K.set k x).set k y = K.set k y := by simp
/- a cell more of the one that is being laid anew -/
theorem OwnR.on {B h n ac : Nat} {y0 : Mc} (k f : Nat) (hk : k < K.length) (x : OwnR w B (.slice (some ⟨h, 0, none⟩) n ac) (K.set k y0)) (y : Mc) (u : Value) (hf : f < 25) (hy : y.cells = y0.cells.set f u) : OwnR (w.setCell ⟨h, k * 25 + f, none⟩ u) B (.slice (some ⟨h, 0, none⟩) n ac) (K.set k y) := by
  have := x.put k f y u (by rw [List.length_set]; exact hk) hf (by rw [mc_set K y0 k k hk, if_pos rfl]; exact hy)
  rw [set_set] at this
  exact this
theorem set_self (K : List Mc) (k : Nat) (hk : k < K.length) : K.set k (mc K k) = K := by
  apply List.ext_getElem?
  intro j
  rw [List.getElem?_set]
  by_cases e : k = j
  · subst e
    rw [if_pos rfl, if_pos hk]
    unfold mc
    rw [List.getD_eq_getElem?_getD, List.getElem?_eq_getElem hk]; rfl
  · rw [if_neg e]
theorem OwnR.at {B : Nat} (x : OwnR w B v K) (k : Nat) (hk : k < K.length) (y : Mc) (hy : mc K k = y) : OwnR w B v (K.set k y) := by
  subst hy; rw [set_self K k hk]; exact x
def layD (w : World) (h k : Nat) (p : Ms) : World := ((((((((((((w.setCell ⟨h, k * 25 + 22, none⟩ (.int .i64 2)).setCell ⟨h, k * 25 + 11, none⟩ (.int .u64 p.ta)).setCell ⟨h, k * 25 + 12, none⟩ (.int .u64 p.rp)).setCell ⟨h, k * 25 + 13, none⟩ (.int .u32 p.id)).setCell ⟨h, k * 25 + 14, none⟩ (.int .u16 p.op)).setCell ⟨h, k * 25 + 15, none⟩ (.int .u16 p.st)).setCell ⟨h, k * 25 + 16, none⟩ (.int .u64 p.p)).setCell ⟨h, k * 25 + 17, none⟩ (.int .u32 p.o)).setCell ⟨h, k * 25 + 18, none⟩ (.int .u8 p.r)).setCell ⟨h, k * 25 + 19, none⟩ (.int .u64 p.c)).setCell ⟨h, k * 25 + 20, none⟩ (.int .u64 p.ar)).setCell ⟨h, k * 25 + 21, none⟩ (.slice p.so p.sn p.sc))
theorem foot_layD (w : World) (h k : Nat) (p : Ms) : Foot (fun j => j = h) w (layD w h k p) := by
  unfold layD
  exact (((((((((((((Foot.refl _ w).put _ _).put _ _).put _ _).put _ _).put _ _).put _ _).put _ _).put _ _).put _ _).put _ _).put _ _).put _ _)
theorem OwnR.done {B h n ac : Nat} {q r : Ms} {s a m : Int} (k : Nat) (hk : k < K.length) (hy : mc K k = ⟨q, r, s, a, m⟩) (x : OwnR w B (.slice (some ⟨h, 0, none⟩) n ac) K) (p : Ms) : OwnR (layD w h k p) B (.slice (some ⟨h, 0, none⟩) n ac) (K.set k ⟨q, p, 2, a, m⟩) := by
  have x0 := x.at k hk _ hy
  have x1 := OwnR.on k 22 hk x0 ⟨q, r, 2, a, m⟩ (.int .i64 2) (by omega) rfl
  have x2 := OwnR.on k 11 hk x1 ⟨q, ⟨p.ta, r.rp, r.id, r.op, r.st, r.p, r.o, r.r, r.c, r.ar, r.so, r.sn, r.sc, r.l⟩, 2, a, m⟩ (.int .u64 p.ta) (by omega) rfl
  have x3 := OwnR.on k 12 hk x2 ⟨q, ⟨p.ta, p.rp, r.id, r.op, r.st, r.p, r.o, r.r, r.c, r.ar, r.so, r.sn, r.sc, r.l⟩, 2, a, m⟩ (.int .u64 p.rp) (by omega) rfl
  have x4 := OwnR.on k 13 hk x3 ⟨q, ⟨p.ta, p.rp, p.id, r.op, r.st, r.p, r.o, r.r, r.c, r.ar, r.so, r.sn, r.sc, r.l⟩, 2, a, m⟩ (.int .u32 p.id) (by omega) rfl
  have x5 := OwnR.on k 14 hk x4 ⟨q, ⟨p.ta, p.rp, p.id, p.op, r.st, r.p, r.o, r.r, r.c, r.ar, r.so, r.sn, r.sc, r.l⟩, 2, a, m⟩ (.int .u16 p.op) (by omega) rfl
  have x6 := OwnR.on k 15 hk x5 ⟨q, ⟨p.ta, p.rp, p.id, p.op, p.st, r.p, r.o, r.r, r.c, r.ar, r.so, r.sn, r.sc, r.l⟩, 2, a, m⟩ (.int .u16 p.st) (by omega) rfl
  have x7 := OwnR.on k 16 hk x6 ⟨q, ⟨p.ta, p.rp, p.id, p.op, p.st, p.p, r.o, r.r, r.c, r.ar, r.so, r.sn, r.sc, r.l⟩, 2, a, m⟩ (.int .u64 p.p) (by omega) rfl
  have x8 := OwnR.on k 17 hk x7 ⟨q, ⟨p.ta, p.rp, p.id, p.op, p.st, p.p, p.o, r.r, r.c, r.ar, r.so, r.sn, r.sc, r.l⟩, 2, a, m⟩ (.int .u32 p.o) (by omega) rfl
  have x9 := OwnR.on k 18 hk x8 ⟨q, ⟨p.ta, p.rp, p.id, p.op, p.st, p.p, p.o, p.r, r.c, r.ar, r.so, r.sn, r.sc, r.l⟩, 2, a, m⟩ (.int .u8 p.r) (by omega) rfl
  have x10 := OwnR.on k 19 hk x9 ⟨q, ⟨p.ta, p.rp, p.id, p.op, p.st, p.p, p.o, p.r, p.c, r.ar, r.so, r.sn, r.sc, r.l⟩, 2, a, m⟩ (.int .u64 p.c) (by omega) rfl
  have x11 := OwnR.on k 20 hk x10 ⟨q, ⟨p.ta, p.rp, p.id, p.op, p.st, p.p, p.o, p.r, p.c, p.ar, r.so, r.sn, r.sc, r.l⟩, 2, a, m⟩ (.int .u64 p.ar) (by omega) rfl
  have x12 := OwnR.on k 21 hk x11 ⟨q, ⟨p.ta, p.rp, p.id, p.op, p.st, p.p, p.o, p.r, p.c, p.ar, p.so, p.sn, p.sc, p.l⟩, 2, a, m⟩ (.slice p.so p.sn p.sc) (by omega) rfl
  exact x12
theorem app_mc {B n : Nat} {xs : List Value} (y : Mc) (own : w.ownsRow B 46 25 v n xs) (hn : n ≤ 99999) (hB : B ≤ w.heap.size) :
    ∃ v' w', (Builtin.append_ #[28, 28] 28 #[v, .slice (some ⟨w.heap.size, 0, none⟩) 1 1]).run Tryd.prog (w.alloc (.cells #[.int .u64 y.q.ta, .int .u64 y.q.rp, .int .u32 y.q.id, .int .u16 y.q.op, .int .u16 y.q.st, .int .u64 y.q.p, .int .u32 y.q.o, .int .u8 y.q.r, .int .u64 y.q.c, .int .u64 y.q.ar, .slice y.q.so y.q.sn y.q.sc, .int .u64 y.r.ta, .int .u64 y.r.rp, .int .u32 y.r.id, .int .u16 y.r.op, .int .u16 y.r.st, .int .u64 y.r.p, .int .u32 y.r.o, .int .u8 y.r.r, .int .u64 y.r.c, .int .u64 y.r.ar, .slice y.r.so y.r.sn y.r.sc, .int .i64 y.s, .int .i64 y.a, .int .i64 y.n] 46)) = .ok v' w' ∧ w'.ownsRow B 46 25 v' (n + 1) (xs ++ cellsR [y]) ∧ Foot (fun k => v.ownBlock = some k) w w' := by
  have b := below_alloc w (.cells #[.int .u64 y.q.ta, .int .u64 y.q.rp, .int .u32 y.q.id, .int .u16 y.q.op, .int .u16 y.q.st, .int .u64 y.q.p, .int .u32 y.q.o, .int .u8 y.q.r, .int .u64 y.q.c, .int .u64 y.q.ar, .slice y.q.so y.q.sn y.q.sc, .int .u64 y.r.ta, .int .u64 y.r.rp, .int .u32 y.r.id, .int .u16 y.r.op, .int .u16 y.r.st, .int .u64 y.r.p, .int .u32 y.r.o, .int .u8 y.r.r, .int .u64 y.r.c, .int .u64 y.r.ar, .slice y.r.so y.r.sn y.r.sc, .int .i64 y.s, .int .i64 y.a, .int .i64 y.n] 46)
  obtain ⟨i0, hi0, hz0, hz1, hz2⟩ := info_parts Tryd.infoR
  have hl : Lies 25 (w.alloc (.cells #[.int .u64 y.q.ta, .int .u64 y.q.rp, .int .u32 y.q.id, .int .u16 y.q.op, .int .u16 y.q.st, .int .u64 y.q.p, .int .u32 y.q.o, .int .u8 y.q.r, .int .u64 y.q.c, .int .u64 y.q.ar, .slice y.q.so y.q.sn y.q.sc, .int .u64 y.r.ta, .int .u64 y.r.rp, .int .u32 y.r.id, .int .u16 y.r.op, .int .u16 y.r.st, .int .u64 y.r.p, .int .u32 y.r.o, .int .u8 y.r.r, .int .u64 y.r.c, .int .u64 y.r.ar, .slice y.r.so y.r.sn y.r.sc, .int .i64 y.s, .int .i64 y.a, .int .i64 y.n] 46)) (some ⟨w.heap.size, 0, none⟩) 1 1 (cellsR [y]) := lies_alloc rfl rfl (by omega)
  obtain ⟨v', w3, hr, hown3, hgr3, _, hbl⟩ := run_append_own_at (P := Tryd.prog) (w.alloc (.cells #[.int .u64 y.q.ta, .int .u64 y.q.rp, .int .u32 y.q.id, .int .u16 y.q.op, .int .u16 y.q.st, .int .u64 y.q.p, .int .u32 y.q.o, .int .u8 y.q.r, .int .u64 y.q.c, .int .u64 y.q.ar, .slice y.q.so y.q.sn y.q.sc, .int .u64 y.r.ta, .int .u64 y.r.rp, .int .u32 y.r.id, .int .u16 y.r.op, .int .u16 y.r.st, .int .u64 y.r.p, .int .u32 y.r.o, .int .u8 y.r.r, .int .u64 y.r.c, .int .u64 y.r.ar, .slice y.r.so y.r.sn y.r.sc, .int .i64 y.s, .int .i64 y.a, .int .i64 y.n] 46)) B 28 28 46 i0 _ 25 184 Tryd.underlying28 hi0 hz0 hz1 hz2 rfl (by omega) v n _ (owns_carry own b) ⟨w.heap.size, 0, none⟩ 1 1 (cellsR [y]) hl.1 (hl.2.2.2.2 _ rfl) (cellsR_one _) (by unfold maxLen; omega) (by omega) (Nat.le_trans hB b.size)
  exact ⟨v', w3, hr, hown3, (below_foot _ b).then (grown_foot hgr3)⟩
/- the statement has one more -/
theorem Sc.app (x : Sc w0 w g rp W N v L K) (y : Mc) (hn : K.length ≤ 99999) :
    ∃ ao c w', (Builtin.append_ #[28, 28] 28 #[v, .slice (some ⟨w.heap.size, 0, none⟩) 1 1]).run Tryd.prog (w.alloc (.cells #[.int .u64 y.q.ta, .int .u64 y.q.rp, .int .u32 y.q.id, .int .u16 y.q.op, .int .u16 y.q.st, .int .u64 y.q.p, .int .u32 y.q.o, .int .u8 y.q.r, .int .u64 y.q.c, .int .u64 y.q.ar, .slice y.q.so y.q.sn y.q.sc, .int .u64 y.r.ta, .int .u64 y.r.rp, .int .u32 y.r.id, .int .u16 y.r.op, .int .u16 y.r.st, .int .u64 y.r.p, .int .u32 y.r.o, .int .u8 y.r.r, .int .u64 y.r.c, .int .u64 y.r.ar, .slice y.r.so y.r.sn y.r.sc, .int .i64 y.s, .int .i64 y.a, .int .i64 y.n] 46)) = .ok (.slice ao (K.length + 1) c) w' ∧ Sc w0 w' g rp W N (.slice ao (K.length + 1) c) L (K ++ [y]) ∧ Keep w w' := by
  obtain ⟨v', w', hr, ho, hf⟩ := app_mc y x.own hn x.bel.size
  have nt : ∀ k cur t, w.heap[k]? = some (.cells cur t (0, 0)) → t ≠ 46 → ¬ v.ownBlock = some k := fun k cur t h ht e => by
    obtain ⟨c2, h2⟩ := owns_type x.own e
    rw [h2] at h
    cases h
    exact ht rfl
  obtain ⟨ao, c, e⟩ := owns_slice ho
  subst e
  refine ⟨ao, c, w', hr, ⟨x.st.foot hf (fun k cur t h ht => nt k cur t h (by rcases ht with rfl | rfl <;> decide)), ?_, x.bel.trans (hf.below x.bel.size (fun k e => (owns_lt x.own e).2)), x.gl⟩, fun k cur t ht h => (hf.block k (lt_of_heap h) (nt k cur t h ht)).trans h⟩
  show w'.ownsRow _ _ _ _ _ _
  rw [List.length_append, cellsR_append]; exact ho
/- the requests that are sent again, in a row of the statement's -/
structure Sd (w0 w : World) (g : Nat) (rp W N : Int) (v : Value) (L : List Cl) (K : List Mc) (va : Value) (R : List Ms) : Prop where
  sc : Sc w0 w g rp W N v L K
  ag : w.ownsRow w0.heap.size 35 11 va R.length (cellsM R)
variable {va : Value} {R : List Ms}
theorem Sd.grow (x : Sd w0 w g rp W N v L K va R) (b : Below w.heap.size w w') : Sd w0 w' g rp W N v L K va R := ⟨x.sc.grow b, owns_carry x.ag b⟩
theorem Sd.deed (x : Sd w0 w g rp W N v L K va R) (E : StEnd w g rp W N L' w') : Sd w0 w' g rp W N v L' K va R := by
  obtain ⟨cur, hg⟩ := x.sc.st.type
  refine ⟨x.sc.deed E, owns_foot x.ag E.2 (fun k hk e => ?_)⟩
  obtain ⟨c2, h2⟩ := owns_type x.ag hk
  rw [e, hg] at h2; cases h2
theorem Keep.owns {B n sz : Nat} {t : TypeId} {xs : List Value} (k : Keep w w') (ht : t ≠ 46) (h : w.ownsRow B t sz va n xs) : w'.ownsRow B t sz va n xs := by
  refine ⟨h.1, ?_⟩
  rcases h.2 with h0 | ⟨j, cap, cur, h1, h2, h3, h4⟩
  · exact .inl h0
  · exact .inr ⟨j, cap, cur, h1, h2, k j cur t ht h3, h4⟩
theorem Sd.put {h n ac : Nat} (x : Sd w0 w g rp W N (.slice (some ⟨h, 0, none⟩) n ac) L K va R) (k f : Nat) (hk : k < K.length) (y0 : Mc) (hy0 : mc K k = y0) (y : Mc) (u : Value) (hf : f < 25) (hy : y.cells = y0.cells.set f u) : Sd w0 (w.setCell ⟨h, k * 25 + f, none⟩ u) g rp W N (.slice (some ⟨h, 0, none⟩) n ac) L (K.set k y) va R := by
  have o := OwnR.on k f hk (x.sc.own.at k hk y0 hy0) y u hf hy
  obtain ⟨s, kp⟩ := x.sc.row (foot_set w ⟨h, k * 25 + f, none⟩ u) o
  exact ⟨s, kp.owns (by decide) x.ag⟩
/- a request more -/
theorem Sd.more (x : Sd w0 w g rp W N v L K va R) (p : Ms) (hn : R.length ≤ 99999) :
    ∃ va' w', (Builtin.append_ #[50, 50] 50 #[va, .slice (some ⟨w.heap.size, 0, none⟩) 1 1]).run Tryd.prog (w.alloc (.cells #[.int .u64 p.ta, .int .u64 p.rp, .int .u32 p.id, .int .u16 p.op, .int .u16 p.st, .int .u64 p.p, .int .u32 p.o, .int .u8 p.r, .int .u64 p.c, .int .u64 p.ar, .slice p.so p.sn p.sc] 35)) = .ok va' w' ∧ Sd w0 w' g rp W N v L K va' (R ++ [p]) := by
  obtain ⟨v', w', hr, ho, hf, _⟩ := app_more p x.ag hn x.sc.bel.size
  have nt : ∀ k cur t, w.heap[k]? = some (.cells cur t (0, 0)) → t ≠ 35 → ¬ va.ownBlock = some k := fun k cur t h ht e => by
    obtain ⟨c2, h2⟩ := owns_type x.ag e
    rw [h2] at h
    cases h
    exact ht rfl
  refine ⟨v', w', hr, ⟨x.sc.st.foot hf (fun k cur t h ht => nt k cur t h (by rcases ht with rfl | rfl <;> decide)), owns_foot x.sc.own hf (fun k hk e => ?_), x.sc.bel.trans (hf.below x.sc.bel.size (fun k e => (owns_lt x.ag e).2)), x.sc.gl⟩, ?_⟩
  · obtain ⟨c2, h2⟩ := owns_type x.sc.own hk
    exact nt k c2 _ h2 (by decide) e
  · show w'.ownsRow _ _ _ _ _ _
    rw [List.length_append, cellsM_append]; exact ho
end Go.Proofs.YtdodmnianhpjbaaDoor
