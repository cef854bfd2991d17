/-
  The statements' model in memory: its threads, and those that are ready; a model and a table in one memory: what stays of each when the other turns.
-/
import Derived.Test.YtnfpldndnmbplaaDoorUAwake
namespace Go.Proofs.YtnfpldndnmbplaaDoor
open Go.RowKit
def cellsTh (T : List Th) : List Value := T.flatMap fun y => [.int .i64 y.p, .int .i64 y.s, .int .i64 y.u]
theorem cellsTh_len (T : List Th) : (cellsTh T).length = T.length * 3 := by
  induction T with
  | nil => rfl
  | cons y T ih => unfold cellsTh at *; rw [List.flatMap_cons, List.length_append, ih]; simp; omega
theorem cellsTh_append (A B : List Th) : cellsTh (A ++ B) = cellsTh A ++ cellsTh B := by unfold cellsTh; simp
theorem cellsTh_cons (y : Th) (T : List Th) : cellsTh (y :: T) = .int .i64 y.p :: .int .i64 y.s :: .int .i64 y.u :: cellsTh T := by unfold cellsTh; simp
theorem cellsTh_one (T : List Th) : ∀ v ∈ cellsTh T, v.oneCell' = true := by
  induction T with
  | nil => intro v h; cases h
  | cons y T ih =>
    intro v h
    rw [cellsTh_cons] at h
    rcases List.mem_cons.1 h with rfl | h
    · rfl
    rcases List.mem_cons.1 h with rfl | h
    · rfl
    rcases List.mem_cons.1 h with rfl | h
    · rfl
    exact ih v h
theorem cellsTh_get (T : List Th) : ∀ k, k < T.length → (cellsTh T)[k * 3]? = some (.int .i64 (thd T k).p) ∧ (cellsTh T)[k * 3 + 1]? = some (.int .i64 (thd T k).s) ∧ (cellsTh T)[k * 3 + 2]? = some (.int .i64 (thd T k).u) := by
  induction T with
  | nil => intro k h; simp at h
  | cons y T ih =>
    intro k h
    rw [cellsTh_cons]
    cases k with
    | zero => exact ⟨rfl, rfl, rfl⟩
    | succ k =>
      obtain ⟨h1, h2, h3⟩ := ih k (by simpa using h)
      have e : thd (y :: T) (k + 1) = thd T k := by unfold thd; simp
      rw [e, show (k + 1) * 3 = k * 3 + 1 + 1 + 1 by omega]
      exact ⟨h1, h2, h3⟩
theorem cellsTh_set (T : List Th) : ∀ k s u, k < T.length → cellsTh (setT T k s u) = ((cellsTh T).set (k * 3 + 1) (.int .i64 s)).set (k * 3 + 2) (.int .i64 u) := by
  induction T with
  | nil => intro k s u h; simp at h
  | cons y T ih =>
    intro k s u h
    cases k with
    | zero => unfold setT; rw [List.set_cons_zero, cellsTh_cons, cellsTh_cons]; rfl
    | succ k =>
      have e : setT (y :: T) (k + 1) s u = y :: setT T k s u := by
        unfold setT
        have e : thd (y :: T) (k + 1) = thd T k := by unfold thd; simp
        rw [e]; rfl
      rw [e, cellsTh_cons, cellsTh_cons, ih k s u (by simpa using h), show (k + 1) * 3 + 1 = k * 3 + 1 + 1 + 1 + 1 by omega, show (k + 1) * 3 + 2 = k * 3 + 2 + 1 + 1 + 1 by omega]
      rfl
structure Md (w : World) (B m : Nat) (av rv : Value) (T : List Th) (R : List Int) : Prop where
  box : w.heap[m]? = some (.cells #[av, rv] 36 (0, 0))
  all : w.ownsRow B 27 3 av T.length (cellsTh T)
  rdy : w.ownsRow B 3 1 rv R.length (cellsI R)
  low : B ≤ m
variable {w w' w0 : World} {B g m : Nat} {av rv : Value} {T T2 : List Th} {R R2 : List Int} {ao : Option Addr} {c : Nat}
theorem Md.c0 (x : Md w B m av rv T R) : w.cell? ⟨m, 0, none⟩ = some av := by rw [cell_of_row w m 0 _ _ _ x.box]; rfl
theorem Md.c1 (x : Md w B m av rv T R) : w.cell? ⟨m, 1, none⟩ = some rv := by rw [cell_of_row w m 1 _ _ _ x.box]; rfl
theorem Md.z (x : Md w B m av rv T R) (j : Nat) : w.frozen? ⟨m, j, none⟩ = false := frozen_of_row w m j _ _ x.box
theorem Md.lt (x : Md w B m av rv T R) : m < w.heap.size := lt_of_heap x.box
theorem Md.ma (x : Md w B m av rv T R) : av.ownBlock ≠ some m := fun e => by
  obtain ⟨cur, h⟩ := owns_type x.all e
  exact two_types h x.box (by decide) rfl
theorem Md.mr (x : Md w B m av rv T R) : rv.ownBlock ≠ some m := fun e => by
  obtain ⟨cur, h⟩ := owns_type x.rdy e
  exact two_types h x.box (by decide) rfl
theorem Md.ar (x : Md w B m av rv T R) (k : Nat) (h1 : av.ownBlock = some k) : rv.ownBlock ≠ some k := fun h2 => by
  obtain ⟨_, e1⟩ := owns_type x.all h1
  obtain ⟨_, e2⟩ := owns_type x.rdy h2
  exact two_types e1 e2 (by decide) rfl
theorem Md.foot {S : Nat → Prop} (x : Md w B m av rv T R) (f : Foot S w w') (hm : ¬ S m) (ha : ∀ k, av.ownBlock = some k → ¬ S k) (hr : ∀ k, rv.ownBlock = some k → ¬ S k) : Md w' B m av rv T R :=
  ⟨(f.block m x.lt hm).trans x.box, owns_foot x.all f ha, owns_foot x.rdy f hr, x.low⟩
theorem Md.grow (x : Md w B m av rv T R) (b : Below w.heap.size w w') : Md w' B m av rv T R := x.foot (below_foot (fun _ => False) b) id (fun _ _ => id) (fun _ _ => id)
theorem Md.nums (x : Md w B m av rv T R) : ∃ ra rc, rv = .slice ra R.length rc ∧ Nums w ra R.length rc R := owns_lies x.rdy
theorem Md.form (x : Md w B m av rv T R) : ∃ aa ac, av = .slice aa T.length ac ∧ T.length ≤ ac ∧ ac ≤ 9223372036854775807 := by
  obtain ⟨aa, ac, e, l⟩ := owns_lies x.all
  exact ⟨aa, ac, e, l.2.1, l.2.2.1⟩
/- a thread of the model -/
theorem Md.elem (x : Md w B m av rv T R) (k : Nat) (hk : k < T.length) : ∃ h ac, av = .slice (some ⟨h, 0, none⟩) T.length ac ∧ ac ≤ 9223372036854775807 ∧ T.length ≤ ac ∧ w.cell? ⟨h, k * 3, none⟩ = some (.int .i64 (thd T k).p) ∧ w.cell? ⟨h, k * 3 + 1, none⟩ = some (.int .i64 (thd T k).s) ∧ w.cell? ⟨h, k * 3 + 2, none⟩ = some (.int .i64 (thd T k).u) ∧ ∀ j, w.frozen? ⟨h, j, none⟩ = false := by
  rcases x.all.2 with ⟨_, e⟩ | ⟨h, cap, cur, e, hb, hg, hl, hm, hs, ht⟩
  · omega
  · obtain ⟨g0, g1, g2⟩ := cellsTh_get T k hk
    have get : ∀ j, j < T.length * 3 → cur[j]? = (cellsTh T)[j]? := fun j hj => by
      rw [← ht, List.getElem?_take, if_pos hj]; simp
    refine ⟨h, cap, e, hm, hl, ?_, ?_, ?_, fun j => frozen_of_row w h j _ _ hg⟩
    · rw [cell_of_row w h _ _ _ _ hg, get _ (by omega)]; exact g0
    · rw [cell_of_row w h _ _ _ _ hg, get _ (by omega)]; exact g1
    · rw [cell_of_row w h _ _ _ _ hg, get _ (by omega)]; exact g2
theorem Md.two (x : Md w B m av rv T R) (k : Nat) (hk : k < T.length) (h ac : Nat) (e : av = .slice (some ⟨h, 0, none⟩) T.length ac) (s u : Int) : Md ((w.setCell ⟨h, k * 3 + 1, none⟩ (.int .i64 s)).setCell ⟨h, k * 3 + 2, none⟩ (.int .i64 u)) B m av rv (setT T k s u) R := by
  have f := (foot_set w ⟨h, k * 3 + 1, none⟩ (.int .i64 s)).then (foot_set (w.setCell ⟨h, k * 3 + 1, none⟩ (.int .i64 s)) ⟨h, k * 3 + 2, none⟩ (.int .i64 u))
  have hav : av.ownBlock = some h := by rw [e]; rfl
  refine ⟨(f.block m x.lt (fun (e : m = h) => x.ma (by rw [hav, e]))).trans x.box, ?_, owns_foot x.rdy f (fun k e1 (e2 : k = h) => x.ar h hav (by rw [e1, e2])), x.low⟩
  rcases x.all.2 with ⟨_, e0⟩ | ⟨h', cap, cur, e', hb, hg, hl, hm, hs, ht⟩
  · omega
  · obtain ⟨rfl, rfl⟩ : h' = h ∧ cap = ac := by rw [e] at e'; cases e'; exact ⟨rfl, rfl⟩
    have h1 := heap_setCell_same w h' (k * 3 + 1) _ _ (.int .i64 s) hg
    have h2 := heap_setCell_same _ h' (k * 3 + 2) _ _ (.int .i64 u) h1
    refine ⟨by rw [cellsTh_len], .inr ⟨h', cap, _, by rw [setT_len]; exact e, hb, h2, by rw [setT_len]; exact hl, hm, by simp [hs], ?_⟩⟩
    rw [setT_len, cellsTh_set T k s u hk, ← ht]
    simp [List.take_set]
/- the model's queue is laid anew -/
theorem Md.queue {v : Value} {L : List Int} {n : Nat} (x : Md w B m av rv T R) (h : w.ownsRow B 3 1 v n (cellsI L)) : Md (w.setCell ⟨m, 1, none⟩ v) B m av v T L := by
  have f := foot_set w ⟨m, 1, none⟩ v
  have hn : n = L.length := by have := h.1; rw [cellsI_len] at this; omega
  subst hn
  refine ⟨?_, owns_foot x.all f (fun k e (e2 : k = m) => x.ma (by rw [e, e2])), owns_foot h f (fun k e (e2 : k = m) => ?_), x.low⟩
  · rw [heap_setCell_same w m 1 _ _ v x.box]; rfl
  · subst e2
    obtain ⟨cur, hh⟩ := owns_type h e
    exact two_types hh x.box (by decide) rfl
/- the model's row of threads is laid anew, behind an append -/
theorem Md.row {v : Value} {T' : List Th} {n : Nat} (x : Md w B m av rv T R) (f : Foot (fun k => av.ownBlock = some k) w w') (h : w'.ownsRow B 27 3 v n (cellsTh T')) : Md (w'.setCell ⟨m, 0, none⟩ v) B m v rv T' R := by
  have f2 := foot_set w' ⟨m, 0, none⟩ v
  have hb := (f.block m x.lt x.ma).trans x.box
  have hn : n = T'.length := by have := h.1; rw [cellsTh_len] at this; omega
  subst hn
  refine ⟨?_, owns_foot h f2 (fun k e (e2 : k = m) => ?_), owns_foot (owns_foot x.rdy f (fun k e h => x.ar k h e)) f2 (fun k e (e2 : k = m) => x.mr (by rw [e, e2])), x.low⟩
  · rw [heap_setCell_same w' m 0 _ _ v hb]; rfl
  · subst e2
    obtain ⟨cur, hh⟩ := owns_type h e
    exact two_types hh hb (by decide) rfl
/- the model's queue is laid anew, behind an append -/
theorem Md.more {v : Value} {L : List Int} {n : Nat} (x : Md w B m av rv T R) (f : Foot (fun k => rv.ownBlock = some k) w w') (h : w'.ownsRow B 3 1 v n (cellsI L)) : Md (w'.setCell ⟨m, 1, none⟩ v) B m av v T L := by
  have f2 := foot_set w' ⟨m, 1, none⟩ v
  have hb := (f.block m x.lt x.mr).trans x.box
  have hn : n = L.length := by have := h.1; rw [cellsI_len] at this; omega
  subst hn
  refine ⟨?_, owns_foot (owns_foot x.all f (fun k e h => x.ar k e h)) f2 (fun k e (e2 : k = m) => x.ma (by rw [e, e2])), owns_foot h f2 (fun k e (e2 : k = m) => ?_), x.low⟩
  · rw [heap_setCell_same w' m 1 _ _ v hb]; rfl
  · subst e2
    obtain ⟨cur, hh⟩ := owns_type h e
    exact two_types hh hb (by decide) rfl
/- a thread is appended -/
theorem app_th {ty : TypeId} {n : Nat} {v : Value} {T : List Th} (p s u : Int) (h : w.ownsRow B 27 3 v n (cellsTh T)) (hn : n ≤ 100) (hB : B ≤ w.heap.size) :
    ∃ v' w', (Builtin.append_ #[34, 34] ty #[v, .slice (some ⟨w.heap.size, 0, none⟩) 1 1]).run Tryd.prog (w.alloc (.cells #[.int .i64 p, .int .i64 s, .int .i64 u] 27)) = .ok v' w' ∧ w'.ownsRow B 27 3 v' (n + 1) (cellsTh (T ++ [⟨p, s, u⟩])) ∧ Foot (fun k => v.ownBlock = some k) w w' ∧ Moved w v v' := by
  obtain ⟨i0, hi0, hz0, hz1, hz2⟩ := info_parts Tryd.infoTh
  obtain ⟨v', w', hr, ho, hg, _, hm⟩ := run_append_own_at (P := Tryd.prog) (w.alloc (.cells #[.int .i64 p, .int .i64 s, .int .i64 u] 27)) B 34 ty 27 i0 _ 3 24 Tryd.underlying34 hi0 hz0 hz1 hz2 rfl (by omega) v n _ (h.alloc _) ⟨w.heap.size, 0, none⟩ 1 1 (cellsTh [⟨p, s, u⟩]) rfl (fun j u hu => World.news_of_block (heap_alloc_new w _) j u hu) (cellsTh_one _) (by unfold maxLen; omega) (by omega) (Nat.le_trans hB (below_alloc w _).size)
  refine ⟨v', w', hr, by rw [cellsTh_append]; exact ho, (foot_alloc _ w _).then (grown_foot hg), fun k e => ?_⟩
  rcases hm with hm | hm
  · exact .inl (by rw [← hm]; exact e)
  · rw [hm] at e; cases e; exact .inr (below_alloc w _).size
/- a model and a table -/
def slotV (m : Nat) : Value := .slice (some ⟨m, 0, none⟩) 0 0
structure PM (w0 w : World) (B g m : Nat) (T : List Th) (R : List Int) (ao : Option Addr) (c : Nat) (av rv : Value) (T2 : List Th) (R2 : List Int) : Prop where
  tb : Tb w g T R ao c
  md : Md w B m av rv T2 R2
  fa : OffV R.length ao av
  fr : OffV R.length ao rv
  fm : OffV R.length ao (slotV m)
  bel : Below B w0 w
  low : B ≤ g
  big : B ≤ w0.heap.size
theorem PM.size (x : PM w0 w B g m T R ao c av rv T2 R2) : B ≤ w.heap.size := Nat.le_trans x.big x.bel.size
theorem PM.gm (x : PM w0 w B g m T R ao c av rv T2 R2) : m ≠ g := by
  obtain ⟨C, h, _⟩ := x.tb.box
  exact two_types x.md.box h (by decide)
theorem PM.grow (x : PM w0 w B g m T R ao c av rv T2 R2) (b : Below w.heap.size w w') : PM w0 w' B g m T R ao c av rv T2 R2 :=
  ⟨x.tb.grow b, x.md.grow b, x.fa, x.fr, x.fm, x.bel.trans (b.mono x.size), x.low, x.big⟩
theorem PM.table {T' : List Th} {R' : List Int} (x : PM w0 w B g m T R ao c av rv T2 R2) (h : TbEnd w g T' R' ao R.length w') : ∃ a' c', PM w0 w' B g m T' R' a' c' av rv T2 R2 := by
  obtain ⟨a', c', t, f, k⟩ := h
  refine ⟨a', c', t, x.md.foot f x.gm (fun j e h => x.tb.off x.md.all (by decide) (e.trans (by rw [h]))) (fun j e h => x.tb.off x.md.rdy (by decide) (e.trans (by rw [h]))), x.fa.queue k (own_lt x.md.all), x.fr.queue k (own_lt x.md.rdy), x.fm.queue k (fun j e => by cases e; exact x.md.lt), f.low x.bel x.size x.low, x.low, x.big⟩
/- what a deed of the model leaves: no block but the model's own has turned -/
def MdS (m : Nat) (av rv : Value) (k : Nat) : Prop := k = m ∨ av.ownBlock = some k ∨ rv.ownBlock = some k
def MdEnd (w : World) (B m : Nat) (av rv : Value) (T : List Th) (R : List Int) (w' : World) : Prop := ∃ av' rv', Md w' B m av' rv' T R ∧ Foot (MdS m av rv) w w' ∧ Moved w av av' ∧ Moved w rv rv'
theorem PM.model {T' : List Th} {R' : List Int} (x : PM w0 w B g m T R ao c av rv T2 R2) (h : MdEnd w B m av rv T' R' w') : ∃ av' rv', PM w0 w' B g m T R ao c av' rv' T' R' := by
  obtain ⟨av', rv', md, f, ma, mr⟩ := h
  refine ⟨av', rv', x.tb.foot f ?_ ?_, md, x.fa.moved x.tb ma, x.fr.moved x.tb mr, x.fm, x.bel.trans (f.below x.size fun k e => ?_), x.low, x.big⟩
  · rintro (h | h | h)
    · exact x.gm h.symm
    · exact x.tb.off x.md.all (by decide) h
    · exact x.tb.off x.md.rdy (by decide) h
  · rintro h0 ad e (h | h | h)
    · exact x.fm h0 ad e (by rw [h]; rfl)
    · exact x.fa h0 ad e h
    · exact x.fr h0 ad e h
  · rcases e with e | e | e
    · rw [e]; exact x.md.low
    · exact (owns_lt x.md.all e).2
    · exact (owns_lt x.md.rdy e).2
theorem Moved.refl (w : World) (v : Value) : Moved w v v := fun _ e => .inl e
theorem Moved.trans {w1 : World} {v v1 v2 : Value} (h : Moved w v v1) (k : Moved w1 v1 v2) (hs : w.heap.size ≤ w1.heap.size) : Moved w v v2 := fun j e => by
  rcases k j e with k | k
  · exact h j k
  · exact .inr (by omega)
theorem Moved.new {v v' : Value} {n : Nat} {xs : List Value} {e : TypeId} {sz : Nat} (h : w'.ownsRow w.heap.size e sz v' n xs) : Moved w v v' := fun _ hb => .inr (owns_lt h hb).2
theorem MdEnd.then {w1 : World} {av1 rv1 : Value} {T' : List Th} {R' : List Int} (h : Foot (MdS m av rv) w w1) (h1 : Moved w av av1) (h2 : Moved w rv rv1) (k : MdEnd w1 B m av1 rv1 T' R' w') : MdEnd w B m av rv T' R' w' := by
  obtain ⟨av', rv', md, f, ma, mr⟩ := k
  refine ⟨av', rv', md, h.trans f (fun j e => ?_), h1.trans ma h.size, h2.trans mr h.size⟩
  rcases e with e | e | e
  · exact .inl (.inl e)
  · exact (h1 j e).imp (fun e => .inr (.inl e)) id
  · exact (h2 j e).imp (fun e => .inr (.inr e)) id
end Go.Proofs.YtnfpldndnmbplaaDoor
