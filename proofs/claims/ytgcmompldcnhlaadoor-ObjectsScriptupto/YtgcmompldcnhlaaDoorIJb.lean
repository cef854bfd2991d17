/-
  The statements' own model beside a table: its deeds, as contracts; what a script has.
-/
import Derived.Test.YtgcmompldcnhlaaDoorIJa
import Derived.Deep.CutRange
import Derived.Test.YtgcmompldcnhlaaDoorIDes
namespace Go.Proofs.YtgcmompldcnhlaaDoor
open Go.RowKit
def thC (x : Ob) : List Value := [.bool (decide (0 < x.l)), .int .u64 (x.s : Int), .int .i64 (x.e : Int), .int .i64 x.v, .int .i64 (x.l : Int)]
structure MdC (C : Array Value) (p go : Nat) (F : Nat → List Value) : Prop where
  size : C.size = 322
  c0 : C[0]? = some (.int .u64 (p : Int))
  c1 : C[1]? = some (.pointer (some ⟨go, 0, none⟩))
  c : ∀ j f, j < 64 → f < 5 → C[2 + j * 5 + f]? = (F j)[f]?
def Mg (w : World) (g p go : Nat) (F : Nat → List Value) : Prop := ∃ C, w.heap[g]? = some (.cells C 37 (0, 0)) ∧ MdC C p go F
structure Md (w : World) (g p go : Nat) (T : Nat → Ob) : Prop where
  mg : Mg w g p go (fun j => thC (T j))
  ok : ∀ j, (T j).ok
variable {w w' : World} {g p go : Nat} {T : Nat → Ob} {F : Nat → List Value}
theorem Mg.lt (x : Mg w g p go F) : g < w.heap.size := by obtain ⟨C, h, _⟩ := x; exact lt_of_heap h
theorem Mg.c0 (x : Mg w g p go F) : w.cell? ⟨g, 0, none⟩ = some (.int .u64 (p : Int)) := by
  obtain ⟨C, h, c⟩ := x; rw [cell_of_row w g _ _ _ _ h]; exact c.c0
theorem Mg.c1 (x : Mg w g p go F) : w.cell? ⟨g, 1, none⟩ = some (.pointer (some ⟨go, 0, none⟩)) := by
  obtain ⟨C, h, c⟩ := x; rw [cell_of_row w g _ _ _ _ h]; exact c.c1
theorem Mg.at (x : Mg w g p go F) (k : Nat) (hk : k < 64) (a0 a1 a2 a3 a4 : Value) (hy : F k = [a0, a1, a2, a3, a4]) :
    w.cell? ⟨g, 2 + k * 5, none⟩ = some a0 ∧ w.cell? ⟨g, 2 + k * 5 + 1, none⟩ = some a1 ∧ w.cell? ⟨g, 2 + k * 5 + 2, none⟩ = some a2 ∧ w.cell? ⟨g, 2 + k * 5 + 3, none⟩ = some a3 ∧ w.cell? ⟨g, 2 + k * 5 + 4, none⟩ = some a4 := by
  obtain ⟨C, h, c⟩ := x
  have e : ∀ f, f < 5 → C[2 + k * 5 + f]? = (F k)[f]? := fun f hf => c.c k f hk hf
  rw [hy] at e
  refine ⟨?_, ?_, ?_, ?_, ?_⟩ <;> rw [cell_of_row w g _ _ _ _ h]
  · exact e 0 (by omega)
  · exact e 1 (by omega)
  · exact e 2 (by omega)
  · exact e 3 (by omega)
  · exact e 4 (by omega)
theorem Mg.z (x : Mg w g p go F) (j : Nat) : w.frozen? ⟨g, j, none⟩ = false := by
  obtain ⟨C, h, c⟩ := x; exact frozen_of_row w g j _ _ h
theorem Mg.blk (x : Mg w g p go F) : ∃ cs, w.heap[g]? = some (.cells cs 37 (0, 0)) := by
  obtain ⟨C, h, _⟩ := x; exact ⟨C, h⟩
theorem Mg.foot {S : Nat → Prop} (x : Mg w g p go F) (f : Foot S w w') (hS : ¬ S g) : Mg w' g p go F := by
  obtain ⟨C, h, c⟩ := x
  exact ⟨C, (f.block g (lt_of_heap h) hS).trans h, c⟩
theorem MdC.set {C : Array Value} (c : MdC C p go F) (k i : Nat) (hk : k < 64) (hi : i < 5) (v : Value) (hF : (F k).length = 5) : MdC (C.setIfInBounds (2 + k * 5 + i) v) p go (fun j => if j = k then (F k).set i v else F j) := by
  have hs := c.size
  have get := fun j => set_get C (2 + k * 5 + i) j v (by omega)
  refine ⟨by simp [hs], ?_, ?_, fun j f hj hf => ?_⟩
  · rw [get, if_neg (by omega)]; exact c.c0
  · rw [get, if_neg (by omega)]; exact c.c1
  · rw [get]
    by_cases e : j = k
    · subst e
      simp only [if_true]
      by_cases e2 : f = i
      · subst e2; rw [if_pos rfl, List.getElem?_set_self (by omega)]
      · rw [if_neg (by omega), List.getElem?_set_ne (fun x => e2 x.symm)]; exact c.c j f hj hf
    · rw [if_neg (by omega), if_neg e]; exact c.c j f hj hf
theorem Mg.set (x : Mg w g p go F) (k i : Nat) (hk : k < 64) (hi : i < 5) (v : Value) (hF : (F k).length = 5) : Mg (w.setCell ⟨g, 2 + k * 5 + i, none⟩ v) g p go (fun j => if j = k then (F k).set i v else F j) := by
  obtain ⟨C, h, c⟩ := x
  exact ⟨_, heap_setCell_same w g (2 + k * 5 + i) _ _ v h, c.set k i hk hi v hF⟩
theorem Mg.ext {F' : Nat → List Value} (x : Mg w g p go F) (h : ∀ j, F j = F' j) : Mg w g p go F' := by
  obtain rfl : F = F' := funext h
  exact x
def lay5 (w : World) (g k : Nat) (y : Ob) : World := ((((w.setCell ⟨g, 2 + k * 5, none⟩ (.bool (decide (0 < y.l)))).setCell ⟨g, 2 + k * 5 + 1, none⟩ (.int .u64 (y.s : Int))).setCell ⟨g, 2 + k * 5 + 2, none⟩ (.int .i64 (y.e : Int))).setCell ⟨g, 2 + k * 5 + 3, none⟩ (.int .i64 y.v)).setCell ⟨g, 2 + k * 5 + 4, none⟩ (.int .i64 (y.l : Int))
theorem Mg.lay (x : Mg w g p go F) (k : Nat) (hk : k < 64) (y : Ob) (hF : (F k).length = 5) : Mg (lay5 w g k y) g p go (fun j => if j = k then thC y else F j) := by
  obtain ⟨a0, a1, a2, a3, a4, e⟩ : ∃ a0 a1 a2 a3 a4, F k = [a0, a1, a2, a3, a4] := by
    match F k, hF with
    | [a0, a1, a2, a3, a4], _ => exact ⟨a0, a1, a2, a3, a4, rfl⟩
  have h1 := x.set k 0 hk (by omega) (.bool (decide (0 < y.l))) hF
  have h2 := h1.set k 1 hk (by omega) (.int .u64 (y.s : Int)) (by simp [hF])
  have h3 := h2.set k 2 hk (by omega) (.int .i64 (y.e : Int)) (by simp [hF])
  have h4 := h3.set k 3 hk (by omega) (.int .i64 y.v) (by simp [hF])
  have h5 := h4.set k 4 hk (by omega) (.int .i64 (y.l : Int)) (by simp [hF])
  refine Mg.ext h5 fun j => ?_
  by_cases hj : j = k
  · subst hj; simp [e, thC]
  · simp [hj]
theorem foot_lay5 (w : World) (g k : Nat) (y : Ob) : Foot (fun j => j = g) w (lay5 w g k y) := by
  unfold lay5
  have t : ∀ {a b : World}, Foot (fun j => j = g) a b → ∀ (o : Nat) (v : Value), Foot (fun j => j = g) a (b.setCell ⟨g, o, none⟩ v) := fun h o v => h.trans (foot_set _ ⟨g, o, none⟩ v) (fun _ e => .inl e)
  exact t (t (t (t (t (Foot.refl _ _) _ _) _ _) _ _) _ _) _ _
theorem Md.c0 (x : Md w g p go T) : w.cell? ⟨g, 0, none⟩ = some (.int .u64 (p : Int)) := x.mg.c0
theorem Md.c1 (x : Md w g p go T) : w.cell? ⟨g, 1, none⟩ = some (.pointer (some ⟨go, 0, none⟩)) := x.mg.c1
theorem Md.at (x : Md w g p go T) (k : Nat) (hk : k < 64) (s e : Nat) (v : Int) (l : Nat) (hy : T k = ⟨s, e, v, l⟩) :
    w.cell? ⟨g, 2 + k * 5, none⟩ = some (.bool (decide (0 < l))) ∧ w.cell? ⟨g, 2 + k * 5 + 1, none⟩ = some (.int .u64 (s : Int)) ∧ w.cell? ⟨g, 2 + k * 5 + 2, none⟩ = some (.int .i64 (e : Int)) ∧ w.cell? ⟨g, 2 + k * 5 + 3, none⟩ = some (.int .i64 v) ∧ w.cell? ⟨g, 2 + k * 5 + 4, none⟩ = some (.int .i64 (l : Int)) :=
  x.mg.at k hk _ _ _ _ _ (by show thC (T k) = _; rw [hy]; rfl)
theorem Md.z (x : Md w g p go T) (j : Nat) : w.frozen? ⟨g, j, none⟩ = false := x.mg.z j
theorem Md.blk (x : Md w g p go T) : ∃ cs, w.heap[g]? = some (.cells cs 37 (0, 0)) := x.mg.blk
theorem Md.foot {S : Nat → Prop} (x : Md w g p go T) (f : Foot S w w') (hS : ¬ S g) : Md w' g p go T := ⟨x.mg.foot f hS, x.ok⟩
theorem Md.grow (x : Md w g p go T) (b : Below w.heap.size w w') : Md w' g p go T := x.foot (below_foot (fun _ => False) b) id
theorem Md.drewN (x : Md w g p go T) (q : Nat) : Md (w.drewN q) g p go T := ⟨x.mg, x.ok⟩
theorem upd_ok {k : Nat} {y : Ob} (h : ∀ j, (T j).ok) (hy : y.ok) (j : Nat) : (updO T k y j).ok := by
  by_cases e : j = k
  · subst e; rw [updO_same]; exact hy
  · rw [updO_other _ _ e]; exact h j
theorem Md.lay (x : Md w g p go T) (k : Nat) (hk : k < 64) (y : Ob) (ho : y.ok) : Md (lay5 w g k y) g p go (updO T k y) := by
  refine ⟨(x.mg.lay k hk y rfl).ext fun j => ?_, upd_ok x.ok ho⟩
  show (if j = k then thC y else thC (T j)) = thC (updO T k y j)
  unfold updO; split <;> rfl
theorem Md.set (x : Md w g p go T) (k i : Nat) (hk : k < 64) (hi : i < 5) (v : Value) (y : Ob) (ho : y.ok) (hy : (thC (T k)).set i v = thC y) : Md (w.setCell ⟨g, 2 + k * 5 + i, none⟩ v) g p go (updO T k y) := by
  refine ⟨(x.mg.set k i hk hi v rfl).ext fun j => ?_, upd_ok x.ok ho⟩
  show (if j = k then (thC (T k)).set i v else thC (T j)) = thC (updO T k y j)
  unfold updO
  split
  · exact hy
  · rfl
end Go.Proofs.YtgcmompldcnhlaaDoor
namespace Go.Proofs.YtgcmompldcnhlaaDoor
open Go.RowKit
structure Om (w0 w : World) (B g go m a h k p : Nat) (v : Value) (ws : List Nat) (t : Nat) (es : List Ent) (T : Nat → Ob) : Prop where
  tk : Tk w0 w B go m a h k v ws t es
  md : Md w g p go T
  new : w0.heap.size ≤ g
def OmEnd (w0 w : World) (B g go m a h k p : Nat) (v : Value) (ws : List Nat) (w' : World) (t : Nat) (es : List Ent) (T : Nat → Ob) : Prop :=
  ∃ v', Om w0 w' B g go m a h k p v' ws t es T ∧ Foot (OdS g go m a v) w w' ∧ ∀ r, v'.ownBlock = some r → v.ownBlock = some r ∨ w.heap.size ≤ r
variable {w0 w w1 w2 : World} {B g go m a h k p : Nat} {v v1 : Value} {ws : List Nat} {t t1 : Nat} {es es1 : List Ent} {T T1 : Nat → Ob}
theorem Om.drewN (x : Om w0 w B g go m a h k p v ws t es T) (q : Nat) : Om w0 (w.drewN q) B g go m a h k p v ws t es T := ⟨x.tk.drewN q, x.md.drewN q, x.new⟩
theorem Om.grow (x : Om w0 w B g go m a h k p v ws t es T) (b : Below w.heap.size w w1) : Om w0 w1 B g go m a h k p v ws t es T := ⟨x.tk.grow b, x.md.grow b, x.new⟩
theorem Om.noG (x : Om w0 w B g go m a h k p v ws t es T) : ¬ AskS go m a v g := by
  obtain ⟨C, hC⟩ := x.md.blk
  exact x.tk.noAsk hC (by decide) (by decide) (by decide)
/- what an answer leaves -/
theorem Om.asked (x : Om w0 w B g go m a h k p v ws t es T) {X : Ans} (L : Left w0 w B go m a h k v ws w1 X) : OmEnd w0 w B g go m a h k p v ws w1 X.t X.es T := by
  obtain ⟨v', S, F, hv⟩ := L
  exact ⟨v', ⟨S, x.md.foot F x.noG, x.new⟩, F.mono (fun _ e => .inl e), hv⟩
theorem Om.stay (x : Om w0 w B g go m a h k p v ws t es T) : OmEnd w0 w B g go m a h k p v ws w t es T := ⟨v, x, Foot.refl _ _, fun _ e => .inl e⟩
theorem OmEnd.from (x : OmEnd w0 w1 B g go m a h k p v ws w2 t es T) (b : Below w.heap.size w w1) : OmEnd w0 w B g go m a h k p v ws w2 t es T := by
  obtain ⟨v', S, F, hv⟩ := x
  refine ⟨v', S, (below_foot _ b).trans F (fun _ e => .inl e), fun r hr => ?_⟩
  rcases hv r hr with e | e
  · exact .inl e
  · exact .inr (Nat.le_trans b.size e)
theorem OmEnd.to (x : OmEnd w0 w B g go m a h k p v ws w1 t es T) (b : Below w1.heap.size w1 w2) : OmEnd w0 w B g go m a h k p v ws w2 t es T := by
  obtain ⟨v', S, F, hv⟩ := x
  exact ⟨v', S.grow b, F.trans (below_foot (OdS g go m a v) b) (fun _ e => .inl e), hv⟩
/- one deed behind the other -/
theorem OmEnd.on (F : Foot (OdS g go m a v) w w1) (hv : ∀ r, v1.ownBlock = some r → v.ownBlock = some r ∨ w.heap.size ≤ r) (x : OmEnd w0 w1 B g go m a h k p v1 ws w2 t es T) : OmEnd w0 w B g go m a h k p v ws w2 t es T := by
  obtain ⟨v2, S, F2, hv2⟩ := x
  refine ⟨v2, S, F.trans F2 (fun j e => ?_), fun r hr => ?_⟩
  · rcases e with (e | e | e | e) | e
    · exact .inl (.inl (.inl e))
    · exact .inl (.inl (.inr (.inl e)))
    · exact .inl (.inl (.inr (.inr (.inl e))))
    · rcases hv j e with e | e
      · exact .inl (.inl (.inr (.inr (.inr e))))
      · exact .inr e
    · exact .inl (.inr e)
  · rcases hv2 r hr with e | e
    · exact hv r e
    · exact .inr (Nat.le_trans F.size e)
/- the table's own block turns -/
theorem Om.turn (x : Om w0 w B g go m a h k p v ws t es T) (y : Md w1 g p go T1) (f : Foot (fun j => j = g) w w1) : OmEnd w0 w B g go m a h k p v ws w1 t es T1 := by
  obtain ⟨C, hC⟩ := x.md.blk
  exact ⟨v, ⟨x.tk.far f hC (by decide) (by decide) (by decide) (by decide) x.new, y, x.new⟩, f.mono (fun _ e => .inr e), fun _ e => .inl e⟩
/- a new variable of a capability turns -/
theorem OmEnd.cap (x : OmEnd w0 w B g go m a h k p v ws w1 t es T) {b : Nat} (C : CapB w1 b) (hw : w0.heap.size ≤ w.heap.size) (hb : w.heap.size ≤ b) (f : Foot (fun j => j = b) w1 w2) : OmEnd w0 w B g go m a h k p v ws w2 t es T := by
  obtain ⟨v', S, F, hv⟩ := x
  obtain ⟨cs, hc⟩ := C
  have ng : ¬ g = b := fun e => by
    obtain ⟨C, hC⟩ := S.md.blk
    rw [e, hc] at hC; cases hC
  exact ⟨v', ⟨S.tk.far f hc (by decide) (by decide) (by decide) (by decide) (Nat.le_trans hw hb), S.md.foot f ng, S.new⟩, F.trans f (fun j (e : j = b) => .inr (by omega)), hv⟩
end Go.Proofs.YtgcmompldcnhlaaDoor
namespace Go.Proofs.YtgcmompldcnhlaaDoor
open Go.RowKit
variable {w0 w w1 w2 w' : World} {B g go m a h k p B2 mg go2 m2 a2 h2 k2 : Nat} {v v1 v2 : Value} {ws : List Nat} {t t1 u u1 : Nat} {es es1 fs fs1 : List Ent} {T T1 U U1 : Nat → Ob}
theorem Tk.apart (S : Tk w0 w B go m a h k v ws t es) (S2 : Tk w0 w B2 go2 m2 a2 h2 k2 v2 ws u fs) (D : Two go m a v go2 m2 a2 v2) :
    ¬ AskS go m a v go2 ∧ ¬ AskS go m a v m2 ∧ (∀ r, v2.ownBlock = some r → ¬ AskS go m a v r) ∧ ¬ AskS go m a v a2 ∧ ¬ AskS go m a v h2 := by
  have c1 := orc_cross S.orc S2.orc
  have c2 := orc_cross S2.orc S.orc
  have o1 := S.tape.off S2.orc
  have o2 := S2.tape.off S.orc
  have x1 := tape_cross S.tape S2.tape
  refine ⟨fun e => ?_, fun e => ?_, fun r hr e => ?_, fun e => ?_, fun e => ?_⟩
  · rcases e with e | e | e | e
    · exact D.1 e.symm
    · exact c1.1 e
    · exact o1.1.1 e.symm
    · exact c1.2.1 e
  · rcases e with e | e | e | e
    · exact c1.2.2.1 e
    · exact D.2.1 e.symm
    · exact o1.1.2.1 e.symm
    · exact c1.2.2.2 e
  · rcases e with e | e | e | e
    · exact c2.2.1 (e ▸ hr)
    · exact c2.2.2.2 (e ▸ hr)
    · exact o1.1.2.2 (e ▸ hr)
    · exact D.2.2.2 r e hr
  · rcases e with e | e | e | e
    · exact o2.1.1 e
    · exact o2.1.2.1 e
    · exact D.2.2.1 e.symm
    · exact o2.1.2.2 e
  · rcases e with e | e | e | e
    · exact o2.2.1 e
    · exact o2.2.2.1 e
    · exact x1 e.symm
    · exact o2.2.2.2 e
theorem Tk.others (S : Tk w0 w B go m a h k v ws t es) (S2 : Tk w0 w B2 go2 m2 a2 h2 k2 v2 ws u fs) (D : Two go m a v go2 m2 a2 v2) {cs : Array Value} {ty : TypeId} (hg : w.heap[g]? = some (.cells cs ty (0, 0))) (t1 : ty ≠ 78) (t2 : ty ≠ 82) (t3 : ty ≠ 129) (t4 : ty ≠ 22) (hn : w0.heap.size ≤ g) (F : Foot (OdS g go m a v) w w') :
    Tk w0 w' B2 go2 m2 a2 h2 k2 v2 ws u fs := by
  obtain ⟨n1, n2, n3, n4, n5⟩ := S.apart S2 D
  obtain ⟨q1, q2, q3, q4, q5⟩ := S2.noBlk hg t1 t2 t3 t4
  have no : ∀ b, ¬ AskS go m a v b → g ≠ b → ¬ OdS g go m a v b := fun b h1 h2 e => by
    rcases e with e | e
    · exact h1 e
    · exact h2 e.symm
  refine ⟨S2.orc.foot F (no _ n1 q1) (no _ n2 q2) (fun r hr => no _ (n3 r hr) (fun e => q5 (e ▸ hr))), S2.tape.foot F (no _ n4 q3) (no _ n5 q4), ⟨S2.new.b0, S2.new.a0, S2.new.h0, S2.new.bel.trans (F.below S2.new.bel.size fun b e => ?_), Nat.le_trans S2.new.bs F.size⟩⟩
  have b0 := S.new.b0
  have a0 := S.new.a0
  rcases e with (e | e | e | e) | e
  · have := S.orc.bg; omega
  · have := S.orc.bm; omega
  · omega
  · have := (owns_block S.orc.row e).choose_spec.2; omega
  · omega
def Odd2 (ty : TypeId) : Prop := Odd ty ∧ ty ≠ 37
structure Kq (w w' : World) : Prop where
  os : w'.os = w.os
  tape : w'.tape = w.tape
  output : w'.output = w.output
  size : w.heap.size ≤ w'.heap.size
  block : ∀ (b : Nat) (cs : Array Value) (ty : TypeId), w.heap[b]? = some (.cells cs ty (0, 0)) → Odd2 ty → w'.heap[b]? = w.heap[b]?
theorem Kq.foot (x : Kq w w') : Foot (Chg w w') w w' := ⟨x.os, x.tape, x.output, x.size, fun _ _ hn => Classical.byContradiction hn⟩
theorem Kq.same (x : Kq w w') {b : Nat} {cs : Array Value} {ty : TypeId} (hb : w.heap[b]? = some (.cells cs ty (0, 0))) (ht : Odd2 ty) : ¬ Chg w w' b := fun e => e (x.block b cs ty hb ht)
theorem Kq.refl (w : World) : Kq w w := ⟨rfl, rfl, rfl, Nat.le_refl _, fun _ _ _ _ _ => rfl⟩
theorem Kq.trans (x : Kq w w1) (y : Kq w1 w2) : Kq w w2 := ⟨y.os.trans x.os, y.tape.trans x.tape, y.output.trans x.output, Nat.le_trans x.size y.size, fun b cs ty hb ht => (y.block b cs ty ((x.block b cs ty hb ht).trans hb) ht).trans (x.block b cs ty hb ht)⟩
theorem below_kq (b : Below w.heap.size w w') : Kq w w' := ⟨b.os, b.tape, b.output, b.size, fun i _ _ hb _ => b.block i (lt_of_heap hb)⟩
theorem cap_odd2 : Odd2 49 := ⟨cap_odd, by decide⟩
theorem CBox.kq {b p o r c : Nat} (x : CBox w b p o r c) (f : Kq w w') : CBox w' b p o r c := x.foot f.foot (f.same x cap_odd2)
theorem owns_kq {base : Nat} {e : TypeId} {size : Nat} {n : Nat} {xs : List Value} (x : w.ownsRow base e size v n xs) (f : Kq w w') (ht : Odd2 e) : w'.ownsRow base e size v n xs := by
  refine owns_foot x f.foot fun r hr => ?_
  obtain ⟨cur, h1, _⟩ := owns_block x hr
  exact f.same h1 ht
/- both -/
def Bo (w0 w : World) (g mg p : Nat) (ws : List Nat) (t : Nat) (es : List Ent) (T : Nat → Ob) (u : Nat) (fs : List Ent) (U : Nat → Ob) : Prop :=
  ∃ B go m a h k v B2 go2 m2 a2 h2 k2 v2, Od w0 w B g go m a h k p v ws t es T ∧ Om w0 w B2 mg go2 m2 a2 h2 k2 p v2 ws u fs U ∧ Two go m a v go2 m2 a2 v2
theorem two_new (D : Two go m a v go2 m2 a2 v2) (S2 : Tk w0 w B2 go2 m2 a2 h2 k2 v2 ws u fs) (hv : ∀ r, v1.ownBlock = some r → v.ownBlock = some r ∨ w.heap.size ≤ r) : Two go m a v1 go2 m2 a2 v2 := by
  refine ⟨D.1, D.2.1, D.2.2.1, fun r hr e => ?_⟩
  rcases hv r hr with h1 | h1
  · exact D.2.2.2 r h1 e
  · obtain ⟨cur, hx, _⟩ := owns_block S2.orc.row e
    have := lt_of_heap hx
    omega
/- a deed on the table -/
theorem Od.both (x : Od w0 w B g go m a h k p v ws t es T) (y : Om w0 w B2 mg go2 m2 a2 h2 k2 p v2 ws u fs U) (D : Two go m a v go2 m2 a2 v2) (E : OdEnd w0 w B g go m a h k p v ws w' t1 es1 T1) : Bo w0 w' g mg p ws t1 es1 T1 u fs U ∧ Kq w w' := by
  obtain ⟨v', S, F, hv⟩ := E
  obtain ⟨C, hC⟩ := x.tb.blk
  obtain ⟨C2, hC2⟩ := y.md.blk
  have ng : ¬ OdS g go m a v mg := fun e => by
    rcases e with e | e
    · exact x.tk.noAsk hC2 (by decide) (by decide) (by decide) e
    · rw [e, hC] at hC2; cases hC2
  refine ⟨⟨_, _, _, _, _, _, _, _, _, _, _, _, _, _, S, ⟨x.tk.others y.tk D hC (by decide) (by decide) (by decide) (by decide) x.new F, y.md.foot F ng, y.new⟩, two_new D y.tk hv⟩, ⟨F.os, F.tape, F.output, F.size, fun b cs ty hb ht => F.block b (lt_of_heap hb) fun e => ?_⟩⟩
  rcases e with e | e
  · exact x.tk.noAsk hb ht.1.1 ht.1.2.1 ht.1.2.2.1 e
  · rw [e, hC] at hb; cases hb; exact ht.1.2.2.2 rfl
/- a deed on the model -/
theorem Om.both (x : Od w0 w B g go m a h k p v ws t es T) (y : Om w0 w B2 mg go2 m2 a2 h2 k2 p v2 ws u fs U) (D : Two go m a v go2 m2 a2 v2) (E : OmEnd w0 w B2 mg go2 m2 a2 h2 k2 p v2 ws w' u1 fs1 U1) : Bo w0 w' g mg p ws t es T u1 fs1 U1 ∧ Kq w w' := by
  obtain ⟨v', S, F, hv⟩ := E
  obtain ⟨C, hC⟩ := x.tb.blk
  obtain ⟨C2, hC2⟩ := y.md.blk
  have ng : ¬ OdS mg go2 m2 a2 v2 g := fun e => by
    rcases e with e | e
    · exact y.tk.noAsk hC (by decide) (by decide) (by decide) e
    · rw [e, hC2] at hC; cases hC
  refine ⟨⟨_, _, _, _, _, _, _, _, _, _, _, _, _, _, ⟨y.tk.others x.tk D.symm hC2 (by decide) (by decide) (by decide) (by decide) y.new F, x.tb.foot F ng, x.new⟩, S, (two_new D.symm x.tk hv).symm⟩, ⟨F.os, F.tape, F.output, F.size, fun b cs ty hb ht => F.block b (lt_of_heap hb) fun e => ?_⟩⟩
  rcases e with e | e
  · exact y.tk.noAsk hb ht.1.1 ht.1.2.1 ht.1.2.2.1 e
  · rw [e, hC2] at hb; cases hb; exact ht.2 rfl
theorem Bo.grow (x : Bo w0 w g mg p ws t es T u fs U) (b : Below w.heap.size w w') : Bo w0 w' g mg p ws t es T u fs U := by
  obtain ⟨B, go, m, a, h, k, v, B2, go2, m2, a2, h2, k2, v2, x, y, D⟩ := x
  exact ⟨_, _, _, _, _, _, _, _, _, _, _, _, _, _, x.grow b, y.grow b, D⟩
theorem Bo.drewN (x : Bo w0 w g mg p ws t es T u fs U) (q : Nat) : Bo w0 (w.drewN q) g mg p ws t es T u fs U := by
  obtain ⟨B, go, m, a, h, k, v, B2, go2, m2, a2, h2, k2, v2, x, y, D⟩ := x
  exact ⟨_, _, _, _, _, _, _, _, _, _, _, _, _, _, x.drewN q, y.drewN q, D⟩
theorem Bo.bel (x : Bo w0 w g mg p ws t es T u fs U) : Below w0.heap.size w0 w := by
  obtain ⟨B, go, m, a, h, k, v, B2, go2, m2, a2, h2, k2, v2, x, y, D⟩ := x
  exact x.tk.new.bel
theorem Bo.glob (x : Bo w0 w g mg p ws t es T u fs U) (hg : Glob w0) : Glob w := hg.carry x.bel
theorem Bo.md (x : Bo w0 w g mg p ws t es T u fs U) : ∃ go, Md w mg p go U := by
  obtain ⟨B, go, m, a, h, k, v, B2, go2, m2, a2, h2, k2, v2, x, y, D⟩ := x
  exact ⟨go2, y.md⟩
theorem Bo.tb (x : Bo w0 w g mg p ws t es T u fs U) : ∃ go, Tb w g p go T := by
  obtain ⟨B, go, m, a, h, k, v, B2, go2, m2, a2, h2, k2, v2, x, y, D⟩ := x
  exact ⟨go, x.tb⟩
theorem Bo.word (x : Bo w0 w g mg p ws t es T u fs U) (j : Nat) : ws.getD j 0 ≤ 281474976710655 := by
  obtain ⟨B, go, m, a, h, k, v, B2, go2, m2, a2, h2, k2, v2, x, y, D⟩ := x
  exact x.tk.tape.word j
/- the model's own block turns -/
theorem Bo.turn (x : Bo w0 w g mg p ws t es T u fs U) (y : ∀ go, Md w mg p go U → Md w' mg p go U1) (f : Foot (fun j => j = mg) w w') : Bo w0 w' g mg p ws t es T u fs U1 ∧ Kq w w' := by
  obtain ⟨B, go, m, a, h, k, v, B2, go2, m2, a2, h2, k2, v2, x, z, D⟩ := x
  exact Om.both x z D (z.turn (y _ z.md) f)
/- other memory turns -/
def Fre2 (w : World) (b : Nat) : Prop := w.heap.size ≤ b ∨ ∃ (cs : Array Value) (ty : TypeId), w.heap[b]? = some (.cells cs ty (0, 0)) ∧ Odd2 ty ∧ ty ≠ 22
theorem Bo.off (x : Bo w0 w g mg p ws t es T u fs U) {S : Nat → Prop} (f : Foot S w w') (hS : ∀ b, S b → w0.heap.size ≤ b ∧ Fre2 w b) : Bo w0 w' g mg p ws t es T u fs U := by
  obtain ⟨B, go, m, a, h, k, v, B2, go2, m2, a2, h2, k2, v2, x, z, D⟩ := x
  have tkno : ∀ {B go m a h k : Nat} {v : Value} {t : Nat} {es : List Ent}, Tk w0 w B go m a h k v ws t es → ∀ b, S b → b ≠ go ∧ b ≠ m ∧ b ≠ a ∧ b ≠ h ∧ v.ownBlock ≠ some b := by
    intro B go m a h k v t es x b hb
    rcases (hS b hb).2 with e | ⟨cs, ty, e, o, u⟩
    · obtain ⟨y, z, hm⟩ := x.orc.map.isMap
      have h1 := lt_of_heap x.orc.box
      have h2 := lt_of_heap hm
      have h3 := lt_of_heap x.tape.box
      have h4 : h < w.heap.size := x.tape.row.lt
      refine ⟨by omega, by omega, by omega, by omega, fun er => ?_⟩
      obtain ⟨cur, hx, _⟩ := owns_block x.orc.row er
      have := lt_of_heap hx
      omega
    · exact x.noBlk e o.1.1 o.1.2.1 o.1.2.2.1 u
  have tkoff : ∀ {B go m a h k : Nat} {v : Value} {t : Nat} {es : List Ent}, Tk w0 w B go m a h k v ws t es → Tk w0 w' B go m a h k v ws t es := by
    intro B go m a h k v t es x
    have no := tkno x
    exact ⟨x.orc.foot f (fun e => (no _ e).1 rfl) (fun e => (no _ e).2.1 rfl) (fun r hr e => (no _ e).2.2.2.2 hr), x.tape.foot f (fun e => (no _ e).2.2.1 rfl) (fun e => (no _ e).2.2.2.1 rfl), ⟨x.new.b0, x.new.a0, x.new.h0, x.new.bel.trans (f.below x.new.bel.size fun j e => (hS j e).1), Nat.le_trans x.new.bs f.size⟩⟩
  have blk : ∀ {b : Nat} {C : Array Value} {ty : TypeId}, w.heap[b]? = some (.cells C ty (0, 0)) → ¬ Odd2 ty → ¬ S b := by
    intro b C ty hC hn e
    rcases (hS b e).2 with e | ⟨cs, ty', e, o, _⟩
    · have := lt_of_heap hC; omega
    · rw [hC] at e; cases e; exact hn o
  obtain ⟨C, hC⟩ := x.tb.blk
  obtain ⟨C2, hC2⟩ := z.md.blk
  exact ⟨_, _, _, _, _, _, _, _, _, _, _, _, _, _, ⟨tkoff x.tk, x.tb.foot f (blk hC fun o => o.1.2.2.2 rfl), x.new⟩, ⟨tkoff z.tk, z.md.foot f (blk hC2 fun o => o.2 rfl), z.new⟩, D⟩
theorem Bo.cap (x : Bo w0 w g mg p ws t es T u fs U) {b : Nat} (C : CapB w b) (hb : w0.heap.size ≤ b) (f : Foot (fun j => j = b) w w') : Bo w0 w' g mg p ws t es T u fs U := by
  obtain ⟨cs, hc⟩ := C
  refine x.off f fun j e => ?_
  subst e
  exact ⟨hb, .inr ⟨cs, _, hc, cap_odd2, by decide⟩⟩
theorem Bo.row (x : Bo w0 w g mg p ws t es T u fs U) {B n : Nat} {v : Value} {xs : List Value} (h : w.ownsRow B 49 4 v n xs) (hB : w0.heap.size ≤ B) (f : Foot (fun k => v.ownBlock = some k) w w') : Bo w0 w' g mg p ws t es T u fs U := by
  refine x.off f fun b e => ?_
  obtain ⟨cur, h1, h2⟩ := owns_block h e
  exact ⟨Nat.le_trans hB h2, .inr ⟨cur, _, h1, cap_odd2, by decide⟩⟩
end Go.Proofs.YtgcmompldcnhlaaDoor
namespace Go.Proofs.YtgcmompldcnhlaaDoor
open Go.RowKit
variable {w0 w w1 w2 : World} {B g go m a h k p : Nat} {v v1 : Value} {ws : List Nat} {t t1 : Nat} {es es1 : List Ent} {T T1 : Nat → Ob}
theorem Om.wrd (x : Om w0 w B g go m a h k p v ws t es T) (j : Nat) : (T j).s ≤ 281474976710655 := (x.md.ok j).1
def erI (b : Bool) : Int := match b with | true => 0 | false => 7
set_option maxHeartbeats 800000 in
theorem mcheck_any (s r : Nat) (w : World) (x : Om w0 w B g go m a h k p v ws t es T) (hs : s ≤ 281474976710655) (hr : r ≤ 255) (hl : es.length ≤ 5000000000000) (hg : Glob w0) (X : Ans) (hX : ofF ws t es s r = X) :
    Calls Tryd.prog 29 #[.pointer (some ⟨g, 0, none⟩), .int .u64 (s : Int), .int .u8 (r : Int)] w fun e w' => e = .returned (.tuple #[.int .u64 (X.x : Int), .int .i64 (erI X.ok)]) ∧ OmEnd w0 w B g go m a h k p v ws w' X.t X.es T := by
  have hms : s % 281474976710656 = s := Nat.mod_eq_of_lt (by omega)
  by_cases h1 : r = 255
  · subst h1
    have e : X = ⟨s, true, t, es⟩ := by rw [← hX, of_owner, hms]
    subst e
    have HX := hide x
    clear x hX hs hr hl hms
    go_enter Tryd.func29, Tryd.ntmps29
    go_wp2
    go_ret2
    exact ⟨rfl, HX.out.stay⟩
  · have eo : ofF ws t es s r = ansF ws t es 1 (s ^^^ r) := by unfold ofF; rw [if_neg h1, hms]
    rw [eo] at hX
    have hx := xor_lt s r hr
    rw [hms] at hx
    have hxn := xor_nat s r (by omega) (by omega)
    obtain ⟨y, hy⟩ : ∃ y, s ^^^ r = y := ⟨_, rfl⟩
    rw [hy] at hx hxn hX
    have HXX := hide hX
    have HX := hide hx
    have HK := hide x
    have HL := hide hl
    have HG := hide hg
    have hr1 : ¬ ((r : Int) = 255) := by omega
    have hr0 : (0 : Int) ≤ r := by omega
    have hr2 : (r : Int) ≤ 255 := by omega
    have k1 := x.md.c1
    clear hy hx hs x hl eo h1 hr hX hms hg
    obtain ⟨x, ok, t', es'⟩ := X
    go_enter Tryd.func29, Tryd.ntmps29
    go_wp2_with fail
    refine (ask_ans w0 B go m a h k v ws t es 1 y _ HK.out.tk (by omega) (by have := HX.out; omega) HL.out).mono ?_
    rw [Nat.mod_eq_of_lt HX.out, HXX.out]
    rintro e w1 ⟨rfl, L⟩
    obtain ⟨v', S, F, hv⟩ := HK.out.asked L
    have HE : Hid (OmEnd w0 w B g go m a h k p v ws w1 t' es' T) := ⟨v', S, F, hv⟩
    have HGl := hide (HG.out.carry S.tk.new.bel)
    clear L S F hv HXX k1
    cases ok <;> simp only [erV]
    · go_wp2_with fail
      refine (number_errno 7 _ HGl.out).mono ?_; rintro e w2 ⟨rfl, b2⟩
      have HE2 := hide (HE.out.to b2)
      clear b2
      go_wp2
      go_ret2
      exact ⟨rfl, HE2.out⟩
    · go_wp2_with fail
      refine (number_nil _).mono ?_; rintro e w2 ⟨rfl, b2⟩
      have HE2 := hide (HE.out.to b2)
      clear b2
      go_wp2
      go_ret2
      exact ⟨rfl, HE2.out⟩
/- of a capability that is none's: no oracle is asked -/
set_option maxHeartbeats 1600000 in
theorem mCheck_port (c : Cp) (need : Nat) (w : World) (x : Md w g p go T) (hc : c.ok) (hn : c.p ≠ p) :
    Calls Tryd.prog 28 #[.pointer (some ⟨g, 0, none⟩), c.val, .int .u8 (need : Int)] w fun e w' => e = .returned (.tuple #[.int .i64 0, .int .i64 1]) ∧ Below w.heap.size w w' := by
  obtain ⟨cp, co, cr, cc⟩ := c
  obtain ⟨Y, hY⟩ : ∃ Y, w.alloc (.cells #[.int .u64 (cp : Int), .int .u32 (co : Int), .int .u8 (cr : Int), .int .u64 (cc : Int)] 49) = Y := ⟨_, rfl⟩
  have bY : Below w.heap.size w Y := hY ▸ below_alloc w _
  have xY := x.grow bY
  have cY : CBox Y w.heap.size cp co cr cc := hY ▸ CBox.new w cp co cr cc
  have k0 : ∀ q, (Y.drewN q).cell? ⟨w.heap.size, 0, none⟩ = some (.int .u64 (cp : Int)) := fun _ => cY.c0
  have p0 : ∀ q, (Y.drewN q).cell? ⟨g, 0, none⟩ = some (.int .u64 (p : Int)) := fun _ => xY.c0
  have hne : ¬ (cp : Int) = (p : Int) := by have : cp ≠ p := hn; omega
  have hnb : ((cp : Int) != (p : Int)) = true := by simpa using hne
  have hu : undef = Value.tuple #[] := rfl
  have HB := hide bY
  rw [cap_val]
  clear x xY cY hc hn bY hne
  go_enter Tryd.func28, Tryd.ntmps28
  go_upto_region 1 with fail
  go_quiet (fail)
  go_wp2
  go_ret2
  exact ⟨rfl, below_drewN HB.out _⟩
set_option maxHeartbeats 1600000 in
theorem mCheck_far (c : Cp) (need : Nat) (w : World) (x : Md w g p go T) (hc : c.ok) (hp : c.p = p) (hn : 64 ≤ c.o) :
    Calls Tryd.prog 28 #[.pointer (some ⟨g, 0, none⟩), c.val, .int .u8 (need : Int)] w fun e w' => e = .returned (.tuple #[.int .i64 0, .int .i64 1]) ∧ Below w.heap.size w w' := by
  obtain ⟨cp, co, cr, cc⟩ := c
  obtain rfl : cp = p := hp
  obtain ⟨Y, hY⟩ : ∃ Y, w.alloc (.cells #[.int .u64 (cp : Int), .int .u32 (co : Int), .int .u8 (cr : Int), .int .u64 (cc : Int)] 49) = Y := ⟨_, rfl⟩
  have bY : Below w.heap.size w Y := hY ▸ below_alloc w _
  have xY := x.grow bY
  have cY : CBox Y w.heap.size cp co cr cc := hY ▸ CBox.new w cp co cr cc
  have k0 : ∀ q, (Y.drewN q).cell? ⟨w.heap.size, 0, none⟩ = some (.int .u64 (cp : Int)) := fun _ => cY.c0
  have k1 : ∀ q, (Y.drewN q).cell? ⟨w.heap.size, 1, none⟩ = some (.int .u32 (co : Int)) := fun _ => cY.c1
  have p0 : ∀ q, (Y.drewN q).cell? ⟨g, 0, none⟩ = some (.int .u64 (cp : Int)) := fun _ => xY.c0
  have hge : (64 : Int) ≤ (co : Int) := by have : 64 ≤ co := hn; omega
  have hgb : decide ((64 : Int) ≤ (co : Int)) = true := decide_eq_true hge
  have hu : undef = Value.tuple #[] := rfl
  have HB := hide bY
  rw [cap_val]
  clear x xY cY hc hn bY
  go_enter Tryd.func28, Tryd.ntmps28
  go_upto_region 1 with fail
  go_quiet (fail)
  go_wp2
  go_ret2
  exact ⟨rfl, below_drewN HB.out _⟩
set_option maxHeartbeats 1600000 in
theorem mCheck_gone (c : Cp) (need : Nat) (w : World) (x : Md w g p go T) (hc : c.ok) (hp : c.p = p) (hn : c.o < 64) (hl : ¬ 0 < (T c.o).l) :
    Calls Tryd.prog 28 #[.pointer (some ⟨g, 0, none⟩), c.val, .int .u8 (need : Int)] w fun e w' => e = .returned (.tuple #[.int .i64 0, .int .i64 1]) ∧ Below w.heap.size w w' := by
  obtain ⟨cp, co, cr, cc⟩ := c
  obtain rfl : cp = p := hp
  obtain ⟨Y, hY⟩ : ∃ Y, w.alloc (.cells #[.int .u64 (cp : Int), .int .u32 (co : Int), .int .u8 (cr : Int), .int .u64 (cc : Int)] 49) = Y := ⟨_, rfl⟩
  have bY : Below w.heap.size w Y := hY ▸ below_alloc w _
  have xY := x.grow bY
  have cY : CBox Y w.heap.size cp co cr cc := hY ▸ CBox.new w cp co cr cc
  have k0 : ∀ q, (Y.drewN q).cell? ⟨w.heap.size, 0, none⟩ = some (.int .u64 (cp : Int)) := fun _ => cY.c0
  have k1 : ∀ q, (Y.drewN q).cell? ⟨w.heap.size, 1, none⟩ = some (.int .u32 (co : Int)) := fun _ => cY.c1
  have p0 : ∀ q, (Y.drewN q).cell? ⟨g, 0, none⟩ = some (.int .u64 (cp : Int)) := fun _ => xY.c0
  have ho : co < 64 := hn
  have hl2 : ¬ 0 < (T co).l := hl
  rcases hT : T co with ⟨s, ep, vl, l⟩
  rw [hT] at hl2
  have h0 : decide (0 < l) = false := decide_eq_false hl2
  have p2 : ∀ q, (Y.drewN q).cell? ⟨g, 2 + co * 5, none⟩ = some (.bool false) := fun _ => by rw [← h0]; exact (xY.at co ho s ep vl l hT).1
  have hge : (co : Int) < 64 := by omega
  have hgb : decide ((64 : Int) ≤ (co : Int)) = false := decide_eq_false (by omega)
  have hu : undef = Value.tuple #[] := rfl
  have HB := hide bY
  rw [cap_val]
  clear x xY cY hc hn bY hl hl2 h0 hT ho
  go_enter Tryd.func28, Tryd.ntmps28
  go_upto_region 1 with fail
  go_quiet (fail)
  go_wp2
  go_ret2
  exact ⟨rfl, below_drewN HB.out _⟩
theorem CBox.om {b p0 o r c : Nat} (x : CBox w b p0 o r c) (S : Om w0 w B g go m a h k p v ws t es T) (F : Foot (OdS g go m a v) w w1) : CBox w1 b p0 o r c := by
  refine x.foot F fun e => ?_
  rcases e with e | e
  · exact S.tk.noAsk x (by decide) (by decide) (by decide) e
  · obtain ⟨C, hC⟩ := S.md.blk
    unfold CBox at x
    rw [e, hC] at x; cases x
set_option maxHeartbeats 3200000 in
theorem mCheck_has (c : Cp) (need : Nat) (w : World) (x : Om w0 w B g go m a h k p v ws t es T) (hc : c.ok) (hp : c.p = p) (hn : hasO T c.o = true) (hnd : need ≤ 255) (hl : es.length ≤ 5000000000000) (hg : Glob w0) (X : Ans) (hX : ofF ws t es (T c.o).s c.r = X) :
    Calls Tryd.prog 28 #[.pointer (some ⟨g, 0, none⟩), c.val, .int .u8 (need : Int)] w fun e w' => e = .returned (.tuple #[.int .i64 (if X.ok = true ∧ c.c = X.x ∧ c.r &&& need = need then (c.o : Int) else 0), .int .i64 (if X.ok = false then 7 else if c.c ≠ X.x then 1 else if c.r &&& need ≠ need then 2 else 0)]) ∧ OmEnd w0 w B g go m a h k p v ws w' X.t X.es T := by
  obtain ⟨cp, co, cr, cc⟩ := c
  obtain rfl : cp = p := hp
  have hX' : ofF ws t es (T co).s cr = X := hX
  rcases hT : T co with ⟨s, ep, vl, l⟩
  rw [hT] at hX'
  have hs : s ≤ 281474976710655 := by have := (x.md.ok co).1; rw [hT] at this; exact this
  have ho : co < 64 := (hasO_yes hn).1
  have h0 : 0 < l := by have := (hasO_yes hn).2; rw [hT] at this; exact this
  obtain ⟨Y, hY⟩ : ∃ Y, w.alloc (.cells #[.int .u64 (cp : Int), .int .u32 (co : Int), .int .u8 (cr : Int), .int .u64 (cc : Int)] 49) = Y := ⟨_, rfl⟩
  have bY : Below w.heap.size w Y := hY ▸ below_alloc w _
  have xY := x.grow bY
  have cY : CBox Y w.heap.size cp co cr cc := hY ▸ CBox.new w cp co cr cc
  have k0 : ∀ q, (Y.drewN q).cell? ⟨w.heap.size, 0, none⟩ = some (.int .u64 (cp : Int)) := fun _ => cY.c0
  have k1 : ∀ q, (Y.drewN q).cell? ⟨w.heap.size, 1, none⟩ = some (.int .u32 (co : Int)) := fun _ => cY.c1
  have p0 : ∀ q, (Y.drewN q).cell? ⟨g, 0, none⟩ = some (.int .u64 (cp : Int)) := fun _ => xY.md.c0
  have p2 : ∀ q, (Y.drewN q).cell? ⟨g, 2 + co * 5, none⟩ = some (.bool true) := fun _ => by rw [← decide_eq_true h0]; exact (xY.md.at co ho s ep vl l hT).1
  have hge : (co : Int) < 64 := by omega
  have hgb : decide ((64 : Int) ≤ (co : Int)) = false := decide_eq_false (by omega)
  have HK := hide xY
  have HC := hide cY
  have HX := hide hX'
  have HS := hide hs
  have HT := hide hT
  have HL := hide hl
  have HR := hide hc.2.2.1
  have HI := hide ho
  have HB := hide bY
  have HG := hide hg
  have hand := and_nat cr need hc.2.2.1 hnd
  have hu : undef = Value.tuple #[] := rfl
  have hco0 : (0 : Int) ≤ co := by omega
  clear x xY cY hc hn bY hX hX' hT hs hl ho h0 hg
  obtain ⟨y, ok, t', es'⟩ := X
  obtain ⟨R, hR⟩ : ∃ R : Int, (if ok = true ∧ cc = y ∧ cr &&& need = need then (co : Int) else 0) = R := ⟨_, rfl⟩
  obtain ⟨E, hE⟩ : ∃ E : Int, (if ok = false then 7 else if cc ≠ y then 1 else if cr &&& need ≠ need then 2 else 0) = E := ⟨_, rfl⟩
  rw [show (if (Ans.mk y ok t' es').ok = true ∧ cc = (Ans.mk y ok t' es').x ∧ cr &&& need = need then (co : Int) else 0) = R from hR, show (if (Ans.mk y ok t' es').ok = false then (7 : Int) else if cc ≠ (Ans.mk y ok t' es').x then 1 else if cr &&& need ≠ need then 2 else 0) = E from hE]
  have HRR := hide hR
  have HER := hide hE
  rw [cap_val]
  clear hR hE
  go_enter Tryd.func28, Tryd.ntmps28
  go_upto_region 1 with fail
  go_quiet (fail)
  clear k0 k1 p0 p2
  go_upto_region 3 with fail
  obtain ⟨Z, hZ⟩ : ∃ Z, Y.drewN nq = Z := ⟨_, rfl⟩
  have HBZ : Hid (Below w.heap.size w Z) := hZ ▸ below_drewN HB.out nq
  have HK : Hid (Om w0 Z B g go m a h k cp v ws t es T) := hZ ▸ HK.out.drewN nq
  have HC : Hid (CBox Z w.heap.size cp co cr cc) := hZ ▸ HC.out.drewN nq
  rw [hZ]
  clear hZ HB
  have HK2 := hide (HK.out.drewN 1)
  have HC2 := hide (HC.out.drewN 1)
  go_region_held (fun W => W.cell? ⟨g, 2 + co * 5 + 1, none⟩ = some (.int .u64 (s : Int)) ∧ W.cell? ⟨w.heap.size, 0, none⟩ = some (.int .u64 (cp : Int)) ∧ W.cell? ⟨w.heap.size, 1, none⟩ = some (.int .u32 (co : Int)) ∧ W.cell? ⟨w.heap.size, 2, none⟩ = some (.int .u8 (cr : Int)) ∧ W.cell? ⟨w.heap.size, 3, none⟩ = some (.int .u64 (cc : Int))) (exact ⟨(HK2.out.md.at co HI.out s ep vl l HT.out).2.1, HC2.out.c0, HC2.out.c1, HC2.out.c2, HC2.out.c3⟩) (first
    | (go_at_call 29; refine (mcheck_any s cr _ HK2.out HS.out HR.out HL.out HG.out _ HX.out).mono ?_; rintro e wx ⟨rfl, L⟩; have HE := hide L; have HC2 := hide (HC2.out.om HK2.out L.choose_spec.2.1); clear L; have HK2 := hide HE.out.choose_spec.1))
  have HEE : Hid (OmEnd w0 w B g go m a h k cp v ws wx t' es' T) := HE.out.from (below_drewN HBZ.out 1)
  have c1 := HC2.out.c1
  have c2 := HC2.out.c2
  have c3 := HC2.out.c3
  clear HE HK HK2 HC HX HT HBZ
  cases ok with
  | false =>
    have e1 : R = 0 := by rw [← HRR.out]; exact if_neg (fun e => by cases e.1)
    have e2 : E = 7 := by rw [← HER.out]; rfl
    subst e1 e2
    simp only [erI]
    go_wp2
    go_ret2
    exact ⟨rfl, HEE.out⟩
  | true =>
    simp only [erI]
    by_cases hcx : cc = y
    · have hxb : ((y : Int) != (cc : Int)) = false := by rw [hcx]; simp
      by_cases hr : cr &&& need = need
      · have e1 : R = (co : Int) := by rw [← HRR.out]; exact if_pos ⟨rfl, hcx, hr⟩
        have e2 : E = 0 := by rw [← HER.out, if_neg (by simp), if_neg (fun e => e hcx), if_neg (fun e => e hr)]
        subst e1 e2
        rw [hr] at hand
        clear hcx
        go_wp2
        go_ret2
        exact ⟨rfl, HEE.out⟩
      · have e1 : R = 0 := by rw [← HRR.out]; exact if_neg (fun e => hr e.2.2)
        have e2 : E = 2 := by rw [← HER.out, if_neg (by simp), if_neg (fun e => e hcx), if_pos hr]
        subst e1 e2
        have hr1 : (((cr &&& need : Nat) : Int) != (need : Int)) = true := by rw [bne_iff_ne]; omega
        obtain ⟨z, hz⟩ : ∃ z, cr &&& need = z := ⟨_, rfl⟩
        rw [hz] at hand hr1
        clear hcx hr hz
        go_wp2
        go_ret2
        exact ⟨rfl, HEE.out⟩
    · have e1 : R = 0 := by rw [← HRR.out]; exact if_neg (fun e => hcx e.2.1)
      have e2 : E = 1 := by rw [← HER.out, if_neg (by simp), if_pos hcx]
      subst e1 e2
      have hxb : ((y : Int) != (cc : Int)) = true := by rw [bne_iff_ne]; omega
      clear hcx
      go_wp2
      go_ret2
      exact ⟨rfl, HEE.out⟩
theorem mCheck_any (c : Cp) (need : Nat) (w : World) (x : Om w0 w B g go m a h k p v ws t es T) (hc : c.ok) (hnd : need ≤ 255) (hl : es.length ≤ 5000000000000) (hg : Glob w0) (R : Chk) (hR : chkF ws t es p T c need = R) :
    Calls Tryd.prog 28 #[.pointer (some ⟨g, 0, none⟩), c.val, .int .u8 (need : Int)] w fun e w' => e = .returned (.tuple #[.int .i64 (R.k : Int), .int .i64 (R.e : Int)]) ∧ OmEnd w0 w B g go m a h k p v ws w' R.t R.es T := by
  subst hR
  have none_ : chkF ws t es p T c need = ⟨0, 1, t, es⟩ → (Calls Tryd.prog 28 #[.pointer (some ⟨g, 0, none⟩), c.val, .int .u8 (need : Int)] w fun e w' => e = .returned (.tuple #[.int .i64 0, .int .i64 1]) ∧ Below w.heap.size w w') → Calls Tryd.prog 28 #[.pointer (some ⟨g, 0, none⟩), c.val, .int .u8 (need : Int)] w fun e w' => e = .returned (.tuple #[.int .i64 ((chkF ws t es p T c need).k : Int), .int .i64 ((chkF ws t es p T c need).e : Int)]) ∧ OmEnd w0 w B g go m a h k p v ws w' (chkF ws t es p T c need).t (chkF ws t es p T c need).es T := by
    intro e h
    rw [e]
    refine h.mono ?_
    rintro e w1 ⟨rfl, b⟩
    exact ⟨rfl, x.stay.to b⟩
  by_cases hp : c.p = p
  · by_cases ho : c.o < 64
    · by_cases h0 : 0 < (T c.o).l
      · have hn : hasO T c.o = true := hasO_of ho h0
        refine (mCheck_has c need w x hc hp hn hnd hl hg _ rfl).mono ?_
        rintro e w1 ⟨rfl, E⟩
        unfold chkF
        rw [if_neg (show ¬ (c.p ≠ p ∨ hasO T c.o = false) from fun e => by
          rcases e with e | e
          · exact e hp
          · rw [hn] at e; cases e)]
        obtain ⟨X, hX⟩ : ∃ X, ofF ws t es (T c.o).s c.r = X := ⟨_, rfl⟩
        rw [hX] at E ⊢
        obtain ⟨y, ok, t', es'⟩ := X
        cases ok with
        | false => exact ⟨by simp, E⟩
        | true =>
          by_cases hcx : c.c = y
          · by_cases hr : c.r &&& need = need
            · simp [hcx, hr]; exact E
            · simp [hcx, hr]; exact E
          · simp [hcx]; exact E
      · exact none_ (chk_none (.inr (by unfold hasO; rw [decide_eq_false h0, Bool.and_false]))) (mCheck_gone c need w x.md hc hp ho h0)
    · exact none_ (chk_none (.inr (by unfold hasO; rw [decide_eq_false ho, Bool.false_and]))) (mCheck_far c need w x.md hc hp (by omega))
  · exact none_ (chk_none (.inl hp)) (mCheck_port c need w x.md hc hp)
end Go.Proofs.YtgcmompldcnhlaaDoor
namespace Go.Proofs.YtgcmompldcnhlaaDoor
open Go.RowKit
variable {w0 w w1 w2 : World} {B g go m a h k p : Nat} {v v1 : Value} {ws : List Nat} {t t1 : Nat} {es es1 : List Ent} {T T1 : Nat → Ob}
def CreRel (Y : World) (T : Nat → Ob) (gk : Nat) (vi : Value) (wr : World) : Prop := ∃ i : Nat, i + gk = 64 ∧ vi = .int .i64 (i : Int) ∧ (∀ j, j < i → (T j).l ≠ 0) ∧ Y = wr
set_option maxRecDepth 20000 in
set_option maxHeartbeats 3200000 in
theorem mcreate_any (vl : Int) (w : World) (x : Om w0 w B g go m a h k p v ws t es T) (R : Cre) (hR : creF ws t es p T vl = R) :
    Calls Tryd.prog 27 #[.pointer (some ⟨g, 0, none⟩), .int .i64 vl] w fun e w' => e = .returned (.tuple #[R.c.val, .int .i64 (R.e : Int)]) ∧ OmEnd w0 w B g go m a h k p v ws w' R.t R.es R.T := by
  obtain ⟨Y, hY⟩ : ∃ Y, w.alloc (.cells #[.int .u64 0, .int .u32 0, .int .u8 0, .int .u64 0] 49) = Y := ⟨_, rfl⟩
  have bY : Below w.heap.size w Y := hY ▸ below_alloc w _
  have HK := hide (x.grow bY)
  have HC : Hid (CBox Y w.heap.size 0 0 0 0) := hY ▸ CBox.new w 0 0 0 0
  have HB := hide bY
  have HW := hide x.tk.new.bel.size
  have HRR := hide hR
  clear x bY hR
  go_enter Tryd.func27, Tryd.ntmps27
  go_wp2_with fail
  clear hY
  go_loopg [6] 64 (fun gk vi wr => CreRel Y T gk vi wr)
  case atStart => exact ⟨0, by omega, rfl, fun j hj => by omega, rfl⟩
  case round =>
    obtain ⟨i, hi, rfl, hno, rfl⟩ := hrel
    have HN := hide hno
    clear hno
    cases gk with
    | zero =>
      obtain rfl : i = 64 := by omega
      have e : R = ⟨Cp.zero, 5, t, es, T⟩ := by
        rw [← HRR.out]; unfold creF; rw [if_neg (by rw [freeO_none HN.out]; omega)]
      subst e
      have HE : Hid (OmEnd w0 w B g go m a h k p v ws Y t es T) := HK.out.stay.from HB.out
      have d0 : Y.cell? ⟨w.heap.size, 0, none⟩ = some (.int .u64 0) := HC.out.c0
      have d1 : Y.cell? ⟨w.heap.size, 1, none⟩ = some (.int .u32 0) := HC.out.c1
      have d2 : Y.cell? ⟨w.heap.size, 2, none⟩ = some (.int .u8 0) := HC.out.c2
      have d3 : Y.cell? ⟨w.heap.size, 3, none⟩ = some (.int .u64 0) := HC.out.c3
      have z := HC.out.z
      go_wp2
      refine bodyPost_ret (by simp [results, Tryd.results27, go_sem, d0, d1, d2, d3]; rfl) rfl ?_
      exact ⟨rfl, HE.out.cap HC.out.capB HW.out (Nat.le_refl _) (foot4 _ _ _ _ _ _)⟩
    | succ g1 =>
      have hin : i < 64 := by omega
      have hlt : (i : Int) < 64 := by omega
      have hi0 : (0 : Int) ≤ (i : Int) := by omega
      rcases hT : T i with ⟨s, ep, vv, l⟩
      obtain ⟨k0, -⟩ := HK.out.md.at i hin s ep vv l hT
      have HT := hide hT
      have HIN := hide hin
      have HI := hide hi
      clear hT hin hi
      by_cases hl : 0 < l
      · rw [decide_eq_true hl] at k0
        have HLL := hide hl
        clear hl
        go_wp2_with fail
        go_roundg g1
        case measure => have := HI.out; omega
        case rel =>
          refine ⟨i + 1, by have := HI.out; omega, by go_num, fun j hj => ?_, rfl⟩
          by_cases e : j = i
          · rw [e, HT.out]; have := HLL.out; show l ≠ 0; omega
          · exact HN.out j (by omega)
      · rw [decide_eq_false hl] at k0
        have hf : freeO T = i := freeO_eq HIN.out (by rw [HT.out]; show l = 0; omega) HN.out
        have hne : ((i : Int) == 64) = false := by rw [beq_eq_false_iff_ne]; omega
        have k1 := HK.out.md.c1
        have HF := hide hf
        clear hl hf
        go_wp2_with fail
        refine (draw_ans _ HK.out.tk).mono ?_
        by_cases ht : t < ws.length
        · have eX : drwF ws t es = ⟨ws.getD t 0, true, t + 1, es⟩ := if_pos ht
          have hword := HK.out.tk.tape.word t
          have e : R = ⟨⟨p, i, 255, ws.getD t 0⟩, 0, t + 1, es, updO T i ⟨ws.getD t 0, 0, vl, 24⟩⟩ := by
            rw [← HRR.out]; unfold creF; rw [HF.out, if_pos HIN.out, if_pos ht]
          subst e
          rw [eX]
          obtain ⟨sw, hsw⟩ : ∃ s, ws.getD t 0 = s := ⟨_, rfl⟩
          rw [hsw] at hword ⊢
          have HWD := hide hword
          have HSW : Hid (ws[t]?.getD 0 = sw) := by rw [← List.getD_eq_getElem?_getD]; exact hsw
          clear eX ht hword hsw HRR
          rintro e w2 ⟨rfl, L⟩
          have HC2 := hide (HC.out.ask HK.out.tk L.choose_spec.2.1)
          obtain ⟨v2, S2, F2, hv2⟩ := HK.out.asked L
          have HS2 := hide S2
          have HE2 : Hid (∀ (t' : Nat) es' T' wz, OmEnd w0 w2 B g go m a h k p v2 ws wz t' es' T' → OmEnd w0 w B g go m a h k p v ws wz t' es' T') := fun t' es' T' wz E => (OmEnd.on F2 hv2 E).from HB.out
          clear L S2 F2 hv2 k0 k1
          obtain ⟨V, hV⟩ : ∃ V, lay5 w2 g i ⟨sw, 0, vl, 24⟩ = V := ⟨_, rfl⟩
          have HTV : Hid (Md V g p go (updO T i ⟨sw, 0, vl, 24⟩)) := hV ▸ HS2.out.md.lay i HIN.out _ ⟨HWD.out, by show 24 ≤ 24; omega⟩
          have HFV : Hid (Foot (fun j => j = g) w2 V) := hV ▸ foot_lay5 w2 g i _
          simp only [lay5, Int.cast_ofNat_Int, show decide (0 < 24) = true from rfl] at hV
          rcases hT : T i with ⟨s0, e0, v0, l0⟩
          obtain ⟨k0, k1, k2, k3, k4⟩ := HS2.out.md.at i HIN.out s0 e0 v0 l0 hT
          have z := HS2.out.md.z
          have c0 : V.cell? ⟨g, 0, none⟩ = some (.int .u64 (p : Int)) := HTV.out.c0
          have HC3 : Hid (CBox V w.heap.size 0 0 0 0) := hide (by
            refine HC2.out.foot HFV.out fun e => ?_
            obtain ⟨C, hC⟩ := HS2.out.md.blk
            have := HC2.out
            unfold CBox at this
            rw [e, hC] at this; cases this)
          have d0 : V.cell? ⟨w.heap.size, 0, none⟩ = some (.int .u64 0) := HC3.out.c0
          have d1 : V.cell? ⟨w.heap.size, 1, none⟩ = some (.int .u32 0) := HC3.out.c1
          have d2 : V.cell? ⟨w.heap.size, 2, none⟩ = some (.int .u8 0) := HC3.out.c2
          have d3 : V.cell? ⟨w.heap.size, 3, none⟩ = some (.int .u64 0) := HC3.out.c3
          have zz := HC3.out.z
          clear hT
          simp only [erV]
          go_wp2_with fail
          obtain ⟨v3, S3, F3, hv3⟩ := HS2.out.turn HTV.out HFV.out
          refine bodyPost_ret (by simp [results, Tryd.results27, go_sem, d0, d1, d2, d3]; rfl) rfl ?_
          rw [HSW.out]
          exact ⟨rfl, (HE2.out _ _ _ _ ⟨v3, S3, F3, hv3⟩).cap HC3.out.capB HW.out (Nat.le_refl _) (foot4 _ _ _ _ _ _)⟩
        · have eX : drwF ws t es = ⟨0, false, t, es⟩ := if_neg ht
          have e : R = ⟨Cp.zero, 7, t, es, T⟩ := by
            rw [← HRR.out]; unfold creF; rw [HF.out, if_pos HIN.out, if_neg ht]
          subst e
          rw [eX]
          clear eX ht HRR
          rintro e w2 ⟨rfl, L⟩
          have HC2 := hide (HC.out.ask HK.out.tk L.choose_spec.2.1)
          have HE : Hid (OmEnd w0 w B g go m a h k p v ws w2 t es T) := (HK.out.asked L).from HB.out
          clear L k0 k1
          have d0 : w2.cell? ⟨w.heap.size, 0, none⟩ = some (.int .u64 0) := HC2.out.c0
          have d1 : w2.cell? ⟨w.heap.size, 1, none⟩ = some (.int .u32 0) := HC2.out.c1
          have d2 : w2.cell? ⟨w.heap.size, 2, none⟩ = some (.int .u8 0) := HC2.out.c2
          have d3 : w2.cell? ⟨w.heap.size, 3, none⟩ = some (.int .u64 0) := HC2.out.c3
          have z := HC2.out.z
          simp only [erV]
          go_wp2
          refine bodyPost_ret (by simp [results, Tryd.results27, go_sem, d0, d1, d2, d3]; rfl) rfl ?_
          exact ⟨rfl, HE.out.cap HC2.out.capB HW.out (Nat.le_refl _) (foot4 _ _ _ _ _ _)⟩
end Go.Proofs.YtgcmompldcnhlaaDoor
namespace Go.Proofs.YtgcmompldcnhlaaDoor
open Go.RowKit
variable {w0 w w1 w2 w' : World} {g mg p : Nat} {ws : List Nat} {t u : Nat} {es fs : List Ent} {T U : Nat → Ob}
theorem bo_mcreate (vl : Int) (w : World) (x : Bo w0 w g mg p ws t es T u fs U) (R : Cre) (hR : creF ws u fs p U vl = R) :
    Calls Tryd.prog 27 #[.pointer (some ⟨mg, 0, none⟩), .int .i64 vl] w fun e w' => e = .returned (.tuple #[R.c.val, .int .i64 (R.e : Int)]) ∧ Bo w0 w' g mg p ws t es T R.t R.es R.T ∧ Kq w w' := by
  obtain ⟨B, go, m, a, h, k, v, B2, go2, m2, a2, h2, k2, v2, x, y, D⟩ := x
  refine (mcreate_any vl w y R hR).mono ?_
  rintro e w1 ⟨rfl, E⟩
  exact ⟨rfl, Om.both x y D E⟩
theorem bo_mCheck (c : Cp) (need : Nat) (w : World) (x : Bo w0 w g mg p ws t es T u fs U) (hc : c.ok) (hn : need ≤ 255) (hl : fs.length ≤ 5000000000000) (hg : Glob w0) (K : Chk) (hK : chkF ws u fs p U c need = K) :
    Calls Tryd.prog 28 #[.pointer (some ⟨mg, 0, none⟩), c.val, .int .u8 (need : Int)] w fun e w' => e = .returned (.tuple #[.int .i64 (K.k : Int), .int .i64 (K.e : Int)]) ∧ Bo w0 w' g mg p ws t es T K.t K.es U ∧ Kq w w' := by
  obtain ⟨B, go, m, a, h, k, v, B2, go2, m2, a2, h2, k2, v2, x, y, D⟩ := x
  refine (mCheck_any c need w y hc hn hl hg K hK).mono ?_
  rintro e w1 ⟨rfl, E⟩
  exact ⟨rfl, Om.both x y D E⟩
theorem bo_mcheck (s r : Nat) (w : World) (x : Bo w0 w g mg p ws t es T u fs U) (hs : s ≤ 281474976710655) (hr : r ≤ 255) (hl : fs.length ≤ 5000000000000) (hg : Glob w0) (X : Ans) (hX : ofF ws u fs s r = X) :
    Calls Tryd.prog 29 #[.pointer (some ⟨mg, 0, none⟩), .int .u64 (s : Int), .int .u8 (r : Int)] w fun e w' => e = .returned (.tuple #[.int .u64 (X.x : Int), .int .i64 (erI X.ok)]) ∧ Bo w0 w' g mg p ws t es T X.t X.es U ∧ Kq w w' := by
  obtain ⟨B, go, m, a, h, k, v, B2, go2, m2, a2, h2, k2, v2, x, y, D⟩ := x
  refine (mcheck_any s r w y hs hr hl hg X hX).mono ?_
  rintro e w1 ⟨rfl, E⟩
  exact ⟨rfl, Om.both x y D E⟩
theorem bo_mdraw (w : World) (x : Bo w0 w g mg p ws t es T u fs U) (X : Ans) (hX : drwF ws u fs = X) :
    ∃ go2, w.cell? ⟨mg, 1, none⟩ = some (.pointer (some ⟨go2, 0, none⟩)) ∧ Calls Tryd.prog 30 #[.pointer (some ⟨go2, 0, none⟩)] w fun e w' => e = .returned (.tuple #[.int .u64 (X.x : Int), erV X.ok]) ∧ Bo w0 w' g mg p ws t es T X.t X.es U ∧ Kq w w' := by
  obtain ⟨B, go, m, a, h, k, v, B2, go2, m2, a2, h2, k2, v2, x, y, D⟩ := x
  refine ⟨go2, y.md.c1, (draw_ans w y.tk).mono ?_⟩
  rw [hX]
  rintro e w1 ⟨rfl, L⟩
  exact ⟨rfl, Om.both x y D (y.asked L)⟩
theorem bo_create (vl : Int) (w : World) (x : Bo w0 w g mg p ws t es T u fs U) (hl : es.length ≤ 5000000000000) (R : Cre) (hR : creF ws t es p T vl = R) :
    Calls Tryd.prog 16 #[.pointer (some ⟨g, 0, none⟩), .int .i64 vl] w fun e w' => e = .returned (.tuple #[R.c.val, erN (R.e : Int)]) ∧ Bo w0 w' g mg p ws R.t R.es R.T u fs U ∧ Kq w w' := by
  obtain ⟨B, go, m, a, h, k, v, B2, go2, m2, a2, h2, k2, v2, x, y, D⟩ := x
  refine (create_any vl w x hl R hR).mono ?_
  rintro e w1 ⟨rfl, E⟩
  exact ⟨rfl, x.both y D E⟩
theorem bo_check (c : Cp) (need : Nat) (w : World) (x : Bo w0 w g mg p ws t es T u fs U) (hc : c.ok) (hn : need ≤ 255) (hl : es.length ≤ 5000000000000) (K : Chk) (hK : chkF ws t es p T c need = K) :
    Calls Tryd.prog 20 #[.pointer (some ⟨g, 0, none⟩), c.val, .int .u8 (need : Int)] w fun e w' => e = .returned (.tuple #[.int .i64 (K.k : Int), erN (K.e : Int)]) ∧ Bo w0 w' g mg p ws K.t K.es T u fs U ∧ Kq w w' := by
  obtain ⟨B, go, m, a, h, k, v, B2, go2, m2, a2, h2, k2, v2, x, y, D⟩ := x
  refine (check_any c need w x hc hn hl K hK).mono ?_
  rintro e w1 ⟨rfl, E⟩
  exact ⟨rfl, x.both y D E⟩
theorem bo_restrict (c : Cp) (mask : Nat) (w : World) (x : Bo w0 w g mg p ws t es T u fs U) (hc : c.ok) (hm : mask ≤ 255) (hl : es.length < 5000000000000) (R : Cre) (hR : resF ws t es p T c mask = R) :
    Calls Tryd.prog 17 #[.pointer (some ⟨g, 0, none⟩), c.val, .int .u8 (mask : Int)] w fun e w' => e = .returned (.tuple #[R.c.val, erN (R.e : Int)]) ∧ Bo w0 w' g mg p ws R.t R.es R.T u fs U ∧ Kq w w' := by
  obtain ⟨B, go, m, a, h, k, v, B2, go2, m2, a2, h2, k2, v2, x, y, D⟩ := x
  refine (restrict_any c mask w x hc hm hl R hR).mono ?_
  rintro e w1 ⟨rfl, E⟩
  exact ⟨rfl, x.both y D E⟩
theorem bo_revoke (c : Cp) (w : World) (x : Bo w0 w g mg p ws t es T u fs U) (hc : c.ok) (hl : es.length < 5000000000000) (he : ∀ j, (T j).e ≤ 9223372036854775806) (R : Cre) (hR : revF ws t es p T c = R) :
    Calls Tryd.prog 18 #[.pointer (some ⟨g, 0, none⟩), c.val] w fun e w' => e = .returned (.tuple #[R.c.val, erN (R.e : Int)]) ∧ Bo w0 w' g mg p ws R.t R.es R.T u fs U ∧ Kq w w' := by
  obtain ⟨B, go, m, a, h, k, v, B2, go2, m2, a2, h2, k2, v2, x, y, D⟩ := x
  refine (revoke_any c w x hc hl he R hR).mono ?_
  rintro e w1 ⟨rfl, E⟩
  exact ⟨rfl, x.both y D E⟩
/- what Destroy and Touch leave -/
def desT (T : Nat → Ob) (K : Chk) : Nat → Ob := if K.e = 0 then updO T K.k Ob.zero else T
def touT (T : Nat → Ob) (K : Chk) : Nat → Ob := if K.e = 0 then updO T K.k (touO (T K.k)) else T
theorem bo_destroy (c : Cp) (w : World) (x : Bo w0 w g mg p ws t es T u fs U) (hc : c.ok) (hl : es.length ≤ 5000000000000) (K : Chk) (hK : chkF ws t es p T c 8 = K) :
    Calls Tryd.prog 24 #[.pointer (some ⟨g, 0, none⟩), c.val] w fun e w' => e = .returned (.tuple #[.int .i64 (K.k : Int), .int .i64 (if K.e = 0 then (T K.k).v else 0), erN (K.e : Int)]) ∧ Bo w0 w' g mg p ws K.t K.es (desT T K) u fs U ∧ Kq w w' := by
  obtain ⟨B, go, m, a, h, k, v, B2, go2, m2, a2, h2, k2, v2, x, y, D⟩ := x
  unfold desT
  by_cases h0 : K.e = 0
  · rw [if_pos h0, if_pos h0]
    refine (destroy_yes c w x hc hl K hK h0).mono ?_
    rintro e w1 ⟨rfl, E⟩
    exact ⟨by rw [h0]; rfl, x.both y D E⟩
  · rw [if_neg h0, if_neg h0]
    have hk : K.k = 0 := by rw [← hK] at h0 ⊢; exact chk_not h0
    refine (destroy_no c w x hc hl K hK h0).mono ?_
    rintro e w1 ⟨rfl, E⟩
    exact ⟨by rw [hk]; rfl, x.both y D E⟩
theorem bo_touch (c : Cp) (w : World) (x : Bo w0 w g mg p ws t es T u fs U) (hc : c.ok) (hl : es.length ≤ 5000000000000) (K : Chk) (hK : chkF ws t es p T c 0 = K) :
    Calls Tryd.prog 31 #[.pointer (some ⟨g, 0, none⟩), c.val] w fun e w' => e = .returned (erN (K.e : Int)) ∧ Bo w0 w' g mg p ws K.t K.es (touT T K) u fs U ∧ Kq w w' := by
  obtain ⟨B, go, m, a, h, k, v, B2, go2, m2, a2, h2, k2, v2, x, y, D⟩ := x
  unfold touT
  by_cases h0 : K.e = 0
  · rw [if_pos h0]
    refine (touch_yes c w x hc hl K hK h0).mono ?_
    rintro e w1 ⟨rfl, E⟩
    exact ⟨by rw [h0]; rfl, x.both y D E⟩
  · rw [if_neg h0]
    refine (touch_no c w x hc hl K hK h0).mono ?_
    rintro e w1 ⟨rfl, E⟩
    exact ⟨rfl, x.both y D E⟩
theorem bo_info (c : Cp) (w : World) (x : Bo w0 w g mg p ws t es T u fs U) (hc : c.ok) (hl : es.length ≤ 5000000000000) (K : Chk) (hK : chkF ws t es p T c 0 = K) :
    Calls Tryd.prog 23 #[.pointer (some ⟨g, 0, none⟩), c.val] w fun e w' => e = .returned (.tuple #[.int .i64 (if K.e = 0 then ((T K.k).e : Int) else 0), .int .i64 (if K.e = 0 then ((T K.k).l : Int) else 0), erN (K.e : Int)]) ∧ Bo w0 w' g mg p ws K.t K.es T u fs U ∧ Kq w w' := by
  obtain ⟨B, go, m, a, h, k, v, B2, go2, m2, a2, h2, k2, v2, x, y, D⟩ := x
  by_cases h0 : K.e = 0
  · rw [if_pos h0, if_pos h0]
    refine (info_yes c w x hc hl K hK h0).mono ?_
    rintro e w1 ⟨rfl, E⟩
    exact ⟨by rw [h0]; rfl, x.both y D E⟩
  · rw [if_neg h0, if_neg h0]
    refine (info_no c w x hc hl K hK h0).mono ?_
    rintro e w1 ⟨rfl, E⟩
    exact ⟨rfl, x.both y D E⟩
end Go.Proofs.YtgcmompldcnhlaaDoor
namespace Go.Proofs.YtgcmompldcnhlaaDoor
open Go.RowKit
variable {w0 w w1 w2 w' : World} {g mg p ab cb N N' : Nat} {ws : List Nat} {t u : Nat} {es fs : List Ent} {T U : Nat → Ob} {v : Value} {L : List Cp} {o wh ch wi : Nat} {c : Cp}
/- so many deeds were done: both are alike -/
structure Ss (N : Nat) (ws : List Nat) (t : Nat) (es : List Ent) (T : Nat → Ob) (L : List Cp) : Prop where
  ok : ∀ c, c ∈ L → c.ok
  zero : ∀ j, (T j).l = 0 → T j = Ob.zero
  ep : ∀ j, (T j).e ≤ N
  len : L.length ≤ N
  few : N ≤ 2000000
  el : es.length ≤ t
  tl : t ≤ ws.length
  wl : ws.length ≤ 2000000
structure St (N : Nat) (w0 w : World) (g mg p : Nat) (ws : List Nat) (t : Nat) (es : List Ent) (T : Nat → Ob) (v : Value) (L : List Cp) : Prop where
  bo : Bo w0 w g mg p ws t es T t es T
  row : w.ownsRow w0.heap.size 49 4 v L.length (cellsC L)
  ss : Ss N ws t es T L
  gl : Glob w0
  pw : p ≤ 18446744073709551615
/- a deed's four numbers in a variable -/
def ABox (w : World) (b o wh ch wi : Nat) : Prop := w.heap[b]? = some (.cells #[.int .u8 (o : Int), .int .u8 (wh : Int), .int .u8 (ch : Int), .int .u8 (wi : Int)] 40 (0, 0))
theorem ABox.c0 (h : ABox w ab o wh ch wi) : w.cell? ⟨ab, 0, none⟩ = some (.int .u8 (o : Int)) := by rw [cell_of_row w ab 0 _ _ _ h]; rfl
theorem ABox.c1 (h : ABox w ab o wh ch wi) : w.cell? ⟨ab, 1, none⟩ = some (.int .u8 (wh : Int)) := by rw [cell_of_row w ab 1 _ _ _ h]; rfl
theorem ABox.c2 (h : ABox w ab o wh ch wi) : w.cell? ⟨ab, 2, none⟩ = some (.int .u8 (ch : Int)) := by rw [cell_of_row w ab 2 _ _ _ h]; rfl
theorem ABox.c3 (h : ABox w ab o wh ch wi) : w.cell? ⟨ab, 3, none⟩ = some (.int .u8 (wi : Int)) := by rw [cell_of_row w ab 3 _ _ _ h]; rfl
theorem act_odd2 : Odd2 40 := ⟨⟨by decide, by decide, by decide, by decide⟩, by decide⟩
theorem ABox.kq (h : ABox w ab o wh ch wi) (k : Kq w w') : ABox w' ab o wh ch wi := (k.block _ _ _ h act_odd2).trans h
theorem ABox.grow (h : ABox w ab o wh ch wi) (b : Below w.heap.size w w') : ABox w' ab o wh ch wi := h.kq (below_kq b)
theorem ABox.foot {S : Nat → Prop} (h : ABox w ab o wh ch wi) (f : Foot S w w') (hb : ¬ S ab) : ABox w' ab o wh ch wi := (f.block ab (lt_of_heap h) hb).trans h
/- both in one memory, the row, the deed's variable and the capability's -/
structure Hd (w0 w : World) (g mg p : Nat) (ws : List Nat) (t : Nat) (es : List Ent) (T : Nat → Ob) (u : Nat) (fs : List Ent) (U : Nat → Ob) (v : Value) (L : List Cp) (ab cb o wh ch wi : Nat) (c : Cp) : Prop where
  bo : Bo w0 w g mg p ws t es T u fs U
  row : w.ownsRow w0.heap.size 49 4 v L.length (cellsC L)
  act : ABox w ab o wh ch wi
  box : CBox w cb c.p c.o c.r c.c
  off : v.ownBlock ≠ some cb
theorem Hd.kq (h : Hd w0 w g mg p ws t es T u fs U v L ab cb o wh ch wi c) (k : Kq w w') {t1 u1 : Nat} {es1 fs1 : List Ent} {T1 U1 : Nat → Ob} (b : Bo w0 w' g mg p ws t1 es1 T1 u1 fs1 U1) : Hd w0 w' g mg p ws t1 es1 T1 u1 fs1 U1 v L ab cb o wh ch wi c :=
  ⟨b, owns_kq h.row k cap_odd2, h.act.kq k, h.box.kq k, h.off⟩
theorem Hd.grow (h : Hd w0 w g mg p ws t es T u fs U v L ab cb o wh ch wi c) (b : Below w.heap.size w w') : Hd w0 w' g mg p ws t es T u fs U v L ab cb o wh ch wi c := h.kq (below_kq b) (h.bo.grow b)
theorem Hd.drewN (h : Hd w0 w g mg p ws t es T u fs U v L ab cb o wh ch wi c) (q : Nat) : Hd w0 (w.drewN q) g mg p ws t es T u fs U v L ab cb o wh ch wi c := ⟨h.bo.drewN q, h.row, h.act, h.box, h.off⟩
/- the capability's variable is given another one -/
theorem Hd.put (h : Hd w0 w g mg p ws t es T u fs U v L ab cb o wh ch wi c) (hb : w0.heap.size ≤ cb) (y : Cp) :
    Hd w0 ((((w.setCell ⟨cb, 0, none⟩ (.int .u64 (y.p : Int))).setCell ⟨cb, 1, none⟩ (.int .u32 (y.o : Int))).setCell ⟨cb, 2, none⟩ (.int .u8 (y.r : Int))).setCell ⟨cb, 3, none⟩ (.int .u64 (y.c : Int))) g mg p ws t es T u fs U v L ab cb o wh ch wi y := by
  have f := foot4 w cb (.int .u64 (y.p : Int)) (.int .u32 (y.o : Int)) (.int .u8 (y.r : Int)) (.int .u64 (y.c : Int))
  have h1 := heap_setCell_same w cb 0 _ _ (.int .u64 (y.p : Int)) h.box
  have h2 := heap_setCell_same _ cb 1 _ _ (.int .u32 (y.o : Int)) h1
  have h3 := heap_setCell_same _ cb 2 _ _ (.int .u8 (y.r : Int)) h2
  refine ⟨h.bo.cap h.box.capB hb f, owns_foot h.row f (fun r hr e => h.off (e ▸ hr)), h.act.foot f (fun e => ?_), heap_setCell_same _ cb 3 _ _ (.int .u64 (y.c : Int)) h3, h.off⟩
  have h4 := h.act
  have h5 := h.box
  unfold ABox at h4
  unfold CBox at h5
  rw [e, h5] at h4
  cases h4
/- a row of capabilities that grew -/
theorem Hd.app (h : Hd w0 w g mg p ws t es T u fs U v L ab cb o wh ch wi c) {v' : Value} {d : Cp} (ho : w'.ownsRow w0.heap.size 49 4 v' (L.length + 1) (cellsC (L ++ [d]))) (f : Foot (fun k => v.ownBlock = some k) w w') (m : Moved w v v') :
    Hd w0 w' g mg p ws t es T u fs U v' (L ++ [d]) ab cb o wh ch wi c := by
  refine ⟨h.bo.row h.row (Nat.le_refl _) f, by rw [List.length_append]; exact ho, h.act.foot f (fun e => ?_), h.box.foot f h.off, fun e => ?_⟩
  · obtain ⟨cur, h1, _⟩ := owns_block h.row e
    have h4 := h.act
    unfold ABox at h4
    rw [h1] at h4; cases h4
  · rcases m _ e with e | e
    · exact h.off e
    · have := lt_of_heap h.box; omega
theorem owns_cap3 {B n cap : Nat} {ao : Option Addr} (h : w.ownsRow B 49 4 (.slice ao n cap) L.length (cellsC L)) (k : Nat) (hk : k < L.length) (p o r c : Nat) (hc : L.getD k Cp.zero = ⟨p, o, r, c⟩) :
    ∃ b, ao = some ⟨b, 0, none⟩ ∧ w.cell? ⟨b, k * 4, none⟩ = some (.int .u64 (p : Int)) ∧ w.cell? ⟨b, k * 4 + 1, none⟩ = some (.int .u32 (o : Int)) ∧ w.cell? ⟨b, k * 4 + 2, none⟩ = some (.int .u8 (r : Int)) ∧ w.cell? ⟨b, k * 4 + 3, none⟩ = some (.int .u64 (c : Int)) := by
  obtain ⟨b, cap', e, _, _, k0, k1, k2, k3⟩ := owns_cap h rfl k hk p o r c hc
  have e2 : ao = some ⟨b, 0, none⟩ := by cases e; rfl
  exact ⟨b, e2, k0, k1, k2, k3⟩
theorem cap_mem {k : Nat} (hk : k < L.length) : L.getD k Cp.zero ∈ L := by
  rw [List.getD_eq_getElem?_getD, List.getElem?_eq_getElem hk]; exact List.getElem_mem hk
theorem of_wordO {B go2 m2 a2 h2 k2 : Nat} {v2 : Value} (x : Om w0 w B mg go2 m2 a2 h2 k2 p v2 ws u fs U) (s r : Nat) : (ofF ws u fs s r).x ≤ 281474976710655 := by
  rcases of_cases ws u fs s r with ⟨y, hy, e⟩ | ⟨_, _, _, e⟩ | ⟨_, e⟩ <;> rw [e]
  · unfold HasA at hy
    split at hy
    · show y ≤ _; omega
    · obtain ⟨j, h1, h2⟩ := hy
      show y ≤ _
      rw [← h2]
      exact (okAt x.tk.orc.ok j (findE_some h1).1).2.2.2
  · exact x.tk.tape.word u
  · exact Nat.zero_le _
theorem Bo.om (x : Bo w0 w g mg p ws t es T u fs U) : ∃ _ : True, (∀ s r, (ofF ws u fs s r).x ≤ 281474976710655) ∧ True := by
  obtain ⟨B, go, m, a, h, k, v, B2, go2, m2, a2, h2, k2, v2, x, y, D⟩ := x
  exact ⟨trivial, fun s r => of_wordO y s r, trivial⟩
/- another variable of a capability turns -/
theorem Hd.other (h : Hd w0 w g mg p ws t es T u fs U v L ab cb o wh ch wi c) {b : Nat} (C : CapB w b) (hb : w0.heap.size ≤ b) (hc : b ≠ cb) (hv : v.ownBlock ≠ some b) (f : Foot (fun j => j = b) w w') : Hd w0 w' g mg p ws t es T u fs U v L ab cb o wh ch wi c := by
  refine ⟨h.bo.cap C hb f, owns_foot h.row f (fun r hr e => hv (e ▸ hr)), h.act.foot f (fun e => ?_), h.box.foot f (fun e => hc e.symm), h.off⟩
  obtain ⟨cs, hcs⟩ := C
  have h4 := h.act
  unfold ABox at h4
  rw [e, hcs] at h4
  cases h4
theorem put_box {b q1 q2 q3 q4 : Nat} (h : CBox w b q1 q2 q3 q4) (x1 x2 x3 x4 : Nat) : CBox ((((w.setCell ⟨b, 0, none⟩ (.int .u64 (x1 : Int))).setCell ⟨b, 1, none⟩ (.int .u32 (x2 : Int))).setCell ⟨b, 2, none⟩ (.int .u8 (x3 : Int))).setCell ⟨b, 3, none⟩ (.int .u64 (x4 : Int))) b x1 x2 x3 x4 := by
  have h1 := heap_setCell_same w b 0 _ _ (.int .u64 (x1 : Int)) h
  have h2 := heap_setCell_same _ b 1 _ _ (.int .u32 (x2 : Int)) h1
  have h3 := heap_setCell_same _ b 2 _ _ (.int .u8 (x3 : Int)) h2
  exact heap_setCell_same _ b 3 _ _ (.int .u64 (x4 : Int)) h3
/- a capability that was told -/
theorem Ss.tell (h : Ss N ws t es T L) (hN : N < 2000000) (hc : c.ok) {t' : Nat} {es' : List Ent} {T' : Nat → Ob} (h1 : ∀ j, (T' j).l = 0 → T' j = Ob.zero) (h2 : ∀ j, (T' j).e ≤ N + 1) (h3 : es'.length ≤ t') (h4 : t' ≤ ws.length) : Ss (N + 1) ws t' es' T' (L ++ [c]) :=
  ⟨fun d hd => by
    rcases List.mem_append.1 hd with hd | hd
    · exact h.ok d hd
    · rw [List.mem_singleton.1 hd]; exact hc, h1, h2, by have := h.len; simp; omega, by omega, h3, h4, h.wl⟩
/- what a deed leaves -/
def StepEnd (N : Nat) (w0 : World) (g mg p : Nat) (ws : List Nat) (e : Ending) (w' : World) : Prop := ∃ (t' : Nat) (es' : List Ent) (T' : Nat → Ob) (v' : Value) (L' : List Cp), e = .returned (.tuple #[v', .bool true]) ∧ St (N + 1) w0 w' g mg p ws t' es' T' v' L'
theorem of_tl (he : es.length ≤ t) (ht : t ≤ ws.length) (s r : Nat) : (ofF ws t es s r).es.length ≤ (ofF ws t es s r).t ∧ (ofF ws t es s r).t ≤ ws.length := by
  rcases of_cases ws t es s r with ⟨x, _, e⟩ | ⟨_, _, h, e⟩ | ⟨_, e⟩ <;> rw [e]
  · exact ⟨he, ht⟩
  · exact ⟨by simp; exact he, h⟩
  · exact ⟨he, ht⟩
theorem chk_tl (he : es.length ≤ t) (ht : t ≤ ws.length) (c : Cp) (need : Nat) : (chkF ws t es p T c need).es.length ≤ (chkF ws t es p T c need).t ∧ (chkF ws t es p T c need).t ≤ ws.length := by
  have h := of_tl he ht (T c.o).s c.r
  unfold chkF
  split
  · exact ⟨he, ht⟩
  · split
    · exact h
    · split
      · exact h
      · split <;> exact h
/- a deed that leaves table and row as they were -/
theorem Ss.chk {K : Chk} (h : Ss N ws t es T L) (hN : N < 2000000) {need : Nat} (hK : chkF ws t es p T c need = K) : Ss (N + 1) ws K.t K.es T L := by
  have q := chk_tl (p := p) (T := T) h.el h.tl c need
  rw [hK] at q
  exact ⟨h.ok, h.zero, fun j => by have := h.ep j; omega, by have := h.len; omega, by omega, q.1, q.2, h.wl⟩
/- a capability that an owner is given -/
theorem Ss.cre (h : Ss N ws t es T L) (hN : N < 2000000) (hw : ∀ j, ws.getD j 0 ≤ 281474976710655) (hp : p ≤ 18446744073709551615) (vl : Int) :
    Ss (N + 1) ws (creF ws t es p T vl).t (creF ws t es p T vl).es (creF ws t es p T vl).T (if (creF ws t es p T vl).e = 0 then L ++ [(creF ws t es p T vl).c] else L) := by
  have hl := h.len
  have hf := h.few
  by_cases h1 : freeO T < 64
  · by_cases ht : t < ws.length
    · have e : creF ws t es p T vl = ⟨⟨p, freeO T, 255, ws.getD t 0⟩, 0, t + 1, es, updO T (freeO T) ⟨ws.getD t 0, 0, vl, 24⟩⟩ := by unfold creF; rw [if_pos h1, if_pos ht]
      rw [e]
      refine ⟨fun c hc => ?_, fun j hj => ?_, fun j => ?_, by simp; omega, by omega, by have := h.el; show es.length ≤ t + 1; omega, ht, h.wl⟩
      · rw [if_pos rfl] at hc
        rcases List.mem_append.1 hc with hc | hc
        · exact h.ok c hc
        · rw [List.mem_singleton.1 hc]; exact cp_ok hp (by omega) (by decide) (hw t)
      · by_cases e2 : j = freeO T
        · simp only [e2, updO_same] at hj; cases hj
        · simp only [updO_other _ _ e2] at hj ⊢; exact h.zero j hj
      · by_cases e2 : j = freeO T
        · simp only [e2, updO_same]; omega
        · simp only [updO_other _ _ e2]; have := h.ep j; omega
    · have e : creF ws t es p T vl = ⟨Cp.zero, 7, t, es, T⟩ := by unfold creF; rw [if_pos h1, if_neg ht]
      rw [e, if_neg (by show ¬ 7 = 0; omega)]
      exact ⟨h.ok, h.zero, fun j => by have := h.ep j; show (T j).e ≤ _; omega, by omega, by omega, h.el, h.tl, h.wl⟩
  · have e : creF ws t es p T vl = ⟨Cp.zero, 5, t, es, T⟩ := by unfold creF; rw [if_neg h1]
    rw [e, if_neg (by show ¬ 5 = 0; omega)]
    exact ⟨h.ok, h.zero, fun j => by have := h.ep j; show (T j).e ≤ _; omega, by omega, by omega, h.el, h.tl, h.wl⟩
theorem Ss.less (h : Ss N ws t es T L) : es.length ≤ 2000000 := by have := h.el; have := h.tl; have := h.wl; omega
end Go.Proofs.YtgcmompldcnhlaaDoor
