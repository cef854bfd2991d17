/-
  A half of a script: a table with its oracle, a store of segments; what a deed leaves of it; two halves in one memory.
  What an operation answers, in a variable; a server's block; which rights an operation needs.
  A table's deeds in a half, as contracts; what comes of a request, as a function.
  What the server of segments answers, and what it leaves: number, store, table, Need, Gone, size, as contracts.
  What the server of segments answers, and what it leaves: write, grow, read, create, as contracts.
  What the server of segments answers to an operation: Do, as a contract; bytes that a server may keep.
  What the server's own parts answer, and what they leave: whole, need, gone, do, as contracts.
-/
import Derived.Test.YtpbkjmkdciiccaaGreatDoorJf
import Derived.Test.YtpbkjmkdciiccaaGreatDoorJh
import Derived.Test.YtpbkjmkdciiccaaGreatDoorJe
import Derived.Recover
import Derived.Defers
namespace Go.Proofs.YtpbkjmkdciiccaaGreatDoor
section
open Go.RowKit
/- where a half lies -/
structure Ad where
  B : Nat
  g : Nat
  go : Nat
  m : Nat
  a : Nat
  h : Nat
  k : Nat
  v : Value
  sb : Nat × Nat
  sm : Nat
  sa : Nat
  sq : Nat
  N : Nat
  dv : List Bool × List UInt8
  nv : Nat → Option Cel
def Ad.upd (A : Ad) (v : Value) (dv : List Bool × List UInt8) (nv : Nat → Option Cel) : Ad := ⟨A.B, A.g, A.go, A.m, A.a, A.h, A.k, v, A.sb, A.sm, A.sa, A.sq, A.N, dv, nv⟩
/- what a half holds -/
structure Hs where
  t : Nat
  es : List Ent
  T : Nat → Ob
  n : Nat
  L : Nat → Option (List UInt8)
structure Sv (w0 w : World) (A : Ad) (p : Nat) (ws : List Nat) (s : Hs) : Prop where
  od : Od w0 w A.B A.g A.go A.m A.a A.h A.k p A.v ws s.t s.es s.T
  st : Sto w A.N A.sb.2 A.sm A.sa A.sq s.n A.dv A.nv s.L
  n0 : w0.heap.size ≤ A.N
  nw : A.N ≤ w.heap.size
  m0 : w0.heap.size ≤ A.sm
def SvS (A : Ad) (j : Nat) : Prop := OdS A.g A.go A.m A.a A.v j ∨ j = A.sm ∨ StS A.sb.2 A.sa A.sq A.nv j
def SvEnd (w0 w : World) (A : Ad) (p : Nat) (ws : List Nat) (w' : World) (s : Hs) : Prop :=
  ∃ v dv nv, Sv w0 w' (A.upd v dv nv) p ws s ∧ Foot (SvS A) w w' ∧ Moved w A.v v ∧ True ∧ MovC w A.nv nv
variable {w0 w w1 w2 w' : World} {A A' : Ad} {p : Nat} {ws : List Nat} {s s' s1 : Hs}
theorem Moved.refl (w : World) (v : Value) : Moved w v v := fun _ e => .inl e
theorem Moved.trans {v v1 v2 : Value} (h : Moved w v v1) (k : Moved w1 v1 v2) (hs : w.heap.size ≤ w1.heap.size) : Moved w v v2 := fun r e => by
  rcases k r e with e | e
  · exact h r e
  · exact .inr (Nat.le_trans hs e)
/- a block of a type that tables and oracles have nothing of -/
theorem Sv.noT (x : Sv w0 w A p ws s) {b : Nat} {cs : Array Value} {ty : TypeId} (hb : w.heap[b]? = some (.cells cs ty (0, 0))) (ht : Odd ty) : ¬ OdS A.g A.go A.m A.a A.v b := fun e => by
  rcases e with e | e
  · exact x.od.tk.noAsk hb ht.1 ht.2.1 ht.2.2.1 e
  · obtain ⟨C, hC⟩ := x.od.tb.blk
    rw [e, hC] at hb; cases hb; exact ht.2.2.2 rfl
/- a type that no half has anything of -/
def Odd3 (ty : TypeId) : Prop := Odd ty ∧ (ty ≠ 98 ∧ ty ≠ 140) ∧ (ty ≠ 4 ∧ ty ≠ 179) ∧ (ty ≠ 153 ∧ ty ≠ 3 ∧ ty ≠ 28)
variable {B0 st m a b n : Nat} {d : List Bool × List UInt8} {sg : Nat → Option Cel} {L : Nat → Option (List UInt8)}
/- a store's blocks -/
theorem Sto.up (x : Sto w B0 st m a b n d sg L) {q : Nat} (h : StS st a b sg q) : B0 ≤ q ∧ ∃ cs ty, w.heap[q]? = some (.cells cs ty (0, 0)) ∧ StoreTy (.cells cs ty (0, 0)) := by
  have y := x.at'
  rcases h with e | e | e | ⟨i, c, h, e | e⟩
  · subst e; exact ⟨y.hst, _, _, y.box, .inl rfl⟩
  · subst e; exact ⟨y.ha, _, _, y.mem.giv, .inr (.inr (.inl rfl))⟩
  · subst e; exact ⟨y.hb, _, _, y.mem.byt, .inr (.inr (.inr (.inl rfl)))⟩
  · subst e; exact ⟨(y.cel i c h).low, _, _, (y.cel i c h).box, .inr (.inr (.inr (.inr (.inl rfl))))⟩
  · obtain ⟨h1, cur, hr⟩ := (y.cel i c h).ro_is q e
    exact ⟨h1, _, _, hr, .inr (.inr (.inr (.inr (.inr rfl))))⟩
theorem Sto.noB (x : Sto w B0 st m a b n d sg L) {q : Nat} {cs : Array Value} {ty : TypeId} (hb : w.heap[q]? = some (.cells cs ty (0, 0))) (h : q = m ∨ StS st a b sg q) : StoreTy (.cells cs ty (0, 0)) := by
  rcases h with e | e
  · rw [e, x.at'.mem.box] at hb; cases hb; exact .inr (.inl rfl)
  · obtain ⟨_, cs', ty', h1, h2⟩ := x.up e
    rw [h1] at hb; cases hb; exact h2
theorem Odd3.no {ty : TypeId} (h : Odd3 ty) {cs : Array Value} {z : Nat × Nat} : ¬ StoreTy (.cells cs ty z) := by
  rintro (e | e | e | e | e | e)
  · exact h.2.1.1 e
  · exact h.2.1.2 e
  · exact h.2.2.1.1 e
  · exact h.2.2.1.2 e
  · exact h.2.2.2.1 e
  · exact h.2.2.2.2.1 e
theorem storeTy_odd {cs : Array Value} {ty : TypeId} (h : StoreTy (.cells cs ty (0, 0))) : Odd ty ∧ ty ≠ 28 := by
  rcases h with e | e | e | e | e | e <;> (rw [e]; exact ⟨⟨by decide, by decide, by decide, by decide⟩, by decide⟩)
theorem Sv.noS (x : Sv w0 w A p ws s) {b : Nat} {cs : Array Value} {ty : TypeId} (hb : w.heap[b]? = some (.cells cs ty (0, 0))) (ht : Odd3 ty) : ¬ SvS A b := fun e => by
  rcases e with e | e
  · exact x.noT hb ht.1 e
  · exact ht.no (x.st.noB hb e)
/- blocks whose bytes strings share are nobody's -/
theorem Sv.noF (x : Sv w0 w A p ws s) {b : Nat} {cs : Array Value} {ty : TypeId} {z : Nat × Nat} (hb : w.heap[b]? = some (.cells cs ty z)) (hz : z ≠ (0, 0)) : ¬ SvS A b := fun e => by
  rcases e with ((e | e | e | e) | e) | e | e
  · rw [e, x.od.tk.orc.box] at hb; cases hb; exact hz rfl
  · obtain ⟨y, q, hm⟩ := x.od.tk.orc.map.isMap
    rw [e, hm] at hb; cases hb
  · rw [e, x.od.tk.tape.box] at hb; cases hb; exact hz rfl
  · obtain ⟨cur, h1, h2⟩ := owns_block x.od.tk.orc.row e
    rw [h1] at hb; cases hb; exact hz rfl
  · obtain ⟨C, hC⟩ := x.od.tb.blk
    rw [e, hC] at hb; cases hb; exact hz rfl
  · rw [e, x.st.at'.mem.box] at hb; cases hb; exact hz rfl
  · obtain ⟨_, cs', ty', h1, _⟩ := x.st.up e
    rw [h1] at hb; cases hb; exact hz rfl
theorem Sv.up (x : Sv w0 w A p ws s) {j : Nat} (e : SvS A j) : w0.heap.size ≤ j ∧ j < w.heap.size := by
  have b0 := x.od.tk.new.b0
  have a0 := x.od.tk.new.a0
  have n0 := x.n0
  rcases e with ((e | e | e | e) | e) | e | e
  · have := x.od.tk.orc.bg; have := lt_of_heap x.od.tk.orc.box; omega
  · obtain ⟨y, z, hm⟩ := x.od.tk.orc.map.isMap
    have := x.od.tk.orc.bm; have := lt_of_heap hm; omega
  · have := lt_of_heap x.od.tk.tape.box; omega
  · obtain ⟨cur, h1, h2⟩ := owns_block x.od.tk.orc.row e
    have := lt_of_heap h1; omega
  · obtain ⟨C, hC⟩ := x.od.tb.blk
    have := x.od.new; have := lt_of_heap hC; omega
  · have := x.m0; have := lt_of_heap x.st.at'.mem.box; omega
  · obtain ⟨h1, cs, ty, h2, _⟩ := x.st.up e
    have := lt_of_heap h2; omega
theorem odd_u64 : Odd 28 := ⟨by decide, by decide, by decide, by decide⟩
theorem Sv.noH (x : Sv w0 w A p ws s) {b : Nat} {cs : Array Value} (hb : w.heap[b]? = some (.cells cs 28 (0, 0))) : ¬ SvS A b := fun e => by
  rcases e with e | e
  · exact x.noT hb odd_u64 e
  · exact (storeTy_odd (x.st.noB hb e)).2 rfl
theorem Od.foot {B g go m a h k : Nat} {v : Value} {t : Nat} {es : List Ent} {T : Nat → Ob} (x : Od w0 w B g go m a h k p v ws t es T) {S : Nat → Prop} (f : Foot S w w') (no : ∀ j, S j → w0.heap.size ≤ j ∧ ¬ OdS g go m a v j ∧ j ≠ h) : Od w0 w' B g go m a h k p v ws t es T :=
  ⟨⟨x.tk.orc.foot f (fun e => (no _ e).2.1 (.inl (.inl rfl))) (fun e => (no _ e).2.1 (.inl (.inr (.inl rfl)))) (fun _ hr e => (no _ e).2.1 (.inl (.inr (.inr (.inr hr))))), x.tk.tape.foot f (fun e => (no _ e).2.1 (.inl (.inr (.inr (.inl rfl))))) (fun e => (no _ e).2.2 rfl),
    ⟨x.tk.new.b0, x.tk.new.a0, x.tk.new.h0, x.tk.new.bel.trans (f.below x.tk.new.bel.size fun j e => (no j e).1), Nat.le_trans x.tk.new.bs f.size⟩⟩, x.tb.foot f (fun e => (no _ e).2.1 (.inr rfl)), x.new⟩
theorem Sv.foot (x : Sv w0 w A p ws s) {S : Nat → Prop} (f : Foot S w w') (no : ∀ j, S j → w0.heap.size ≤ j ∧ ¬ SvS A j ∧ j ≠ A.h) : Sv w0 w' A p ws s :=
  ⟨x.od.foot f (fun j e => ⟨(no j e).1, fun h => (no j e).2.1 (.inl h), (no j e).2.2⟩), x.st.foot f (fun j e => ⟨fun h => (no j e).2.1 (.inr (.inr h)), fun h => (no j e).2.1 (.inr (.inl h))⟩), x.n0, Nat.le_trans x.nw f.size, x.m0⟩
theorem Sv.grow (x : Sv w0 w A p ws s) (b : Below w.heap.size w w') : Sv w0 w' A p ws s := x.foot (below_foot (fun _ => False) b) (fun _ e => e.elim)
theorem Sv.drewN (x : Sv w0 w A p ws s) (q : Nat) : Sv w0 (w.drewN q) A p ws s := ⟨x.od.drewN q, x.st.grow (below_drewN (Below.refl _ _) q), x.n0, x.nw, x.m0⟩
theorem Sv.bel (x : Sv w0 w A p ws s) : Below w0.heap.size w0 w := x.od.tk.new.bel
theorem Sv.glob (x : Sv w0 w A p ws s) (hg : Glob w0) : Glob w := hg.carry x.bel
theorem Sv.hrow (x : Sv w0 w A p ws s) : ∃ cs, w.heap[A.h]? = some (.cells cs 28 (0, 0)) := ⟨_, x.od.tk.tape.row⟩
/- other memory turns: blocks of types that no half has anything of, and new ones -/
def Fre3 (w : World) (b : Nat) : Prop := w.heap.size ≤ b ∨ ∃ (cs : Array Value) (ty : TypeId), w.heap[b]? = some (.cells cs ty (0, 0)) ∧ Odd3 ty
theorem Sv.off (x : Sv w0 w A p ws s) {S : Nat → Prop} (f : Foot S w w') (hS : ∀ b, S b → w0.heap.size ≤ b ∧ Fre3 w b) : Sv w0 w' A p ws s := by
  refine x.foot f fun j e => ⟨(hS j e).1, ?_, ?_⟩
  · rcases (hS j e).2 with h | ⟨cs, ty, h, ht⟩
    · intro h2; have := (x.up h2).2; omega
    · exact x.noS h ht
  · obtain ⟨cr, hr⟩ := x.hrow
    rcases (hS j e).2 with h | ⟨cs, ty, h, ht⟩
    · have := lt_of_heap hr; omega
    · rintro rfl
      rw [hr] at h; cases h; exact ht.2.2.2.2.2 rfl
/- the end of deeds -/
theorem Sv.stay (x : Sv w0 w A p ws s) : SvEnd w0 w A p ws w s := ⟨_, _, _, x, Foot.refl _ _, Moved.refl _ _, trivial, MovC.refl _ _⟩
theorem SvEnd.from (x : SvEnd w0 w1 A p ws w2 s) (b : Below w.heap.size w w1) : SvEnd w0 w A p ws w2 s := by
  obtain ⟨v, dv, nv, S, F, h1, h2, h3⟩ := x
  exact ⟨v, dv, nv, S, (below_foot _ b).trans F (fun _ e => .inl e), (Moved.refl w A.v).trans h1 b.size, trivial, fun k e => (h3 k e).imp id (fun z => Nat.le_trans b.size z)⟩
theorem SvEnd.to (x : SvEnd w0 w A p ws w1 s) (b : Below w1.heap.size w1 w2) : SvEnd w0 w A p ws w2 s := by
  obtain ⟨v, dv, nv, S, F, h1, h2, h3⟩ := x
  exact ⟨v, dv, nv, S.grow b, F.trans (below_foot (SvS A) b) (fun _ e => .inl e), h1, h2, h3⟩
theorem SvS.upd {v : Value} {dv : List Bool × List UInt8} {nv : Nat → Option Cel} {j : Nat} (h1 : Moved w A.v v) (h3 : MovC w A.nv nv) (e : SvS (A.upd v dv nv) j) : SvS A j ∨ w.heap.size ≤ j := by
  rcases e with ((e | e | e | e) | e) | e | e | e | e | e
  · exact .inl (.inl (.inl (.inl e)))
  · exact .inl (.inl (.inl (.inr (.inl e))))
  · exact .inl (.inl (.inl (.inr (.inr (.inl e)))))
  · rcases h1 j e with e | e
    · exact .inl (.inl (.inl (.inr (.inr (.inr e)))))
    · exact .inr e
  · exact .inl (.inl (.inr e))
  · exact .inl (.inr (.inl e))
  · exact .inl (.inr (.inr (.inl e)))
  · exact .inl (.inr (.inr (.inr (.inl e))))
  · exact .inl (.inr (.inr (.inr (.inr (.inl e)))))
  · rcases h3 j e with e | e
    · exact .inl (.inr (.inr (.inr (.inr (.inr e)))))
    · exact .inr e
theorem MovC.trans {sg sg1 sg2 : Nat → Option Cel} (h : MovC w sg sg1) (k : MovC w1 sg1 sg2) (hs : w.heap.size ≤ w1.heap.size) : MovC w sg sg2 := fun j e => by
  rcases k j e with e | e
  · exact h j e
  · exact .inr (Nat.le_trans hs e)
/- one deed behind the other -/
theorem SvEnd.on {v : Value} {dv : List Bool × List UInt8} {nv : Nat → Option Cel} (F : Foot (SvS A) w w1) (h1 : Moved w A.v v) (_h2 : True) (h3 : MovC w A.nv nv) (x : SvEnd w0 w1 (A.upd v dv nv) p ws w2 s) : SvEnd w0 w A p ws w2 s := by
  obtain ⟨v', dv', nv', S, F2, k1, k2, k3⟩ := x
  exact ⟨v', dv', nv', S, F.trans F2 (fun j e => SvS.upd h1 h3 e), h1.trans k1 F.size, trivial, h3.trans k3 F.size⟩
/- a deed on the table -/
theorem Sv.table (x : Sv w0 w A p ws s) {t : Nat} {es : List Ent} {T : Nat → Ob} (E : OdEnd w0 w A.B A.g A.go A.m A.a A.h A.k p A.v ws w' t es T) : SvEnd w0 w A p ws w' ⟨t, es, T, s.n, s.L⟩ := by
  obtain ⟨v, S, F, hv⟩ := E
  refine ⟨v, A.dv, A.nv, ⟨S, x.st.foot F (fun k e => ⟨fun h => ?_, fun h => ?_⟩), x.n0, Nat.le_trans x.nw F.size, x.m0⟩, F.mono (fun _ e => .inl e), hv, trivial, MovC.refl _ _⟩
  · obtain ⟨_, cs, ty, h1, h2⟩ := x.st.up h
    exact x.noT h1 (storeTy_odd h2).1 e
  · rw [h] at e
    exact x.noT x.st.at'.mem.box ⟨by decide, by decide, by decide, by decide⟩ e
/- a deed on the store -/
theorem Sv.store (x : Sv w0 w A p ws s) {L : Nat → Option (List UInt8)} (E : StoEnd w A.N A.sb.2 A.sm A.sa A.sq s.n A.nv w' L) : SvEnd w0 w A p ws w' ⟨s.t, s.es, s.T, s.n, L⟩ := by
  obtain ⟨d', sg', X, F, M⟩ := E
  refine ⟨A.v, d', sg', ⟨x.od.foot F (fun j e => ⟨(x.up (.inr (.inr e))).1, fun h => ?_, fun h => ?_⟩), X, x.n0, Nat.le_trans x.nw F.size, x.m0⟩, F.mono (fun _ e => .inr (.inr e)), Moved.refl _ _, trivial, M⟩
  · obtain ⟨_, cs, ty, h1, h2⟩ := x.st.up e
    exact x.noT h1 (storeTy_odd h2).1 h
  · obtain ⟨cr, hr⟩ := x.hrow
    rw [h] at e
    exact x.noH hr (.inr (.inr e))
/- what a deed leaves of other memory -/
structure Kh (w w' : World) : Prop where
  os : w'.os = w.os
  tape : w'.tape = w.tape
  output : w'.output = w.output
  size : w.heap.size ≤ w'.heap.size
  block : ∀ (b : Nat) (cs : Array Value) (ty : TypeId), w.heap[b]? = some (.cells cs ty (0, 0)) → Odd3 ty → w'.heap[b]? = w.heap[b]?
  froz : ∀ (b : Nat) (cs : Array Value) (ty : TypeId) (z : Nat × Nat), w.heap[b]? = some (.cells cs ty z) → z ≠ (0, 0) → w'.heap[b]? = w.heap[b]?
theorem Kh.foot (x : Kh w w') : Foot (Chg w w') w w' := ⟨x.os, x.tape, x.output, x.size, fun _ _ hn => Classical.byContradiction hn⟩
theorem Kh.same (x : Kh w w') {b : Nat} {cs : Array Value} {ty : TypeId} (hb : w.heap[b]? = some (.cells cs ty (0, 0))) (ht : Odd3 ty) : ¬ Chg w w' b := fun e => e (x.block b cs ty hb ht)
theorem Kh.refl (w : World) : Kh w w := ⟨rfl, rfl, rfl, Nat.le_refl _, fun _ _ _ _ _ => rfl, fun _ _ _ _ _ _ => rfl⟩
theorem Kh.trans (x : Kh w w1) (y : Kh w1 w2) : Kh w w2 := ⟨y.os.trans x.os, y.tape.trans x.tape, y.output.trans x.output, Nat.le_trans x.size y.size, fun b cs ty hb ht => (y.block b cs ty ((x.block b cs ty hb ht).trans hb) ht).trans (x.block b cs ty hb ht), fun b cs ty z hb hz => (y.froz b cs ty z ((x.froz b cs ty z hb hz).trans hb) hz).trans (x.froz b cs ty z hb hz)⟩
theorem below_kh (b : Below w.heap.size w w') : Kh w w' := ⟨b.os, b.tape, b.output, b.size, fun i _ _ hb _ => b.block i (lt_of_heap hb), fun i _ _ _ hb _ => b.block i (lt_of_heap hb)⟩
theorem cap_odd3 : Odd3 36 := ⟨cap_odd, by decide, by decide, by decide⟩
theorem msg_odd3 : Odd3 53 := ⟨⟨by decide, by decide, by decide, by decide⟩, by decide, by decide, by decide⟩
theorem srv_odd3 : Odd3 123 := ⟨⟨by decide, by decide, by decide, by decide⟩, by decide, by decide, by decide⟩
theorem res_odd3 : Odd3 102 := ⟨⟨by decide, by decide, by decide, by decide⟩, by decide, by decide, by decide⟩
theorem byte_odd3 : Odd3 5 := ⟨⟨by decide, by decide, by decide, by decide⟩, by decide, by decide, by decide⟩
theorem CBox.kh {b p o r c : Nat} (x : CBox w b p o r c) (f : Kh w w') : CBox w' b p o r c := (f.block _ _ _ x cap_odd3).trans x
theorem MB.kh {g : Nat} {m : Msg} {D : Value} (x : MB w g m D) (f : Kh w w') : MB w' g m D := (f.block _ _ _ x msg_odd3).trans x
theorem owns_kh {base : Nat} {e : TypeId} {size : Nat} {v : Value} {n : Nat} {xs : List Value} (x : w.ownsRow base e size v n xs) (f : Kh w w') (ht : Odd3 e) : w'.ownsRow base e size v n xs := by
  refine owns_foot x f.foot fun r hr => ?_
  obtain ⟨cur, h1, _⟩ := owns_block x hr
  exact f.same h1 ht
theorem Sv.kh (x : Sv w0 w A p ws s) (E : SvEnd w0 w A p ws w' s1) : Kh w w' := by
  obtain ⟨v, dv, nv, S, F, h1, h2, h3⟩ := E
  exact ⟨F.os, F.tape, F.output, F.size, fun b cs ty hb ht => F.block b (lt_of_heap hb) (x.noS hb ht), fun b cs ty z hb hz => F.block b (lt_of_heap hb) (x.noF hb hz)⟩
/- two halves in one memory -/
structure Du (w0 w : World) (A A' : Ad) (p : Nat) (ws : List Nat) (s s' : Hs) : Prop where
  x : Sv w0 w A p ws s
  y : Sv w0 w A' p ws s'
  ap : ∀ j, SvS A j → ¬ SvS A' j
theorem Du.symm (d : Du w0 w A A' p ws s s') : Du w0 w A' A p ws s' s := ⟨d.y, d.x, fun j e h => d.ap j h e⟩
theorem Du.grow (d : Du w0 w A A' p ws s s') (b : Below w.heap.size w w') : Du w0 w' A A' p ws s s' := ⟨d.x.grow b, d.y.grow b, d.ap⟩
theorem Du.drewN (d : Du w0 w A A' p ws s s') (q : Nat) : Du w0 (w.drewN q) A A' p ws s s' := ⟨d.x.drewN q, d.y.drewN q, d.ap⟩
theorem Du.off (d : Du w0 w A A' p ws s s') {S : Nat → Prop} (f : Foot S w w') (hS : ∀ b, S b → w0.heap.size ≤ b ∧ Fre3 w b) : Du w0 w' A A' p ws s s' := ⟨d.x.off f hS, d.y.off f hS, d.ap⟩
/- a deed on the one leaves the other -/
theorem Du.left (d : Du w0 w A A' p ws s s') (E : SvEnd w0 w A p ws w' s1) : ∃ v dv nv, Du w0 w' (A.upd v dv nv) A' p ws s1 s' := by
  obtain ⟨v, dv, nv, S, F, h1, h2, h3⟩ := E
  refine ⟨v, dv, nv, ⟨S, d.y.foot F (fun j e => ⟨(d.x.up e).1, d.ap j e, ?_⟩), fun j e h => ?_⟩⟩
  · rintro rfl
    obtain ⟨cr, hr⟩ := d.y.hrow
    exact d.x.noH hr e
  · rcases SvS.upd h1 h3 e with e | e
    · exact d.ap j e h
    · have := (d.y.up h).2; omega
end
end Go.Proofs.YtpbkjmkdciiccaaGreatDoor
namespace Go.Proofs.YtpbkjmkdciiccaaGreatDoor
section
open Go.RowKit
variable {w0 w w1 w2 w' : World} {A A' : Ad} {p : Nat} {ws : List Nat} {s s' s1 : Hs}
/- which rights an operation needs -/
def needB (op : Nat) : Bool := decide (100 ≤ op) && decide (op ≤ 104)
def needN (op : Nat) : Nat := if op = 100 then 4 else if op = 101 then 1 else if op = 102 then 2 else if op = 103 then 1 else if op = 104 then 2 else 0
theorem needN_le (op : Nat) : needN op ≤ 255 := by unfold needN; repeat' split
                                                   all_goals omega
/- a server of segments: its objects, its store -/
def Mb (w : World) (g : Nat) (sb : Nat × Nat) : Prop := w.heap[sb.1]? = some (.cells #[.pointer (some ⟨g, 0, none⟩), .pointer (some ⟨sb.2, 0, none⟩)] 61 (0, 0))
theorem mb_odd3 : Odd3 61 := ⟨⟨by decide, by decide, by decide, by decide⟩, by decide, by decide, by decide⟩
variable {g : Nat} {sb : Nat × Nat}
theorem Mb.c0 (h : Mb w g sb) : w.cell? ⟨sb.1, 0, none⟩ = some (.pointer (some ⟨g, 0, none⟩)) := by rw [cell_of_row w _ _ _ _ _ h]; rfl
theorem Mb.c1 (h : Mb w g sb) : w.cell? ⟨sb.1, 1, none⟩ = some (.pointer (some ⟨sb.2, 0, none⟩)) := by rw [cell_of_row w _ _ _ _ _ h]; rfl
theorem Mb.kh (h : Mb w g sb) (k : Kh w w') : Mb w' g sb := (k.block _ _ _ h mb_odd3).trans h
theorem Mb.grow (h : Mb w g sb) (b : Below w.heap.size w w') : Mb w' g sb := h.kh (below_kh b)
theorem Mb.foot {S : Nat → Prop} (h : Mb w g sb) (f : Foot S w w') (hS : ¬ S sb.1) : Mb w' g sb := (f.block _ (lt_of_heap h) hS).trans h
def mkD (so : Option Addr) (sn sc : Nat) : Value := .slice so sn sc
def resZ : Array Value := #[.int .u64 0, .int .u32 0, .int .u8 0, .int .u64 0, .int .u64 0, .slice none 0 0]
theorem two_types {x y : Nat} {c d : Array Value} {t u : TypeId} {e f : Nat × Nat} (h1 : w.heap[x]? = some (.cells c t e)) (h2 : w.heap[y]? = some (.cells d u f)) (h : t ≠ u) : x ≠ y := by
  intro e; subst e; rw [h1] at h2; cases h2; exact h rfl
/- what an operation answers, in a variable -/
def RB (w : World) (g : Nat) (q : Cp) (ar : Int) (D : Value) : Prop := w.heap[g]? = some (.cells #[.int .u64 (q.p : Int), .int .u32 (q.o : Int), .int .u8 (q.r : Int), .int .u64 (q.c : Int), .int .u64 ar, D] 102 (0, 0))
def resC (q : Cp) (ar : Int) (D : Value) : Array Value := #[.int .u64 (q.p : Int), .int .u32 (q.o : Int), .int .u8 (q.r : Int), .int .u64 (q.c : Int), .int .u64 ar, D]
theorem RB.all {g : Nat} {q : Cp} {ar : Int} {D : Value} (h : RB w g q ar D) : w.cell? ⟨g, 0, none⟩ = some (.int .u64 (q.p : Int)) ∧ w.cell? ⟨g, 1, none⟩ = some (.int .u32 (q.o : Int)) ∧ w.cell? ⟨g, 2, none⟩ = some (.int .u8 (q.r : Int)) ∧ w.cell? ⟨g, 3, none⟩ = some (.int .u64 (q.c : Int)) ∧ w.cell? ⟨g, 4, none⟩ = some (.int .u64 ar) ∧ w.cell? ⟨g, 5, none⟩ = some D := by
  refine ⟨?_, ?_, ?_, ?_, ?_, ?_⟩ <;> (rw [cell_of_row w g _ _ _ _ h]; rfl)
theorem RB.z {g : Nat} {q : Cp} {ar : Int} {D : Value} (h : RB w g q ar D) (j : Nat) : w.frozen? ⟨g, j, none⟩ = false := frozen_of_row w g j _ _ h
theorem RB.grow {g : Nat} {q : Cp} {ar : Int} {D : Value} (h : RB w g q ar D) (b : Below w.heap.size w w') : RB w' g q ar D := (b.block g (lt_of_heap h)).trans h
theorem RB.foot {S : Nat → Prop} {g : Nat} {q : Cp} {ar : Int} {D : Value} (h : RB w g q ar D) (f : Foot S w w') (hS : ¬ S g) : RB w' g q ar D := (f.block g (lt_of_heap h) hS).trans h
theorem RB.kh {g : Nat} {q : Cp} {ar : Int} {D : Value} (h : RB w g q ar D) (k : Kh w w') : RB w' g q ar D := (k.block _ _ _ h res_odd3).trans h
theorem rb_new (w : World) (q : Cp) (ar : Int) (D : Value) : RB (w.alloc (.cells (resC q ar D) 102)) w.heap.size q ar D := heap_alloc_new _ _
def lay6 (w : World) (g : Nat) (q : Cp) (ar : Int) (D : Value) : World := (((((w.setCell ⟨g, 0, none⟩ (.int .u64 (q.p : Int))).setCell ⟨g, 1, none⟩ (.int .u32 (q.o : Int))).setCell ⟨g, 2, none⟩ (.int .u8 (q.r : Int))).setCell ⟨g, 3, none⟩ (.int .u64 (q.c : Int))).setCell ⟨g, 4, none⟩ (.int .u64 ar)).setCell ⟨g, 5, none⟩ D
theorem RB.lay {g : Nat} {x : Cp} {xr : Int} {X : Value} (h : RB w g x xr X) (q : Cp) (ar : Int) (D : Value) : RB (lay6 w g q ar D) g q ar D := by
  have h1 := heap_setCell_same w g 0 _ _ (.int .u64 (q.p : Int)) h
  have h2 := heap_setCell_same _ g 1 _ _ (.int .u32 (q.o : Int)) h1
  have h3 := heap_setCell_same _ g 2 _ _ (.int .u8 (q.r : Int)) h2
  have h4 := heap_setCell_same _ g 3 _ _ (.int .u64 (q.c : Int)) h3
  have h5 := heap_setCell_same _ g 4 _ _ (.int .u64 ar) h4
  have h6 := heap_setCell_same _ g 5 _ _ D h5
  unfold RB lay6
  rw [h6]
  simp
theorem foot_lay6 (w : World) (g : Nat) (q : Cp) (ar : Int) (D : Value) : Foot (fun j => j = g) w (lay6 w g q ar D) := by
  unfold lay6
  exact ((((((Foot.refl _ w).put _ _).put _ _).put _ _).put _ _).put _ _).put _ _
theorem SvEnd.off (x : SvEnd w0 w A p ws w1 s) (hw : w0.heap.size ≤ w.heap.size) {S : Nat → Prop} (f : Foot S w1 w2) (hS : ∀ b, S b → w.heap.size ≤ b ∧ Fre3 w1 b) : SvEnd w0 w A p ws w2 s := by
  obtain ⟨v, dv, nv, X, F, h1, h2, h3⟩ := x
  exact ⟨v, dv, nv, X.off f (fun b e => ⟨Nat.le_trans hw (hS b e).1, (hS b e).2⟩), F.trans f (fun j e => .inr (hS j e).1), h1, h2, h3⟩
theorem SvEnd.res (x : SvEnd w0 w A p ws w1 s) (hw : w0.heap.size ≤ w.heap.size) {g : Nat} {q : Cp} {ar : Int} {D : Value} (h : RB w1 g q ar D) (hg : w.heap.size ≤ g) (f : Foot (fun j => j = g) w1 w2) : SvEnd w0 w A p ws w2 s :=
  x.off hw f (fun b e => ⟨by omega, .inr ⟨_, _, e ▸ h, res_odd3⟩⟩)
theorem SvEnd.msg (x : SvEnd w0 w A p ws w1 s) (hw : w0.heap.size ≤ w.heap.size) {g : Nat} {m : Msg} {D : Value} (h : MB w1 g m D) (hg : w.heap.size ≤ g) (f : Foot (fun j => j = g) w1 w2) : SvEnd w0 w A p ws w2 s :=
  x.off hw f (fun b e => ⟨by omega, .inr ⟨_, _, e ▸ h, msg_odd3⟩⟩)
end
end Go.Proofs.YtpbkjmkdciiccaaGreatDoor
namespace Go.Proofs.YtpbkjmkdciiccaaGreatDoor
section
open Go.RowKit
variable {w0 w w1 w2 w' : World} {A A' : Ad} {p : Nat} {ws : List Nat} {s s' s1 : Hs} {r g : Nat} {sb : Nat × Nat}
def Hs.tab (s : Hs) (t : Nat) (es : List Ent) (T : Nat → Ob) : Hs := ⟨t, es, T, s.n, s.L⟩
def Hs.sto (s : Hs) (L : Nat → Option (List UInt8)) : Hs := ⟨s.t, s.es, s.T, s.n, L⟩
def desT (T : Nat → Ob) (K : Chk) : Nat → Ob := if K.e = 0 then updO T K.k Ob.zero else T
def touT (T : Nat → Ob) (K : Chk) : Nat → Ob := if K.e = 0 then updO T K.k (touO (T K.k)) else T
theorem tb_check (c : Cp) (need : Nat) (w : World) (x : Sv w0 w A p ws s) (hc : c.ok) (hn : need ≤ 255) (hl : s.es.length ≤ 5000000000000) (K : Chk) (hK : chkF ws s.t s.es p s.T c need = K) :
    Calls Tryz.prog 33 #[.pointer (some ⟨A.g, 0, none⟩), c.val, .int .u8 (need : Int)] w fun e w' => e = .returned (.tuple #[.int .i64 (K.k : Int), erN (K.e : Int)]) ∧ SvEnd w0 w A p ws w' (s.tab K.t K.es s.T) := by
  refine (check_any c need w x.od hc hn hl K hK).mono ?_
  rintro e w1 ⟨rfl, E⟩
  exact ⟨rfl, x.table E⟩
theorem tb_create (vl : Int) (w : World) (x : Sv w0 w A p ws s) (hl : s.es.length ≤ 5000000000000) (R : Cre) (hR : creF ws s.t s.es p s.T vl = R) :
    Calls Tryz.prog 12 #[.pointer (some ⟨A.g, 0, none⟩), .int .i64 vl] w fun e w' => e = .returned (.tuple #[R.c.val, erN (R.e : Int)]) ∧ SvEnd w0 w A p ws w' (s.tab R.t R.es R.T) := by
  refine (create_any vl w x.od hl R hR).mono ?_
  rintro e w1 ⟨rfl, E⟩
  exact ⟨rfl, x.table E⟩
theorem tb_restrict (c : Cp) (mask : Nat) (w : World) (x : Sv w0 w A p ws s) (hc : c.ok) (hm : mask ≤ 255) (hl : s.es.length < 5000000000000) (R : Cre) (hR : resF ws s.t s.es p s.T c mask = R) :
    Calls Tryz.prog 15 #[.pointer (some ⟨A.g, 0, none⟩), c.val, .int .u8 (mask : Int)] w fun e w' => e = .returned (.tuple #[R.c.val, erN (R.e : Int)]) ∧ SvEnd w0 w A p ws w' (s.tab R.t R.es R.T) := by
  refine (restrict_any c mask w x.od hc hm hl R hR).mono ?_
  rintro e w1 ⟨rfl, E⟩
  exact ⟨rfl, x.table E⟩
theorem tb_revoke (c : Cp) (w : World) (x : Sv w0 w A p ws s) (hc : c.ok) (hl : s.es.length < 5000000000000) (he : ∀ j, (s.T j).e ≤ 9223372036854775806) (R : Cre) (hR : revF ws s.t s.es p s.T c = R) :
    Calls Tryz.prog 59 #[.pointer (some ⟨A.g, 0, none⟩), c.val] w fun e w' => e = .returned (.tuple #[R.c.val, erN (R.e : Int)]) ∧ SvEnd w0 w A p ws w' (s.tab R.t R.es R.T) := by
  refine (revoke_any c w x.od hc hl he R hR).mono ?_
  rintro e w1 ⟨rfl, E⟩
  exact ⟨rfl, x.table E⟩
theorem tb_destroy (c : Cp) (w : World) (x : Sv w0 w A p ws s) (hc : c.ok) (hl : s.es.length ≤ 5000000000000) (K : Chk) (hK : chkF ws s.t s.es p s.T c 8 = K) :
    Calls Tryz.prog 38 #[.pointer (some ⟨A.g, 0, none⟩), c.val] w fun e w' => e = .returned (.tuple #[.int .i64 (K.k : Int), .int .i64 (if K.e = 0 then (s.T K.k).v else 0), erN (K.e : Int)]) ∧ SvEnd w0 w A p ws w' (s.tab K.t K.es (desT s.T K)) := by
  unfold desT
  by_cases h0 : K.e = 0
  · rw [if_pos h0, if_pos h0]
    refine (destroy_yes c w x.od hc hl K hK h0).mono ?_
    rintro e w1 ⟨rfl, E⟩
    exact ⟨by rw [h0]; rfl, x.table E⟩
  · rw [if_neg h0, if_neg h0]
    have hk : K.k = 0 := by rw [← hK] at h0 ⊢; exact chk_not h0
    refine (destroy_no c w x.od hc hl K hK h0).mono ?_
    rintro e w1 ⟨rfl, E⟩
    exact ⟨by rw [hk]; rfl, x.table E⟩
theorem tb_touch (c : Cp) (w : World) (x : Sv w0 w A p ws s) (hc : c.ok) (hl : s.es.length ≤ 5000000000000) (K : Chk) (hK : chkF ws s.t s.es p s.T c 0 = K) :
    Calls Tryz.prog 58 #[.pointer (some ⟨A.g, 0, none⟩), c.val] w fun e w' => e = .returned (erN (K.e : Int)) ∧ SvEnd w0 w A p ws w' (s.tab K.t K.es (touT s.T K)) := by
  unfold touT
  by_cases h0 : K.e = 0
  · rw [if_pos h0]
    refine (touch_yes c w x.od hc hl K hK h0).mono ?_
    rintro e w1 ⟨rfl, E⟩
    exact ⟨by rw [h0]; rfl, x.table E⟩
  · rw [if_neg h0]
    refine (touch_no c w x.od hc hl K hK h0).mono ?_
    rintro e w1 ⟨rfl, E⟩
    exact ⟨rfl, x.table E⟩
/- what comes of a request: an error's number, a capability, a number, data, what is there behind it -/
structure Ro where
  e : Nat
  c : Cp
  ar : Nat
  d : List UInt8
  s : Hs
def mayC (c : Cp) : Bool := decide (c.p ≤ 281474976710655 ∧ c.o ≤ 16777215 ∧ c.c ≤ 281474976710655)
def badF (s : Hs) (e : Nat) : Ro := ⟨e, Cp.zero, 0, [], s⟩
def dstF (s : Hs) (c : Cp) (K : Chk) : Ro :=
  if c.o = 0 then badF (s.tab K.t K.es s.T) (if K.e = 0 then 15 else K.e)
  else if K.e = 0 then badF ⟨K.t, K.es, desT s.T K, s.n, delL s.L (s.T K.k).v⟩ 0 else badF (s.tab K.t K.es s.T) K.e
def mkF (ws : List Nat) (p : Nat) (s : Hs) (ar : Nat) : Ro :=
  if 2147483647 < ar then badF s 4
  else if createE s.n s.L (ar : Int) = 0 then
    if (creF ws s.t s.es p s.T (lowS s.L : Int)).e = 0 then ⟨0, (creF ws s.t s.es p s.T (lowS s.L : Int)).c, 0, [], ⟨(creF ws s.t s.es p s.T (lowS s.L : Int)).t, (creF ws s.t s.es p s.T (lowS s.L : Int)).es, (creF ws s.t s.es p s.T (lowS s.L : Int)).T, s.n, createL s.n s.L (ar : Int)⟩⟩
    else badF ⟨(creF ws s.t s.es p s.T (lowS s.L : Int)).t, (creF ws s.t s.es p s.T (lowS s.L : Int)).es, (creF ws s.t s.es p s.T (lowS s.L : Int)).T, s.n, delL (createL s.n s.L (ar : Int)) (lowS s.L : Int)⟩ (creF ws s.t s.es p s.T (lowS s.L : Int)).e
  else badF s (createE s.n s.L (ar : Int)).toNat
def reaF (s : Hs) (z : Int) (ar : Nat) : Ro :=
  if 2147483647 < ar / 4294967296 then badF s 4 else if 4096 < ar % 4294967296 then badF s 4
  else ⟨(reaE s.L z (ar / 4294967296 : Nat) (ar % 4294967296 : Nat)).toNat, Cp.zero, 0, reaD s.L z (ar / 4294967296 : Nat) (ar % 4294967296 : Nat), s⟩
def wriF (s : Hs) (z : Int) (ar : Nat) (l : List UInt8) : Ro :=
  if 2147483647 < ar then badF s 4 else badF (s.sto (wriL s.L z (ar : Int) l)) (wriE s.L z (ar : Int) l).toNat
def sizF (s : Hs) (z : Int) : Ro := ⟨(sizeE s.L z).toNat, Cp.zero, sizeN s.L z, [], s⟩
def groF (s : Hs) (z : Int) (ar : Nat) : Ro :=
  if 2147483647 < ar then badF s 4 else badF (s.sto (groL s.n s.L z (ar : Int))) (groE s.n s.L z (ar : Int)).toNat
def doF (ws : List Nat) (p : Nat) (s : Hs) (op : Nat) (z : Int) (ar : Nat) (l : List UInt8) : Ro :=
  if decide (op = 100) ≠ decide (z = -1) then badF s 3
  else if op = 100 then mkF ws p s ar else if op = 101 then reaF s z ar else if op = 102 then wriF s z ar l else if op = 103 then sizF s z else groF s z ar
def ownF (ws : List Nat) (p : Nat) (s : Hs) (op : Nat) (ar : Nat) (l : List UInt8) (K : Chk) : Ro :=
  if K.e = 0 then doF ws p (s.tab K.t K.es s.T) op (s.T K.k).v ar l else badF (s.tab K.t K.es s.T) K.e
def outF (ws : List Nat) (p : Nat) (s : Hs) (op : Nat) (c : Cp) (ar : Nat) (l : List UInt8) : Ro :=
  if mayC c = false then badF s 1
  else if op = 5 then dstF s c (chkF ws s.t s.es p s.T c 8)
  else if op < 100 ∨ needB op = false then badF s 3
  else ownF ws p s op ar l (chkF ws s.t s.es p s.T c (needN op))
/- the reply: of an error nothing else -/
def rplF (m : Msg) (R : Ro) : Msg := if R.e = 0 then ⟨m.rp, m.ta, m.id, m.op, 0, R.c.p, R.c.o, R.c.r, R.c.c, R.ar⟩ else ⟨m.rp, m.ta, m.id, m.op, R.e, 0, 0, 0, 0, 0⟩
def datF (R : Ro) (_l : List UInt8) : List UInt8 := if R.e = 0 then R.d else []
theorem chk_err (ws : List Nat) (t : Nat) (es : List Ent) (p : Nat) (T : Nat → Ob) (c : Cp) (need : Nat) : (chkF ws t es p T c need).e ≤ 7 := by
  unfold chkF
  repeat' split
  all_goals (simp only; omega)
theorem cre_err (ws : List Nat) (t : Nat) (es : List Ent) (p : Nat) (T : Nat → Ob) (v : Int) : (creF ws t es p T v).e ≤ 65535 := by
  unfold creF
  repeat' split
  all_goals (simp only; omega)
/- the errors of a store -/
theorem createE_in (n : Nat) (L : Nat → Option (List UInt8)) (z : Int) : 0 ≤ createE n L z ∧ createE n L z ≤ 6 := by
  unfold createE; repeat' split
  all_goals omega
theorem groE_in (n : Nat) (L : Nat → Option (List UInt8)) (i z : Int) : 0 ≤ groE n L i z ∧ groE n L i z ≤ 12 := by
  unfold groE growE; repeat' split
  all_goals omega
theorem wriE_in (L : Nat → Option (List UInt8)) (i z : Int) (l : List UInt8) : 0 ≤ wriE L i z l ∧ wriE L i z l ≤ 13 := by
  unfold wriE; repeat' split
  all_goals omega
theorem reaE_in (L : Nat → Option (List UInt8)) (i p q : Int) : 0 ≤ reaE L i p q ∧ reaE L i p q ≤ 13 := by
  unfold reaE; repeat' split
  all_goals omega
theorem sizeE_in (L : Nat → Option (List UInt8)) (i : Int) : 0 ≤ sizeE L i ∧ sizeE L i ≤ 12 := by
  unfold sizeE; repeat' split
  all_goals omega
theorem reaD_len (L : Nat → Option (List UInt8)) (i : Int) (p q : Nat) : (reaD L i p q).length ≤ q := by
  unfold reaD
  split
  · exact Nat.zero_le _
  · split
    · rename_i l _ h
      rw [pieceF_len]
      · simp
      · unfold inS at h; simp at h ⊢; omega
    · exact Nat.zero_le _
/- what comes of a request, answered -/
def OutEnd (w0 w : World) (A : Ad) (p : Nat) (ws : List Nat) (R : Ro) (_l : List UInt8) (e : Ending) (w' : World) : Prop := ∃ co n cc, e = .returned (.tuple #[.agg #[.int .u64 (R.c.p : Int), .int .u32 (R.c.o : Int), .int .u8 (R.c.r : Int), .int .u64 (R.c.c : Int), .int .u64 (R.ar : Int), .slice co n cc], erN (R.e : Int)]) ∧ Bts w' co n cc R.d ∧ New w co ∧ n ≤ 4096 ∧ SvEnd w0 w A p ws w' R.s
theorem out_bad {e : Nat} {l : List UInt8} {ve : Value} (hv : erN (e : Int) = ve) (E : SvEnd w0 w A p ws w' s1) : OutEnd w0 w A p ws (badF s1 e) l (.returned (.tuple #[.agg #[.int .u64 0, .int .u32 0, .int .u8 0, .int .u64 0, .int .u64 0, .slice none 0 0], ve])) w' :=
  ⟨none, 0, 0, by rw [← hv]; rfl, bts_nil _, new_none _, by omega, E⟩
end
end Go.Proofs.YtpbkjmkdciiccaaGreatDoor
namespace Go.Proofs.YtpbkjmkdciiccaaGreatDoor
section
open Go.RowKit
variable {w0 w w1 w2 w' : World} {A A' : Ad} {p : Nat} {ws : List Nat} {s s' s1 : Hs} {g : Nat} {sb : Nat × Nat}
set_option maxHeartbeats 800000 in
theorem num_yes (n : Nat) (w : World) (h : n ≤ 2147483647) : Calls Tryz.prog 127 #[.int .u64 (n : Int)] w fun e w' => e = .returned (.tuple #[.int .i64 (n : Int), .nilIface]) ∧ w' = w := by
  have h1 : ¬ ((2147483647 : Int) < (n : Int)) := by omega
  have h2 : IntKind.i64.wrap (n : Int) = (n : Int) := by rw [IntKind.wrap_i64]; omega
  clear h
  go_enter Tryz.func127, Tryz.ntmps127
  go_wp2
  go_ret2
  exact ⟨rfl, rfl⟩
set_option maxHeartbeats 800000 in
theorem num_no (n : Nat) (w : World) (h : 2147483647 < n) : Calls Tryz.prog 127 #[.int .u64 (n : Int)] w fun e w' => e = .returned (.tuple #[.int .i64 0, .iface 43 (.int .i64 4)]) ∧ w' = w := by
  have h1 : ((2147483647 : Int) < (n : Int)) := by omega
  clear h
  go_enter Tryz.func127, Tryz.ntmps127
  go_wp2
  go_ret2
  exact ⟨rfl, rfl⟩
set_option maxHeartbeats 800000 in
theorem store_any (h : Mb w g sb) : Calls Tryz.prog 126 #[.pointer (some ⟨sb.1, 0, none⟩)] w fun e w' => e = .returned (.pointer (some ⟨sb.2, 0, none⟩)) ∧ w' = w := by
  have c1 := h.c1
  clear h
  go_enter Tryz.func126, Tryz.ntmps126
  go_wp2
  go_ret
  exact ⟨rfl, rfl⟩
set_option maxHeartbeats 800000 in
theorem table_any (h : Mb w g sb) : Calls Tryz.prog 128 #[.pointer (some ⟨sb.1, 0, none⟩)] w fun e w' => e = .returned (.pointer (some ⟨g, 0, none⟩)) ∧ w' = w := by
  have c0 := h.c0
  clear h
  go_enter Tryz.func128, Tryz.ntmps128
  go_wp2
  go_ret
  exact ⟨rfl, rfl⟩
set_option maxHeartbeats 800000 in
theorem svc_need (a : Option Addr) (op : Nat) (w : World) (ho : op ≤ 65535) :
    Calls Tryz.prog 20 #[.pointer a, .int .u16 (op : Int)] w fun e w' => e = .returned (.tuple #[.int .u8 (needN op : Int), .bool (needB op)]) ∧ w' = w := by
  by_cases h1 : 100 ≤ op ∧ op ≤ 104
  · have : op = 100 ∨ op = 101 ∨ op = 102 ∨ op = 103 ∨ op = 104 := by omega
    clear h1 ho
    rcases this with rfl | rfl | rfl | rfl | rfl
    all_goals
      go_enter Tryz.func20, Tryz.ntmps20
      go_wp2
      go_ret2
      exact ⟨rfl, rfl⟩
  · have e0 : ¬ (op : Int) = 100 := by omega
    have e1 : ¬ (op : Int) = 101 := by omega
    have e2 : ¬ (op : Int) = 102 := by omega
    have e3 : ¬ (op : Int) = 103 := by omega
    have e4 : ¬ (op : Int) = 104 := by omega
    rw [show needB op = false from by unfold needB; simp; omega, show needN op = 0 from by unfold needN; rw [if_neg (by omega), if_neg (by omega), if_neg (by omega), if_neg (by omega), if_neg (by omega)]]
    clear h1 ho
    go_enter Tryz.func20, Tryz.ntmps20
    go_wp2
    go_ret2
    exact ⟨rfl, rfl⟩
set_option maxHeartbeats 800000 in
theorem svc_gone (z : Int) (w : World) (h : Mb w A.g A.sb) (x : Sv w0 w A p ws s) :
    Calls Tryz.prog 120 #[.pointer (some ⟨A.sb.1, 0, none⟩), .int .i64 z] w fun e w' => e = .returned (.tuple #[]) ∧ SvEnd w0 w A p ws w' (s.sto (delL s.L z)) := by
  have HS := hide h
  have HX := hide x
  clear h x
  go_enter Tryz.func120, Tryz.ntmps120
  go_wp2_with fail
  refine (store_any HS.out).mono ?_; rintro e w1 ⟨rfl, rfl⟩
  go_wp2_with fail
  refine (sto_delete z _ HX.out.st).mono ?_; rintro e w2 ⟨rfl, E⟩
  have HE := hide (HX.out.store E)
  clear E
  go_wp2
  go_end0
  exact ⟨rfl, HE.out⟩
theorem res_vars (w : World) : ∃ W, w.alloc (.cells resZ 102) = W ∧ RB W w.heap.size Cp.zero 0 (.slice none 0 0) ∧ Below w.heap.size w W := ⟨_, rfl, heap_alloc_new _ _, below_alloc _ _⟩
theorem Sv.sizes (x : Sv w0 w A p ws s) (z : Int) : sizeN s.L z ≤ 262144 := by
  unfold sizeN
  cases h : pickF s.L z with
  | none => exact Nat.zero_le _
  | some l => obtain ⟨i, rfl, hi, hl⟩ := pick_some h; exact (x.st.most i l hl).1
theorem erN_toNat {e : Int} (h : 0 ≤ e) : erN ((e.toNat : Nat) : Int) = erN e := by rw [Int.toNat_of_nonneg h]
set_option maxRecDepth 20000 in
set_option maxHeartbeats 1600000 in
theorem svc_size (z : Int) (l : List UInt8) (w : World) (h : Mb w A.g A.sb) (x : Sv w0 w A p ws s) :
    Calls Tryz.prog 124 #[.pointer (some ⟨A.sb.1, 0, none⟩), .int .i64 z] w fun e w' => OutEnd w0 w A p ws (sizF s z) l e w' := by
  obtain ⟨W, hW, rW, bW⟩ := res_vars w
  unfold resZ at hW
  have HS := hide (h.grow bW)
  have HX := hide (x.grow bW)
  have HW0 : Hid (w0.heap.size ≤ w.heap.size) := x.bel.size
  have HR := hide rW
  have HBW := hide bW
  have hn := x.sizes z
  have HE := hide (sizeE_in s.L z).1
  obtain ⟨n, hsn⟩ : ∃ n, sizeN s.L z = n := ⟨_, rfl⟩
  obtain ⟨er, her⟩ : ∃ er, erN (sizeE s.L z) = er := ⟨_, rfl⟩
  rw [hsn] at hn
  have HSN := hide hsn
  have HER := hide her
  have hw : IntKind.u64.wrap (n : Int) = (n : Int) := by rw [IntKind.wrap_u64]; omega
  clear rW bW h x hsn her
  go_enter Tryz.func124, Tryz.ntmps124
  go_wp2_with fail
  refine (store_any HS.out).mono ?_; rintro e w1 ⟨rfl, rfl⟩
  go_wp2_with fail
  refine (sto_size z _ HX.out.st).mono ?_; rw [HSN.out, HER.out]; rintro e w2 ⟨rfl, rfl⟩
  obtain ⟨y0, y1, y2, y3, y4, y5⟩ := HR.out.all
  have z0 := HR.out.z 0
  have z1 := HR.out.z 1
  have z2 := HR.out.z 2
  have z3 := HR.out.z 3
  have z4 := HR.out.z 4
  have z5 := HR.out.z 5
  simp only [Cp.zero, show (((0 : Nat)) : Int) = 0 from rfl] at y0 y1 y2 y3
  have HRZ := hide (HR.out.lay Cp.zero (n : Int) (.slice none 0 0))
  have HEZ := hide ((HX.out.stay.from HBW.out).res HW0.out HR.out (Nat.le_refl _) (foot_lay6 w2 w.heap.size Cp.zero (n : Int) (.slice none 0 0)))
  obtain ⟨wz, hwz⟩ : ∃ wz, lay6 w2 w.heap.size Cp.zero (n : Int) (.slice none 0 0) = wz := ⟨_, rfl⟩
  rw [hwz] at HRZ HEZ
  unfold lay6 at hwz
  simp only [Cp.zero, show (((0 : Nat)) : Int) = 0 from rfl] at hwz
  obtain ⟨v0, v1, v2, v3, v4, v5⟩ := HRZ.out.all
  simp only [Cp.zero, show (((0 : Nat)) : Int) = 0 from rfl] at v0 v1 v2 v3
  go_wp2
  refine bodyPost_ret (by simp [results, Tryz.results124, go_sem, v0, v1, v2, v3, v4, v5]; rfl) rfl ?_
  exact ⟨none, 0, 0, by unfold sizF; rw [erN_toNat HE.out, HER.out, HSN.out]; rfl, bts_nil _, new_none _, by omega, HEZ.out⟩
end
end Go.Proofs.YtpbkjmkdciiccaaGreatDoor
namespace Go.Proofs.YtpbkjmkdciiccaaGreatDoor
section
open Go.RowKit
variable {w0 w w1 w2 w' : World} {A A' : Ad} {p : Nat} {ws : List Nat} {s s' s1 : Hs} {g : Nat} {sb : Nat × Nat}
set_option maxRecDepth 20000 in
set_option maxHeartbeats 1600000 in
theorem svc_write (z : Int) (ar : Nat) (so : Option Addr) (sn sc : Nat) (l : List UInt8) (w : World) (h : Mb w A.g A.sb) (x : Sv w0 w A p ws s) (hb : Bts w so sn sc l) (ho : 0 < sn → Off A.N w so) :
    Calls Tryz.prog 123 #[.pointer (some ⟨A.sb.1, 0, none⟩), .int .i64 z, .int .u64 (ar : Int), .slice so sn sc] w fun e w' => e = .returned (erN ((wriF s z ar l).e : Int)) ∧ SvEnd w0 w A p ws w' (wriF s z ar l).s := by
  have HS := hide h
  have HX := hide x
  have HB := hide hb
  have HOF := hide ho
  clear h x hb ho
  unfold wriF
  by_cases h1 : 2147483647 < ar
  · rw [if_pos h1]
    go_enter Tryz.func123, Tryz.ntmps123
    go_wp2_with fail
    refine (num_no ar _ h1).mono ?_; rintro e w1 ⟨rfl, rfl⟩
    go_wp2
    go_ret
    exact ⟨rfl, HX.out.stay⟩
  · rw [if_neg h1]
    show Calls _ _ _ _ fun e w' => e = .returned (erN (((wriE s.L z (ar : Int) l).toNat : Nat) : Int)) ∧ SvEnd w0 w A p ws w' (s.sto (wriL s.L z (ar : Int) l))
    rw [erN_toNat (wriE_in _ _ _ _).1]
    obtain ⟨er, her⟩ : ∃ er, erN (wriE s.L z (ar : Int) l) = er := ⟨_, rfl⟩
    rw [her]
    have HER := hide her
    clear her
    go_enter Tryz.func123, Tryz.ntmps123
    go_wp2_with fail
    refine (num_yes ar _ (by omega)).mono ?_; rintro e w1 ⟨rfl, rfl⟩
    go_wp2_with fail
    refine (store_any HS.out).mono ?_; rintro e w1 ⟨rfl, rfl⟩
    go_wp2_with fail
    refine (sto_write z ar so sn sc l _ HX.out.st (by omega) HB.out HOF.out).mono ?_; rw [HER.out]; rintro e w2 ⟨rfl, E⟩
    have HE := hide (HX.out.store E)
    clear E
    go_wp2
    go_ret
    exact ⟨rfl, HE.out⟩
set_option maxRecDepth 20000 in
set_option maxHeartbeats 1600000 in
theorem svc_grow (z : Int) (ar : Nat) (w : World) (h : Mb w A.g A.sb) (x : Sv w0 w A p ws s) :
    Calls Tryz.prog 125 #[.pointer (some ⟨A.sb.1, 0, none⟩), .int .i64 z, .int .u64 (ar : Int)] w fun e w' => e = .returned (erN ((groF s z ar).e : Int)) ∧ SvEnd w0 w A p ws w' (groF s z ar).s := by
  have HS := hide h
  have HX := hide x
  clear h x
  unfold groF
  by_cases h1 : 2147483647 < ar
  · rw [if_pos h1]
    go_enter Tryz.func125, Tryz.ntmps125
    go_wp2_with fail
    refine (num_no ar _ h1).mono ?_; rintro e w1 ⟨rfl, rfl⟩
    go_wp2
    go_ret
    exact ⟨rfl, HX.out.stay⟩
  · rw [if_neg h1]
    show Calls _ _ _ _ fun e w' => e = .returned (erN (((groE s.n s.L z (ar : Int)).toNat : Nat) : Int)) ∧ SvEnd w0 w A p ws w' (s.sto (groL s.n s.L z (ar : Int)))
    rw [erN_toNat (groE_in _ _ _ _).1]
    obtain ⟨er, her⟩ : ∃ er, erN (groE s.n s.L z (ar : Int)) = er := ⟨_, rfl⟩
    rw [her]
    have HER := hide her
    clear her
    go_enter Tryz.func125, Tryz.ntmps125
    go_wp2_with fail
    refine (num_yes ar _ (by omega)).mono ?_; rintro e w1 ⟨rfl, rfl⟩
    go_wp2_with fail
    refine (store_any HS.out).mono ?_; rintro e w1 ⟨rfl, rfl⟩
    go_wp2_with fail
    refine (sto_grow z (ar : Int) _ HX.out.st (Nat.le_trans HX.out.nw (Nat.le_refl _))).mono ?_; rw [HER.out]; rintro e w2 ⟨rfl, E⟩
    have HE := hide (HX.out.store E)
    clear E
    go_wp2
    go_ret
    exact ⟨rfl, HE.out⟩
set_option maxRecDepth 20000 in
set_option maxHeartbeats 1600000 in
theorem svc_read (z : Int) (ar : Nat) (l : List UInt8) (w : World) (h : Mb w A.g A.sb) (x : Sv w0 w A p ws s) (_ha : ar ≤ 18446744073709551615) :
    Calls Tryz.prog 122 #[.pointer (some ⟨A.sb.1, 0, none⟩), .int .i64 z, .int .u64 (ar : Int)] w fun e w' => OutEnd w0 w A p ws (reaF s z ar) l e w' := by
  obtain ⟨W, hW, rW, bW⟩ := res_vars w
  unfold resZ at hW
  have HS := hide (h.grow bW)
  have HX := hide (x.grow bW)
  have HW0 : Hid (w0.heap.size ≤ w.heap.size) := x.bel.size
  have HR := hide rW
  have HBW := hide bW
  obtain ⟨at1, hat1⟩ : ∃ q, ar / 4294967296 = q := ⟨_, rfl⟩
  obtain ⟨mn, hmn⟩ : ∃ q, ar % 4294967296 = q := ⟨_, rfl⟩
  have hs1 : (ar : Int) / 4294967296 = (at1 : Int) := by omega
  have hs2 : (ar : Int) >>> (32 : Nat) = (at1 : Int) := by rw [Int.shiftRight_eq_div_pow]; omega
  have hs3 : IntKind.u32.wrap (ar : Int) = (mn : Int) := by rw [IntKind.wrap_u32]; omega
  have hm4 : mn ≤ 4294967295 := by omega
  have hw4 : IntKind.i64.wrap (mn : Int) = (mn : Int) := by rw [IntKind.wrap_i64]; omega
  have hF : reaF s z ar = (if 2147483647 < at1 then badF s 4 else if 4096 < mn then badF s 4 else ⟨(reaE s.L z (at1 : Nat) (mn : Nat)).toNat, Cp.zero, 0, reaD s.L z (at1 : Nat) (mn : Nat), s⟩) := by unfold reaF; rw [hat1, hmn]
  rw [hF]
  clear rW bW h x hat1 hmn hF
  by_cases h1 : 2147483647 < at1
  · rw [if_pos h1]
    go_enter Tryz.func122, Tryz.ntmps122
    go_wp2_with fail
    refine (num_no at1 _ (by omega)).mono ?_; rintro e w1 ⟨rfl, rfl⟩
    obtain ⟨y0, y1, y2, y3, y4, y5⟩ := HR.out.all
    have z0 := HR.out.z 0
    have z1 := HR.out.z 1
    have z2 := HR.out.z 2
    have z3 := HR.out.z 3
    have z4 := HR.out.z 4
    have z5 := HR.out.z 5
    simp only [Cp.zero, show (((0 : Nat)) : Int) = 0 from rfl] at y0 y1 y2 y3
    have HRZ := hide (HR.out.lay Cp.zero 0 (.slice none 0 0))
    have HEZ := hide ((HX.out.stay.from HBW.out).res HW0.out HR.out (by omega) (foot_lay6 w1 w.heap.size Cp.zero 0 (.slice none 0 0)))
    obtain ⟨wz, hwz⟩ : ∃ wz, lay6 w1 w.heap.size Cp.zero 0 (.slice none 0 0) = wz := ⟨_, rfl⟩
    rw [hwz] at HRZ HEZ
    unfold lay6 at hwz
    simp only [Cp.zero, show (((0 : Nat)) : Int) = 0 from rfl] at hwz
    obtain ⟨v0, v1, v2, v3, v4, v5⟩ := HRZ.out.all
    simp only [Cp.zero, show (((0 : Nat)) : Int) = 0 from rfl] at v0 v1 v2 v3 v4
    go_wp2
    refine bodyPost_ret (by simp [results, Tryz.results122, go_sem, v0, v1, v2, v3, v4, v5]; rfl) rfl ?_
    exact out_bad rfl HEZ.out
  · rw [if_neg h1]
    by_cases h2 : 4096 < mn
    · rw [if_pos h2]
      have h2i : (4096 : Int) < (mn : Int) := by omega
      go_enter Tryz.func122, Tryz.ntmps122
      go_wp2_with fail
      refine (num_yes at1 _ (by omega)).mono ?_; rintro e w1 ⟨rfl, rfl⟩
      obtain ⟨y0, y1, y2, y3, y4, y5⟩ := HR.out.all
      have z0 := HR.out.z 0
      have z1 := HR.out.z 1
      have z2 := HR.out.z 2
      have z3 := HR.out.z 3
      have z4 := HR.out.z 4
      have z5 := HR.out.z 5
      simp only [Cp.zero, show (((0 : Nat)) : Int) = 0 from rfl] at y0 y1 y2 y3
      have HRZ := hide (HR.out.lay Cp.zero 0 (.slice none 0 0))
      have HEZ := hide ((HX.out.stay.from HBW.out).res HW0.out HR.out (by omega) (foot_lay6 w1 w.heap.size Cp.zero 0 (.slice none 0 0)))
      obtain ⟨wz, hwz⟩ : ∃ wz, lay6 w1 w.heap.size Cp.zero 0 (.slice none 0 0) = wz := ⟨_, rfl⟩
      rw [hwz] at HRZ HEZ
      unfold lay6 at hwz
      simp only [Cp.zero, show (((0 : Nat)) : Int) = 0 from rfl] at hwz
      obtain ⟨v0, v1, v2, v3, v4, v5⟩ := HRZ.out.all
      simp only [Cp.zero, show (((0 : Nat)) : Int) = 0 from rfl] at v0 v1 v2 v3 v4
      go_wp2
      refine bodyPost_ret (by simp [results, Tryz.results122, go_sem, v0, v1, v2, v3, v4, v5]; rfl) rfl ?_
      exact out_bad rfl HEZ.out
    · rw [if_neg h2]
      have h2i : ¬ (4096 : Int) < (mn : Int) := by omega
      have hle := reaD_len s.L z at1 mn
      have hee := (reaE_in s.L z (at1 : Nat) (mn : Nat)).1
      obtain ⟨er, her⟩ : ∃ er, erN (reaE s.L z (at1 : Nat) (mn : Nat)) = er := ⟨_, rfl⟩
      have HER := hide her
      have HLE := hide hle
      have HEE := hide hee
      clear her hle hee
      go_enter Tryz.func122, Tryz.ntmps122
      go_wp2_with fail
      refine (num_yes at1 _ (by omega)).mono ?_; rintro e w1 ⟨rfl, rfl⟩
      go_wp2_with fail
      refine (store_any HS.out).mono ?_; rintro e w1 ⟨rfl, rfl⟩
      go_wp2_with fail
      refine (sto_read z at1 mn _ HX.out.st (by omega)).mono ?_; rw [HER.out]; rintro e w2 ⟨co, n, cc, rfl, B2, N2, b2⟩
      have HR2 := hide (HR.out.grow b2)
      have HX2 := hide (HX.out.grow b2)
      have HB2 := hide B2
      have HN2 := hide N2
      have HBW2 := hide (below_one HBW.out b2)
      have HNN : Hid (n ≤ 4096) := by have h1 := B2.1; have h2 := HLE.out; show n ≤ 4096; omega
      have HLT : Hid (w.heap.size < w1.heap.size) := lt_of_heap HR.out
      clear B2 N2 b2
      obtain ⟨y0, y1, y2, y3, y4, y5⟩ := HR2.out.all
      have z0 := HR2.out.z 0
      have z1 := HR2.out.z 1
      have z2 := HR2.out.z 2
      have z3 := HR2.out.z 3
      have z4 := HR2.out.z 4
      have z5 := HR2.out.z 5
      simp only [Cp.zero, show (((0 : Nat)) : Int) = 0 from rfl] at y0 y1 y2 y3
      have HRZ := hide (HR2.out.lay Cp.zero 0 (.slice co n cc))
      have HEZ := hide ((HX2.out.stay.from HBW2.out).res HW0.out HR2.out (by omega) (foot_lay6 w2 w.heap.size Cp.zero 0 (.slice co n cc)))
      have HBZ : Hid (Bts (lay6 w2 w.heap.size Cp.zero 0 (.slice co n cc)) co n cc _) := Bts.foot HB2.out (foot_lay6 w2 w.heap.size Cp.zero 0 (.slice co n cc)) (fun ad e _ (h : ad.block = w.heap.size) => by have := HN2.out ad e; have := HLT.out; omega)
      obtain ⟨wz, hwz⟩ : ∃ wz, lay6 w2 w.heap.size Cp.zero 0 (.slice co n cc) = wz := ⟨_, rfl⟩
      rw [hwz] at HRZ HEZ HBZ
      unfold lay6 at hwz
      simp only [Cp.zero, show (((0 : Nat)) : Int) = 0 from rfl] at hwz
      obtain ⟨v0, v1, v2, v3, v4, v5⟩ := HRZ.out.all
      simp only [Cp.zero, show (((0 : Nat)) : Int) = 0 from rfl] at v0 v1 v2 v3 v4
      go_wp2
      refine bodyPost_ret (by simp [results, Tryz.results122, go_sem, v0, v1, v2, v3, v4, v5]; rfl) rfl ?_
      exact ⟨co, n, cc, by rw [erN_toNat HEE.out, HER.out]; rfl, HBZ.out, HN2.out.le HBW.out.size, HNN.out, HEZ.out⟩
/- a table makes an object, answered by what the function says -/
theorem SvEnd.run (E : SvEnd w0 w A p ws w1 s1) : ∃ v dv nv, Sv w0 w1 (A.upd v dv nv) p ws s1 ∧ (∀ w2 s2, SvEnd w0 w1 (A.upd v dv nv) p ws w2 s2 → SvEnd w0 w A p ws w2 s2) := by
  obtain ⟨v, dv, nv, S, F, h1, h2, h3⟩ := E
  exact ⟨v, dv, nv, S, fun w2 s2 E2 => SvEnd.on F h1 h2 h3 E2⟩
set_option maxRecDepth 20000 in
set_option maxHeartbeats 1600000 in
theorem svc_create (ar : Nat) (l : List UInt8) (w : World) (h : Mb w A.g A.sb) (x : Sv w0 w A p ws s) (hl : s.es.length ≤ 5000000000000) :
    Calls Tryz.prog 121 #[.pointer (some ⟨A.sb.1, 0, none⟩), .int .u64 (ar : Int)] w fun e w' => OutEnd w0 w A p ws (mkF ws p s ar) l e w' := by
  obtain ⟨W, hW, rW, bW⟩ := res_vars w
  unfold resZ at hW
  have HS := hide (h.grow bW)
  have HX := hide (x.grow bW)
  have HW0 : Hid (w0.heap.size ≤ w.heap.size) := x.bel.size
  have HR := hide rW
  have HBW := hide bW
  have HL := hide hl
  clear rW bW h x hl
  unfold mkF
  by_cases h1 : 2147483647 < ar
  · rw [if_pos h1]
    go_enter Tryz.func121, Tryz.ntmps121
    go_wp2_with fail
    refine (num_no ar _ (by omega)).mono ?_; rintro e w1 ⟨rfl, rfl⟩
    obtain ⟨y0, y1, y2, y3, y4, y5⟩ := HR.out.all
    have z0 := HR.out.z 0
    have z1 := HR.out.z 1
    have z2 := HR.out.z 2
    have z3 := HR.out.z 3
    have z4 := HR.out.z 4
    have z5 := HR.out.z 5
    simp only [Cp.zero, show (((0 : Nat)) : Int) = 0 from rfl] at y0 y1 y2 y3
    have HRZ := hide (HR.out.lay Cp.zero 0 (.slice none 0 0))
    have HEZ := hide ((HX.out.stay.from HBW.out).res HW0.out HR.out (by omega) (foot_lay6 w1 w.heap.size Cp.zero 0 (.slice none 0 0)))
    obtain ⟨wz, hwz⟩ : ∃ wz, lay6 w1 w.heap.size Cp.zero 0 (.slice none 0 0) = wz := ⟨_, rfl⟩
    rw [hwz] at HRZ HEZ
    unfold lay6 at hwz
    simp only [Cp.zero, show (((0 : Nat)) : Int) = 0 from rfl] at hwz
    obtain ⟨v0, v1, v2, v3, v4, v5⟩ := HRZ.out.all
    simp only [Cp.zero, show (((0 : Nat)) : Int) = 0 from rfl] at v0 v1 v2 v3 v4
    go_wp2
    refine bodyPost_ret (by simp [results, Tryz.results121, go_sem, v0, v1, v2, v3, v4, v5]; rfl) rfl ?_
    exact out_bad rfl HEZ.out
  · rw [if_neg h1]
    have hin := (createE_in s.n s.L (ar : Int)).1
    by_cases h2 : createE s.n s.L (ar : Int) = 0
    · rw [if_pos h2]
      have hid : createN s.n s.L (ar : Int) = lowS s.L := if_pos h2
      obtain ⟨id, hidd⟩ : ∃ id, lowS s.L = id := ⟨_, rfl⟩
      rw [hidd] at hid ⊢
      obtain ⟨R, hR⟩ : ∃ R, creF ws s.t s.es p s.T (id : Int) = R := ⟨_, rfl⟩
      rw [hR]
      have HID := hide hid
      have HER : Hid (erN (createE s.n s.L (ar : Int)) = .nilIface) := by show _ = _; rw [h2]; rfl
      have HRE := hide hR
      obtain ⟨L2, hL2⟩ : ∃ L2, createL s.n s.L (ar : Int) = L2 := ⟨_, rfl⟩
      rw [hL2]
      have HL2 := hide hL2
      obtain ⟨er, her⟩ : ∃ er, erN (R.e : Int) = er := ⟨_, rfl⟩
      have HEE := hide her
      obtain ⟨⟨qp, qo, qr, qc⟩, hq⟩ : ∃ q, R.c = q := ⟨_, rfl⟩
      have HQ := hide hq
      clear hin hid hidd hR h2 hL2 her hq
      obtain ⟨RF, hRF⟩ : ∃ RF, (if R.e = 0 then (⟨0, R.c, 0, [], ⟨R.t, R.es, R.T, s.n, L2⟩⟩ : Ro) else badF ⟨R.t, R.es, R.T, s.n, delL L2 (id : Int)⟩ R.e) = RF := ⟨_, rfl⟩
      rw [hRF]
      have HRF := hide hRF
      clear hRF
      go_enter Tryz.func121, Tryz.ntmps121
      go_wp2_with fail
      refine (num_yes ar _ (by omega)).mono ?_; rintro e w1 ⟨rfl, rfl⟩
      go_wp2_with fail
      refine (store_any HS.out).mono ?_; rintro e w1 ⟨rfl, rfl⟩
      go_wp2_with fail
      refine (sto_create (ar : Int) _ HX.out.st HX.out.nw).mono ?_; rw [HID.out, HER.out]; rintro e w2 ⟨rfl, E⟩
      have k2 := HX.out.kh (HX.out.store E)
      have HS2 := hide (HS.out.kh k2)
      have HR2 := hide (HR.out.kh k2)
      rw [HL2.out] at E
      obtain ⟨v, dv, nv, S2, on2⟩ := SvEnd.run (HX.out.store E)
      have HX2 := hide S2
      have HON2 := hide on2
      clear E k2 S2 on2
      go_wp2_with fail
      refine (table_any HS2.out).mono ?_; rintro e w3 ⟨rfl, rfl⟩
      go_wp2_with fail
      refine (tb_create (id : Int) _ (A := A.upd v dv nv) HX2.out HL.out R HRE.out).mono ?_; rw [HQ.out, HEE.out]; rintro e w4 ⟨rfl, E4⟩
      have k4 := HX2.out.kh E4
      have HS4 := hide (HS2.out.kh k4)
      have HR4 := hide (HR2.out.kh k4)
      have HE4 := hide (HON2.out _ _ E4)
      obtain ⟨v4, dv4, nv4, S4, on4⟩ := SvEnd.run HE4.out
      have HX4 := hide S4
      have HON4 := hide on4
      clear E4 k4 S4 on4
      simp only [Cp.val]
      obtain ⟨w5, hw5⟩ : ∃ w5, w4.alloc (.cells #[.int .u64 (qp : Int), .int .u32 (qo : Int), .int .u8 (qr : Int), .int .u64 (qc : Int)] 36) = w5 := ⟨_, rfl⟩
      have b5 : Below w4.heap.size w4 w5 := hw5 ▸ below_alloc _ _
      have C5 : CBox w5 w4.heap.size qp qo qr qc := hw5 ▸ CBox.new w4 qp qo qr qc
      have HS5 := hide (HS4.out.grow b5)
      have HR5 := hide (HR4.out.grow b5)
      have HE5 := hide (HE4.out.to b5)
      have HX5 := hide (HX4.out.grow b5)
      have HON5 : Hid (∀ w6 s6, SvEnd w0 w5 (A.upd v4 dv4 nv4) p ws w6 s6 → SvEnd w0 _ A p ws w6 s6) := fun w6 s6 z => HON4.out _ _ (z.from b5)
      have t0 := C5.c0
      have t1 := C5.c1
      have t2 := C5.c2
      have t3 := C5.c3
      clear b5
      by_cases h3 : R.e = 0
      · obtain rfl : er = .nilIface := by rw [← HEE.out, h3]; rfl
        obtain ⟨y0, y1, y2, y3, y4, y5⟩ := HR5.out.all
        have z0 := HR5.out.z 0
        have z1 := HR5.out.z 1
        have z2 := HR5.out.z 2
        have z3 := HR5.out.z 3
        have z4 := HR5.out.z 4
        have z5 := HR5.out.z 5
        simp only [Cp.zero, show (((0 : Nat)) : Int) = 0 from rfl] at y0 y1 y2 y3
        have HRZ := hide (HR5.out.lay ⟨qp, qo, qr, qc⟩ 0 (.slice none 0 0))
        have HEZ := hide ((HE5.out.from HBW.out).res HW0.out HR5.out (by omega) (foot_lay6 w5 w.heap.size ⟨qp, qo, qr, qc⟩ 0 (.slice none 0 0)))
        obtain ⟨wz, hwz⟩ : ∃ wz, lay6 w5 w.heap.size ⟨qp, qo, qr, qc⟩ 0 (.slice none 0 0) = wz := ⟨_, rfl⟩
        rw [hwz] at HRZ HEZ
        unfold lay6 at hwz
        obtain ⟨v0, v1, v2, v3, v4, v5⟩ := HRZ.out.all
        go_wp2
        refine bodyPost_ret (by simp [results, Tryz.results121, go_sem, v0, v1, v2, v3, v4, v5]; rfl) rfl ?_
        rw [← HRF.out, if_pos h3]
        exact ⟨none, 0, 0, by rw [HQ.out]; rfl, bts_nil _, new_none _, by omega, HEZ.out⟩
      · obtain ⟨tE, hE⟩ : ∃ v, er = .iface 43 v := ⟨_, by rw [← HEE.out]; exact erN_not (by omega)⟩
        subst hE
        go_wp2_with fail
        refine (svc_gone (id : Int) _ (A := A.upd v4 dv4 nv4) (p := p) (ws := ws) HS5.out HX5.out).mono ?_; rintro e w6 ⟨rfl, E5⟩
        have k5 := HX5.out.kh E5
        have HR6 := hide (HR5.out.kh k5)
        have HE6 := hide (HON5.out _ _ E5)
        clear E5 k5
        obtain ⟨y0, y1, y2, y3, y4, y5⟩ := HR6.out.all
        have z0 := HR6.out.z 0
        have z1 := HR6.out.z 1
        have z2 := HR6.out.z 2
        have z3 := HR6.out.z 3
        have z4 := HR6.out.z 4
        have z5 := HR6.out.z 5
        simp only [Cp.zero, show (((0 : Nat)) : Int) = 0 from rfl] at y0 y1 y2 y3
        have HRZ := hide (HR6.out.lay Cp.zero 0 (.slice none 0 0))
        have HEZ := hide ((HE6.out.from HBW.out).res HW0.out HR6.out (by omega) (foot_lay6 w6 w.heap.size Cp.zero 0 (.slice none 0 0)))
        obtain ⟨wz, hwz⟩ : ∃ wz, lay6 w6 w.heap.size Cp.zero 0 (.slice none 0 0) = wz := ⟨_, rfl⟩
        rw [hwz] at HRZ HEZ
        unfold lay6 at hwz
        simp only [Cp.zero, show (((0 : Nat)) : Int) = 0 from rfl] at hwz
        obtain ⟨v0, v1, v2, v3, v4, v5⟩ := HRZ.out.all
        simp only [Cp.zero, show (((0 : Nat)) : Int) = 0 from rfl] at v0 v1 v2 v3 v4
        go_wp2
        refine bodyPost_ret (by simp [results, Tryz.results121, go_sem, v0, v1, v2, v3, v4, v5]; rfl) rfl ?_
        rw [← HRF.out, if_neg h3]
        exact out_bad HEE.out HEZ.out
    · rw [if_neg h2]
      have hN : createN s.n s.L (ar : Int) = 0 := if_neg h2
      have hL : createL s.n s.L (ar : Int) = s.L := if_neg h2
      obtain ⟨k, hk⟩ : ∃ k : Nat, (createE s.n s.L (ar : Int)).toNat = k := ⟨_, rfl⟩
      have hke : createE s.n s.L (ar : Int) = (k : Int) := by omega
      obtain ⟨er, her⟩ : ∃ er, erN (k : Int) = er := ⟨_, rfl⟩
      have HID := hide hN
      have HER : Hid (erN (createE s.n s.L (ar : Int)) = er) := by show _ = _; rw [hke, her]
      have HLL := hide hL
      have HEE := hide her
      rw [hk]
      obtain ⟨tE, hE⟩ : ∃ v, er = .iface 43 v := ⟨_, by rw [← her]; exact erN_not (by omega)⟩
      subst hE
      clear hin hN hL hk hke h2 her
      go_enter Tryz.func121, Tryz.ntmps121
      go_wp2_with fail
      refine (num_yes ar _ (by omega)).mono ?_; rintro e w1 ⟨rfl, rfl⟩
      go_wp2_with fail
      refine (store_any HS.out).mono ?_; rintro e w1 ⟨rfl, rfl⟩
      go_wp2_with fail
      refine (sto_create (ar : Int) _ HX.out.st HX.out.nw).mono ?_; rw [HID.out, HER.out]; rintro e w2 ⟨rfl, E⟩
      have k2 := HX.out.kh (HX.out.store E)
      have HS2 := hide (HS.out.kh k2)
      have HR2 := hide (HR.out.kh k2)
      rw [HLL.out] at E
      have HE2 : Hid (SvEnd w0 _ A p ws w2 s) := HX.out.store E
      clear E k2
      obtain ⟨y0, y1, y2, y3, y4, y5⟩ := HR2.out.all
      have z0 := HR2.out.z 0
      have z1 := HR2.out.z 1
      have z2 := HR2.out.z 2
      have z3 := HR2.out.z 3
      have z4 := HR2.out.z 4
      have z5 := HR2.out.z 5
      simp only [Cp.zero, show (((0 : Nat)) : Int) = 0 from rfl] at y0 y1 y2 y3
      have HRZ := hide (HR2.out.lay Cp.zero 0 (.slice none 0 0))
      have HEZ := hide ((HE2.out.from HBW.out).res HW0.out HR2.out (by omega) (foot_lay6 w2 w.heap.size Cp.zero 0 (.slice none 0 0)))
      obtain ⟨wz, hwz⟩ : ∃ wz, lay6 w2 w.heap.size Cp.zero 0 (.slice none 0 0) = wz := ⟨_, rfl⟩
      rw [hwz] at HRZ HEZ
      unfold lay6 at hwz
      simp only [Cp.zero, show (((0 : Nat)) : Int) = 0 from rfl] at hwz
      obtain ⟨v0, v1, v2, v3, v4, v5⟩ := HRZ.out.all
      simp only [Cp.zero, show (((0 : Nat)) : Int) = 0 from rfl] at v0 v1 v2 v3 v4
      go_wp2
      refine bodyPost_ret (by simp [results, Tryz.results121, go_sem, v0, v1, v2, v3, v4, v5]; rfl) rfl ?_
      exact out_bad HEE.out HEZ.out
end
end Go.Proofs.YtpbkjmkdciiccaaGreatDoor
namespace Go.Proofs.YtpbkjmkdciiccaaGreatDoor
section
open Go.RowKit
variable {w0 w w1 w2 w' : World} {A A' : Ad} {p : Nat} {ws : List Nat} {s s' s1 : Hs} {g : Nat} {sb : Nat × Nat}
/- bytes that no call on a store turns -/
def Dat (N : Nat) (w : World) (sn : Nat) (so : Option Addr) : Prop := 0 < sn → ∀ ad, so = some ad → ad.block < N ∨ ∃ cs z, w.heap[ad.block]? = some (.cells cs 5 z)
theorem Kh.bytes (k : Kh w w') {b : Nat} {cs : Array Value} {z : Nat × Nat} (h : w.heap[b]? = some (.cells cs 5 z)) : w'.heap[b]? = some (.cells cs 5 z) := by
  by_cases hz : z = (0, 0)
  · subst hz; exact (k.block _ _ _ h byte_odd3).trans h
  · exact (k.froz _ _ _ _ h hz).trans h
theorem Dat.kh {N sn : Nat} {so : Option Addr} (h : Dat N w sn so) (k : Kh w w') : Dat N w' sn so := fun hp ad e => by
  rcases h hp ad e with h | ⟨cs, z, h⟩
  · exact .inl h
  · exact .inr ⟨cs, z, k.bytes h⟩
theorem Dat.grow {N sn : Nat} {so : Option Addr} (h : Dat N w sn so) (b : Below w.heap.size w w') : Dat N w' sn so := h.kh (below_kh b)
theorem Dat.off {N sn : Nat} {so : Option Addr} (h : Dat N w sn so) (hp : 0 < sn) : Off N w so := fun ad o e ho => by
  rcases h hp ad e with h | ⟨cs, z, h⟩
  · exact .inl h
  · rw [h] at ho; cases ho; exact .inr byte_odd3.no
theorem Sv.noY (x : Sv w0 w A p ws s) {b : Nat} {cs : Array Value} {z : Nat × Nat} (h : w.heap[b]? = some (.cells cs 5 z)) : ¬ SvS A b := by
  by_cases hz : z = (0, 0)
  · subst hz; exact x.noS h byte_odd3
  · exact x.noF h hz
theorem sz1 (w : World) (a : Obj) : (w.alloc a).heap.size = w.heap.size + 1 := by simp
theorem own_vars (w : World) (m : Msg) (D : Value) : ∃ X, (w.alloc (.cells #[.int .u64 m.ta, .int .u64 m.rp, .int .u32 m.id, .int .u16 m.op, .int .u16 m.st, .int .u64 m.p, .int .u32 m.o, .int .u8 m.r, .int .u64 m.c, .int .u64 m.ar, D] 53)).alloc (.cells resZ 102) = X ∧ MB X w.heap.size m D ∧ RB X (w.heap.size + 1) Cp.zero 0 (.slice none 0 0) ∧ Below w.heap.size w X := by
  have b1 := below_alloc w (.cells #[.int .u64 m.ta, .int .u64 m.rp, .int .u32 m.id, .int .u16 m.op, .int .u16 m.st, .int .u64 m.p, .int .u32 m.o, .int .u8 m.r, .int .u64 m.c, .int .u64 m.ar, D] 53)
  have b2 := below_alloc (w.alloc (.cells #[.int .u64 m.ta, .int .u64 m.rp, .int .u32 m.id, .int .u16 m.op, .int .u16 m.st, .int .u64 m.p, .int .u32 m.o, .int .u8 m.r, .int .u64 m.c, .int .u64 m.ar, D] 53)) (.cells resZ 102)
  refine ⟨_, rfl, (mb_new w m D).grow b2, ?_, below_one b1 b2⟩
  have h := heap_alloc_new (w.alloc (.cells #[.int .u64 m.ta, .int .u64 m.rp, .int .u32 m.id, .int .u16 m.op, .int .u16 m.st, .int .u64 m.p, .int .u32 m.o, .int .u8 m.r, .int .u64 m.c, .int .u64 m.ar, D] 53)) (.cells resZ 102)
  rw [sz1] at h
  exact h
set_option maxRecDepth 20000 in
set_option maxHeartbeats 1600000 in
theorem do_mis1 (z : Int) (m : Msg) (so : Option Addr) (sn sc : Nat) (d : List UInt8) (w : World) (h : Mb w A.g A.sb) (x : Sv w0 w A p ws s) (hl : s.es.length ≤ 5000000000000) (hb : Bts w so sn sc d) (hd : Dat A.N w sn so) (hz : ¬ z = -1) :
    Calls Tryz.prog 119 #[.pointer (some ⟨A.sb.1, 0, none⟩), .int .u16 100, .int .i64 z, .agg #[.int .u64 m.ta, .int .u64 m.rp, .int .u32 m.id, .int .u16 m.op, .int .u16 m.st, .int .u64 m.p, .int .u32 m.o, .int .u8 m.r, .int .u64 m.c, .int .u64 m.ar, .slice so sn sc]] w fun e w' => OutEnd w0 w A p ws (badF s 3) d e w' := by
  obtain ⟨X, hX, bm, br, bX⟩ := own_vars w m (.slice so sn sc)
  unfold resZ at hX
  have HS := hide (h.grow bX)
  have HX := hide (x.grow bX)
  have HB := hide (hb.carry bX)
  have HD := hide (hd.grow bX)
  have HR := hide br
  have HBX := hide bX
  have HW0 : Hid (w0.heap.size ≤ w.heap.size) := x.bel.size
  have HL := hide hl
  have k9 : X.cell? ⟨w.heap.size, 9, none⟩ = some (.int .u64 (m.ar : Int)) := bm.all.2.2.2.2.2.2.2.2.2.1
  have k10 : X.cell? ⟨w.heap.size, 10, none⟩ = some (.slice so sn sc) := bm.all.2.2.2.2.2.2.2.2.2.2
  clear bm br bX h x hb hd hl
  have hz0 : (z == -1) = false := by simpa using hz
  go_enter Tryz.func119, Tryz.ntmps119
  obtain ⟨y0, y1, y2, y3, y4, y5⟩ := HR.out.all
  have z0 := HR.out.z 0
  have z1 := HR.out.z 1
  have z2 := HR.out.z 2
  have z3 := HR.out.z 3
  have z4 := HR.out.z 4
  have z5 := HR.out.z 5
  simp only [Cp.zero, show (((0 : Nat)) : Int) = 0 from rfl] at y0 y1 y2 y3
  have HRZ := hide (HR.out.lay Cp.zero 0 (.slice none 0 0))
  have HEZ := hide ((HX.out.stay.from HBX.out).res HW0.out HR.out (by omega) (foot_lay6 X (w.heap.size + 1) Cp.zero 0 (.slice none 0 0)))
  obtain ⟨wz, hwz⟩ : ∃ wz, lay6 X (w.heap.size + 1) Cp.zero 0 (.slice none 0 0) = wz := ⟨_, rfl⟩
  rw [hwz] at HRZ HEZ
  unfold lay6 at hwz
  simp only [Cp.zero, show (((0 : Nat)) : Int) = 0 from rfl] at hwz
  obtain ⟨v0, v1, v2, v3, v4, v5⟩ := HRZ.out.all
  simp only [Cp.zero, show (((0 : Nat)) : Int) = 0 from rfl] at v0 v1 v2 v3 v4
  go_wp2
  refine bodyPost_ret (by simp [results, Tryz.results119, go_sem, v0, v1, v2, v3, v4, v5]; rfl) rfl ?_
  exact out_bad rfl HEZ.out
set_option maxRecDepth 20000 in
set_option maxHeartbeats 1600000 in
theorem do_mis2 (op : Nat) (m : Msg) (so : Option Addr) (sn sc : Nat) (d : List UInt8) (w : World) (h : Mb w A.g A.sb) (x : Sv w0 w A p ws s) (hl : s.es.length ≤ 5000000000000) (hb : Bts w so sn sc d) (hd : Dat A.N w sn so) (h1 : op ≠ 100) :
    Calls Tryz.prog 119 #[.pointer (some ⟨A.sb.1, 0, none⟩), .int .u16 (op : Int), .int .i64 (-1), .agg #[.int .u64 m.ta, .int .u64 m.rp, .int .u32 m.id, .int .u16 m.op, .int .u16 m.st, .int .u64 m.p, .int .u32 m.o, .int .u8 m.r, .int .u64 m.c, .int .u64 m.ar, .slice so sn sc]] w fun e w' => OutEnd w0 w A p ws (badF s 3) d e w' := by
  obtain ⟨X, hX, bm, br, bX⟩ := own_vars w m (.slice so sn sc)
  unfold resZ at hX
  have HS := hide (h.grow bX)
  have HX := hide (x.grow bX)
  have HB := hide (hb.carry bX)
  have HD := hide (hd.grow bX)
  have HR := hide br
  have HBX := hide bX
  have HW0 : Hid (w0.heap.size ≤ w.heap.size) := x.bel.size
  have HL := hide hl
  have k9 : X.cell? ⟨w.heap.size, 9, none⟩ = some (.int .u64 (m.ar : Int)) := bm.all.2.2.2.2.2.2.2.2.2.1
  have k10 : X.cell? ⟨w.heap.size, 10, none⟩ = some (.slice so sn sc) := bm.all.2.2.2.2.2.2.2.2.2.2
  clear bm br bX h x hb hd hl
  have h1i : ((op : Int) == 100) = false := by simp; omega
  clear h1
  go_enter Tryz.func119, Tryz.ntmps119
  obtain ⟨y0, y1, y2, y3, y4, y5⟩ := HR.out.all
  have z0 := HR.out.z 0
  have z1 := HR.out.z 1
  have z2 := HR.out.z 2
  have z3 := HR.out.z 3
  have z4 := HR.out.z 4
  have z5 := HR.out.z 5
  simp only [Cp.zero, show (((0 : Nat)) : Int) = 0 from rfl] at y0 y1 y2 y3
  have HRZ := hide (HR.out.lay Cp.zero 0 (.slice none 0 0))
  have HEZ := hide ((HX.out.stay.from HBX.out).res HW0.out HR.out (by omega) (foot_lay6 X (w.heap.size + 1) Cp.zero 0 (.slice none 0 0)))
  obtain ⟨wz, hwz⟩ : ∃ wz, lay6 X (w.heap.size + 1) Cp.zero 0 (.slice none 0 0) = wz := ⟨_, rfl⟩
  rw [hwz] at HRZ HEZ
  unfold lay6 at hwz
  simp only [Cp.zero, show (((0 : Nat)) : Int) = 0 from rfl] at hwz
  obtain ⟨v0, v1, v2, v3, v4, v5⟩ := HRZ.out.all
  simp only [Cp.zero, show (((0 : Nat)) : Int) = 0 from rfl] at v0 v1 v2 v3 v4
  go_wp2
  refine bodyPost_ret (by simp [results, Tryz.results119, go_sem, v0, v1, v2, v3, v4, v5]; rfl) rfl ?_
  exact out_bad rfl HEZ.out
set_option maxRecDepth 20000 in
set_option maxHeartbeats 1600000 in
theorem do_make (m : Msg) (so : Option Addr) (sn sc : Nat) (d : List UInt8) (w : World) (h : Mb w A.g A.sb) (x : Sv w0 w A p ws s) (hl : s.es.length ≤ 5000000000000) (hb : Bts w so sn sc d) (hd : Dat A.N w sn so) :
    Calls Tryz.prog 119 #[.pointer (some ⟨A.sb.1, 0, none⟩), .int .u16 100, .int .i64 (-1), .agg #[.int .u64 m.ta, .int .u64 m.rp, .int .u32 m.id, .int .u16 m.op, .int .u16 m.st, .int .u64 m.p, .int .u32 m.o, .int .u8 m.r, .int .u64 m.c, .int .u64 m.ar, .slice so sn sc]] w fun e w' => OutEnd w0 w A p ws (mkF ws p s m.ar) d e w' := by
  obtain ⟨X, hX, bm, br, bX⟩ := own_vars w m (.slice so sn sc)
  unfold resZ at hX
  have HS := hide (h.grow bX)
  have HX := hide (x.grow bX)
  have HB := hide (hb.carry bX)
  have HD := hide (hd.grow bX)
  have HR := hide br
  have HBX := hide bX
  have HW0 : Hid (w0.heap.size ≤ w.heap.size) := x.bel.size
  have HL := hide hl
  have k9 : X.cell? ⟨w.heap.size, 9, none⟩ = some (.int .u64 (m.ar : Int)) := bm.all.2.2.2.2.2.2.2.2.2.1
  have k10 : X.cell? ⟨w.heap.size, 10, none⟩ = some (.slice so sn sc) := bm.all.2.2.2.2.2.2.2.2.2.2
  clear bm br bX h x hb hd hl
  obtain ⟨R, hR⟩ : ∃ R, mkF ws p s m.ar = R := ⟨_, rfl⟩
  rw [hR]
  have HRR := hide hR
  clear hR
  obtain ⟨er, her⟩ : ∃ er, erN (R.e : Int) = er := ⟨_, rfl⟩
  have HEE := hide her
  clear her
  obtain ⟨⟨qp, qo, qr, qc⟩, hq⟩ : ∃ q, R.c = q := ⟨_, rfl⟩
  have HQ := hide hq
  obtain ⟨ra, hra⟩ : ∃ q, R.ar = q := ⟨_, rfl⟩
  have HRA := hide hra
  clear hq hra
  go_enter Tryz.func119, Tryz.ntmps119
  go_wp2_with fail
  refine (svc_create m.ar d _ HS.out HX.out HL.out).mono ?_; unfold OutEnd; rw [HRR.out, HEE.out, HQ.out, HRA.out]; rintro e w2 ⟨co, n, cc, rfl, B2, N2, n2, E2⟩
  have k2 := HX.out.kh E2
  have HR2 := hide (HR.out.kh k2)
  have HE2 := hide (E2.from HBX.out)
  have HB2 := hide B2
  have HN2 := hide N2
  have HNN := hide n2
  have HLT : Hid (w.heap.size + 1 < X.heap.size) := lt_of_heap HR.out
  clear B2 N2 n2 E2 k2
  obtain ⟨y0, y1, y2, y3, y4, y5⟩ := HR2.out.all
  have z0 := HR2.out.z 0
  have z1 := HR2.out.z 1
  have z2 := HR2.out.z 2
  have z3 := HR2.out.z 3
  have z4 := HR2.out.z 4
  have z5 := HR2.out.z 5
  simp only [Cp.zero, show (((0 : Nat)) : Int) = 0 from rfl] at y0 y1 y2 y3
  have HRZ := hide (HR2.out.lay ⟨qp, qo, qr, qc⟩ (ra : Int) (.slice co n cc))
  have HEZ := hide ((HE2.out).res HW0.out HR2.out (by omega) (foot_lay6 w2 (w.heap.size + 1) ⟨qp, qo, qr, qc⟩ (ra : Int) (.slice co n cc)))
  have HBZ : Hid (Bts (lay6 w2 (w.heap.size + 1) ⟨qp, qo, qr, qc⟩ (ra : Int) (.slice co n cc)) co n cc R.d) := Bts.foot HB2.out (foot_lay6 w2 (w.heap.size + 1) ⟨qp, qo, qr, qc⟩ (ra : Int) (.slice co n cc)) (fun ad e _ (h : ad.block = w.heap.size + 1) => by have := HN2.out ad e; have := HLT.out; omega)
  obtain ⟨wz, hwz⟩ : ∃ wz, lay6 w2 (w.heap.size + 1) ⟨qp, qo, qr, qc⟩ (ra : Int) (.slice co n cc) = wz := ⟨_, rfl⟩
  rw [hwz] at HRZ HEZ HBZ
  unfold lay6 at hwz
  obtain ⟨v0, v1, v2, v3, v4, v5⟩ := HRZ.out.all
  go_wp2
  refine bodyPost_ret (by simp [results, Tryz.results119, go_sem, v0, v1, v2, v3, v4, v5]; rfl) rfl ?_
  exact ⟨co, n, cc, by rw [HEE.out, HQ.out, HRA.out], HBZ.out, HN2.out.le HBX.out.size, HNN.out, HEZ.out⟩
set_option maxRecDepth 20000 in
set_option maxHeartbeats 1600000 in
theorem do_read (z : Int) (m : Msg) (so : Option Addr) (sn sc : Nat) (d : List UInt8) (w : World) (h : Mb w A.g A.sb) (x : Sv w0 w A p ws s) (hl : s.es.length ≤ 5000000000000) (hb : Bts w so sn sc d) (hd : Dat A.N w sn so) (hz : ¬ z = -1) (ha : m.ar ≤ 18446744073709551615) :
    Calls Tryz.prog 119 #[.pointer (some ⟨A.sb.1, 0, none⟩), .int .u16 101, .int .i64 z, .agg #[.int .u64 m.ta, .int .u64 m.rp, .int .u32 m.id, .int .u16 m.op, .int .u16 m.st, .int .u64 m.p, .int .u32 m.o, .int .u8 m.r, .int .u64 m.c, .int .u64 m.ar, .slice so sn sc]] w fun e w' => OutEnd w0 w A p ws (reaF s z m.ar) d e w' := by
  obtain ⟨X, hX, bm, br, bX⟩ := own_vars w m (.slice so sn sc)
  unfold resZ at hX
  have HS := hide (h.grow bX)
  have HX := hide (x.grow bX)
  have HB := hide (hb.carry bX)
  have HD := hide (hd.grow bX)
  have HR := hide br
  have HBX := hide bX
  have HW0 : Hid (w0.heap.size ≤ w.heap.size) := x.bel.size
  have HL := hide hl
  have k9 : X.cell? ⟨w.heap.size, 9, none⟩ = some (.int .u64 (m.ar : Int)) := bm.all.2.2.2.2.2.2.2.2.2.1
  have k10 : X.cell? ⟨w.heap.size, 10, none⟩ = some (.slice so sn sc) := bm.all.2.2.2.2.2.2.2.2.2.2
  clear bm br bX h x hb hd hl
  have HA := hide ha
  clear ha
  obtain ⟨R, hR⟩ : ∃ R, reaF s z m.ar = R := ⟨_, rfl⟩
  rw [hR]
  have HRR := hide hR
  clear hR
  obtain ⟨er, her⟩ : ∃ er, erN (R.e : Int) = er := ⟨_, rfl⟩
  have HEE := hide her
  clear her
  obtain ⟨⟨qp, qo, qr, qc⟩, hq⟩ : ∃ q, R.c = q := ⟨_, rfl⟩
  have HQ := hide hq
  obtain ⟨ra, hra⟩ : ∃ q, R.ar = q := ⟨_, rfl⟩
  have HRA := hide hra
  clear hq hra
  go_enter Tryz.func119, Tryz.ntmps119
  go_wp2_with fail
  refine (svc_read z m.ar d _ HS.out HX.out HA.out).mono ?_; unfold OutEnd; rw [HRR.out, HEE.out, HQ.out, HRA.out]; rintro e w2 ⟨co, n, cc, rfl, B2, N2, n2, E2⟩
  have k2 := HX.out.kh E2
  have HR2 := hide (HR.out.kh k2)
  have HE2 := hide (E2.from HBX.out)
  have HB2 := hide B2
  have HN2 := hide N2
  have HNN := hide n2
  have HLT : Hid (w.heap.size + 1 < X.heap.size) := lt_of_heap HR.out
  clear B2 N2 n2 E2 k2
  obtain ⟨y0, y1, y2, y3, y4, y5⟩ := HR2.out.all
  have z0 := HR2.out.z 0
  have z1 := HR2.out.z 1
  have z2 := HR2.out.z 2
  have z3 := HR2.out.z 3
  have z4 := HR2.out.z 4
  have z5 := HR2.out.z 5
  simp only [Cp.zero, show (((0 : Nat)) : Int) = 0 from rfl] at y0 y1 y2 y3
  have HRZ := hide (HR2.out.lay ⟨qp, qo, qr, qc⟩ (ra : Int) (.slice co n cc))
  have HEZ := hide ((HE2.out).res HW0.out HR2.out (by omega) (foot_lay6 w2 (w.heap.size + 1) ⟨qp, qo, qr, qc⟩ (ra : Int) (.slice co n cc)))
  have HBZ : Hid (Bts (lay6 w2 (w.heap.size + 1) ⟨qp, qo, qr, qc⟩ (ra : Int) (.slice co n cc)) co n cc R.d) := Bts.foot HB2.out (foot_lay6 w2 (w.heap.size + 1) ⟨qp, qo, qr, qc⟩ (ra : Int) (.slice co n cc)) (fun ad e _ (h : ad.block = w.heap.size + 1) => by have := HN2.out ad e; have := HLT.out; omega)
  obtain ⟨wz, hwz⟩ : ∃ wz, lay6 w2 (w.heap.size + 1) ⟨qp, qo, qr, qc⟩ (ra : Int) (.slice co n cc) = wz := ⟨_, rfl⟩
  rw [hwz] at HRZ HEZ HBZ
  unfold lay6 at hwz
  obtain ⟨v0, v1, v2, v3, v4, v5⟩ := HRZ.out.all
  go_wp2
  refine bodyPost_ret (by simp [results, Tryz.results119, go_sem, v0, v1, v2, v3, v4, v5]; rfl) rfl ?_
  exact ⟨co, n, cc, by rw [HEE.out, HQ.out, HRA.out], HBZ.out, HN2.out.le HBX.out.size, HNN.out, HEZ.out⟩
set_option maxRecDepth 20000 in
set_option maxHeartbeats 1600000 in
theorem do_size (z : Int) (m : Msg) (so : Option Addr) (sn sc : Nat) (d : List UInt8) (w : World) (h : Mb w A.g A.sb) (x : Sv w0 w A p ws s) (hl : s.es.length ≤ 5000000000000) (hb : Bts w so sn sc d) (hd : Dat A.N w sn so) (hz : ¬ z = -1) :
    Calls Tryz.prog 119 #[.pointer (some ⟨A.sb.1, 0, none⟩), .int .u16 103, .int .i64 z, .agg #[.int .u64 m.ta, .int .u64 m.rp, .int .u32 m.id, .int .u16 m.op, .int .u16 m.st, .int .u64 m.p, .int .u32 m.o, .int .u8 m.r, .int .u64 m.c, .int .u64 m.ar, .slice so sn sc]] w fun e w' => OutEnd w0 w A p ws (sizF s z) d e w' := by
  obtain ⟨X, hX, bm, br, bX⟩ := own_vars w m (.slice so sn sc)
  unfold resZ at hX
  have HS := hide (h.grow bX)
  have HX := hide (x.grow bX)
  have HB := hide (hb.carry bX)
  have HD := hide (hd.grow bX)
  have HR := hide br
  have HBX := hide bX
  have HW0 : Hid (w0.heap.size ≤ w.heap.size) := x.bel.size
  have HL := hide hl
  have k9 : X.cell? ⟨w.heap.size, 9, none⟩ = some (.int .u64 (m.ar : Int)) := bm.all.2.2.2.2.2.2.2.2.2.1
  have k10 : X.cell? ⟨w.heap.size, 10, none⟩ = some (.slice so sn sc) := bm.all.2.2.2.2.2.2.2.2.2.2
  clear bm br bX h x hb hd hl
  obtain ⟨R, hR⟩ : ∃ R, sizF s z = R := ⟨_, rfl⟩
  rw [hR]
  have HRR := hide hR
  clear hR
  obtain ⟨er, her⟩ : ∃ er, erN (R.e : Int) = er := ⟨_, rfl⟩
  have HEE := hide her
  clear her
  obtain ⟨⟨qp, qo, qr, qc⟩, hq⟩ : ∃ q, R.c = q := ⟨_, rfl⟩
  have HQ := hide hq
  obtain ⟨ra, hra⟩ : ∃ q, R.ar = q := ⟨_, rfl⟩
  have HRA := hide hra
  clear hq hra
  go_enter Tryz.func119, Tryz.ntmps119
  go_wp2_with fail
  refine (svc_size z d _ HS.out HX.out).mono ?_; unfold OutEnd; rw [HRR.out, HEE.out, HQ.out, HRA.out]; rintro e w2 ⟨co, n, cc, rfl, B2, N2, n2, E2⟩
  have k2 := HX.out.kh E2
  have HR2 := hide (HR.out.kh k2)
  have HE2 := hide (E2.from HBX.out)
  have HB2 := hide B2
  have HN2 := hide N2
  have HNN := hide n2
  have HLT : Hid (w.heap.size + 1 < X.heap.size) := lt_of_heap HR.out
  clear B2 N2 n2 E2 k2
  obtain ⟨y0, y1, y2, y3, y4, y5⟩ := HR2.out.all
  have z0 := HR2.out.z 0
  have z1 := HR2.out.z 1
  have z2 := HR2.out.z 2
  have z3 := HR2.out.z 3
  have z4 := HR2.out.z 4
  have z5 := HR2.out.z 5
  simp only [Cp.zero, show (((0 : Nat)) : Int) = 0 from rfl] at y0 y1 y2 y3
  have HRZ := hide (HR2.out.lay ⟨qp, qo, qr, qc⟩ (ra : Int) (.slice co n cc))
  have HEZ := hide ((HE2.out).res HW0.out HR2.out (by omega) (foot_lay6 w2 (w.heap.size + 1) ⟨qp, qo, qr, qc⟩ (ra : Int) (.slice co n cc)))
  have HBZ : Hid (Bts (lay6 w2 (w.heap.size + 1) ⟨qp, qo, qr, qc⟩ (ra : Int) (.slice co n cc)) co n cc R.d) := Bts.foot HB2.out (foot_lay6 w2 (w.heap.size + 1) ⟨qp, qo, qr, qc⟩ (ra : Int) (.slice co n cc)) (fun ad e _ (h : ad.block = w.heap.size + 1) => by have := HN2.out ad e; have := HLT.out; omega)
  obtain ⟨wz, hwz⟩ : ∃ wz, lay6 w2 (w.heap.size + 1) ⟨qp, qo, qr, qc⟩ (ra : Int) (.slice co n cc) = wz := ⟨_, rfl⟩
  rw [hwz] at HRZ HEZ HBZ
  unfold lay6 at hwz
  obtain ⟨v0, v1, v2, v3, v4, v5⟩ := HRZ.out.all
  go_wp2
  refine bodyPost_ret (by simp [results, Tryz.results119, go_sem, v0, v1, v2, v3, v4, v5]; rfl) rfl ?_
  exact ⟨co, n, cc, by rw [HEE.out, HQ.out, HRA.out], HBZ.out, HN2.out.le HBX.out.size, HNN.out, HEZ.out⟩
set_option maxRecDepth 20000 in
set_option maxHeartbeats 1600000 in
theorem do_write (z : Int) (m : Msg) (so : Option Addr) (sn sc : Nat) (d : List UInt8) (w : World) (h : Mb w A.g A.sb) (x : Sv w0 w A p ws s) (hl : s.es.length ≤ 5000000000000) (hb : Bts w so sn sc d) (hd : Dat A.N w sn so) (hz : ¬ z = -1) :
    Calls Tryz.prog 119 #[.pointer (some ⟨A.sb.1, 0, none⟩), .int .u16 102, .int .i64 z, .agg #[.int .u64 m.ta, .int .u64 m.rp, .int .u32 m.id, .int .u16 m.op, .int .u16 m.st, .int .u64 m.p, .int .u32 m.o, .int .u8 m.r, .int .u64 m.c, .int .u64 m.ar, .slice so sn sc]] w fun e w' => OutEnd w0 w A p ws (wriF s z m.ar d) d e w' := by
  obtain ⟨X, hX, bm, br, bX⟩ := own_vars w m (.slice so sn sc)
  unfold resZ at hX
  have HS := hide (h.grow bX)
  have HX := hide (x.grow bX)
  have HB := hide (hb.carry bX)
  have HD := hide (hd.grow bX)
  have HR := hide br
  have HBX := hide bX
  have HW0 : Hid (w0.heap.size ≤ w.heap.size) := x.bel.size
  have HL := hide hl
  have k9 : X.cell? ⟨w.heap.size, 9, none⟩ = some (.int .u64 (m.ar : Int)) := bm.all.2.2.2.2.2.2.2.2.2.1
  have k10 : X.cell? ⟨w.heap.size, 10, none⟩ = some (.slice so sn sc) := bm.all.2.2.2.2.2.2.2.2.2.2
  clear bm br bX h x hb hd hl
  obtain ⟨R, hR⟩ : ∃ R, wriF s z m.ar d = R := ⟨_, rfl⟩
  have hbad : R = badF R.s R.e := by rw [← hR]; unfold wriF; split <;> rfl
  rw [hR, hbad]
  have HRR := hide hR
  clear hR hbad
  obtain ⟨er, her⟩ : ∃ er, erN (R.e : Int) = er := ⟨_, rfl⟩
  have HEE := hide her
  clear her
  go_enter Tryz.func119, Tryz.ntmps119
  go_wp2_with fail
  refine (svc_write z m.ar so sn sc d _ HS.out HX.out HB.out (fun h => HD.out.off h)).mono ?_; rw [HRR.out, HEE.out]; rintro e w2 ⟨rfl, E2⟩
  have k2 := HX.out.kh E2
  have HR2 := hide (HR.out.kh k2)
  have HE2 := hide (E2.from HBX.out)
  clear E2 k2
  obtain ⟨y0, y1, y2, y3, y4, y5⟩ := HR2.out.all
  have z0 := HR2.out.z 0
  have z1 := HR2.out.z 1
  have z2 := HR2.out.z 2
  have z3 := HR2.out.z 3
  have z4 := HR2.out.z 4
  have z5 := HR2.out.z 5
  simp only [Cp.zero, show (((0 : Nat)) : Int) = 0 from rfl] at y0 y1 y2 y3
  have HRZ := hide (HR2.out.lay Cp.zero 0 (.slice none 0 0))
  have HEZ := hide ((HE2.out).res HW0.out HR2.out (by omega) (foot_lay6 w2 (w.heap.size + 1) Cp.zero 0 (.slice none 0 0)))
  obtain ⟨wz, hwz⟩ : ∃ wz, lay6 w2 (w.heap.size + 1) Cp.zero 0 (.slice none 0 0) = wz := ⟨_, rfl⟩
  rw [hwz] at HRZ HEZ
  unfold lay6 at hwz
  simp only [Cp.zero, show (((0 : Nat)) : Int) = 0 from rfl] at hwz
  obtain ⟨v0, v1, v2, v3, v4, v5⟩ := HRZ.out.all
  simp only [Cp.zero, show (((0 : Nat)) : Int) = 0 from rfl] at v0 v1 v2 v3 v4
  go_wp2
  refine bodyPost_ret (by simp [results, Tryz.results119, go_sem, v0, v1, v2, v3, v4, v5]; rfl) rfl ?_
  exact out_bad HEE.out HEZ.out
set_option maxRecDepth 20000 in
set_option maxHeartbeats 1600000 in
theorem do_grow (z : Int) (m : Msg) (so : Option Addr) (sn sc : Nat) (d : List UInt8) (w : World) (h : Mb w A.g A.sb) (x : Sv w0 w A p ws s) (hl : s.es.length ≤ 5000000000000) (hb : Bts w so sn sc d) (hd : Dat A.N w sn so) (hz : ¬ z = -1) :
    Calls Tryz.prog 119 #[.pointer (some ⟨A.sb.1, 0, none⟩), .int .u16 104, .int .i64 z, .agg #[.int .u64 m.ta, .int .u64 m.rp, .int .u32 m.id, .int .u16 m.op, .int .u16 m.st, .int .u64 m.p, .int .u32 m.o, .int .u8 m.r, .int .u64 m.c, .int .u64 m.ar, .slice so sn sc]] w fun e w' => OutEnd w0 w A p ws (groF s z m.ar) d e w' := by
  obtain ⟨X, hX, bm, br, bX⟩ := own_vars w m (.slice so sn sc)
  unfold resZ at hX
  have HS := hide (h.grow bX)
  have HX := hide (x.grow bX)
  have HB := hide (hb.carry bX)
  have HD := hide (hd.grow bX)
  have HR := hide br
  have HBX := hide bX
  have HW0 : Hid (w0.heap.size ≤ w.heap.size) := x.bel.size
  have HL := hide hl
  have k9 : X.cell? ⟨w.heap.size, 9, none⟩ = some (.int .u64 (m.ar : Int)) := bm.all.2.2.2.2.2.2.2.2.2.1
  have k10 : X.cell? ⟨w.heap.size, 10, none⟩ = some (.slice so sn sc) := bm.all.2.2.2.2.2.2.2.2.2.2
  clear bm br bX h x hb hd hl
  obtain ⟨R, hR⟩ : ∃ R, groF s z m.ar = R := ⟨_, rfl⟩
  have hbad : R = badF R.s R.e := by rw [← hR]; unfold groF; split <;> rfl
  rw [hR, hbad]
  have HRR := hide hR
  clear hR hbad
  obtain ⟨er, her⟩ : ∃ er, erN (R.e : Int) = er := ⟨_, rfl⟩
  have HEE := hide her
  clear her
  go_enter Tryz.func119, Tryz.ntmps119
  go_wp2_with fail
  refine (svc_grow z m.ar _ HS.out HX.out).mono ?_; rw [HRR.out, HEE.out]; rintro e w2 ⟨rfl, E2⟩
  have k2 := HX.out.kh E2
  have HR2 := hide (HR.out.kh k2)
  have HE2 := hide (E2.from HBX.out)
  clear E2 k2
  obtain ⟨y0, y1, y2, y3, y4, y5⟩ := HR2.out.all
  have z0 := HR2.out.z 0
  have z1 := HR2.out.z 1
  have z2 := HR2.out.z 2
  have z3 := HR2.out.z 3
  have z4 := HR2.out.z 4
  have z5 := HR2.out.z 5
  simp only [Cp.zero, show (((0 : Nat)) : Int) = 0 from rfl] at y0 y1 y2 y3
  have HRZ := hide (HR2.out.lay Cp.zero 0 (.slice none 0 0))
  have HEZ := hide ((HE2.out).res HW0.out HR2.out (by omega) (foot_lay6 w2 (w.heap.size + 1) Cp.zero 0 (.slice none 0 0)))
  obtain ⟨wz, hwz⟩ : ∃ wz, lay6 w2 (w.heap.size + 1) Cp.zero 0 (.slice none 0 0) = wz := ⟨_, rfl⟩
  rw [hwz] at HRZ HEZ
  unfold lay6 at hwz
  simp only [Cp.zero, show (((0 : Nat)) : Int) = 0 from rfl] at hwz
  obtain ⟨v0, v1, v2, v3, v4, v5⟩ := HRZ.out.all
  simp only [Cp.zero, show (((0 : Nat)) : Int) = 0 from rfl] at v0 v1 v2 v3 v4
  go_wp2
  refine bodyPost_ret (by simp [results, Tryz.results119, go_sem, v0, v1, v2, v3, v4, v5]; rfl) rfl ?_
  exact out_bad HEE.out HEZ.out
theorem svc_do (op : Nat) (z : Int) (m : Msg) (so : Option Addr) (sn sc : Nat) (d : List UInt8) (w : World) (h : Mb w A.g A.sb) (x : Sv w0 w A p ws s) (hl : s.es.length ≤ 5000000000000) (hb : Bts w so sn sc d) (hd : Dat A.N w sn so) (ha : m.ar ≤ 18446744073709551615) (h1 : 100 ≤ op ∧ op ≤ 104) :
    Calls Tryz.prog 119 #[.pointer (some ⟨A.sb.1, 0, none⟩), .int .u16 (op : Int), .int .i64 z, .agg #[.int .u64 m.ta, .int .u64 m.rp, .int .u32 m.id, .int .u16 m.op, .int .u16 m.st, .int .u64 m.p, .int .u32 m.o, .int .u8 m.r, .int .u64 m.c, .int .u64 m.ar, .slice so sn sc]] w fun e w' => OutEnd w0 w A p ws (doF ws p s op z m.ar d) d e w' := by
  by_cases hz : z = -1
  · subst hz
    by_cases h2 : op = 100
    · subst h2; exact do_make m so sn sc d w h x hl hb hd
    · rw [show doF ws p s op (-1) m.ar d = badF s 3 from by unfold doF; rw [decide_eq_false h2]; rfl]
      exact do_mis2 op m so sn sc d w h x hl hb hd h2
  · have hzd := decide_eq_false hz
    have : op = 100 ∨ op = 101 ∨ op = 102 ∨ op = 103 ∨ op = 104 := by omega
    rcases this with rfl | rfl | rfl | rfl | rfl
    · rw [show doF ws p s 100 z m.ar d = badF s 3 from by unfold doF; rw [hzd]; rfl]
      exact do_mis1 z m so sn sc d w h x hl hb hd hz
    · rw [show doF ws p s 101 z m.ar d = reaF s z m.ar from by unfold doF; rw [hzd]; rfl]
      exact do_read z m so sn sc d w h x hl hb hd hz ha
    · rw [show doF ws p s 102 z m.ar d = wriF s z m.ar d from by unfold doF; rw [hzd]; rfl]
      exact do_write z m so sn sc d w h x hl hb hd hz
    · rw [show doF ws p s 103 z m.ar d = sizF s z from by unfold doF; rw [hzd]; rfl]
      exact do_size z m so sn sc d w h x hl hb hd hz
    · rw [show doF ws p s 104 z m.ar d = groF s z m.ar from by unfold doF; rw [hzd]; rfl]
      exact do_grow z m so sn sc d w h x hl hb hd hz
end
end Go.Proofs.YtpbkjmkdciiccaaGreatDoor
namespace Go.Proofs.YtpbkjmkdciiccaaGreatDoor
section
open Go.RowKit
variable {w0 w w1 w2 w' : World} {A A' : Ad} {p : Nat} {ws : List Nat} {s s' s1 : Hs} {r g : Nat} {sb : Nat × Nat}
/- a server in memory: its objects, its service -/
def Sr (w : World) (r g : Nat) (sb : Nat × Nat) : Prop := w.heap[r]? = some (.cells #[.pointer (some ⟨g, 0, none⟩), .iface 59 (.pointer (some ⟨sb.1, 0, none⟩))] 123 (0, 0)) ∧ Mb w g sb
theorem Sr.c0 (h : Sr w r g sb) : w.cell? ⟨r, 0, none⟩ = some (.pointer (some ⟨g, 0, none⟩)) := by rw [cell_of_row w r _ _ _ _ h.1]; rfl
theorem Sr.c1 (h : Sr w r g sb) : w.cell? ⟨r, 1, none⟩ = some (.iface 59 (.pointer (some ⟨sb.1, 0, none⟩))) := by rw [cell_of_row w r _ _ _ _ h.1]; rfl
theorem Sr.kh (h : Sr w r g sb) (k : Kh w w') : Sr w' r g sb := ⟨(k.block _ _ _ h.1 srv_odd3).trans h.1, h.2.kh k⟩
theorem Sr.grow (h : Sr w r g sb) (b : Below w.heap.size w w') : Sr w' r g sb := h.kh (below_kh b)
theorem Sr.foot {S : Nat → Prop} (h : Sr w r g sb) (f : Foot S w w') (hS : ¬ S r) (hM : ¬ S sb.1) : Sr w' r g sb := ⟨(f.block r (lt_of_heap h.1) hS).trans h.1, h.2.foot f hM⟩
/- a variable of another type turns -/
theorem Sr.var {b : Nat} {cs : Array Value} {ty : TypeId} (h : Sr w r g sb) (f : Foot (fun j => j = b) w w') (hb : w.heap[b]? = some (.cells cs ty (0, 0))) (h1 : ty ≠ 123) (h2 : ty ≠ 61) : Sr w' r g sb :=
  h.foot f (fun e => by rw [← e, h.1] at hb; cases hb; exact h1 rfl) (fun e => by rw [← e, h.2] at hb; cases hb; exact h2 rfl)
set_option maxHeartbeats 800000 in
theorem whole_any (h : Sr w r g sb) : Calls Tryz.prog 55 #[.pointer (some ⟨r, 0, none⟩)] w fun e w' => e = .returned (.bool true) ∧ w' = w := by
  have c0 := h.c0
  have c1 := h.c1
  clear h
  go_enter Tryz.func55, Tryz.ntmps55
  go_wp2
  go_ret
  exact ⟨rfl, rfl⟩
theorem need_idle (w : World) : CallsD Tryz.prog 93 #[] .returning w fun e u' w' => e = .returned (.tuple #[]) ∧ u' = .returning ∧ w' = w := by
  refine callsD_of_wpS Tryz.func93 rfl fun c₀ cs hu => ?_
  apply wpS_region
  simp [wpOpsS, go_sem, recoverD, hu, Tryz.ntmps93]
  cases c₀
  simp_all [bodyPostS, results, Tryz.results93]
theorem gone_idle (w : World) : CallsD Tryz.prog 92 #[] .returning w fun e u' w' => e = .returned (.tuple #[]) ∧ u' = .returning ∧ w' = w := by
  refine callsD_of_wpS Tryz.func92 rfl fun c₀ cs hu => ?_
  apply wpS_region
  simp [wpOpsS, go_sem, recoverD, hu, Tryz.ntmps92]
  cases c₀
  simp_all [bodyPostS, results, Tryz.results92]
theorem do_idle (a b : Addr) (w : World) : CallsD Tryz.prog 94 #[.pointer (some a), .pointer (some b)] .returning w fun e u' w' => e = .returned (.tuple #[]) ∧ u' = .returning ∧ w' = w := by
  refine callsD_of_wpS Tryz.func94 rfl fun c₀ cs hu => ?_
  apply wpS_seq
  apply wpS_region
  simp [wpOpsS, go_sem, recoverD, hu, Tryz.ntmps94, Exit.thenS]
  refine wpS_cond (t := false) (by simp [Act.eval, Array.replicate]) ?_
  simp only [Bool.false_eq_true, if_false]
  refine wpS_of_wp (wp_skip ?_)
  cases c₀
  simp_all [bodyPostS, results, Tryz.results94]
theorem Tryz.mNeed (v : Value) (w : World) : (Go.method 327 59 v "Need").run Tryz.prog w = .ok (20, v) w := by kernel_rfl
theorem Tryz.mDo (v : Value) (w : World) : (Go.method 327 59 v "Do").run Tryz.prog w = .ok (119, v) w := by kernel_rfl
theorem Tryz.mGone (v : Value) (w : World) : (Go.method 327 59 v "Gone").run Tryz.prog w = .ok (120, v) w := by kernel_rfl
set_option maxHeartbeats 800000 in
theorem need_any (h : Sr w r g sb) (op : Nat) (ho : op ≤ 65535) : Calls Tryz.prog 80 #[.pointer (some ⟨r, 0, none⟩), .int .u16 (op : Int)] w fun e w' => e = .returned (.tuple #[.int .u8 (needN op : Int), .bool (needB op)]) ∧ w' = w := by
  have c1 := h.c1
  have hm := Tryz.mNeed
  clear h
  go_enter_defers Tryz.func80, Tryz.ntmps80
  go_wp2_with fail
  refine (svc_need _ op _ ho).mono ?_; rintro e w1 ⟨rfl, rfl⟩
  go_wp2
  refine leaves_cons (f := 93) (args := #[]) (by simp) (by simp [go_sem]) ?_
  refine (need_idle _).mono ?_
  rintro e u' w'' ⟨rfl, rfl, rfl⟩
  simp [Leaves, settle, results, Tryz.results80, go_sem]
set_option maxHeartbeats 800000 in
theorem srv_gone (z : Int) (w : World) (h : Sr w r A.g A.sb) (x : Sv w0 w A p ws s) :
    Calls Tryz.prog 79 #[.pointer (some ⟨r, 0, none⟩), .int .i64 z] w fun e w' => e = .returned (.tuple #[]) ∧ SvEnd w0 w A p ws w' (s.sto (delL s.L z)) := by
  have c1 := h.c1
  have hm := Tryz.mGone
  have HX := hide x
  have HM := hide h.2
  clear h x
  go_enter_defers Tryz.func79, Tryz.ntmps79
  go_wp2_with fail
  refine (svc_gone z _ HM.out HX.out).mono ?_; rintro e w1 ⟨rfl, E⟩
  have HE := hide E
  clear E
  go_wp2
  refine leaves_cons (f := 92) (args := #[]) (by simp) (by simp [go_sem]) ?_
  refine (gone_idle _).mono ?_
  rintro e u' w'' ⟨rfl, rfl, rfl⟩
  simp [Leaves, settle, results, Tryz.results79, go_sem]
  exact HE.out
end
end Go.Proofs.YtpbkjmkdciiccaaGreatDoor
