/-
  A slice's elements, so many cells each: what stays of them; appends whose run is known.
-/
import Derived.Test.YtgcmompldcnhlaaDoorIRow
import Derived.Maps.AppendAt
namespace Go.Proofs.YtgcmompldcnhlaaDoor
open Go.RowKit
def Lies (sz : Nat) (w : World) (ao : Option Addr) (n cap : Nat) (cs : List Value) : Prop :=
  cs.length = n * sz ∧ n ≤ cap ∧ cap ≤ maxLen ∧ (ao = none → cap = 0) ∧ ∀ ad, ao = some ad → ∀ j u, cs[j]? = some u → w.cell? (ad.add j) = some u
theorem Lies.carry {sz : Nat} {w w' : World} {ao : Option Addr} {n cap : Nat} {cs : List Value} (h : Lies sz w ao n cap cs) {B : Nat} (b : Below B w w') (hB : w.heap.size ≤ B) : Lies sz w' ao n cap cs :=
  ⟨h.1, h.2.1, h.2.2.1, h.2.2.2.1, fun ad e j u hu => by
    have := h.2.2.2.2 ad e j u hu
    rw [b.cell (Nat.lt_of_lt_of_le (lt_of_cell this) hB), this]⟩
theorem Lies.drewN {sz : Nat} {w : World} {ao : Option Addr} {n cap : Nat} {cs : List Value} (h : Lies sz w ao n cap cs) (q : Nat) : Lies sz (w.drewN q) ao n cap cs := h
theorem lies_nil (sz : Nat) (w : World) : Lies sz w none 0 0 [] := ⟨by simp, Nat.le_refl _, by decide, fun _ => rfl, fun _ e => by cases e⟩
theorem owns_lies {w : World} {base sz : Nat} {e : TypeId} {v : Value} {n : Nat} {xs : List Value} (h : w.ownsRow base e sz v n xs) : ∃ ao cap, v = .slice ao n cap ∧ Lies sz w ao n cap xs := by
  have hl := h.1
  rcases h.2 with ⟨rfl, rfl⟩ | ⟨g, cap, cur, rfl, h1, h2, h3, h4, h5, h6⟩
  · obtain rfl : xs = [] := List.eq_nil_of_length_eq_zero (by simpa using hl)
    exact ⟨none, 0, rfl, lies_nil _ _⟩
  · refine ⟨some ⟨g, 0, none⟩, cap, rfl, hl, h3, h4, (fun e => by cases e), fun ad e j u hu => ?_⟩
    obtain rfl := Option.some.inj e
    exact h.cells (g := g) rfl j u hu
theorem owns_nil (w : World) (base : Nat) (e : TypeId) (sz : Nat) : w.ownsRow base e sz (.slice none 0 0) 0 [] := ⟨by simp, .inl ⟨rfl, rfl⟩⟩
theorem addS (a : Addr) (j : Nat) : a.add (j + 1) = { block := a.block, off := a.off + (j + 1) } := by unfold Addr.add; rw [if_neg (by omega)]
theorem addZ (a : Addr) : a.add 0 = a := by unfold Addr.add; simp
theorem add_add (ad : Addr) (j k : Nat) : (ad.add j).add k = ad.add (j + k) := by
  unfold Addr.add
  by_cases h1 : j = 0
  · subst h1; simp
  · by_cases h2 : k = 0
    · subst h2; simp
    · simp [h1, h2]; omega
/- what an own row that grew leaves below -/
theorem below_grown {B : Nat} {a w w' : World} {e : TypeId} {sz n : Nat} {v : Value} {xs : List Value} (b : Below B a w) (hB : B ≤ w.heap.size) (hown : w.ownsRow B e sz v n xs) (hgr : w.grownBy w' v.ownBlock) : Below B a w' := by
  refine b.grown hgr hB (fun k e => ?_)
  rcases hown.2 with ⟨h, _⟩ | ⟨g, c, cur, h, hbg, _⟩
  · rw [h] at e; simp [Value.ownBlock] at e
  · rw [h] at e
    have : g = k := by simpa [Value.ownBlock] using e
    omega
/- append(nil, make([]T, m)...) -/
theorem zeros_nil {P : Program} (w : World) {t ti ty e : TypeId} {i : TypeInfo} {z : Value} (sl : P.underlying t = some (.slice e)) (nu : P.underlying ti = some (.int .i64)) (inf : P.info? e = some i) (zero : i.zero = some z) (hs : 0 < i.size) (m : Nat) (h0 : 0 < m) (hb : m * i.bytes ≤ 140737488355328) (hm : m ≤ 140737488355328) :
    (Builtin.append_ #[t, ti] ty #[.slice none 0 0, .int .i64 (m : Int)]).run P w =
      .ok (.slice (some ⟨w.heap.size, 0, none⟩) m (grownCap w m 0 e)) (w.drew.alloc (.cells (Builtin.zeroCells z.cells m ++ Builtin.zeroCells z.cells (grownCap w m 0 e - m)) e)) := by
  have big : ¬ (9223372036854775807 < (m : Int)) := by omega
  have wrap : IntKind.i64.wrap (m : Int) = (m : Int) := by rw [IntKind.wrap_i64]; omega
  have nonneg : ¬ ((m : Int) < 0) := by omega
  have fits : ¬ (281474976710656 < (m : Int) * (i.bytes : Int)) := by rw [← Int.natCast_mul]; omega
  have room : ¬ (281474976710656 < Builtin.nextslicecap m 0 * i.bytes) := by rw [nextslicecap_zero h0]; omega
  have nz : m * i.size ≠ 0 := Nat.mul_ne_zero (by omega) (by omega)
  simp [Builtin.append_, run_underlying sl, run_underlying nu, sizeOf, typeInfo, zeroValue, inf, zero, asInt, asIntOf, wrap, nonneg, fits, Nat.ne_of_gt h0, big, room, Question.forced, run_firstCells_none, newRow, grownCap]
  intro h; exact absurd h nz
/- append(s, nil...) -/
theorem app_none {P : Program} (w : World) {t ty e : TypeId} {i : TypeInfo} (sl : P.underlying t = some (.slice e)) (inf : P.info? e = some i) (ao : Option Addr) (n c : Nat) (hn : n ≤ c) (hz : ao = none → c = 0) : (Builtin.append_ #[t, t] ty #[.slice ao n c, .slice none 0 0]).run P w = .ok (.slice ao n c) w := by
  cases ao with
  | none =>
    obtain rfl := hz rfl
    obtain rfl : n = 0 := by omega
    simp [Builtin.append_, run_underlying sl, sizeOf, typeInfo, inf, Builtin.lenOf, Builtin.firstCells]
  | some a =>
    simp [Builtin.append_, run_underlying sl, sizeOf, typeInfo, inf, Builtin.lenOf, Builtin.firstCells, hn, storeCells]
/- an append whose run is known, in a region that doesn't draw -/
theorem wpList_append_run {P : Program} {w : World} {ops : Array Oper} {rest : List Oper} {o : Oper} {a : Act} {Q : Exit → Act → World → Prop} (hgd : o.guard = none) (s x : Operand) (ts : Array TypeId)
    (ho : o.op = .call { callee := .builtin .append, args := #[s, x], argTypes := ts }) (v u v' : Value) (w' : World) (hs : a.eval s = v) (hx : a.eval x = u) (hr : (Builtin.append_ ts o.type #[v, u]).run P w = .ok v' w') (h : wpList P ops Q rest (a.put o.dst v') w') :
    wpList P ops Q (o :: rest) a w := by
  refine wpList_plain hgd fun K hK => ?_
  unfold Oper.wp execOp
  simp only [ho, resolve, invoke, builtin, Sem.run_bind, Sem.run_pure, Result.andThen_ok, List.map_toArray, List.map_cons, List.map_nil, hs, hx, hr]
  exact hK _ _ h
/- the same, of an append behind '&&' whose guard says yes -/
theorem wpList_append_want {P : Program} {w : World} {ops : Array Oper} {rest : List Oper} {o : Oper} {a : Act} {Q : Exit → Act → World → Prop} (hw : Region.wanted o (yielded ops a.tmps) = true) (s x : Operand) (ts : Array TypeId)
    (ho : o.op = .call { callee := .builtin .append, args := #[s, x], argTypes := ts }) (v u v' : Value) (w' : World) (hs : a.eval s = v) (hx : a.eval x = u) (hr : (Builtin.append_ ts o.type #[v, u]).run P w = .ok v' w') (h : wpList P ops Q rest (a.put o.dst v') w') :
    wpList P ops Q (o :: rest) a w := by
  refine BigFrame.wpList_want hw fun K hK => ?_
  unfold Oper.wp execOp
  simp only [ho, resolve, invoke, builtin, Sem.run_bind, Sem.run_pure, Result.andThen_ok, List.map_toArray, List.map_cons, List.map_nil, hs, hx, hr]
  exact hK _ _ h
theorem below_d (w : World) (q : Nat) : Below w.heap.size w (w.drewN q) := below_drewN (Below.refl _ _) q
theorem below_d1 (w : World) (q : Nat) (o : Obj) : Below w.heap.size w ((w.drewN q).alloc o) := below_one (below_d w q) (below_alloc _ _)
theorem below_d2 (w : World) (q : Nat) (o o' : Obj) : Below w.heap.size w (((w.drewN q).alloc o).alloc o') := below_one (below_d1 w q o) (below_alloc _ _)
theorem below_dd (w : World) (q : Nat) : Below w.heap.size w (w.drewN q).drew := below_drewN (below_d w q) 1
end Go.Proofs.YtgcmompldcnhlaaDoor
