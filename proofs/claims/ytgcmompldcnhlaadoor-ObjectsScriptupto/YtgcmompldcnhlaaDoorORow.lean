/-
  An oracle in memory: its cells, the row of its answers, the map of their places; and what stays of them when other memory turns.
-/
import Derived.Test.YtgcmompldcnhlaaDoorOMath
import Derived.Test.YtgcmompldcnhlaaDoorTAwake
import Derived.Maps.OwnSet
import Derived.DeepKeys4
import Derived.Deep.AppendLies
namespace Go.Proofs.YtgcmompldcnhlaaDoor
open Go.RowKit
/- blocks outside S are as they were -/
structure Foot (S : Nat → Prop) (w w' : World) : Prop where
  os : w'.os = w.os
  tape : w'.tape = w.tape
  output : w'.output = w.output
  size : w.heap.size ≤ w'.heap.size
  block : ∀ k, k < w.heap.size → ¬ S k → w'.heap[k]? = w.heap[k]?
theorem Foot.refl (S : Nat → Prop) (w : World) : Foot S w w := ⟨rfl, rfl, rfl, Nat.le_refl _, fun _ _ _ => rfl⟩
theorem Foot.mono {S S' : Nat → Prop} {w w' : World} (h : Foot S w w') (hS : ∀ k, S k → S' k) : Foot S' w w' := ⟨h.os, h.tape, h.output, h.size, fun k hk hn => h.block k hk fun x => hn (hS k x)⟩
theorem Foot.trans {S S' : Nat → Prop} {a b c : World} (h : Foot S a b) (k : Foot S' b c) (hS : ∀ j, S' j → S j ∨ a.heap.size ≤ j) : Foot S a c :=
  ⟨k.os.trans h.os, k.tape.trans h.tape, k.output.trans h.output, Nat.le_trans h.size k.size, fun i hi hn => (k.block i (Nat.lt_of_lt_of_le hi h.size) fun x => by
    rcases hS i x with x | x
    · exact hn x
    · omega).trans (h.block i hi hn)⟩
theorem Foot.drewN {S : Nat → Prop} {a w : World} (h : Foot S a w) (q : Nat) : Foot S a (w.drewN q) := ⟨h.os, h.tape, h.output, h.size, h.block⟩
theorem foot_drewN (S : Nat → Prop) (w : World) (q : Nat) : Foot S w (w.drewN q) := (Foot.refl S w).drewN q
theorem foot_grown {w w' : World} {row : Option Nat} (h : w.grownBy w' row) : Foot (fun k => row = some k) w w' := ⟨h.os, h.tape, h.output, h.size, fun k hk hn => h.block k hk fun e => hn e.symm⟩
theorem foot_alloc (S : Nat → Prop) (w : World) (o : Obj) : Foot S w (w.alloc o) := ⟨rfl, rfl, rfl, (below_alloc w o).size, fun k hk _ => Below.heap_alloc w o k hk⟩
theorem foot_set (w : World) (p : Addr) (v : Value) : Foot (fun k => k = p.block) w (w.setCell p v) := ⟨rfl, rfl, rfl, by simp [World.setCell], fun k _ hn => heap_setCell_other _ _ _ _ hn⟩
theorem Touch.foot {g : Nat} {w w' : World} (h : Touch g w w') : Foot (fun k => k = g) w w' := ⟨h.os, h.tape, h.output, Nat.le_of_eq h.size.symm, fun k _ hn => h.block k hn⟩
theorem Foot.below {S : Nat → Prop} {B : Nat} {w w' : World} (h : Foot S w w') (hB : B ≤ w.heap.size) (hS : ∀ k, S k → B ≤ k) : Below B w w' :=
  ⟨h.os, h.tape, h.output, h.size, fun k hk => h.block k (by omega) fun x => by have := hS k x; omega⟩
theorem below_foot {w w' : World} (S : Nat → Prop) (h : Below w.heap.size w w') : Foot S w w' := ⟨h.os, h.tape, h.output, h.size, fun k hk _ => h.block k hk⟩
theorem owns_foot {S : Nat → Prop} {w w' : World} {base : Nat} {e : TypeId} {size : Nat} {v : Value} {n : Nat} {xs : List Value} (h : w.ownsRow base e size v n xs) (b : Foot S w w') (hv : ∀ r, v.ownBlock = some r → ¬ S r) : w'.ownsRow base e size v n xs := by
  refine ⟨h.1, ?_⟩
  rcases h.2 with h | ⟨g, cap, cur, rfl, h1, h2, h3⟩
  · exact .inl h
  · exact .inr ⟨g, cap, cur, rfl, h1, (b.block g (lt_of_heap h2) (hv g rfl)).trans h2, h3⟩
theorem TapeAt.foot {S : Nat → Prop} {w w' : World} {g h : Nat} {ws : List Nat} {t k : Nat} (x : TapeAt w g h ws t k) (b : Foot S w w') (hg : ¬ S g) (hh : ¬ S h) : TapeAt w' g h ws t k :=
  ⟨(b.block g (lt_of_heap x.box) hg).trans x.box, (b.block h (lt_of_heap x.row) hh).trans x.row, x.ne, x.fits, x.word, x.some, x.end_⟩
/- the map of places: keyed by a function and a word -/
theorem Tryd.laidOutQ : laidOutB Tryd.prog = true := by kernel_rfl
theorem Tryd.rowQ : (146 : TypeId) < Tryd.prog.types.size := of_decide_eq_true (by kernel_rfl)
theorem Tryd.wideQ : (match Tryd.prog.underlying 146 with | some (.array _ _) | some (.struct _) => true | _ => false) = true := by rw [Tryd.underlying146]
set_option maxRecDepth 100000 in
theorem lawQ : Maps.Keyed Tryd.prog 146 := Maps.Keyed.of_law (deep_law_laid Tryd.laidOutQ (m := 3) (by omega) Tryd.rowQ (by kernel_rfl) Tryd.wideQ)
theorem zeroP (w : World) : (zeroValue 3).run Tryd.prog w = .ok (.int .i64 0) w := by kernel_rfl
theorem Tryd.cellsQ : Tryd.prog.cellsOf 146 = 2 := by kernel_rfl
theorem Tryd.cellsF : Tryd.prog.cellsOf 110 = 1 := by kernel_rfl
theorem Tryd.cellsU : Tryd.prog.cellsOf 22 = 1 := by kernel_rfl
theorem Tryd.keyTypeQ : Tryd.prog.keyType 146 = true := by kernel_rfl
theorem Tryd.manyT : Tryd.prog.types.size = 175 := by kernel_rfl
def keyV (f : Int) (i : Nat) : Value := .agg #[.int .i64 f, .int .u64 (i : Int)]
theorem key_lits (d : Nat) (f : Int) (i : Nat) (w0 : (Lit.int .i64 f).wf = true) (w1 : (Lit.int .u64 (i : Int)).wf = true) : Tryd.prog.keyLits (d + 2) 146 [.int .i64 f, .int .u64 (i : Int)] = some [.int .i64 f, .int .u64 (i : Int)] := by
  simp [Program.keyLits, Tryd.underlying146, Tryd.underlying110, Tryd.underlying22, Tryd.cellsQ, Tryd.cellsF, Tryd.cellsU, w0, w1]
theorem key_is (f : Int) (i : Nat) (h0 : -9223372036854775808 ≤ f ∧ f ≤ 9223372036854775807) (h1 : i ≤ 281474976710655) : ∃ l, keyOf Tryd.prog 146 (keyV f i) = some l := by
  have w0 := WalkArith.wf_i64 h0
  have w1 := WalkArith.wf_u64 (n := (i : Int)) ⟨by omega, by omega⟩
  have hf : (keyV f i).formed Tryd.prog 146 = true := by simp [keyV, Value.formed, Tryd.underlying146, Tryd.cellsQ]
  refine ⟨.string (keyBytes [.int .i64 f, .int .u64 (i : Int)]), ?_⟩
  unfold keyOf
  simp only [Tryd.underlying146, Tryd.keyTypeQ, hf, Bool.and_self, if_true, Tryd.manyT]
  have e : (keyV f i).cells.toList = [.int .i64 f, .int .u64 (i : Int)] := rfl
  rw [e, show 175 + 1 = (175 - 1) + 2 from rfl, key_lits _ f i w0 w1]; rfl
theorem key_ne {f f' : Int} {i i' : Nat} {l l' : Lit} (h : keyOf Tryd.prog 146 (keyV f i) = some l) (h' : keyOf Tryd.prog 146 (keyV f' i') = some l') (hne : ¬ (f' = f ∧ i' = i)) : l' ≠ l := by
  intro e
  subst e
  have := lawQ.inj h h'
  simp only [keyV, Value.agg.injEq, Array.mk.injEq, List.cons.injEq, Value.int.injEq, true_and, and_true] at this
  exact hne ⟨this.1.symm, by omega⟩
def PlacesAt (w : World) (m : Nat) (es : List Ent) : Prop :=
  ∃ (D : DataW Unit) (n : Nat), w.ownsMap Tryd.prog 146 (plainElem Tryd.prog 3) m n D ∧ n ≤ es.length ∧
    ∀ f i l, keyOf Tryd.prog 146 (keyV f i) = some l → Maps.has D l = (findE es f i).isSome ∧ ∀ j, findE es f i = some j → D.atKey l (.lit (.int .i64 0)) = .lit (.int .i64 (j : Int))
theorem PlacesAt.lt {w : World} {m : Nat} {es : List Ent} (h : PlacesAt w m es) : m < w.heap.size := by obtain ⟨D, n, h, _⟩ := h; exact h.lt
theorem PlacesAt.isMap {w : World} {m : Nat} {es : List Ent} (h : PlacesAt w m es) : ∃ a c, w.heap[m]? = some (.map a c) := by obtain ⟨D, n, ⟨a, c, h, _⟩, _⟩ := h; exact ⟨a, c, h⟩
theorem PlacesAt.drewN {w : World} {m : Nat} {es : List Ent} (h : PlacesAt w m es) (q : Nat) : PlacesAt (w.drewN q) m es := h
theorem PlacesAt.block {w w' : World} {m : Nat} {es : List Ent} (h : PlacesAt w m es) (e : w'.heap[m]? = w.heap[m]?) : PlacesAt w' m es := by
  obtain ⟨D, n, ⟨a, c, h1, h2⟩, r⟩ := h
  exact ⟨D, n, ⟨a, c, e.trans h1, h2⟩, r⟩
theorem places_made (w : World) : PlacesAt (w.alloc (.map #[] 0)) w.heap.size [] := by
  refine ⟨.map [], 0, World.ownsMap_made _ _ _ _, Nat.le_refl _, fun f i l _ => ⟨rfl, fun j h => by cases h⟩⟩
theorem PlacesAt.look_some {w : World} {m : Nat} {es : List Ent} (h : PlacesAt w m es) {f : Int} {i j : Nat} (h0 : -9223372036854775808 ≤ f ∧ f ≤ 9223372036854775807) (h1 : i ≤ 281474976710655) (hj : findE es f i = some j) :
    (Instr.lookup 75 (.map (some m)) (.agg #[.int .i64 f, .int .u64 (i : Int)]) true).run Tryd.prog w = .ok (.tuple #[.int .i64 (j : Int), .bool true]) w := by
  obtain ⟨l, hl⟩ := key_is f i h0 h1
  obtain ⟨D, n, hown, _, hD⟩ := h
  obtain ⟨v, ps, hrun, hv⟩ := hown.look_ok lawQ Tryd.underlying75 (zeroP w) (plainElem_int (q := .i64) Tryd.underlying3 (by decide)) hl
  obtain ⟨c, rfl, hc, _⟩ := plainElem_int_inv (q := .i64) Tryd.underlying3 hv
  rw [(hD f i l hl).1, hj] at hrun
  rw [(hD f i l hl).2 j hj] at hc
  simp only [Prod.mk.injEq, DataW.lit.injEq, Lit.int.injEq, true_and] at hc
  rw [← hc.1] at hrun
  exact hrun
theorem PlacesAt.look_none {w : World} {m : Nat} {es : List Ent} (h : PlacesAt w m es) {f : Int} {i : Nat} (h0 : -9223372036854775808 ≤ f ∧ f ≤ 9223372036854775807) (h1 : i ≤ 281474976710655) (hj : findE es f i = none) :
    (Instr.lookup 75 (.map (some m)) (.agg #[.int .i64 f, .int .u64 (i : Int)]) true).run Tryd.prog w = .ok (.tuple #[.int .i64 0, .bool false]) w := by
  obtain ⟨l, hl⟩ := key_is f i h0 h1
  obtain ⟨D, n, hown, _, hD⟩ := h
  obtain ⟨v, ps, hrun, hv⟩ := hown.look_ok lawQ Tryd.underlying75 (zeroP w) (plainElem_int (q := .i64) Tryd.underlying3 (by decide)) hl
  obtain ⟨c, rfl, hc, _⟩ := plainElem_int_inv (q := .i64) Tryd.underlying3 hv
  have hh := (hD f i l hl).1
  rw [hj] at hh
  rw [hh] at hrun
  rw [Maps.atKey_of_not_has hh] at hc
  simp only [Prod.mk.injEq, DataW.lit.injEq, Lit.int.injEq, true_and] at hc
  rw [← hc.1] at hrun
  exact hrun
theorem PlacesAt.store {w : World} {m : Nat} {es : List Ent} (h : PlacesAt w m es) {f : Int} {i o : Nat} (h0 : -9223372036854775808 ≤ f ∧ f ≤ 9223372036854775807) (h1 : i ≤ 281474976710655) (hj : findE es f i = none) (hs : es.length ≤ 140737488355328) :
    ∃ w', (Instr.mapUpdate 75 (.map (some m)) (.agg #[.int .i64 f, .int .u64 (i : Int)]) (.int .i64 (es.length : Int))).run Tryd.prog w = .ok () w' ∧ PlacesAt w' m (es ++ [⟨f, i, o⟩]) ∧ w.grownBy w' (some m) := by
  obtain ⟨l, hl⟩ := key_is f i h0 h1
  obtain ⟨D, n, hown, hn, hD⟩ := h
  obtain ⟨w', hrun, hown', hg⟩ := hown.update lawQ Tryd.underlying75 (by unfold maxLen; omega) hl (plainElem_int (q := .i64) Tryd.underlying3 (WalkArith.wf_i64 (n := (es.length : Int)) ⟨by omega, by omega⟩))
  refine ⟨w', hrun, ⟨_, _, hown', by simp; omega, fun f' i' l' hl' => ?_⟩, hg⟩
  rw [findE_snoc]
  by_cases e : f' = f ∧ i' = i
  · obtain ⟨rfl, rfl⟩ := e
    obtain rfl : l' = l := by rw [hl] at hl'; exact (Option.some.inj hl').symm
    rw [hj, Maps.has_put_same hown.isMap (lawQ.key hl)]
    refine ⟨by simp, fun j hj' => ?_⟩
    simp at hj'
    rw [Maps.atKey_put_same hown.isMap (lawQ.key hl), hj']
  · have hne := key_ne hl hl' e
    rw [Maps.has_put_other hne, Maps.atKey_put_other hne, if_neg (fun x => e ⟨x.1.symm, x.2.symm⟩), Option.or_none]
    exact hD f' i' l' hl'
/- an oracle: its three cells, the row of its answers, its map -/
structure Orc (w : World) (B g m : Nat) (tp v : Value) (es : List Ent) : Prop where
  box : w.heap[g]? = some (.cells #[tp, v, .map (some m)] 78 (0, 0))
  row : w.ownsRow B 129 3 v es.length (cellsE es)
  map : PlacesAt w m es
  ok : ∀ x ∈ es, x.ok
  dist : Dist es
  bg : B ≤ g
  bm : B ≤ m
theorem Orc.c0 {w : World} {B g m : Nat} {tp v : Value} {es : List Ent} (x : Orc w B g m tp v es) : w.cell? ⟨g, 0, none⟩ = some tp := by
  rw [cell_of_row w g 0 _ _ _ x.box]; rfl
theorem Orc.c1 {w : World} {B g m : Nat} {tp v : Value} {es : List Ent} (x : Orc w B g m tp v es) : w.cell? ⟨g, 1, none⟩ = some v := by
  rw [cell_of_row w g 1 _ _ _ x.box]; rfl
theorem Orc.c2 {w : World} {B g m : Nat} {tp v : Value} {es : List Ent} (x : Orc w B g m tp v es) : w.cell? ⟨g, 2, none⟩ = some (.map (some m)) := by
  rw [cell_of_row w g 2 _ _ _ x.box]; rfl
theorem Orc.z1 {w : World} {B g m : Nat} {tp v : Value} {es : List Ent} (x : Orc w B g m tp v es) : w.frozen? ⟨g, 1, none⟩ = false := frozen_of_row w g 1 _ _ x.box
theorem Orc.drewN {w : World} {B g m : Nat} {tp v : Value} {es : List Ent} (x : Orc w B g m tp v es) (q : Nat) : Orc (w.drewN q) B g m tp v es := ⟨x.box, x.row, x.map, x.ok, x.dist, x.bg, x.bm⟩
theorem owns_block {w : World} {base : Nat} {e : TypeId} {size : Nat} {v : Value} {n : Nat} {xs : List Value} (h : w.ownsRow base e size v n xs) {r : Nat} (hr : v.ownBlock = some r) : ∃ cur, w.heap[r]? = some (.cells cur e (0, 0)) ∧ base ≤ r := by
  rcases h.2 with ⟨rfl, _⟩ | ⟨g, cap, cur, rfl, h1, h2, h3⟩
  · cases hr
  · obtain rfl : g = r := by simpa [Value.ownBlock] using hr
    exact ⟨cur, h2, h1⟩
theorem Orc.gm {w : World} {B g m : Nat} {tp v : Value} {es : List Ent} (x : Orc w B g m tp v es) : g ≠ m := by
  intro e
  obtain ⟨a, c, h⟩ := x.map.isMap
  rw [← e, x.box] at h; cases h
theorem Orc.gr {w : World} {B g m : Nat} {tp v : Value} {es : List Ent} (x : Orc w B g m tp v es) : v.ownBlock ≠ some g := by
  intro e
  obtain ⟨cur, h, _⟩ := owns_block x.row e
  rw [x.box] at h; cases h
theorem Orc.mr {w : World} {B g m : Nat} {tp v : Value} {es : List Ent} (x : Orc w B g m tp v es) : v.ownBlock ≠ some m := by
  intro e
  obtain ⟨cur, h, _⟩ := owns_block x.row e
  obtain ⟨a, c, h'⟩ := x.map.isMap
  rw [h'] at h; cases h
theorem Orc.foot {S : Nat → Prop} {w w' : World} {B g m : Nat} {tp v : Value} {es : List Ent} (x : Orc w B g m tp v es) (b : Foot S w w') (hg : ¬ S g) (hm : ¬ S m) (hr : ∀ r, v.ownBlock = some r → ¬ S r) : Orc w' B g m tp v es :=
  ⟨(b.block g (lt_of_heap x.box) hg).trans x.box, owns_foot x.row b hr, x.map.block (b.block m x.map.lt hm), x.ok, x.dist, x.bg, x.bm⟩
theorem Orc.form {w : World} {B g m : Nat} {tp v : Value} {es : List Ent} (x : Orc w B g m tp v es) {j : Nat} (hj : j < es.length) : ∃ r cap, v = .slice (some ⟨r, 0, none⟩) es.length cap ∧ es.length ≤ cap ∧ cap ≤ maxLen ∧ w.cell? ⟨r, j * 3 + 2, none⟩ = some (.int .u64 ((es.getD j Ent.zero).o : Nat)) := by
  rcases x.row.2 with ⟨_, h⟩ | ⟨r, cap, cur, rfl, h1, h2, h3, h4, h5, h6⟩
  · omega
  · refine ⟨r, cap, rfl, h3, h4, ?_⟩
    have := x.row.cells (g := r) rfl (j * 3 + 2) (.int .u64 ((es.getD j Ent.zero).o : Nat)) (by rw [cellsE_get es j 2 hj (by omega)]; rfl)
    rw [add0] at this
    exact this
end Go.Proofs.YtgcmompldcnhlaaDoor
