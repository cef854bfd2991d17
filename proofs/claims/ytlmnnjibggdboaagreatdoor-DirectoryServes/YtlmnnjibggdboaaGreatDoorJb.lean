/-
  Plain facts on the answers of an oracle: where a question's answer stands, that no question stands twice, how many there can be.
  An oracle in memory: its cells, the row of its answers, the map of their places; and what stays of them when other memory turns.
  What the oracle's functions answer, as contracts; what became of the world.
  What enter does, as a contract: an answer behind all others, and its place.
  What Ask and Entries answer, as contracts; what became of the world.
  The statements' own first steps: the word of a question, the document's example, errors.Is of no error; questions in memory.
  What a question's answer is, and what is there behind it, as a function of what is there; the check of a secret; plain facts on them.
  What token's functions answer, as contracts; what became of the world.
  What token.Restrict and token.Port answer, as contracts; the statements' own first step.
  What came in gives to the walks: numbers; a capability's four numbers.
-/
import Derived.Test.YtlmnnjibggdboaaGreatDoorRows
import Derived.Test.YtlmnnjibggdboaaGreatDoorJa
import Derived.Maps.OwnSet
import Derived.DeepKeys4
import Derived.Deep.AppendLies
import Derived.Deep.RegionHeld3
import Derived.Deep.RegionHeldLaw
import Derived.Lib.LazyBuf
import Derived.Deep.RegionLaw
import Derived.Handy
import Derived.OpenShut
import Derived.Lib.SmallJoins
namespace Go.Proofs.YtlmnnjibggdboaaGreatDoor
section
structure Ent where
  f : Int
  i : Nat
  o : Nat
def Ent.zero : Ent := ⟨0, 0, 0⟩
def Ent.ok (x : Ent) : Prop := -9223372036854775808 ≤ x.f ∧ x.f ≤ 9223372036854775807 ∧ x.i ≤ 281474976710655 ∧ x.o ≤ 281474976710655
def Ent.cells (x : Ent) : List Value := [.int .i64 x.f, .int .u64 x.i, .int .u64 x.o]
theorem Ent.cells_len (x : Ent) : x.cells.length = 3 := rfl
def cellsE (xs : List Ent) : List Value := xs.flatMap Ent.cells
theorem cellsE_len (xs : List Ent) : (cellsE xs).length = xs.length * 3 := by
  induction xs with
  | nil => rfl
  | cons x r ih => simp only [cellsE, List.flatMap_cons, List.length_append, List.length_cons] at ih ⊢; rw [ih, Ent.cells_len]; omega
theorem cellsE_snoc (xs : List Ent) (x : Ent) : cellsE (xs ++ [x]) = cellsE xs ++ x.cells := by simp [cellsE]
theorem cellsE_one (xs : List Ent) : ∀ u ∈ cellsE xs, u.oneCell' = true := by
  intro u hu
  simp only [cellsE, List.mem_flatMap] at hu
  obtain ⟨x, _, hx⟩ := hu
  simp only [Ent.cells, List.mem_cons, List.not_mem_nil, or_false] at hx
  rcases hx with rfl | rfl | rfl <;> rfl
theorem ent_one (x : Ent) : ∀ u ∈ x.cells, u.oneCell' = true := by
  intro u hu
  simp only [Ent.cells, List.mem_cons, List.not_mem_nil, or_false] at hu
  rcases hu with rfl | rfl | rfl <;> rfl
theorem cellsE_get (xs : List Ent) (k f : Nat) (h : k < xs.length) (hf : f < 3) : (cellsE xs)[k * 3 + f]? = (xs.getD k Ent.zero).cells[f]? := by
  induction xs generalizing k with
  | nil => simp at h
  | cons x r ih =>
    simp only [cellsE, List.flatMap_cons] at ih ⊢
    cases k with
    | zero => rw [List.getElem?_append_left (by rw [Ent.cells_len]; omega)]; simp
    | succ k =>
      rw [List.getElem?_append_right (by rw [Ent.cells_len]; omega), Ent.cells_len, show (k + 1) * 3 + f - 3 = k * 3 + f from by omega, ih k (by simpa using h)]
      rfl
theorem takeE_snoc (xs : List Ent) (k : Nat) (h : k < xs.length) : xs.take (k + 1) = xs.take k ++ [xs.getD k Ent.zero] := by
  rw [List.take_add_one, List.getElem?_eq_getElem h, List.getD_eq_getElem?_getD, List.getElem?_eq_getElem h]; rfl
/- where the answer to a question stands -/
def isQ (f : Int) (i : Nat) (x : Ent) : Bool := decide (x.f = f ∧ x.i = i)
def findE (es : List Ent) (f : Int) (i : Nat) : Option Nat := es.findIdx? (isQ f i)
theorem findE_nil (f : Int) (i : Nat) : findE [] f i = none := rfl
theorem findE_snoc (es : List Ent) (x : Ent) (f : Int) (i : Nat) : findE (es ++ [x]) f i = (findE es f i).or (if x.f = f ∧ x.i = i then some es.length else none) := by
  unfold findE
  rw [List.findIdx?_append]
  by_cases h : x.f = f ∧ x.i = i <;> simp [isQ, h]
theorem findE_some {es : List Ent} {f : Int} {i j : Nat} (h : findE es f i = some j) : j < es.length ∧ (es.getD j Ent.zero).f = f ∧ (es.getD j Ent.zero).i = i := by
  obtain ⟨hlt, hp, _⟩ := List.findIdx?_eq_some_iff_getElem.1 h
  rw [List.getD_eq_getElem?_getD, List.getElem?_eq_getElem hlt]
  have := of_decide_eq_true hp
  exact ⟨hlt, this.1, this.2⟩
theorem findE_none {es : List Ent} {f : Int} {i : Nat} (h : findE es f i = none) (j : Nat) (hj : j < es.length) : ¬ ((es.getD j Ent.zero).f = f ∧ (es.getD j Ent.zero).i = i) := by
  have := List.findIdx?_eq_none_iff.1 h es[j] (List.getElem_mem hj)
  rw [List.getD_eq_getElem?_getD, List.getElem?_eq_getElem hj]
  exact of_decide_eq_false this
/- no question stands twice -/
def Dist (es : List Ent) : Prop := ∀ a b, a < es.length → b < es.length → (es.getD a Ent.zero).f = (es.getD b Ent.zero).f → (es.getD a Ent.zero).i = (es.getD b Ent.zero).i → a = b
theorem dist_nil : Dist [] := fun a b h => by simp at h
theorem getD_snoc_lt (es : List Ent) (x : Ent) (j : Nat) (h : j < es.length) : (es ++ [x]).getD j Ent.zero = es.getD j Ent.zero := by
  rw [List.getD_eq_getElem?_getD, List.getD_eq_getElem?_getD, List.getElem?_append_left h]
theorem getD_snoc_end (es : List Ent) (x : Ent) : (es ++ [x]).getD es.length Ent.zero = x := by
  rw [List.getD_eq_getElem?_getD, List.getElem?_append_right (Nat.le_refl _)]; simp
theorem Dist.snoc {es : List Ent} (h : Dist es) {x : Ent} (hn : findE es x.f x.i = none) : Dist (es ++ [x]) := by
  intro a b ha hb h1 h2
  simp only [List.length_append, List.length_cons, List.length_nil] at ha hb
  rcases Nat.lt_or_ge a es.length with ha' | ha'
  · rcases Nat.lt_or_ge b es.length with hb' | hb'
    · rw [getD_snoc_lt _ _ _ ha', getD_snoc_lt _ _ _ hb'] at h1 h2; exact h a b ha' hb' h1 h2
    · obtain rfl : b = es.length := by omega
      rw [getD_snoc_lt _ _ _ ha', getD_snoc_end] at h1 h2
      exact absurd ⟨h1, h2⟩ (findE_none hn a ha')
  · obtain rfl : a = es.length := by omega
    rcases Nat.lt_or_ge b es.length with hb' | hb'
    · rw [getD_snoc_lt _ _ _ hb', getD_snoc_end] at h1 h2
      exact absurd ⟨h1.symm, h2.symm⟩ (findE_none hn b hb')
    · omega
theorem Dist.find {es : List Ent} (h : Dist es) {j : Nat} (hj : j < es.length) {f : Int} {i : Nat} (h1 : (es.getD j Ent.zero).f = f) (h2 : (es.getD j Ent.zero).i = i) : findE es f i = some j := by
  cases e : findE es f i with
  | none => exact absurd ⟨h1, h2⟩ (findE_none e j hj)
  | some a =>
    obtain ⟨b1, b2, b3⟩ := findE_some e
    rw [h a j b1 hj (by rw [b2, h1]) (by rw [b3, h2])]
/- of few questions there are few answers -/
theorem pigeon : ∀ (n : Nat) (l : List Nat), l.Nodup → (∀ x ∈ l, x < n) → l.length ≤ n
  | 0, l, _, h => by
    cases l with
    | nil => simp
    | cons x r => exact absurd (h x (by simp)) (by omega)
  | n + 1, l, hn, h => by
    have := pigeon n (l.erase n) (hn.erase n) (fun x hx => by
      have h1 := h x (List.mem_of_mem_erase hx)
      have h2 : x ≠ n := fun e => by subst e; exact (List.Nodup.not_mem_erase hn) hx
      omega)
    rw [List.length_erase] at this
    split at this <;> omega
def Few (es : List Ent) : Prop := ∀ x ∈ es, (x.f = 0 ∨ x.f = 1) ∧ x.i % 3 = 0 ∧ x.i ≤ 12
theorem few_nil : Few [] := fun x hx => by cases hx
theorem Few.snoc {es : List Ent} (h : Few es) {x : Ent} (hx : (x.f = 0 ∨ x.f = 1) ∧ x.i % 3 = 0 ∧ x.i ≤ 12) : Few (es ++ [x]) := by
  intro y hy
  rcases List.mem_append.1 hy with hy | hy
  · exact h y hy
  · rw [List.mem_singleton.1 hy]; exact hx
theorem Few.le {es : List Ent} (h : Few es) (hd : Dist es) : es.length ≤ 10 := by
  have hl : (es.map fun x => x.f.toNat * 5 + x.i / 3).length ≤ 10 := by
    refine pigeon 10 _ ?_ ?_
    · unfold List.Nodup
      rw [List.pairwise_map, List.pairwise_iff_getElem]
      intro a b ha' hb' hab e
      have h1 := h es[a] (List.getElem_mem ha')
      have h2 := h es[b] (List.getElem_mem hb')
      have := hd a b ha' hb' (by rw [List.getD_eq_getElem?_getD, List.getD_eq_getElem?_getD, List.getElem?_eq_getElem ha', List.getElem?_eq_getElem hb']; simp only [Option.getD_some]; omega)
        (by rw [List.getD_eq_getElem?_getD, List.getD_eq_getElem?_getD, List.getElem?_eq_getElem ha', List.getElem?_eq_getElem hb']; simp only [Option.getD_some]; omega)
      omega
    · intro x hx
      obtain ⟨y, hy, rfl⟩ := List.mem_map.1 hx
      have := h y hy
      omega
  simpa using hl
theorem okAt {es : List Ent} (h : ∀ x ∈ es, x.ok) (j : Nat) (hj : j < es.length) : (es.getD j Ent.zero).ok := by
  rw [List.getD_eq_getElem?_getD, List.getElem?_eq_getElem hj]; exact h _ (List.getElem_mem hj)
end
end Go.Proofs.YtlmnnjibggdboaaGreatDoor
namespace Go.Proofs.YtlmnnjibggdboaaGreatDoor
section
open Go.RowKit
/- blocks outside S are as they were -/
structure Foot (S : Nat → Prop) (w w' : World) : Prop where
  os : w'.os = w.os
  tape : w'.tape = w.tape
  output : w'.output = w.output
  size : w.heap.size ≤ w'.heap.size
  block : ∀ k, k < w.heap.size → ¬ S k → w'.heap[k]? = w.heap[k]?
theorem Foot.refl (S : Nat → Prop) (w : World) : Foot S w w := ⟨rfl, rfl, rfl, Nat.le_refl _, fun _ _ _ => rfl⟩
theorem Foot.mono {S S' : Nat → Prop} {w w' : World} (h : Foot S w w') (hS : ∀ k, S k → S' k) : Foot S' w w' := ⟨h.os, h.tape, h.output, h.size, fun k hk hn => h.block k hk fun x => hn (hS k x)⟩
theorem Foot.trans {S S' : Nat → Prop} {a b c : World} (h : Foot S a b) (k : Foot S' b c) (hS : ∀ j, S' j → S j ∨ a.heap.size ≤ j) : Foot S a c :=
  ⟨k.os.trans h.os, k.tape.trans h.tape, k.output.trans h.output, Nat.le_trans h.size k.size, fun i hi hn => (k.block i (Nat.lt_of_lt_of_le hi h.size) fun x => by
    rcases hS i x with x | x
    · exact hn x
    · omega).trans (h.block i hi hn)⟩
theorem Foot.drewN {S : Nat → Prop} {a w : World} (h : Foot S a w) (q : Nat) : Foot S a (w.drewN q) := ⟨h.os, h.tape, h.output, h.size, h.block⟩
theorem foot_drewN (S : Nat → Prop) (w : World) (q : Nat) : Foot S w (w.drewN q) := (Foot.refl S w).drewN q
theorem foot_grown {w w' : World} {row : Option Nat} (h : w.grownBy w' row) : Foot (fun k => row = some k) w w' := ⟨h.os, h.tape, h.output, h.size, fun k hk hn => h.block k hk fun e => hn e.symm⟩
theorem foot_alloc (S : Nat → Prop) (w : World) (o : Obj) : Foot S w (w.alloc o) := ⟨rfl, rfl, rfl, (below_alloc w o).size, fun k hk _ => Below.heap_alloc w o k hk⟩
theorem foot_set (w : World) (p : Addr) (v : Value) : Foot (fun k => k = p.block) w (w.setCell p v) := ⟨rfl, rfl, rfl, by simp [World.setCell], fun k _ hn => heap_setCell_other _ _ _ _ hn⟩
theorem Touch.foot {g : Nat} {w w' : World} (h : Touch g w w') : Foot (fun k => k = g) w w' := ⟨h.os, h.tape, h.output, Nat.le_of_eq h.size.symm, fun k _ hn => h.block k hn⟩
theorem Foot.below {S : Nat → Prop} {B : Nat} {w w' : World} (h : Foot S w w') (hB : B ≤ w.heap.size) (hS : ∀ k, S k → B ≤ k) : Below B w w' :=
  ⟨h.os, h.tape, h.output, h.size, fun k hk => h.block k (by omega) fun x => by have := hS k x; omega⟩
theorem below_foot {w w' : World} (S : Nat → Prop) (h : Below w.heap.size w w') : Foot S w w' := ⟨h.os, h.tape, h.output, h.size, fun k hk _ => h.block k hk⟩
theorem owns_foot {S : Nat → Prop} {w w' : World} {base : Nat} {e : TypeId} {size : Nat} {v : Value} {n : Nat} {xs : List Value} (h : w.ownsRow base e size v n xs) (b : Foot S w w') (hv : ∀ r, v.ownBlock = some r → ¬ S r) : w'.ownsRow base e size v n xs := by
  refine ⟨h.1, ?_⟩
  rcases h.2 with h | ⟨g, cap, cur, rfl, h1, h2, h3⟩
  · exact .inl h
  · exact .inr ⟨g, cap, cur, rfl, h1, (b.block g (lt_of_heap h2) (hv g rfl)).trans h2, h3⟩
theorem TapeAt.foot {S : Nat → Prop} {w w' : World} {g h : Nat} {ws : List Nat} {t k : Nat} (x : TapeAt w g h ws t k) (b : Foot S w w') (hg : ¬ S g) (hh : ¬ S h) : TapeAt w' g h ws t k :=
  ⟨(b.block g (lt_of_heap x.box) hg).trans x.box, (b.block h (lt_of_heap x.row) hh).trans x.row, x.ne, x.fits, x.word, x.some, x.end_⟩
/- the map of places: keyed by a function and a word -/
theorem Tryz.laidOutQ : laidOutB Tryz.prog = true := by kernel_rfl
theorem Tryz.rowQ : (182 : TypeId) < Tryz.prog.types.size := of_decide_eq_true (by kernel_rfl)
theorem Tryz.wideQ : (match Tryz.prog.underlying 182 with | some (.array _ _) | some (.struct _) => true | _ => false) = true := by rw [Tryz.underlying182]
set_option maxRecDepth 100000 in
theorem lawQ : Maps.Keyed Tryz.prog 182 := Maps.Keyed.of_law (deep_law_laid Tryz.laidOutQ (m := 3) (by omega) Tryz.rowQ (by kernel_rfl) Tryz.wideQ)
theorem zeroP (w : World) : (zeroValue 3).run Tryz.prog w = .ok (.int .i64 0) w := by kernel_rfl
theorem Tryz.cellsQ : Tryz.prog.cellsOf 182 = 2 := by kernel_rfl
theorem Tryz.cellsF : Tryz.prog.cellsOf 154 = 1 := by kernel_rfl
theorem Tryz.cellsU : Tryz.prog.cellsOf 32 = 1 := by kernel_rfl
theorem Tryz.keyTypeQ : Tryz.prog.keyType 182 = true := by kernel_rfl
theorem Tryz.manyT : Tryz.prog.types.size = 225 := by kernel_rfl
def keyV (f : Int) (i : Nat) : Value := .agg #[.int .i64 f, .int .u64 (i : Int)]
theorem key_lits (d : Nat) (f : Int) (i : Nat) (w0 : (Lit.int .i64 f).wf = true) (w1 : (Lit.int .u64 (i : Int)).wf = true) : Tryz.prog.keyLits (d + 2) 182 [.int .i64 f, .int .u64 (i : Int)] = some [.int .i64 f, .int .u64 (i : Int)] := by
  simp [Program.keyLits, Tryz.underlying182, Tryz.underlying154, Tryz.underlying32, Tryz.cellsQ, Tryz.cellsF, Tryz.cellsU, w0, w1]
theorem key_is (f : Int) (i : Nat) (h0 : -9223372036854775808 ≤ f ∧ f ≤ 9223372036854775807) (h1 : i ≤ 281474976710655) : ∃ l, keyOf Tryz.prog 182 (keyV f i) = some l := by
  have w0 := WalkArith.wf_i64 h0
  have w1 := WalkArith.wf_u64 (n := (i : Int)) ⟨by omega, by omega⟩
  have hf : (keyV f i).formed Tryz.prog 182 = true := by simp [keyV, Value.formed, Tryz.underlying182, Tryz.cellsQ]
  refine ⟨.string (keyBytes [.int .i64 f, .int .u64 (i : Int)]), ?_⟩
  unfold keyOf
  simp only [Tryz.underlying182, Tryz.keyTypeQ, hf, Bool.and_self, if_true, Tryz.manyT]
  have e : (keyV f i).cells.toList = [.int .i64 f, .int .u64 (i : Int)] := rfl
  rw [e, show 225 + 1 = (225 - 1) + 2 from rfl, key_lits _ f i w0 w1]; rfl
theorem key_ne {f f' : Int} {i i' : Nat} {l l' : Lit} (h : keyOf Tryz.prog 182 (keyV f i) = some l) (h' : keyOf Tryz.prog 182 (keyV f' i') = some l') (hne : ¬ (f' = f ∧ i' = i)) : l' ≠ l := by
  intro e
  subst e
  have := lawQ.inj h h'
  simp only [keyV, Value.agg.injEq, Array.mk.injEq, List.cons.injEq, Value.int.injEq, true_and, and_true] at this
  exact hne ⟨this.1.symm, by omega⟩
def PlacesAt (w : World) (m : Nat) (es : List Ent) : Prop :=
  ∃ (D : DataW Unit) (n : Nat), w.ownsMap Tryz.prog 182 (plainElem Tryz.prog 3) m n D ∧ n ≤ es.length ∧
    ∀ f i l, keyOf Tryz.prog 182 (keyV f i) = some l → Maps.has D l = (findE es f i).isSome ∧ ∀ j, findE es f i = some j → D.atKey l (.lit (.int .i64 0)) = .lit (.int .i64 (j : Int))
theorem PlacesAt.lt {w : World} {m : Nat} {es : List Ent} (h : PlacesAt w m es) : m < w.heap.size := by obtain ⟨D, n, h, _⟩ := h; exact h.lt
theorem PlacesAt.isMap {w : World} {m : Nat} {es : List Ent} (h : PlacesAt w m es) : ∃ a c, w.heap[m]? = some (.map a c) := by obtain ⟨D, n, ⟨a, c, h, _⟩, _⟩ := h; exact ⟨a, c, h⟩
theorem PlacesAt.drewN {w : World} {m : Nat} {es : List Ent} (h : PlacesAt w m es) (q : Nat) : PlacesAt (w.drewN q) m es := h
theorem PlacesAt.block {w w' : World} {m : Nat} {es : List Ent} (h : PlacesAt w m es) (e : w'.heap[m]? = w.heap[m]?) : PlacesAt w' m es := by
  obtain ⟨D, n, ⟨a, c, h1, h2⟩, r⟩ := h
  exact ⟨D, n, ⟨a, c, e.trans h1, h2⟩, r⟩
theorem places_made (w : World) : PlacesAt (w.alloc (.map #[] 0)) w.heap.size [] := by
  refine ⟨.map [], 0, World.ownsMap_made _ _ _ _, Nat.le_refl _, fun f i l _ => ⟨rfl, fun j h => by cases h⟩⟩
theorem PlacesAt.look_some {w : World} {m : Nat} {es : List Ent} (h : PlacesAt w m es) {f : Int} {i j : Nat} (h0 : -9223372036854775808 ≤ f ∧ f ≤ 9223372036854775807) (h1 : i ≤ 281474976710655) (hj : findE es f i = some j) :
    (Instr.lookup 76 (.map (some m)) (.agg #[.int .i64 f, .int .u64 (i : Int)]) true).run Tryz.prog w = .ok (.tuple #[.int .i64 (j : Int), .bool true]) w := by
  obtain ⟨l, hl⟩ := key_is f i h0 h1
  obtain ⟨D, n, hown, _, hD⟩ := h
  obtain ⟨v, ps, hrun, hv⟩ := hown.look_ok lawQ Tryz.underlying76 (zeroP w) (plainElem_int (q := .i64) Tryz.underlying3 (by decide)) hl
  obtain ⟨c, rfl, hc, _⟩ := plainElem_int_inv (q := .i64) Tryz.underlying3 hv
  rw [(hD f i l hl).1, hj] at hrun
  rw [(hD f i l hl).2 j hj] at hc
  simp only [Prod.mk.injEq, DataW.lit.injEq, Lit.int.injEq, true_and] at hc
  rw [← hc.1] at hrun
  exact hrun
theorem PlacesAt.look_none {w : World} {m : Nat} {es : List Ent} (h : PlacesAt w m es) {f : Int} {i : Nat} (h0 : -9223372036854775808 ≤ f ∧ f ≤ 9223372036854775807) (h1 : i ≤ 281474976710655) (hj : findE es f i = none) :
    (Instr.lookup 76 (.map (some m)) (.agg #[.int .i64 f, .int .u64 (i : Int)]) true).run Tryz.prog w = .ok (.tuple #[.int .i64 0, .bool false]) w := by
  obtain ⟨l, hl⟩ := key_is f i h0 h1
  obtain ⟨D, n, hown, _, hD⟩ := h
  obtain ⟨v, ps, hrun, hv⟩ := hown.look_ok lawQ Tryz.underlying76 (zeroP w) (plainElem_int (q := .i64) Tryz.underlying3 (by decide)) hl
  obtain ⟨c, rfl, hc, _⟩ := plainElem_int_inv (q := .i64) Tryz.underlying3 hv
  have hh := (hD f i l hl).1
  rw [hj] at hh
  rw [hh] at hrun
  rw [Maps.atKey_of_not_has hh] at hc
  simp only [Prod.mk.injEq, DataW.lit.injEq, Lit.int.injEq, true_and] at hc
  rw [← hc.1] at hrun
  exact hrun
theorem PlacesAt.store {w : World} {m : Nat} {es : List Ent} (h : PlacesAt w m es) {f : Int} {i o : Nat} (h0 : -9223372036854775808 ≤ f ∧ f ≤ 9223372036854775807) (h1 : i ≤ 281474976710655) (hj : findE es f i = none) (hs : es.length ≤ 140737488355328) :
    ∃ w', (Instr.mapUpdate 76 (.map (some m)) (.agg #[.int .i64 f, .int .u64 (i : Int)]) (.int .i64 (es.length : Int))).run Tryz.prog w = .ok () w' ∧ PlacesAt w' m (es ++ [⟨f, i, o⟩]) ∧ w.grownBy w' (some m) := by
  obtain ⟨l, hl⟩ := key_is f i h0 h1
  obtain ⟨D, n, hown, hn, hD⟩ := h
  obtain ⟨w', hrun, hown', hg⟩ := hown.update lawQ Tryz.underlying76 (by unfold maxLen; omega) hl (plainElem_int (q := .i64) Tryz.underlying3 (WalkArith.wf_i64 (n := (es.length : Int)) ⟨by omega, by omega⟩))
  refine ⟨w', hrun, ⟨_, _, hown', by simp; omega, fun f' i' l' hl' => ?_⟩, hg⟩
  rw [findE_snoc]
  by_cases e : f' = f ∧ i' = i
  · obtain ⟨rfl, rfl⟩ := e
    obtain rfl : l' = l := by rw [hl] at hl'; exact (Option.some.inj hl').symm
    rw [hj, Maps.has_put_same hown.isMap (lawQ.key hl)]
    refine ⟨by simp, fun j hj' => ?_⟩
    simp at hj'
    rw [Maps.atKey_put_same hown.isMap (lawQ.key hl), hj']
  · have hne := key_ne hl hl' e
    rw [Maps.has_put_other hne, Maps.atKey_put_other hne, if_neg (fun x => e ⟨x.1.symm, x.2.symm⟩), Option.or_none]
    exact hD f' i' l' hl'
/- an oracle: its three cells, the row of its answers, its map -/
structure Orc (w : World) (B g m : Nat) (tp v : Value) (es : List Ent) : Prop where
  box : w.heap[g]? = some (.cells #[tp, v, .map (some m)] 79 (0, 0))
  row : w.ownsRow B 179 3 v es.length (cellsE es)
  map : PlacesAt w m es
  ok : ∀ x ∈ es, x.ok
  dist : Dist es
  bg : B ≤ g
  bm : B ≤ m
theorem Orc.c0 {w : World} {B g m : Nat} {tp v : Value} {es : List Ent} (x : Orc w B g m tp v es) : w.cell? ⟨g, 0, none⟩ = some tp := by
  rw [cell_of_row w g 0 _ _ _ x.box]; rfl
theorem Orc.c1 {w : World} {B g m : Nat} {tp v : Value} {es : List Ent} (x : Orc w B g m tp v es) : w.cell? ⟨g, 1, none⟩ = some v := by
  rw [cell_of_row w g 1 _ _ _ x.box]; rfl
theorem Orc.c2 {w : World} {B g m : Nat} {tp v : Value} {es : List Ent} (x : Orc w B g m tp v es) : w.cell? ⟨g, 2, none⟩ = some (.map (some m)) := by
  rw [cell_of_row w g 2 _ _ _ x.box]; rfl
theorem Orc.z1 {w : World} {B g m : Nat} {tp v : Value} {es : List Ent} (x : Orc w B g m tp v es) : w.frozen? ⟨g, 1, none⟩ = false := frozen_of_row w g 1 _ _ x.box
theorem Orc.drewN {w : World} {B g m : Nat} {tp v : Value} {es : List Ent} (x : Orc w B g m tp v es) (q : Nat) : Orc (w.drewN q) B g m tp v es := ⟨x.box, x.row, x.map, x.ok, x.dist, x.bg, x.bm⟩
theorem owns_block {w : World} {base : Nat} {e : TypeId} {size : Nat} {v : Value} {n : Nat} {xs : List Value} (h : w.ownsRow base e size v n xs) {r : Nat} (hr : v.ownBlock = some r) : ∃ cur, w.heap[r]? = some (.cells cur e (0, 0)) ∧ base ≤ r := by
  rcases h.2 with ⟨rfl, _⟩ | ⟨g, cap, cur, rfl, h1, h2, h3⟩
  · cases hr
  · obtain rfl : g = r := by simpa [Value.ownBlock] using hr
    exact ⟨cur, h2, h1⟩
theorem Orc.gm {w : World} {B g m : Nat} {tp v : Value} {es : List Ent} (x : Orc w B g m tp v es) : g ≠ m := by
  intro e
  obtain ⟨a, c, h⟩ := x.map.isMap
  rw [← e, x.box] at h; cases h
theorem Orc.gr {w : World} {B g m : Nat} {tp v : Value} {es : List Ent} (x : Orc w B g m tp v es) : v.ownBlock ≠ some g := by
  intro e
  obtain ⟨cur, h, _⟩ := owns_block x.row e
  rw [x.box] at h; cases h
theorem Orc.mr {w : World} {B g m : Nat} {tp v : Value} {es : List Ent} (x : Orc w B g m tp v es) : v.ownBlock ≠ some m := by
  intro e
  obtain ⟨cur, h, _⟩ := owns_block x.row e
  obtain ⟨a, c, h'⟩ := x.map.isMap
  rw [h'] at h; cases h
theorem Orc.foot {S : Nat → Prop} {w w' : World} {B g m : Nat} {tp v : Value} {es : List Ent} (x : Orc w B g m tp v es) (b : Foot S w w') (hg : ¬ S g) (hm : ¬ S m) (hr : ∀ r, v.ownBlock = some r → ¬ S r) : Orc w' B g m tp v es :=
  ⟨(b.block g (lt_of_heap x.box) hg).trans x.box, owns_foot x.row b hr, x.map.block (b.block m x.map.lt hm), x.ok, x.dist, x.bg, x.bm⟩
theorem Orc.form {w : World} {B g m : Nat} {tp v : Value} {es : List Ent} (x : Orc w B g m tp v es) {j : Nat} (hj : j < es.length) : ∃ r cap, v = .slice (some ⟨r, 0, none⟩) es.length cap ∧ es.length ≤ cap ∧ cap ≤ maxLen ∧ w.cell? ⟨r, j * 3 + 2, none⟩ = some (.int .u64 ((es.getD j Ent.zero).o : Nat)) := by
  rcases x.row.2 with ⟨_, h⟩ | ⟨r, cap, cur, rfl, h1, h2, h3, h4, h5, h6⟩
  · omega
  · refine ⟨r, cap, rfl, h3, h4, ?_⟩
    have := x.row.cells (g := r) rfl (j * 3 + 2) (.int .u64 ((es.getD j Ent.zero).o : Nat)) (by rw [cellsE_get es j 2 hj (by omega)]; rfl)
    rw [add0] at this
    exact this
end
end Go.Proofs.YtlmnnjibggdboaaGreatDoor
namespace Go.Proofs.YtlmnnjibggdboaaGreatDoor
section
open Go.RowKit
set_option maxHeartbeats 400000 in
theorem oof_any (tp : Value) (ht : ∃ ao, tp = .pointer ao) (w : World) :
    Calls Tryz.prog 9 #[tp] w fun e w' => ∃ g m : Nat, e = .returned (.pointer (some ⟨g, 0, none⟩)) ∧ Orc w' w.heap.size g m tp (.slice none 0 0) [] ∧ Below w.heap.size w w' := by
  obtain ⟨ao, rfl⟩ := ht
  have hmm := @run_makeMap Tryz.prog
  go_enter Tryz.func9, Tryz.ntmps9
  go_wp2
  go_ret
  refine ⟨w.heap.size + 1, w.heap.size, rfl, ⟨?_, World.ownsRow_nil _ _ _ _, ?_, fun x hx => (by cases hx), dist_nil, by omega, Nat.le_refl _⟩, ?_⟩
  · have := heap_alloc_new (w.alloc (.map #[] 0)) (.cells #[.pointer ao, .slice none 0 0, .map (some w.heap.size)] 79)
    simpa using this
  · exact (places_made w).block (Below.heap_alloc _ _ _ (places_made w).lt)
  · exact (below_alloc w _).alloc (below_alloc w _).size _
set_option maxHeartbeats 400000 in
theorem odraw_none (g m B : Nat) (v : Value) (es : List Ent) (w : World) (O : Orc w B g m (.pointer none) v es) :
    Calls Tryz.prog 31 #[.pointer (some ⟨g, 0, none⟩)] w fun e w' => e = .returned (.tuple #[.int .u64 0, .iface 47 (.int .i64 7)]) ∧ w' = w := by
  have c0 := O.c0
  clear O
  go_enter Tryz.func31, Tryz.ntmps31
  go_wp2
  go_ret2
  exact ⟨rfl, rfl⟩
set_option maxHeartbeats 400000 in
theorem odraw_end (g m B a h k : Nat) (v : Value) (es : List Ent) (ws : List Nat) (w : World) (O : Orc w B g m (.pointer (some ⟨a, 0, none⟩)) v es) (T : TapeAt w a h ws ws.length k) :
    Calls Tryz.prog 31 #[.pointer (some ⟨g, 0, none⟩)] w fun e w' => e = .returned (.tuple #[.int .u64 0, .iface 47 (.int .i64 7)]) ∧ ∃ q, w' = w.drewN q := by
  have c0 := O.c0
  have HT := hide T
  clear O T
  go_enter Tryz.func31, Tryz.ntmps31
  go_wp2_with fail
  refine (draw_no a h ws k _ HT.out).mono ?_; rintro e w1 ⟨rfl, q, rfl⟩
  go_wp2
  go_ret2
  exact ⟨rfl, _, rfl⟩
set_option maxHeartbeats 400000 in
theorem odraw_yes (g m B a h t k x : Nat) (v : Value) (es : List Ent) (ws : List Nat) (w : World) (O : Orc w B g m (.pointer (some ⟨a, 0, none⟩)) v es) (T : TapeAt w a h ws t k) (ht : t < ws.length) (hx : ws.getD t 0 = x) :
    Calls Tryz.prog 31 #[.pointer (some ⟨g, 0, none⟩)] w fun e w' => e = .returned (.tuple #[.int .u64 (x : Nat), .nilIface]) ∧ TapeAt w' a h ws (t + 1) k ∧ Touch a w w' := by
  have c0 := O.c0
  have HT := hide T
  have H1 := hide ht
  have H2 := hide hx
  clear O T ht hx
  go_enter Tryz.func31, Tryz.ntmps31
  go_wp2_with fail
  refine (draw_at a h ws t k x _ HT.out H1.out H2.out).mono ?_; rintro e w1 ⟨rfl, T1, t1⟩
  have HT1 := hide T1
  have HX := hide t1
  clear T1 t1
  go_wp2
  go_ret2
  exact ⟨rfl, HT1.out, HX.out⟩
set_option maxHeartbeats 800000 in
theorem known_no (g m B : Nat) (tp v : Value) (es : List Ent) (f : Int) (i : Nat) (w : World) (O : Orc w B g m tp v es) (hf : -9223372036854775808 ≤ f ∧ f ≤ 9223372036854775807) (hi : i ≤ 18446744073709551615) (hn : findE es f (i % 281474976710656) = none) :
    Calls Tryz.prog 80 #[.pointer (some ⟨g, 0, none⟩), .int .i64 f, .int .u64 (i : Int)] w fun e w' => e = .returned (.tuple #[.int .u64 0, .bool false]) ∧ ∃ q, w' = w.drewN q := by
  have c2 := fun q => (O.drewN q).c2
  have lk := fun q => (O.drewN q).map.look_none hf (show i % 281474976710656 ≤ 281474976710655 by omega) hn
  rw [← cutF_nat] at lk
  clear O hn
  go_enter Tryz.func80, Tryz.ntmps80
  go_wp2
  go_quiet ((go_at_call 25; exact Calls.quiet_of_same (cut_any _ _ (by omega) (by omega))))
  go_wp2
  go_ret2
  exact ⟨rfl, _, rfl⟩
set_option maxHeartbeats 800000 in
theorem known_yes (g m B j x : Nat) (tp v : Value) (es : List Ent) (f : Int) (i : Nat) (w : World) (O : Orc w B g m tp v es) (hf : -9223372036854775808 ≤ f ∧ f ≤ 9223372036854775807) (hi : i ≤ 18446744073709551615) (hn : findE es f (i % 281474976710656) = some j) (hx : (es.getD j Ent.zero).o = x) :
    Calls Tryz.prog 80 #[.pointer (some ⟨g, 0, none⟩), .int .i64 f, .int .u64 (i : Int)] w fun e w' => e = .returned (.tuple #[.int .u64 (x : Nat), .bool true]) ∧ ∃ q, w' = w.drewN q := by
  have c2 := fun q => (O.drewN q).c2
  have c1 := fun q => (O.drewN q).c1
  have lk := fun q => (O.drewN q).map.look_some hf (show i % 281474976710656 ≤ 281474976710655 by omega) hn
  rw [← cutF_nat] at lk
  have hj := (findE_some hn).1
  obtain ⟨r, cap, rfl, h1, h2, h3⟩ := O.form hj
  rw [hx] at h3
  have h4 : ∀ q, (w.drewN q).cell? ⟨r, j * 3 + 2, none⟩ = some (.int .u64 (x : Nat)) := fun q => h3
  have hl : es.length ≤ 9223372036854775807 := by unfold maxLen at h2; omega
  clear O hn hx h3 h2
  generalize es.length = n at *
  go_enter Tryz.func80, Tryz.ntmps80
  go_wp2
  go_quiet ((go_at_call 25; exact Calls.quiet_of_same (cut_any _ _ (by omega) (by omega))))
  go_wp2
  go_ret2
  exact ⟨rfl, _, rfl⟩
theorem Tryz.infoE : (Tryz.prog.info? 179).map (fun i => (i.zero, i.size, i.bytes)) = some (some (.agg #[.int .i64 0, .int .u64 0, .int .u64 0]), 3, 24) := by kernel_rfl
end
end Go.Proofs.YtlmnnjibggdboaaGreatDoor
namespace Go.Proofs.YtlmnnjibggdboaaGreatDoor
section
open Go.RowKit
theorem owns_slice {w : World} {base : Nat} {e : TypeId} {size : Nat} {v : Value} {n : Nat} {xs : List Value} (h : w.ownsRow base e size v n xs) : ∃ ao cap, v = .slice ao n cap := by
  rcases h.2 with ⟨rfl, rfl⟩ | ⟨g, cap, cur, rfl, _⟩
  · exact ⟨none, 0, rfl⟩
  · exact ⟨_, cap, rfl⟩
theorem enter_end (g m B : Nat) (tp v : Value) (es : List Ent) (f : Int) (i o : Nat) (w X A w2 : World) (gg cap n : Nat) (O : Orc w B g m tp v es) (hf : -9223372036854775808 ≤ f ∧ f ≤ 9223372036854775807) (hi : i ≤ 281474976710655) (ho : o ≤ 281474976710655)
    (hn : findE es f i = none) (hnn : es.length = n) (fX : Foot (fun k => k = m) w X) (bX : X.heap[g]? = some (.cells #[tp, v, .map (some m)] 79 (0, 0))) (pX : PlacesAt X m (es ++ [⟨f, i, o⟩]))
    (hA : X.alloc (.cells #[.int .i64 f, .int .u64 (i : Int), .int .u64 (o : Int)] 179) = A) (hb : w.heap.size < X.heap.size)
    (hown : w2.ownsRow B 179 3 (.slice (some ⟨gg, 0, none⟩) (n + 1) cap) (n + 1) (cellsE es ++ [.int .i64 f, .int .u64 (i : Int), .int .u64 (o : Int)])) (hgrow : A.drew.grownBy w2 v.ownBlock) (hat : v.ownBlock = some gg ∨ gg = X.heap.size + 1) :
    Orc (w2.setCell ⟨g, 1, none⟩ (.slice (some ⟨gg, 0, none⟩) (n + 1) cap)) B g m tp (.slice (some ⟨gg, 0, none⟩) (n + 1) cap) (es ++ [⟨f, i, o⟩]) ∧
      Foot (fun k => k = g ∨ k = m ∨ v.ownBlock = some k) w (w2.setCell ⟨g, 1, none⟩ (.slice (some ⟨gg, 0, none⟩) (n + 1) cap)) ∧ ∀ r, (Value.slice (some ⟨gg, 0, none⟩) (n + 1) cap).ownBlock = some r → v.ownBlock = some r ∨ w.heap.size ≤ r := by
  have lg : g < w.heap.size := lt_of_heap O.box
  have lm : m < w.heap.size := O.map.lt
  have fA : Foot (fun k => v.ownBlock = some k) X w2 := by
    refine (foot_alloc _ X (.cells #[.int .i64 f, .int .u64 (i : Int), .int .u64 (o : Int)] 179)).trans (S' := fun k => v.ownBlock = some k) ?_ (fun j e => .inl e)
    have := foot_grown hgrow
    rw [← hA] at this
    exact ⟨this.os, this.tape, this.output, this.size, this.block⟩
  have b2 : w2.heap[g]? = some (.cells #[tp, v, .map (some m)] 79 (0, 0)) := (fA.block g (by omega) O.gr).trans bX
  have p2 : PlacesAt w2 m (es ++ [⟨f, i, o⟩]) := pX.block (fA.block m (by omega) O.mr)
  have hgg : gg ≠ g := by
    intro e
    obtain ⟨cur, h, _⟩ := owns_block hown (r := gg) rfl
    rw [e, b2] at h; cases h
  refine ⟨⟨?_, ?_, ?_, ?_, O.dist.snoc hn, O.bg, O.bm⟩, ?_, ?_⟩
  · rw [heap_setCell_same w2 g 1 _ _ _ b2]; rfl
  · have h := owns_foot hown (foot_set w2 ⟨g, 1, none⟩ (.slice (some ⟨gg, 0, none⟩) (n + 1) cap)) (fun r hr e => hgg (by
      have : gg = r := by simpa [Value.ownBlock] using hr
      rw [this]; exact e))
    rw [cellsE_snoc, List.length_append, List.length_singleton, hnn]
    exact h
  · exact p2.block (heap_setCell_other _ _ _ _ (fun e => O.gm e.symm))
  · intro x hx
    rcases List.mem_append.1 hx with hx | hx
    · exact O.ok x hx
    · rw [List.mem_singleton.1 hx]; exact ⟨hf.1, hf.2, hi, ho⟩
  · refine ((fX.mono (S' := fun k => k = g ∨ k = m ∨ v.ownBlock = some k) (fun k e => .inr (.inl e))).trans fA (fun j e => .inl (.inr (.inr e)))).trans (foot_set _ _ _) (fun j e => .inl (.inl e))
  · intro r hr
    obtain rfl : gg = r := by simpa [Value.ownBlock] using hr
    rcases hat with h | h
    · exact .inl h
    · exact .inr (by omega)
set_option maxHeartbeats 1600000 in
set_option maxRecDepth 100000 in
theorem enter_any (g m B : Nat) (tp v : Value) (es : List Ent) (f : Int) (i o : Nat) (w : World) (O : Orc w B g m tp v es) (hf : -9223372036854775808 ≤ f ∧ f ≤ 9223372036854775807) (hi : i ≤ 281474976710655) (ho : o ≤ 281474976710655)
    (hn : findE es f i = none) (hs : (es.length + 1) * 24 ≤ 140737488355328) (hB : B ≤ w.heap.size) :
    Calls Tryz.prog 81 #[.pointer (some ⟨g, 0, none⟩), .agg #[.int .i64 f, .int .u64 (i : Int), .int .u64 (o : Int)]] w fun e w' => e = .returned (.tuple #[]) ∧
      ∃ v', Orc w' B g m tp v' (es ++ [⟨f, i, o⟩]) ∧ Foot (fun k => k = g ∨ k = m ∨ v.ownBlock = some k) w w' ∧ ∀ r, v'.ownBlock = some r → v.ownBlock = some r ∨ w.heap.size ≤ r := by
  have HO := hide O
  have lg := lt_of_heap O.box
  obtain ⟨W, hW⟩ : ∃ W, w.alloc (.cells #[.int .i64 f, .int .u64 (i : Int), .int .u64 (o : Int)] 179) = W := ⟨_, rfl⟩
  have b0 : ∀ q, (W.drewN q).cell? ⟨w.heap.size, 0, none⟩ = some (.int .i64 f) := fun q => by rw [← hW]; simp
  have b1 : ∀ q, (W.drewN q).cell? ⟨w.heap.size, 1, none⟩ = some (.int .u64 (i : Int)) := fun q => by rw [← hW]; simp
  have OW : Orc W B g m tp v es := by rw [← hW]; exact O.foot (S := fun _ => False) (foot_alloc _ w _) id id (fun _ _ => id)
  have c1 := fun q => (OW.drewN q).c1
  have c2 := fun q => (OW.drewN q).c2
  have hst := fun q => (OW.drewN q).map.store (o := o) hf hi hn (by omega)
  obtain ⟨W1, hW1⟩ := Classical.axiomOfChoice hst
  have hrun := fun q => (hW1 q).1
  obtain ⟨n, hnn⟩ : ∃ n, es.length = n := ⟨_, rfl⟩
  rw [hnn] at hrun
  obtain ⟨ao, cap, hv⟩ := owns_slice O.row
  rw [hnn] at hv
  have HV := hide hv
  rw [hv] at c1
  clear O OW hst hv
  have hr1 : (Instr.mapUpdate 76 (.map (some m)) (.agg #[.int .i64 f, .int .u64 (i : Int)]) (.int .i64 (n : Int))).run Tryz.prog W.drew = .ok () (W1 1) := hrun 1
  clear hrun
  have hl : (n : Int) ≤ 9223372036854775807 := by omega
  have HF := hide hf
  have HI := hide hi
  have HP := hide ho
  have HN := hide hn
  have HS := hide hs
  have HW1 := hide hW1
  have HNN := hide hnn
  clear hf hi ho hn hs hW1 hnn
  obtain ⟨X, hX⟩ : ∃ X, W1 1 = X := ⟨_, rfl⟩
  have hgX : W.grownBy X (some m) := by rw [← hX]; have z := (HW1.out 1).2.2; exact ⟨z.os, z.tape, z.output, z.size, z.block⟩
  have pX := hide (hX ▸ (HW1.out 1).2.1)
  rw [hX] at hr1
  clear hX HW1
  have hmw : m < w.heap.size := HO.out.map.lt
  have hWs : W.heap.size = w.heap.size + 1 := by rw [← hW]; simp
  have fX : Foot (fun k => k = m) w X := ((foot_alloc (fun k => k = m) w _).trans ((foot_grown hgX).mono (fun k e => (Option.some.inj e).symm) |> fun z => by rw [hW]; exact z) (fun j e => .inl e))
  have bX := hide ((fX.block g lg HO.out.gm).trans HO.out.box)
  have rX := hide (owns_foot HO.out.row fX (fun r hr e => HO.out.mr (e ▸ hr)))
  have eX : X.heap[w.heap.size]? = some (.cells #[.int .i64 f, .int .u64 (i : Int), .int .u64 (o : Int)] 179 (0, 0)) := by
    rw [hgX.block w.heap.size (by omega) (fun e => by have := Option.some.inj e; omega), ← hW]; exact heap_alloc_new _ _
  have HEX := hide eX
  have hbX : w.heap.size < X.heap.size := lt_of_heap eX
  have x1 : X.cell? ⟨g, 1, none⟩ = some (.slice ao n cap) := by rw [cell_of_row X g 1 _ _ _ bX.out, HV.out]; rfl
  have x2 : X.cell? ⟨g, 2, none⟩ = some (.map (some m)) := by rw [cell_of_row X g 2 _ _ _ bX.out]; rfl
  have zf : X.frozen? ⟨g, 1, none⟩ = false := frozen_of_row X g 1 _ _ bX.out
  have y0 : X.cell? ⟨w.heap.size, 0, none⟩ = some (.int .i64 f) := by rw [cell_of_row X _ 0 _ _ _ eX]; rfl
  have y1 : X.cell? ⟨w.heap.size, 1, none⟩ = some (.int .u64 (i : Int)) := by rw [cell_of_row X _ 1 _ _ _ eX]; rfl
  have y2 : X.cell? ⟨w.heap.size, 2, none⟩ = some (.int .u64 (o : Int)) := by rw [cell_of_row X _ 2 _ _ _ eX]; rfl
  obtain ⟨A, hA⟩ : ∃ A, X.alloc (.cells #[.int .i64 f, .int .u64 (i : Int), .int .u64 (o : Int)] 179) = A := ⟨_, rfl⟩
  have a1 : A.drew.cell? ⟨g, 1, none⟩ = some (.slice ao n cap) := by rw [← hA, ← x1]; exact World.cell?_of_block (Below.heap_alloc _ _ _ (Nat.lt_of_lt_of_le lg (Nat.le_of_lt hbX)))
  have zA : A.drew.frozen? ⟨g, 1, none⟩ = false := by rw [← hA, ← zf]; exact World.frozen?_of_block (Below.heap_alloc _ _ _ (Nat.lt_of_lt_of_le lg (Nat.le_of_lt hbX)))
  have rA : Hid (A.drew.ownsRow B 179 3 (.slice ao n cap) n (cellsE es)) := by have := rX.out.alloc (.cells #[.int .i64 f, .int .u64 (i : Int), .int .u64 (o : Int)] 179); rw [hA, HNN.out, HV.out] at this; exact this
  have nA : Hid (∀ j u, [Value.int .i64 f, .int .u64 (i : Int), .int .u64 (o : Int)][j]? = some u → A.drew.cell? ((⟨X.heap.size, 0, none⟩ : Addr).add j) = some u) := by
    rw [← hA]; exact World.news_of_block (cs := #[.int .i64 f, .int .u64 (i : Int), .int .u64 (o : Int)]) (t := 179) (fr := (0, 0)) (heap_alloc_new X _)
  have oA := hide (ent_one ⟨f, i, o⟩)
  have lA : Hid (n + 1 ≤ maxLen) := by show _ ≤ _; have := HS.out; have := HNN.out; unfold maxLen; omega
  have bA : Hid ((n + 1) * 24 ≤ 140737488355328) := by show _ ≤ _; have := HS.out; rw [HNN.out] at this; exact this
  have eA : Hid (A.drew.heap.size = X.heap.size + 1) := by rw [← hA]; show (X.alloc _).heap.size = _; simp
  have sA : Hid (B ≤ A.drew.heap.size) := by show _ ≤ _; rw [eA.out]; omega
  have gA : Hid ((⟨g, 1, none⟩ : Addr).block < A.drew.heap.size) := by show g < _; rw [eA.out]; omega
  have nG : Hid (some (⟨g, 1, none⟩ : Addr).block ≠ (Value.slice ao n cap).ownBlock) := by show some g ≠ _; rw [← HV.out]; exact fun e => HO.out.gr e.symm
  obtain ⟨i0, hi0, hz0, hz1, hz2⟩ := info_parts Tryz.infoE
  have FX := hide fX
  have HGX := hide hgX
  clear fX eX hgX
  go_enter Tryz.func81, Tryz.ntmps81
  go_wp2
  go_region_held3 (fun w' => w'.cell? ⟨w.heap.size, 0, none⟩ = some (.int .i64 f) ∧ w'.cell? ⟨w.heap.size, 1, none⟩ = some (.int .u64 (i : Int)) ∧ w'.cell? ⟨g, 1, none⟩ = some (.slice ao n cap) ∧ w'.cell? ⟨g, 2, none⟩ = some (.map (some m))) (first | exact ⟨b0 0, b1 0, c1 0, c2 0⟩ | exact ⟨b0 1, b1 1, c1 1, c2 1⟩ | exact ⟨y0, y1, x1, x2⟩) (fail)
  clear b0 b1 c1 c2 hr1
  go_wp2
  go_region_law ((refine step_append_lies _ (by rfl) _ _ _ (by rfl) B 179 i0 _ 3 24 Tryz.underlying77 hi0 hz0 hz1 hz2 rfl (by omega) (.slice ao n cap) n (cellsE es) (by rfl) rA.out ⟨X.heap.size, 0, none⟩ 1 1 [.int .i64 f, .int .u64 (i : Int), .int .u64 (o : Int)] (by rfl) (by rfl) nA.out oA.out (by omega) lA.out bA.out sA.out (X.heap.size + 1) eA.out ?_; intro gg cap2 w2 hown2 hgrow2 hat2 hlt2; have s1 := (hgrow2.cell_far ⟨g, 1, none⟩ gA.out nG.out).trans a1; have s2 := (hgrow2.frozen_far ⟨g, 1, none⟩ gA.out nG.out).trans zA))
  all_goals
    go_end0
    have ee := enter_end g m B tp v es f i o w X A w2 gg cap2 n HO.out HF.out HI.out HP.out HN.out HNN.out FX.out bX.out pX.out hA hbX hown2 (by rw [HV.out]; exact hgrow2) (by rw [HV.out]; exact hat2)
    exact ⟨rfl, _, ee⟩
end
end Go.Proofs.YtlmnnjibggdboaaGreatDoor
namespace Go.Proofs.YtlmnnjibggdboaaGreatDoor
section
open Go.RowKit
theorem TapeAt.off {w : World} {a h : Nat} {ws : List Nat} {t k B g m : Nat} {tp v : Value} {es : List Ent} (T : TapeAt w a h ws t k) (O : Orc w B g m tp v es) : (a ≠ g ∧ a ≠ m ∧ v.ownBlock ≠ Option.some a) ∧ h ≠ g ∧ h ≠ m ∧ v.ownBlock ≠ Option.some h := by
  obtain ⟨x, c, hm⟩ := O.map.isMap
  have hr : w.heap[h]? = Option.some _ := T.row
  refine ⟨⟨fun e => ?_, fun e => ?_, fun e => ?_⟩, fun e => ?_, fun e => ?_, fun e => ?_⟩
  · have := T.box; rw [e, O.box] at this; cases this
  · have := T.box; rw [e, hm] at this; cases this
  · obtain ⟨cur, h1, _⟩ := owns_block O.row e; rw [T.box] at h1; cases h1
  · rw [e, O.box] at hr; simp at hr
  · rw [e, hm] at hr; cases hr
  · obtain ⟨cur, h1, _⟩ := owns_block O.row e; rw [hr] at h1; cases h1
def AskS (g m a : Nat) (v : Value) : Nat → Prop := fun k => k = g ∨ k = m ∨ k = a ∨ v.ownBlock = some k
set_option maxHeartbeats 400000 in
theorem ask_known (g m B j x : Nat) (tp v : Value) (es : List Ent) (f : Int) (i : Nat) (w : World) (O : Orc w B g m tp v es) (hf : -9223372036854775808 ≤ f ∧ f ≤ 9223372036854775807) (hi : i ≤ 18446744073709551615) (hn : findE es f (i % 281474976710656) = some j) (hx : (es.getD j Ent.zero).o = x) :
    Calls Tryz.prog 67 #[.pointer (some ⟨g, 0, none⟩), .int .i64 f, .int .u64 (i : Int)] w fun e w' => e = .returned (.tuple #[.int .u64 (x : Nat), .nilIface]) ∧ ∃ q, w' = w.drewN q := by
  have HO := hide O
  have HN := hide hn
  have HX := hide hx
  have HF := hide hf
  have HI := hide hi
  clear O hn hx hf hi
  go_enter Tryz.func67, Tryz.ntmps67
  go_wp2_with fail
  refine (known_yes g m B j x tp v es f i w HO.out HF.out HI.out HN.out HX.out).mono ?_; rintro e w1 ⟨rfl, q, rfl⟩
  go_wp2
  go_ret2
  exact ⟨rfl, _, rfl⟩
set_option maxHeartbeats 400000 in
theorem ask_none (g m B : Nat) (v : Value) (es : List Ent) (f : Int) (i : Nat) (w : World) (O : Orc w B g m (.pointer none) v es) (hf : -9223372036854775808 ≤ f ∧ f ≤ 9223372036854775807) (hi : i ≤ 18446744073709551615) (hn : findE es f (i % 281474976710656) = none) :
    Calls Tryz.prog 67 #[.pointer (some ⟨g, 0, none⟩), .int .i64 f, .int .u64 (i : Int)] w fun e w' => e = .returned (.tuple #[.int .u64 0, .iface 47 (.int .i64 7)]) ∧ ∃ q, w' = w.drewN q := by
  have HO := hide O
  have HN := hide hn
  have HF := hide hf
  have HI := hide hi
  clear O hn hf hi
  go_enter Tryz.func67, Tryz.ntmps67
  go_wp2_with fail
  refine (known_no g m B _ v es f i w HO.out HF.out HI.out HN.out).mono ?_; rintro e w1 ⟨rfl, q, rfl⟩
  go_wp2_with fail
  refine (odraw_none g m B v es _ (HO.out.drewN q)).mono ?_; rintro e w1 ⟨rfl, rfl⟩
  go_wp2
  go_ret2
  exact ⟨rfl, _, rfl⟩
set_option maxHeartbeats 400000 in
theorem ask_end (g m B a h k : Nat) (v : Value) (es : List Ent) (ws : List Nat) (f : Int) (i : Nat) (w : World) (O : Orc w B g m (.pointer (some ⟨a, 0, none⟩)) v es) (T : TapeAt w a h ws ws.length k) (hf : -9223372036854775808 ≤ f ∧ f ≤ 9223372036854775807) (hi : i ≤ 18446744073709551615) (hn : findE es f (i % 281474976710656) = none) :
    Calls Tryz.prog 67 #[.pointer (some ⟨g, 0, none⟩), .int .i64 f, .int .u64 (i : Int)] w fun e w' => e = .returned (.tuple #[.int .u64 0, .iface 47 (.int .i64 7)]) ∧ ∃ q, w' = w.drewN q := by
  have HO := hide O
  have HT := hide T
  have HN := hide hn
  have HF := hide hf
  have HI := hide hi
  clear O T hn hf hi
  go_enter Tryz.func67, Tryz.ntmps67
  go_wp2_with fail
  refine (known_no g m B _ v es f i w HO.out HF.out HI.out HN.out).mono ?_; rintro e w1 ⟨rfl, q, rfl⟩
  go_wp2_with fail
  refine (odraw_end g m B a h k v es ws _ (HO.out.drewN q) (HT.out.drewN q)).mono ?_; rintro e w1 ⟨rfl, q2, rfl⟩
  go_wp2
  go_ret2
  exact ⟨rfl, _, rfl⟩
set_option maxHeartbeats 800000 in
theorem ask_new (g m B a h t k x : Nat) (v : Value) (es : List Ent) (ws : List Nat) (f : Int) (i : Nat) (w : World) (O : Orc w B g m (.pointer (some ⟨a, 0, none⟩)) v es) (T : TapeAt w a h ws t k) (ht : t < ws.length) (hx : ws.getD t 0 = x)
    (hf : -9223372036854775808 ≤ f ∧ f ≤ 9223372036854775807) (hi : i ≤ 18446744073709551615) (hn : findE es f (i % 281474976710656) = none) (hs : (es.length + 1) * 24 ≤ 140737488355328) (hB : B ≤ w.heap.size) :
    Calls Tryz.prog 67 #[.pointer (some ⟨g, 0, none⟩), .int .i64 f, .int .u64 (i : Int)] w fun e w' => e = .returned (.tuple #[.int .u64 (x : Nat), .nilIface]) ∧
      ∃ v', Orc w' B g m (.pointer (some ⟨a, 0, none⟩)) v' (es ++ [⟨f, i % 281474976710656, x⟩]) ∧ TapeAt w' a h ws (t + 1) k ∧ Foot (AskS g m a v) w w' ∧ ∀ r, v'.ownBlock = some r → v.ownBlock = some r ∨ w.heap.size ≤ r := by
  have HO := hide O
  have HT := hide T
  have HN := hide hn
  have HF := hide hf
  have HX := hide hx
  have H1 := hide ht
  have HS := hide hs
  have HB := hide hB
  have h0 : (0 : Int) ≤ (i : Int) := by omega
  have h1 : (i : Int) < 18446744073709551616 := by omega
  have HI := hide hi
  have HH := hide (And.intro h0 h1)
  clear O T hn hf hi hx ht hs hB h0 h1
  go_enter Tryz.func67, Tryz.ntmps67
  go_wp2_with fail
  refine (known_no g m B _ v es f i w HO.out HF.out HI.out HN.out).mono ?_; rintro e w1 ⟨rfl, q, rfl⟩
  go_wp2_with fail
  refine (odraw_yes g m B a h t k x v es ws _ (HO.out.drewN q) (HT.out.drewN q) H1.out HX.out).mono ?_; rintro e w1 ⟨rfl, T1, t1⟩
  have F1 := hide ((foot_drewN (fun j => j = a) w q).trans t1.foot (fun j e => .inl e))
  have hoff := HT.out.off HO.out
  have HO1 := hide (HO.out.foot F1.out (fun e => hoff.1.1 e.symm) (fun e => hoff.1.2.1 e.symm) (fun r hr e => hoff.1.2.2 (e ▸ hr)))
  have HT1 := hide T1
  clear T1 t1 hoff
  go_wp2_with fail
  refine (cut_any _ _ HH.out.1 HH.out.2).mono ?_; rintro e w2 ⟨rfl, rfl⟩
  rw [cutF_nat]
  have hxl : x ≤ 281474976710655 := by rw [← HX.out]; exact HT1.out.word t
  have HXL := hide hxl
  clear hxl
  go_wp2_with fail
  refine (enter_any g m B _ v es f (i % 281474976710656) x _ HO1.out HF.out (by omega) HXL.out HN.out HS.out (Nat.le_trans HB.out F1.out.size)).mono ?_; rintro e w3 ⟨rfl, v', O3, F3, hv3⟩
  have HO3 := hide O3
  have HF3 := hide F3
  have HV3 := hide hv3
  clear O3 F3 hv3
  go_wp2
  go_ret2
  have hoff := HT1.out.off HO1.out
  refine ⟨rfl, v', HO3.out, HT1.out.foot HF3.out (fun e => ?_) (fun e => ?_), ?_, fun r hr => ?_⟩
  · rcases e with e | e | e
    · exact hoff.1.1 e
    · exact hoff.1.2.1 e
    · exact hoff.1.2.2 e
  · rcases e with e | e | e
    · exact hoff.2.1 e
    · exact hoff.2.2.1 e
    · exact hoff.2.2.2 e
  · refine (F1.out.mono (S' := AskS g m a v) (fun j e => .inr (.inr (.inl e)))).trans HF3.out (fun j e => .inl ?_)
    rcases e with e | e | e
    · exact .inl e
    · exact .inr (.inl e)
    · exact .inr (.inr (.inr e))
  · rcases HV3.out r hr with e | e
    · exact .inl e
    · exact .inr (Nat.le_trans F1.out.size e)
end
end Go.Proofs.YtlmnnjibggdboaaGreatDoor
namespace Go.Proofs.YtlmnnjibggdboaaGreatDoor
section
open Go.RowKit
/- the word that is asked, and what is left of it when it is cut -/
def inF (q : Nat) : Nat := q % 5 * 281474976710659
theorem inF_le (q : Nat) : inF q ≤ 18446744073709551615 := by unfold inF; omega
theorem inF_cut (q : Nat) : inF q % 281474976710656 = q % 5 * 3 := by unfold inF; omega
theorem run_equalIn_nil_iface {P : Program} (w : World) (d : Nat) {ti tn : TypeId} {ms : Array (String × TypeId)} (v : Value) (hi : P.underlying ti = some (.interface ms)) : (Op.equalIn (d + 1) ti .nilIface (.iface tn v)).run P w = .ok false w := by
  simp [Op.equalIn, run_underlying hi]
theorem run_eql_nil_iface {P : Program} (w : World) {ti tn : TypeId} {ms : Array (String × TypeId)} (v : Value) (hi : P.underlying ti = some (.interface ms)) : (binOp .eql ti .nilIface (.iface tn v)).run P w = .ok (.bool false) w := by
  simp only [binOp]
  simp [Op.equal, Op.maxDepth, run_equalIn_nil_iface w 9999 v hi]
theorem cutN_79 : cutN [7, 9] = [7, 9] := by decide
theorem row_79 (w : World) : RowN (w.alloc (.cells #[.int .u64 7, .int .u64 9] 32)) .u64 32 w.heap.size [7, 9] := heap_alloc_new _ _
theorem u64s_79 (w : World) : U64s (w.alloc (.cells #[.int .u64 7, .int .u64 9] 32)) (some ⟨w.heap.size, 0, none⟩) 2 2 [7, 9] :=
  (row_79 w).u64s (by decide) (fun j => by
    rcases j with _ | _ | j <;> simp)
/- an oracle of a new tape: all its blocks are new -/
structure New2 (w0 w : World) (B g m a h : Nat) : Prop where
  b0 : w0.heap.size ≤ B
  a0 : w0.heap.size ≤ a
  h0 : w0.heap.size ≤ h
  bel : Below w0.heap.size w0 w
  bs : B ≤ w.heap.size
theorem New2.step {w0 w w' : World} {B g m a h : Nat} {tp v : Value} {es : List Ent} (n : New2 w0 w B g m a h) (O : Orc w B g m tp v es) (F : Foot (AskS g m a v) w w') : New2 w0 w' B g m a h :=
  ⟨n.b0, n.a0, n.h0, n.bel.trans (F.below n.bel.size (fun k e => by
    have b0 := n.b0
    have a0 := n.a0
    rcases e with e | e | e | e
    · have := O.bg; omega
    · have := O.bm; omega
    · omega
    · obtain ⟨_, _, h⟩ := owns_block O.row e; omega)), Nat.le_trans n.bs F.size⟩
theorem New2.grow {w0 w w' : World} {B g m a h : Nat} (n : New2 w0 w B g m a h) (b : Below w.heap.size w w') : New2 w0 w' B g m a h := ⟨n.b0, n.a0, n.h0, n.bel.trans (b.mono n.bel.size), Nat.le_trans n.bs b.size⟩
theorem New2.drewN {w0 w : World} {B g m a h : Nat} (n : New2 w0 w B g m a h) (q : Nat) : New2 w0 (w.drewN q) B g m a h := ⟨n.b0, n.a0, n.h0, below_drewN n.bel q, n.bs⟩
theorem Orc.grow {w w' : World} {B g m : Nat} {tp v : Value} {es : List Ent} (O : Orc w B g m tp v es) (b : Below w.heap.size w w') : Orc w' B g m tp v es := O.foot (below_foot (fun _ => False) b) id id (fun _ _ => id)
theorem TapeAt.grow {w w' : World} {g h : Nat} {ws : List Nat} {t k : Nat} (x : TapeAt w g h ws t k) (b : Below w.heap.size w w') : TapeAt w' g h ws t k := x.carry b (lt_of_heap x.box) (lt_of_heap x.row)
end
end Go.Proofs.YtlmnnjibggdboaaGreatDoor
namespace Go.Proofs.YtlmnnjibggdboaaGreatDoor
section
/- an answer; whether there is one; how many draws are taken behind it; what was answered so far -/
structure Ans where
  x : Nat
  ok : Bool
  t : Nat
  es : List Ent
def ansF (ws : List Nat) (t : Nat) (es : List Ent) (f : Int) (i : Nat) : Ans :=
  match findE es f i with
  | some j => ⟨(es.getD j Ent.zero).o, true, t, es⟩
  | none => if t < ws.length then ⟨ws.getD t 0, true, t + 1, es ++ [⟨f, i, ws.getD t 0⟩]⟩ else ⟨0, false, t, es⟩
def ofF (ws : List Nat) (t : Nat) (es : List Ent) (s r : Nat) : Ans :=
  if r = 255 then ⟨s % 281474976710656, true, t, es⟩ else ansF ws t es 1 ((s % 281474976710656) ^^^ r)
def erV (b : Bool) : Value := match b with | true => .nilIface | false => .iface 47 (.int .i64 7)
theorem ans_len (ws : List Nat) (t : Nat) (es : List Ent) (f : Int) (i : Nat) : (ansF ws t es f i).es.length ≤ es.length + 1 := by
  unfold ansF
  split
  · simp
  · split <;> simp
theorem of_len (ws : List Nat) (t : Nat) (es : List Ent) (s r : Nat) : (ofF ws t es s r).es.length ≤ es.length + 1 := by
  unfold ofF
  split
  · simp
  · exact ans_len _ _ _ _ _
theorem ans_no {ws : List Nat} {t : Nat} {es : List Ent} {f : Int} {i : Nat} (h : (ansF ws t es f i).ok = false) : ansF ws t es f i = ⟨0, false, t, es⟩ := by
  unfold ansF at *
  split at h
  · cases h
  · split at h
    · cases h
    · rename_i h2
      rw [if_neg h2]
theorem ans_again (ws : List Nat) (t : Nat) (es : List Ent) (f : Int) (i : Nat) : ansF ws (ansF ws t es f i).t (ansF ws t es f i).es f i = ansF ws t es f i := by
  cases hf : findE es f i with
  | some j =>
    have e : ansF ws t es f i = ⟨(es.getD j Ent.zero).o, true, t, es⟩ := by unfold ansF; rw [hf]
    rw [e]; exact e
  | none =>
    by_cases ht : t < ws.length
    · have e : ansF ws t es f i = ⟨ws.getD t 0, true, t + 1, es ++ [⟨f, i, ws.getD t 0⟩]⟩ := by unfold ansF; rw [hf]; simp only; rw [if_pos ht]
      rw [e]
      unfold ansF
      simp only [findE_snoc, hf, and_self, if_true, Option.none_or]
      rw [getD_snoc_end]
    · have e : ansF ws t es f i = ⟨0, false, t, es⟩ := by unfold ansF; rw [hf]; simp only; rw [if_neg ht]
      rw [e]; exact e
theorem of_again (ws : List Nat) (t : Nat) (es : List Ent) (s r : Nat) : ofF ws (ofF ws t es s r).t (ofF ws t es s r).es s r = ofF ws t es s r := by
  by_cases h : r = 255
  · have e : ∀ t es, ofF ws t es s r = ⟨s % 281474976710656, true, t, es⟩ := fun t es => by unfold ofF; rw [if_pos h]
    rw [e, e]
  · have e : ∀ t es, ofF ws t es s r = ansF ws t es 1 ((s % 281474976710656) ^^^ r) := fun t es => by unfold ofF; rw [if_neg h]
    rw [e, e]
    exact ans_again _ _ _ _ _
theorem of_cut (ws : List Nat) (t : Nat) (es : List Ent) (s r : Nat) : ofF ws t es (s % 281474976710656) r = ofF ws t es s r := by
  unfold ofF; rw [Nat.mod_mod]
theorem of_owner (ws : List Nat) (t : Nat) (es : List Ent) (s : Nat) : ofF ws t es s 255 = ⟨s % 281474976710656, true, t, es⟩ := by unfold ofF; rw [if_pos rfl]
theorem of_no {ws : List Nat} {t : Nat} {es : List Ent} {s r : Nat} (h : (ofF ws t es s r).ok = false) : ofF ws t es s r = ⟨0, false, t, es⟩ := by
  unfold ofF at *
  split at h
  · cases h
  · rename_i h1
    rw [if_neg h1]
    exact ans_no h
theorem xor_lt (s r : Nat) (hr : r ≤ 255) : (s % 281474976710656) ^^^ r < 281474976710656 := by
  have h1 : s % 281474976710656 < 2 ^ 48 := Nat.mod_lt _ (by decide)
  exact Nat.xor_lt_two_pow h1 (by omega)
theorem xor_nat (p r : Nat) (hp : p ≤ 18446744073709551615) (hr : r ≤ 18446744073709551615) : bits .xor .u64 (p : Int) (r : Int) = ((p ^^^ r : Nat) : Int) := by
  rw [xor_u64 _ _ (by omega) (by omega) (by omega) (by omega)]
  unfold xorF
  simp
theorem ans_word {ws : List Nat} {t : Nat} {es : List Ent} {f : Int} {i : Nat} (hw : ∀ j, ws.getD j 0 ≤ 281474976710655) (ho : ∀ x ∈ es, x.ok) : (ansF ws t es f i).x ≤ 281474976710655 := by
  unfold ansF
  split
  · rename_i j hj
    exact (okAt ho j (findE_some hj).1).2.2.2
  · split
    · exact hw t
    · exact Nat.zero_le _
end
end Go.Proofs.YtlmnnjibggdboaaGreatDoor
namespace Go.Proofs.YtlmnnjibggdboaaGreatDoor
section
open Go.RowKit
/- an oracle of a new tape -/
structure Tk (w0 w : World) (B g m a h k : Nat) (v : Value) (ws : List Nat) (t : Nat) (es : List Ent) : Prop where
  orc : Orc w B g m (.pointer (some ⟨a, 0, none⟩)) v es
  tape : TapeAt w a h ws t k
  new : New2 w0 w B g m a h
theorem Tk.drewN {w0 w : World} {B g m a h k : Nat} {v : Value} {ws : List Nat} {t : Nat} {es : List Ent} (s : Tk w0 w B g m a h k v ws t es) (q : Nat) : Tk w0 (w.drewN q) B g m a h k v ws t es := ⟨s.orc.drewN q, s.tape.drewN q, s.new.drewN q⟩
theorem Tk.grow {w0 w w' : World} {B g m a h k : Nat} {v : Value} {ws : List Nat} {t : Nat} {es : List Ent} (s : Tk w0 w B g m a h k v ws t es) (b : Below w.heap.size w w') : Tk w0 w' B g m a h k v ws t es := ⟨s.orc.grow b, s.tape.grow b, s.new.grow b⟩
/- what an answer leaves -/
def Left (w0 w : World) (B g m a h k : Nat) (v : Value) (ws : List Nat) (w' : World) (X : Ans) : Prop :=
  ∃ v', Tk w0 w' B g m a h k v' ws X.t X.es ∧ Foot (AskS g m a v) w w' ∧ ∀ r, v'.ownBlock = some r → v.ownBlock = some r ∨ w.heap.size ≤ r
theorem ask_ans (w0 : World) (B g m a h k : Nat) (v : Value) (ws : List Nat) (t : Nat) (es : List Ent) (f : Int) (i : Nat) (w : World) (S : Tk w0 w B g m a h k v ws t es) (hf : -9223372036854775808 ≤ f ∧ f ≤ 9223372036854775807) (hi : i ≤ 18446744073709551615) (hl : es.length ≤ 5000000000000) :
    Calls Tryz.prog 67 #[.pointer (some ⟨g, 0, none⟩), .int .i64 f, .int .u64 (i : Int)] w fun e w' => e = .returned (.tuple #[.int .u64 ((ansF ws t es f (i % 281474976710656)).x : Nat), erV (ansF ws t es f (i % 281474976710656)).ok]) ∧
      Left w0 w B g m a h k v ws w' (ansF ws t es f (i % 281474976710656)) := by
  cases hfind : findE es f (i % 281474976710656) with
  | some j =>
    have e : ansF ws t es f (i % 281474976710656) = ⟨(es.getD j Ent.zero).o, true, t, es⟩ := by unfold ansF; rw [hfind]
    rw [e]
    refine (ask_known g m B j _ _ v es f i w S.orc hf hi hfind rfl).mono ?_
    rintro e w' ⟨rfl, r, rfl⟩
    exact ⟨rfl, v, S.drewN r, foot_drewN _ _ _, fun _ h => .inl h⟩
  | none =>
    rcases Nat.lt_or_ge t ws.length with ht | ht
    · have e : ansF ws t es f (i % 281474976710656) = ⟨ws.getD t 0, true, t + 1, es ++ [⟨f, i % 281474976710656, ws.getD t 0⟩]⟩ := by unfold ansF; rw [hfind]; simp only; rw [if_pos ht]
      rw [e]
      refine (ask_new g m B a h t k _ v es ws f i w S.orc S.tape ht rfl hf hi hfind (by omega) S.new.bs).mono ?_
      rintro e w' ⟨rfl, v', O, T, F, hv⟩
      exact ⟨rfl, v', ⟨O, T, S.new.step S.orc F⟩, F, hv⟩
    · have e : ansF ws t es f (i % 281474976710656) = ⟨0, false, t, es⟩ := by unfold ansF; rw [hfind]; simp only; rw [if_neg (by omega)]
      rw [e]
      have e2 : t = ws.length := by have := S.tape.some; omega
      subst e2
      refine (ask_end g m B a h k v es ws f i w S.orc S.tape hf hi hfind).mono ?_
      rintro e w' ⟨rfl, r, rfl⟩
      exact ⟨rfl, v, S.drewN r, foot_drewN _ _ _, fun _ h => .inl h⟩
/- an owner's check: no oracle is asked -/
set_option maxHeartbeats 400000 in
theorem tof_owner (o : Value) (s : Nat) (w : World) (hs : s ≤ 18446744073709551615) :
    Calls Tryz.prog 46 #[o, .int .u64 (s : Int), .int .u8 255] w fun e w' => e = .returned (.tuple #[.int .u64 ((s % 281474976710656 : Nat) : Int), .nilIface]) ∧ w' = w := by
  have HS := hide hs
  obtain ⟨p, hp⟩ : ∃ p, s % 281474976710656 = p := ⟨_, rfl⟩
  rw [hp]
  have HP := hide hp
  clear hs hp
  go_enter Tryz.func46, Tryz.ntmps46
  go_wp2_with fail
  refine (cut_any _ _ (by omega) (by have := HS.out; omega)).mono ?_; rintro e w2 ⟨rfl, rfl⟩
  rw [cutF_nat, HP.out]
  go_wp2
  go_ret2
  exact ⟨rfl, rfl⟩
set_option maxHeartbeats 400000 in
theorem tof_other (w0 : World) (B g m a h k : Nat) (v : Value) (ws : List Nat) (t : Nat) (es : List Ent) (s r : Nat) (w : World) (S : Tk w0 w B g m a h k v ws t es) (hs : s ≤ 18446744073709551615) (hr : r ≤ 255) (hn : r ≠ 255) (hl : es.length ≤ 5000000000000) :
    Calls Tryz.prog 46 #[.pointer (some ⟨g, 0, none⟩), .int .u64 (s : Int), .int .u8 (r : Int)] w fun e w' => e = .returned (.tuple #[.int .u64 ((ofF ws t es s r).x : Nat), erV (ofF ws t es s r).ok]) ∧
      Left w0 w B g m a h k v ws w' (ofF ws t es s r) := by
  have eo : ofF ws t es s r = ansF ws t es 1 ((s % 281474976710656) ^^^ r) := by unfold ofF; rw [if_neg hn]
  have hx := xor_lt s r hr
  have hxn := xor_nat (s % 281474976710656) r (by omega) (by omega)
  rw [eo]
  obtain ⟨p, hp⟩ : ∃ p, s % 281474976710656 = p := ⟨_, rfl⟩
  rw [hp] at hx hxn ⊢
  obtain ⟨y, hy⟩ : ∃ y, p ^^^ r = y := ⟨_, rfl⟩
  rw [hy] at hx hxn ⊢
  obtain ⟨X, hX⟩ : ∃ X, ansF ws t es 1 y = X := ⟨_, rfl⟩
  rw [hX]
  have HXX := hide hX
  have HP := hide hp
  have HX := hide hx
  have HS := hide hs
  have HK := hide S
  have HL := hide hl
  have hr1 : ¬ ((r : Int) = 255) := by omega
  have hr0 : (0 : Int) ≤ r := by omega
  have hr2 : (r : Int) ≤ 255 := by omega
  clear hp hy hx hs S hl eo hn hr hX
  obtain ⟨x, ok, t', es'⟩ := X
  go_enter Tryz.func46, Tryz.ntmps46
  go_wp2_with fail
  refine (cut_any _ _ (by omega) (by have := HS.out; omega)).mono ?_; rintro e w2 ⟨rfl, rfl⟩
  rw [cutF_nat, HP.out]
  go_wp2_with fail
  refine (ask_ans w0 B g m a h k v ws t es 1 y _ HK.out (by omega) (by have := HX.out; omega) HL.out).mono ?_
  rw [Nat.mod_eq_of_lt HX.out, HXX.out]
  rintro e w1 ⟨rfl, L⟩
  have HL1 := hide L
  clear L
  clear HXX
  cases ok <;> simp only [erV]
  · go_wp2
    go_ret2
    exact ⟨rfl, HL1.out⟩
  · go_wp2
    go_ret2
    exact ⟨rfl, HL1.out⟩
theorem Tk.stay {w0 w : World} {B g m a h k : Nat} {v : Value} {ws : List Nat} {t : Nat} {es : List Ent} (S : Tk w0 w B g m a h k v ws t es) (x : Nat) (ok : Bool) : Left w0 w B g m a h k v ws w ⟨x, ok, t, es⟩ := ⟨v, S, Foot.refl _ _, fun _ h => .inl h⟩
theorem tof_any (w0 : World) (B g m a h k : Nat) (v : Value) (ws : List Nat) (t : Nat) (es : List Ent) (s r : Nat) (w : World) (S : Tk w0 w B g m a h k v ws t es) (hs : s ≤ 18446744073709551615) (hr : r ≤ 255) (hl : es.length ≤ 5000000000000) :
    Calls Tryz.prog 46 #[.pointer (some ⟨g, 0, none⟩), .int .u64 (s : Int), .int .u8 (r : Int)] w fun e w' => e = .returned (.tuple #[.int .u64 ((ofF ws t es s r).x : Nat), erV (ofF ws t es s r).ok]) ∧
      Left w0 w B g m a h k v ws w' (ofF ws t es s r) := by
  by_cases h1 : r = 255
  · subst h1
    rw [of_owner]
    refine (tof_owner _ s w hs).mono ?_
    rintro e w' ⟨rfl, rfl⟩
    exact ⟨rfl, S.stay _ _⟩
  · exact tof_other w0 B g m a h k v ws t es s r w S hs hr h1 hl
theorem Left.start {w0 w w1 w' : World} {B g m a h k : Nat} {v : Value} {ws : List Nat} {X : Ans} (L : Left w0 w1 B g m a h k v ws w' X) (b : Below w.heap.size w w1) : Left w0 w B g m a h k v ws w' X := by
  obtain ⟨v', T, F, hv⟩ := L
  refine ⟨v', T, (below_foot _ b).trans F (fun _ h => .inl h), fun r hr => ?_⟩
  rcases hv r hr with h1 | h1
  · exact .inl h1
  · exact .inr (Nat.le_trans b.size h1)
/- the cells of a capability in a variable of its own -/
def CBox (w : World) (b p o r c : Nat) : Prop := w.heap[b]? = some (.cells #[.int .u64 (p : Int), .int .u32 (o : Int), .int .u8 (r : Int), .int .u64 (c : Int)] 40 (0, 0))
theorem CBox.c0 {w : World} {b p o r c : Nat} (h : CBox w b p o r c) : w.cell? ⟨b, 0, none⟩ = some (.int .u64 (p : Int)) := by rw [cell_of_row w b 0 _ _ _ h]; rfl
theorem CBox.c1 {w : World} {b p o r c : Nat} (h : CBox w b p o r c) : w.cell? ⟨b, 1, none⟩ = some (.int .u32 (o : Int)) := by rw [cell_of_row w b 1 _ _ _ h]; rfl
theorem CBox.c2 {w : World} {b p o r c : Nat} (h : CBox w b p o r c) : w.cell? ⟨b, 2, none⟩ = some (.int .u8 (r : Int)) := by rw [cell_of_row w b 2 _ _ _ h]; rfl
theorem CBox.c3 {w : World} {b p o r c : Nat} (h : CBox w b p o r c) : w.cell? ⟨b, 3, none⟩ = some (.int .u64 (c : Int)) := by rw [cell_of_row w b 3 _ _ _ h]; rfl
theorem CBox.z {w : World} {b p o r c : Nat} (h : CBox w b p o r c) (j : Nat) : w.frozen? ⟨b, j, none⟩ = false := frozen_of_row w b j _ _ h
theorem CBox.new (w : World) (p o r c : Nat) : CBox (w.alloc (.cells #[.int .u64 (p : Int), .int .u32 (o : Int), .int .u8 (r : Int), .int .u64 (c : Int)] 40)) w.heap.size p o r c := heap_alloc_new _ _
theorem CBox.foot {S : Nat → Prop} {w w' : World} {b p o r c : Nat} (h : CBox w b p o r c) (x : Foot S w w') (hb : ¬ S b) : CBox w' b p o r c := (x.block b (lt_of_heap h) hb).trans h
theorem CBox.grow {w w' : World} {b p o r c : Nat} (h : CBox w b p o r c) (x : Below w.heap.size w w') : CBox w' b p o r c := (x.block b (lt_of_heap h)).trans h
theorem CBox.drewN {w : World} {b p o r c : Nat} (h : CBox w b p o r c) (q : Nat) : CBox (w.drewN q) b p o r c := h
/- an answer leaves a capability in a variable as it was -/
theorem CBox.ask {w0 w w' : World} {B g m a h k t : Nat} {v : Value} {ws : List Nat} {es : List Ent} {b p o r c : Nat} (x : CBox w b p o r c) (S : Tk w0 w B g m a h k v ws t es) (F : Foot (AskS g m a v) w w') : CBox w' b p o r c := by
  refine x.foot F fun e => ?_
  obtain ⟨y, z, hm⟩ := S.orc.map.isMap
  unfold CBox at x
  rcases e with e | e | e | e
  · rw [e, S.orc.box] at x; cases x
  · rw [e, hm] at x; cases x
  · rw [e, S.tape.box] at x; cases x
  · obtain ⟨cur, h1, _⟩ := owns_block S.orc.row e; rw [h1] at x; cases x
def goodF (X : Ans) (c : Nat) : Bool := X.ok && decide (c = X.x)
set_option maxHeartbeats 800000 in
theorem tgood_any (w0 : World) (B g m a h k : Nat) (v : Value) (ws : List Nat) (t : Nat) (es : List Ent) (s p o r c : Nat) (w : World) (S : Tk w0 w B g m a h k v ws t es) (hs : s ≤ 18446744073709551615) (hr : r ≤ 255) (hl : es.length ≤ 5000000000000) :
    Calls Tryz.prog 52 #[.pointer (some ⟨g, 0, none⟩), .int .u64 (s : Int), .agg #[.int .u64 (p : Int), .int .u32 (o : Int), .int .u8 (r : Int), .int .u64 (c : Int)]] w fun e w' => e = .returned (.tuple #[.bool (goodF (ofF ws t es s r) c), erV (ofF ws t es s r).ok]) ∧
      Left w0 w B g m a h k v ws w' (ofF ws t es s r) := by
  have HS := hide hs
  have HK := hide S
  have HL := hide hl
  have HR := hide hr
  obtain ⟨X, hX⟩ : ∃ X, ofF ws t es s r = X := ⟨_, rfl⟩
  rw [hX]
  have HXX := hide hX
  clear hs hr hl S hX
  obtain ⟨x, ok, t', es'⟩ := X
  obtain ⟨gb, hgb⟩ : ∃ gb, goodF ⟨x, ok, t', es'⟩ c = gb := ⟨_, rfl⟩
  rw [hgb]
  have HG := hide hgb
  clear hgb
  go_enter Tryz.func52, Tryz.ntmps52
  go_wp2_with fail
  refine (tof_any w0 B g m a h k v ws t es s r _ (HK.out.grow (below_alloc w _)) HS.out HR.out HL.out).mono ?_; rintro e w1 ⟨rfl, L⟩
  rw [HXX.out] at L ⊢
  have HL1 := hide (L.start (below_alloc w _))
  have HC : Hid (CBox w1 w.heap.size p o r c) := by
    obtain ⟨v', _, F, _⟩ := L
    exact (CBox.new w p o r c).ask (HK.out.grow (below_alloc w _)) F
  clear L HXX
  have c3 := HC.out.c3
  cases ok <;> simp only [erV]
  · go_wp2
    go_ret2
    exact ⟨by rw [← HG.out]; rfl, HL1.out⟩
  · by_cases hc : c = x
    · have hc1 : (c : Int) = (x : Int) := by omega
      subst hc
      clear hc1
      go_wp2
      go_ret2
      exact ⟨by rw [← HG.out]; simp [goodF, erV], HL1.out⟩
    · have hc1 : ¬ ((c : Int) = (x : Int)) := by omega
      have HN := hide hc
      clear hc
      go_wp2
      go_ret2
      exact ⟨by rw [← HG.out]; simp [goodF, erV, HN.out, hc1], HL1.out⟩
end
end Go.Proofs.YtlmnnjibggdboaaGreatDoor
namespace Go.Proofs.YtlmnnjibggdboaaGreatDoor
section
open Go.RowKit
/- of one that is no owner's -/
set_option maxHeartbeats 800000 in
theorem tres_no (ov : Value) (p o r c mask : Nat) (w : World) (hn : r ≠ 255) :
    Calls Tryz.prog 62 #[ov, .agg #[.int .u64 (p : Int), .int .u32 (o : Int), .int .u8 (r : Int), .int .u64 (c : Int)], .int .u8 (mask : Int)] w fun e w' => e = .returned (.tuple #[.agg #[.int .u64 0, .int .u32 0, .int .u8 0, .int .u64 0], .iface 47 (.int .i64 2)]) ∧ Below w.heap.size w w' := by
  have hr1 : ¬ ((r : Int) = 255) := by omega
  clear hn
  go_enter Tryz.func62, Tryz.ntmps62
  go_wp2
  go_returns
  exact ⟨rfl, by go_grown⟩
/- a block that is a capability's; a store into one leaves the oracle as it is -/
def CapB (w : World) (b : Nat) : Prop := ∃ cs, w.heap[b]? = some (.cells cs 40 (0, 0))
theorem CBox.capB {w : World} {b p o r c : Nat} (h : CBox w b p o r c) : CapB w b := ⟨_, h⟩
theorem CapB.set {w : World} {b : Nat} (h : CapB w b) (d j : Nat) (x : Value) : CapB (w.setCell ⟨d, j, none⟩ x) b := by
  obtain ⟨cs, h⟩ := h
  by_cases e : b = d
  · subst e
    exact ⟨_, heap_setCell_same w b j _ _ x h⟩
  · exact ⟨cs, (heap_setCell_other _ _ _ _ e).trans h⟩
theorem Tk.put {w0 w1 : World} {B g m a h k : Nat} {v : Value} {ws : List Nat} {t : Nat} {es : List Ent} (T : Tk w0 w1 B g m a h k v ws t es) {b : Nat} (C : CapB w1 b) (hb : w0.heap.size ≤ b) (j : Nat) (x : Value) : Tk w0 (w1.setCell ⟨b, j, none⟩ x) B g m a h k v ws t es := by
  obtain ⟨cs, hc⟩ := C
  obtain ⟨y, z, hm⟩ := T.orc.map.isMap
  have hr : w1.heap[h]? = some _ := T.tape.row
  have f := foot_set w1 ⟨b, j, none⟩ x
  refine ⟨T.orc.foot f (fun e => ?_) (fun e => ?_) (fun r hr e => ?_), T.tape.foot f (fun e => ?_) (fun e => ?_), ⟨T.new.b0, T.new.a0, T.new.h0, T.new.bel.trans (f.below T.new.bel.size fun k e => ?_), Nat.le_trans T.new.bs f.size⟩⟩
  · obtain rfl : g = b := e
    rw [T.orc.box] at hc; cases hc
  · obtain rfl : m = b := e
    rw [hm] at hc; cases hc
  · obtain rfl : r = b := e
    obtain ⟨cur, h1, _⟩ := owns_block T.orc.row hr; rw [h1] at hc; cases hc
  · obtain rfl : a = b := e
    rw [T.tape.box] at hc; cases hc
  · obtain rfl : h = b := e
    rw [hr] at hc; simp at hc
  · obtain rfl : k = b := e
    omega
theorem Left.put {w0 w w1 : World} {B g m a h k : Nat} {v : Value} {ws : List Nat} {X : Ans} (L : Left w0 w B g m a h k v ws w1 X) {b : Nat} (C : CapB w1 b) (hw : w0.heap.size ≤ w.heap.size) (hb : w.heap.size ≤ b) (j : Nat) (x : Value) : Left w0 w B g m a h k v ws (w1.setCell ⟨b, j, none⟩ x) X := by
  obtain ⟨v', T, F, hv⟩ := L
  refine ⟨v', T.put C (Nat.le_trans hw hb) j x, F.trans (foot_set w1 ⟨b, j, none⟩ x) (fun k e => ?_), hv⟩
  obtain rfl : k = b := e
  exact .inr hb
theorem CBox.set3 {w : World} {b p o r c : Nat} (h : CBox w b p o r c) (y : Nat) : CBox (w.setCell ⟨b, 3, none⟩ (.int .u64 (y : Int))) b p o r y := by
  have := heap_setCell_same w b 3 _ _ (.int .u64 (y : Int)) h
  exact this
def resV (X : Ans) (p o mask : Nat) : Value := match X.ok with | true => .agg #[.int .u64 (p : Int), .int .u32 (o : Int), .int .u8 (mask : Int), .int .u64 (X.x : Int)] | false => .agg #[.int .u64 0, .int .u32 0, .int .u8 0, .int .u64 0]
set_option maxHeartbeats 1600000 in
theorem tres_any (w0 : World) (B g m a h k : Nat) (v : Value) (ws : List Nat) (t : Nat) (es : List Ent) (p o c mask : Nat) (w : World) (S : Tk w0 w B g m a h k v ws t es) (hc : c ≤ 18446744073709551615) (hr : mask ≤ 255) (hl : es.length ≤ 5000000000000) :
    Calls Tryz.prog 62 #[.pointer (some ⟨g, 0, none⟩), .agg #[.int .u64 (p : Int), .int .u32 (o : Int), .int .u8 255, .int .u64 (c : Int)], .int .u8 (mask : Int)] w fun e w' => e = .returned (.tuple #[resV (ofF ws t es c mask) p o mask, erV (ofF ws t es c mask).ok]) ∧
      Left w0 w B g m a h k v ws w' (ofF ws t es c mask) := by
  have HS := hide hc
  have HK := hide S
  have HL := hide hl
  have HR := hide hr
  obtain ⟨X, hX⟩ : ∃ X, ofF ws t es c mask = X := ⟨_, rfl⟩
  rw [hX]
  have HXX := hide hX
  clear hc hr hl S hX
  obtain ⟨x, ok, t', es'⟩ := X
  go_enter Tryz.func62, Tryz.ntmps62
  go_wp2_with fail
  have b1 : Below w.heap.size w ((w.alloc (.cells #[.int .u64 (p : Int), .int .u32 (o : Int), .int .u8 255, .int .u64 (c : Int)] 40)).alloc (.cells #[.int .u64 0, .int .u32 0, .int .u8 0, .int .u64 0] 40)) := (below_alloc w _).alloc (below_alloc w _).size _
  refine (tof_any w0 B g m a h k v ws t es c mask _ (HK.out.grow b1) HS.out HR.out HL.out).mono ?_; rintro e w1 ⟨rfl, L⟩
  rw [HXX.out] at L ⊢
  have HL1 := hide (L.start b1)
  have HC : Hid (CBox w1 w.heap.size p o 255 c) := by
    obtain ⟨v', _, F, _⟩ := L
    exact ((CBox.new w p o 255 c).grow (below_alloc _ _)).ask (HK.out.grow b1) F
  have HD : Hid (CBox w1 (w.heap.size + 1) 0 0 0 0) := by
    obtain ⟨v', _, F, _⟩ := L
    have := (CBox.new (w.alloc (.cells #[.int .u64 (p : Int), .int .u32 (o : Int), .int .u8 255, .int .u64 (c : Int)] 40)) 0 0 0 0).ask (HK.out.grow b1) F
    rw [show w.heap.size + 1 = (w.alloc (.cells #[.int .u64 (p : Int), .int .u32 (o : Int), .int .u8 255, .int .u64 (c : Int)] 40)).heap.size from by simp]
    exact this
  clear L HXX b1
  obtain ⟨G, hG⟩ : ∃ G, w.heap.size + 1 = G := ⟨_, rfl⟩
  rw [hG] at HD ⊢
  have HG := hide hG
  have hne : w.heap.size ≠ G := by omega
  clear hG
  have c0 := HC.out.c0
  have c1 := HC.out.c1
  have c2 := HC.out.c2
  have c3 := HC.out.c3
  have z := HC.out.z
  have d0 : w1.cell? ⟨G, 0, none⟩ = some (.int .u64 0) := HD.out.c0
  have d1 : w1.cell? ⟨G, 1, none⟩ = some (.int .u32 0) := HD.out.c1
  have d2 : w1.cell? ⟨G, 2, none⟩ = some (.int .u8 0) := HD.out.c2
  have d3 : w1.cell? ⟨G, 3, none⟩ = some (.int .u64 0) := HD.out.c3
  have y := HD.out.z
  cases ok <;> simp only [erV]
  · go_wp2
    refine bodyPost_ret (by simp [results, Tryz.results62, go_sem, d0, d1, d2, d3]; rfl) rfl ?_
    have hg := HG.out
    have D := HD.out.capB
    have W := HK.out.new.bel.size
    exact ⟨rfl, (((HL1.out.put D W (by omega) _ _).put (D.set _ _ _) W (by omega) _ _).put ((D.set _ _ _).set _ _ _) W (by omega) _ _).put (((D.set _ _ _).set _ _ _).set _ _ _) W (by omega) _ _⟩
  · go_wp2
    have e0 := fun x y => (World.cell?_setCell_far (w1.setCell ⟨w.heap.size, 2, none⟩ x) ⟨w.heap.size, 3, none⟩ ⟨G, 0, none⟩ y hne).trans ((World.cell?_setCell_far w1 ⟨w.heap.size, 2, none⟩ ⟨G, 0, none⟩ x hne).trans d0)
    have e1 := fun x y => (World.cell?_setCell_far (w1.setCell ⟨w.heap.size, 2, none⟩ x) ⟨w.heap.size, 3, none⟩ ⟨G, 1, none⟩ y hne).trans ((World.cell?_setCell_far w1 ⟨w.heap.size, 2, none⟩ ⟨G, 1, none⟩ x hne).trans d1)
    have e2 := fun x y => (World.cell?_setCell_far (w1.setCell ⟨w.heap.size, 2, none⟩ x) ⟨w.heap.size, 3, none⟩ ⟨G, 2, none⟩ y hne).trans ((World.cell?_setCell_far w1 ⟨w.heap.size, 2, none⟩ ⟨G, 2, none⟩ x hne).trans d2)
    have e3 := fun x y => (World.cell?_setCell_far (w1.setCell ⟨w.heap.size, 2, none⟩ x) ⟨w.heap.size, 3, none⟩ ⟨G, 3, none⟩ y hne).trans ((World.cell?_setCell_far w1 ⟨w.heap.size, 2, none⟩ ⟨G, 3, none⟩ x hne).trans d3)
    refine bodyPost_ret (by simp [results, Tryz.results62, go_sem, e0, e1, e2, e3]; rfl) rfl ?_
    have hg := HG.out
    have C := HC.out.capB
    have D := HD.out.capB
    have W := HK.out.new.bel.size
    have L2 := (HL1.out.put C W (Nat.le_refl _) 2 (.int .u8 mask)).put (C.set _ _ _) W (Nat.le_refl _) 3 (.int .u64 x)
    have D2 := (D.set w.heap.size 2 (.int .u8 mask)).set w.heap.size 3 (.int .u64 x)
    exact ⟨rfl, (((L2.put D2 W (by omega) _ _).put (D2.set _ _ _) W (by omega) _ _).put ((D2.set _ _ _).set _ _ _) W (by omega) _ _).put (((D2.set _ _ _).set _ _ _).set _ _ _) W (by omega) _ _⟩
/- what came in: two of an oracle of a new tape -/
theorem Tk.made {w0 w1 w2 w3 : World} {a h k g m : Nat} {ws : List Nat} (b1 : Below w0.heap.size w0 w1) (T : TapeAt w2 a h ws 0 k) (ha : w1.heap.size ≤ a) (hh : w1.heap.size ≤ h) (b2 : Below w1.heap.size w1 w2) (O : Orc w3 w2.heap.size g m (.pointer (some ⟨a, 0, none⟩)) (.slice none 0 0) []) (b3 : Below w2.heap.size w2 w3) :
    Tk w0 w3 w2.heap.size g m a h k (.slice none 0 0) ws 0 [] := by
  have hB := b1.trans (b2.mono b1.size)
  exact ⟨O, T.grow b3, ⟨hB.size, Nat.le_trans b1.size ha, Nat.le_trans b1.size hh, hB.trans (b3.mono hB.size), b3.size⟩⟩
end
end Go.Proofs.YtlmnnjibggdboaaGreatDoor
namespace Go.Proofs.YtlmnnjibggdboaaGreatDoor
section
open Go.RowKit
theorem u64_nat {n : Int} (h : (Lit.int .u64 n).wf = true) : ∃ v : Nat, n = (v : Int) ∧ v ≤ 18446744073709551615 := by
  have := bounds_u64 h; exact ⟨n.toNat, by omega, by omega⟩
theorem u32_nat {n : Int} (h : (Lit.int .u32 n).wf = true) : ∃ v : Nat, n = (v : Int) ∧ v ≤ 4294967295 := by
  have := bounds_u32 h; exact ⟨n.toNat, by omega, by omega⟩
theorem cells40 : Tryz.prog.cellsOf 40 = 4 := by kernel_rfl
/- a capability that came in by value -/
def CapIs (v : Value) (p o r c : Nat) : Prop := v = .agg #[.int .u64 p, .int .u32 o, .int .u8 r, .int .u64 c] ∧ p ≤ 18446744073709551615 ∧ o ≤ 4294967295 ∧ r ≤ 255 ∧ c ≤ 18446744073709551615
set_option maxRecDepth 100000 in
theorem open_cap {H : Type} {enc : TypeId × Value → H} {w : World} {base : Nat} {spare : Nat → Bool} {held : Bool} {r : Reach} {b0 : Nat} {v : Value} {d : DataW H} {pl : List MemPlace}
    (hv : Value.okWide Tryz.prog w r b0 40 v) (h : DataW.Trod enc Tryz.prog w base spare held 40 v d pl) : ∃ p o r c, CapIs v p o r c := by
  obtain ⟨v0, v1, v2, v3, y0, y1, y2, y3, n, rfl, _, _, h0, h1, h2, h3⟩ := Go.Joins.open_agg4 Tryz.underlying40 (by kernel_rfl) cells40 hv h
  obtain ⟨n0, e0, _, w0⟩ := DataW.trod_int Tryz.underlying32 h0
  obtain ⟨n1, e1, _, w1⟩ := DataW.trod_int Tryz.underlying38 h1
  obtain ⟨n2, e2, _, w2⟩ := DataW.trod_int Tryz.underlying5 h2
  obtain ⟨n3, e3, _, w3⟩ := DataW.trod_int Tryz.underlying32 h3
  obtain ⟨p, rfl, hp⟩ := u64_nat w0
  obtain ⟨o, rfl, ho⟩ := u32_nat w1
  obtain ⟨r, rfl, hr⟩ := u8_nat w2
  obtain ⟨c, rfl, hc⟩ := u64_nat w3
  obtain rfl := (List.cons.inj e0).1
  obtain rfl := (List.cons.inj e1).1
  obtain rfl := (List.cons.inj e2).1
  obtain rfl := (List.cons.inj e3).1
  exact ⟨p, o, r, c, rfl, hp, ho, hr, hc⟩
end
end Go.Proofs.YtlmnnjibggdboaaGreatDoor
