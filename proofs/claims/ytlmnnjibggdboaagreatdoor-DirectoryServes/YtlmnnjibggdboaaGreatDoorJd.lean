/-
  What an object is; what objects' functions answer of a table, a tape and what was answered, as functions.
  Objects in memory: a table of them with its oracle; what stays of it when other memory turns.
  What objects' helpers answer, as contracts: has, oracle, capability, end, Value.
  A table with its oracle in one memory; what a deed leaves; the capability of an object, as a contract.
  What objects' Check answers, as a contract.
  What objects' Check answers, whatever the capability: one contract.
  slices.IndexFunc over a table's objects, at the function that asks whether one is free: a contract; the lowest number that is free.
  What objects' Create, Restrict, Revoke, Destroy, Touch and Info answer, as functions; a draw by the oracle; facts of a table that is there.
-/
import Derived.Test.YtlmnnjibggdboaaGreatDoorJb
import Derived.Test.YtlmnnjibggdboaaGreatDoorJc
import Derived.Deep.RegionHeld
namespace Go.Proofs.YtlmnnjibggdboaaGreatDoor
section
/- an object: its secret, its epoch, what it stands for, how many rounds it lives on (of none: 0) -/
structure Ob where
  s : Nat
  e : Nat
  v : Int
  l : Nat
def Ob.zero : Ob := ⟨0, 0, 0, 0⟩
def Ob.cells (x : Ob) : List Value := [.int .u64 (x.s : Int), .int .i64 (x.e : Int), .int .i64 x.v, .int .i64 (x.l : Int)]
def Ob.ok (x : Ob) : Prop := x.s ≤ 281474976710655 ∧ x.l ≤ 24
def updO (T : Nat → Ob) (k : Nat) (x : Ob) : Nat → Ob := fun j => if j = k then x else T j
theorem updO_same (T : Nat → Ob) (k : Nat) (x : Ob) : updO T k x k = x := if_pos rfl
theorem updO_other (T : Nat → Ob) {k j : Nat} (x : Ob) (h : j ≠ k) : updO T k x j = T j := if_neg h
def noneO : Nat → Ob := fun _ => Ob.zero
def hasO (T : Nat → Ob) (k : Nat) : Bool := decide (k < 64) && decide (0 < (T k).l)
theorem hasO_yes {T : Nat → Ob} {k : Nat} (h : hasO T k = true) : k < 64 ∧ 0 < (T k).l := by
  unfold hasO at h
  rw [Bool.and_eq_true] at h
  exact ⟨of_decide_eq_true h.1, of_decide_eq_true h.2⟩
theorem hasO_of {T : Nat → Ob} {k : Nat} (h1 : k < 64) (h2 : 0 < (T k).l) : hasO T k = true := by
  unfold hasO; rw [Bool.and_eq_true]; exact ⟨decide_eq_true h1, decide_eq_true h2⟩
/- a capability -/
structure Cp where
  p : Nat
  o : Nat
  r : Nat
  c : Nat
def Cp.zero : Cp := ⟨0, 0, 0, 0⟩
def Cp.ok (x : Cp) : Prop := x.p ≤ 18446744073709551615 ∧ x.o ≤ 4294967295 ∧ x.r ≤ 255 ∧ x.c ≤ 18446744073709551615
/- what Check answers: the number, the error, what is there behind it -/
structure Chk where
  k : Nat
  e : Nat
  t : Nat
  es : List Ent
def chkF (ws : List Nat) (t : Nat) (es : List Ent) (p : Nat) (T : Nat → Ob) (c : Cp) (need : Nat) : Chk :=
  if c.p ≠ p ∨ hasO T c.o = false then ⟨0, 1, t, es⟩
  else
    if (ofF ws t es (T c.o).s c.r).ok = false then ⟨0, 7, (ofF ws t es (T c.o).s c.r).t, (ofF ws t es (T c.o).s c.r).es⟩
    else if c.c ≠ (ofF ws t es (T c.o).s c.r).x then ⟨0, 1, (ofF ws t es (T c.o).s c.r).t, (ofF ws t es (T c.o).s c.r).es⟩
    else if c.r &&& need ≠ need then ⟨0, 2, (ofF ws t es (T c.o).s c.r).t, (ofF ws t es (T c.o).s c.r).es⟩
    else ⟨c.o, 0, (ofF ws t es (T c.o).s c.r).t, (ofF ws t es (T c.o).s c.r).es⟩
/- the capability of an object for rights -/
def cabF (p k r : Nat) (X : Ans) : Cp := if X.ok then ⟨p, k, r, X.x⟩ else Cp.zero
end
end Go.Proofs.YtlmnnjibggdboaaGreatDoor
namespace Go.Proofs.YtlmnnjibggdboaaGreatDoor
section
open Go.RowKit
def erN (k : Int) : Value := if k = 0 then .nilIface else .iface 47 (.int .i64 k)
theorem erN_zero : erN 0 = .nilIface := rfl
theorem erN_not {k : Int} (h : k ≠ 0) : erN k = .iface 47 (.int .i64 k) := if_neg h
def Cp.val (x : Cp) : Value := .agg #[.int .u64 (x.p : Int), .int .u32 (x.o : Int), .int .u8 (x.r : Int), .int .u64 (x.c : Int)]
theorem set_get (C : Array Value) (i j : Nat) (v : Value) (hi : i < C.size) : (C.setIfInBounds i v)[j]? = if j = i then some v else C[j]? := by
  rw [Array.getElem?_setIfInBounds]
  by_cases e : i = j
  · subst e; simp [hi]
  · rw [if_neg e, if_neg (fun x => e x.symm)]
structure TbC (C : Array Value) (p go : Nat) (T : Nat → Ob) : Prop where
  size : C.size = 258
  c0 : C[0]? = some (.int .u64 (p : Int))
  c1 : C[1]? = some (.pointer (some ⟨go, 0, none⟩))
  c : ∀ j f, j < 64 → f < 4 → C[2 + j * 4 + f]? = (T j).cells[f]?
structure Tb (w : World) (g p go : Nat) (T : Nat → Ob) : Prop where
  box : ∃ C, w.heap[g]? = some (.cells C 88 (0, 0)) ∧ TbC C p go T
  ok : ∀ j, (T j).ok
variable {w w' : World} {g p go : Nat} {T : Nat → Ob}
theorem Tb.lt (x : Tb w g p go T) : g < w.heap.size := by obtain ⟨C, h, _⟩ := x.box; exact lt_of_heap h
theorem Tb.c0 (x : Tb w g p go T) : w.cell? ⟨g, 0, none⟩ = some (.int .u64 (p : Int)) := by
  obtain ⟨C, h, c⟩ := x.box; rw [cell_of_row w g _ _ _ _ h]; exact c.c0
theorem Tb.c1 (x : Tb w g p go T) : w.cell? ⟨g, 1, none⟩ = some (.pointer (some ⟨go, 0, none⟩)) := by
  obtain ⟨C, h, c⟩ := x.box; rw [cell_of_row w g _ _ _ _ h]; exact c.c1
theorem Tb.at (x : Tb w g p go T) (k : Nat) (hk : k < 64) (s e : Nat) (v : Int) (l : Nat) (hy : T k = ⟨s, e, v, l⟩) :
    w.cell? ⟨g, 2 + k * 4, none⟩ = some (.int .u64 (s : Int)) ∧ w.cell? ⟨g, 2 + k * 4 + 1, none⟩ = some (.int .i64 (e : Int)) ∧ w.cell? ⟨g, 2 + k * 4 + 2, none⟩ = some (.int .i64 v) ∧ w.cell? ⟨g, 2 + k * 4 + 3, none⟩ = some (.int .i64 (l : Int)) := by
  obtain ⟨C, h, c⟩ := x.box
  have e : ∀ f, f < 4 → C[2 + k * 4 + f]? = (T k).cells[f]? := fun f hf => c.c k f hk hf
  rw [hy] at e
  refine ⟨?_, ?_, ?_, ?_⟩ <;> rw [cell_of_row w g _ _ _ _ h]
  · exact e 0 (by omega)
  · exact e 1 (by omega)
  · exact e 2 (by omega)
  · exact e 3 (by omega)
theorem Tb.z (x : Tb w g p go T) (j : Nat) : w.frozen? ⟨g, j, none⟩ = false := by
  obtain ⟨C, h, c⟩ := x.box; exact frozen_of_row w g j _ _ h
theorem Tb.foot {S : Nat → Prop} (x : Tb w g p go T) (f : Foot S w w') (hS : ¬ S g) : Tb w' g p go T := by
  obtain ⟨C, h, c⟩ := x.box
  exact ⟨⟨C, (f.block g (lt_of_heap h) hS).trans h, c⟩, x.ok⟩
theorem Tb.grow (x : Tb w g p go T) (b : Below w.heap.size w w') : Tb w' g p go T := x.foot (below_foot (fun _ => False) b) id
theorem Tb.drewN (x : Tb w g p go T) (q : Nat) : Tb (w.drewN q) g p go T := ⟨x.box, x.ok⟩
/- a cell of an object is laid anew -/
theorem TbC.set {C : Array Value} (c : TbC C p go T) (k i : Nat) (hk : k < 64) (hi : i < 4) (v : Value) (y : Ob) (hy : ∀ f, f < 4 → y.cells[f]? = if f = i then some v else (T k).cells[f]?) : TbC (C.setIfInBounds (2 + k * 4 + i) v) p go (updO T k y) := by
  have hs := c.size
  have get := fun j => set_get C (2 + k * 4 + i) j v (by omega)
  refine ⟨by simp [hs], ?_, ?_, fun j f hj hf => ?_⟩
  · rw [get, if_neg (by omega)]; exact c.c0
  · rw [get, if_neg (by omega)]; exact c.c1
  · rw [get]
    by_cases e : j = k
    · subst e
      rw [updO_same, hy f hf]
      by_cases e2 : f = i
      · subst e2; rw [if_pos rfl, if_pos rfl]
      · rw [if_neg (by omega), if_neg e2]; exact c.c j f hj hf
    · rw [updO_other _ _ e, if_neg (by omega)]; exact c.c j f hj hf
theorem Tb.set (x : Tb w g p go T) (k i : Nat) (hk : k < 64) (hi : i < 4) (v : Value) (y : Ob) (ho : y.ok) (hy : ∀ f, f < 4 → y.cells[f]? = if f = i then some v else (T k).cells[f]?) : Tb (w.setCell ⟨g, 2 + k * 4 + i, none⟩ v) g p go (updO T k y) := by
  obtain ⟨C, h, c⟩ := x.box
  refine ⟨⟨_, heap_setCell_same w g (2 + k * 4 + i) _ _ v h, c.set k i hk hi v y hy⟩, fun j => ?_⟩
  by_cases e : j = k
  · subst e; rw [updO_same]; exact ho
  · rw [updO_other _ _ e]; exact x.ok j
/- an object is laid: four cells -/
def lay4 (w : World) (g k : Nat) (y : Ob) : World := (((w.setCell ⟨g, 2 + k * 4, none⟩ (.int .u64 (y.s : Int))).setCell ⟨g, 2 + k * 4 + 1, none⟩ (.int .i64 (y.e : Int))).setCell ⟨g, 2 + k * 4 + 2, none⟩ (.int .i64 y.v)).setCell ⟨g, 2 + k * 4 + 3, none⟩ (.int .i64 (y.l : Int))
theorem updO_updO (T : Nat → Ob) (k : Nat) (x y : Ob) : updO (updO T k x) k y = updO T k y := by
  funext j; unfold updO; split <;> rfl
theorem Tb.lay (x : Tb w g p go T) (k : Nat) (hk : k < 64) (y : Ob) (ho : y.ok) : Tb (lay4 w g k y) g p go (updO T k y) := by
  obtain ⟨s, e, v, l⟩ := y
  rcases hT : T k with ⟨s0, e0, v0, l0⟩
  have o0 := x.ok k
  rw [hT] at o0
  have h1 := x.set k 0 hk (by omega) (.int .u64 (s : Int)) ⟨s, e0, v0, l0⟩ ⟨ho.1, o0.2⟩ (fun f hf => by rw [hT]; match f, hf with | 0, _ | 1, _ | 2, _ | 3, _ => rfl)
  have h2 := h1.set k 1 hk (by omega) (.int .i64 (e : Int)) ⟨s, e, v0, l0⟩ ⟨ho.1, o0.2⟩ (fun f hf => by rw [updO_same]; match f, hf with | 0, _ | 1, _ | 2, _ | 3, _ => rfl)
  have h3 := h2.set k 2 hk (by omega) (.int .i64 v) ⟨s, e, v, l0⟩ ⟨ho.1, o0.2⟩ (fun f hf => by rw [updO_same]; match f, hf with | 0, _ | 1, _ | 2, _ | 3, _ => rfl)
  have h4 := h3.set k 3 hk (by omega) (.int .i64 (l : Int)) ⟨s, e, v, l⟩ ho (fun f hf => by rw [updO_same]; match f, hf with | 0, _ | 1, _ | 2, _ | 3, _ => rfl)
  simp only [updO_updO] at h4
  exact h4
theorem foot_lay4 (w : World) (g k : Nat) (y : Ob) : Foot (fun j => j = g) w (lay4 w g k y) := by
  unfold lay4
  have t : ∀ {a b : World}, Foot (fun j => j = g) a b → ∀ (o : Nat) (v : Value), Foot (fun j => j = g) a (b.setCell ⟨g, o, none⟩ v) := fun h o v => h.trans (foot_set _ ⟨g, o, none⟩ v) (fun _ e => .inl e)
  exact t (t (t (t (Foot.refl _ _) _ _) _ _) _ _) _ _
end
end Go.Proofs.YtlmnnjibggdboaaGreatDoor
namespace Go.Proofs.YtlmnnjibggdboaaGreatDoor
section
open Go.RowKit
variable {w w' : World} {g p go : Nat} {T : Nat → Ob}
set_option maxHeartbeats 800000 in
theorem has_any (k : Int) (w : World) (x : Tb w g p go T) (hk : -9223372036854775808 ≤ k ∧ k ≤ 9223372036854775807) :
    Calls Tryz.prog 51 #[.pointer (some ⟨g, 0, none⟩), .int .i64 k] w fun e w' => e = .returned (.bool (decide (0 ≤ k) && hasO T k.toNat)) ∧ w' = w := by
  have HX := hide x
  clear x
  by_cases h0 : 0 ≤ k
  · by_cases h1 : k < 64
    · obtain ⟨n, rfl⟩ : ∃ n : Nat, k = (n : Int) := ⟨k.toNat, by omega⟩
      rcases hT : T n with ⟨s, e, v, l⟩
      obtain ⟨k0, k1, k2, k3⟩ := HX.out.at n (by omega) s e v l hT
      have e1 : (decide (0 ≤ (n : Int)) && hasO T ((n : Int)).toNat) = decide (0 < l) := by
        unfold hasO
        rw [Int.toNat_natCast, hT, decide_eq_true h0, decide_eq_true (show n < 64 by omega)]; rfl
      rw [e1]
      have HT := hide hT
      clear hT e1 k0 k1 k2
      by_cases hl : 0 < l
      · have hl1 : (l : Int) > 0 := by omega
        rw [decide_eq_true hl]
        go_enter Tryz.func51, Tryz.ntmps51
        go_wp2
        go_ret
        exact ⟨rfl, rfl⟩
      · obtain rfl : l = 0 := by omega
        rw [decide_eq_false hl]
        go_enter Tryz.func51, Tryz.ntmps51
        go_wp2
        go_ret
        exact ⟨rfl, rfl⟩
    · have e1 : (decide (0 ≤ k) && hasO T k.toNat) = false := by
        unfold hasO
        rw [decide_eq_false (show ¬ k.toNat < 64 by omega)]; simp
      rw [e1]
      clear e1
      go_enter Tryz.func51, Tryz.ntmps51
      go_wp2
      go_ret
      exact ⟨rfl, rfl⟩
  · have e1 : (decide (0 ≤ k) && hasO T k.toNat) = false := by rw [decide_eq_false h0]; rfl
    rw [e1]
    clear e1
    go_enter Tryz.func51, Tryz.ntmps51
    go_wp2
    go_ret
    exact ⟨rfl, rfl⟩
set_option maxHeartbeats 800000 in
theorem oracle_any (w : World) (x : Tb w g p go T) :
    Calls Tryz.prog 30 #[.pointer (some ⟨g, 0, none⟩)] w fun e w' => e = .returned (.pointer (some ⟨go, 0, none⟩)) ∧ w' = w := by
  have k1 := x.c1
  clear x
  go_enter Tryz.func30, Tryz.ntmps30
  go_wp2
  go_ret
  exact ⟨rfl, rfl⟩
set_option maxHeartbeats 800000 in
theorem value_any (k : Int) (w : World) (x : Tb w g p go T) (hk : -9223372036854775808 ≤ k ∧ k ≤ 9223372036854775807) :
    Calls Tryz.prog 40 #[.pointer (some ⟨g, 0, none⟩), .int .i64 k] w fun e w' => e = .returned (.tuple #[.int .i64 (if (decide (0 ≤ k) && hasO T k.toNat) = true then (T k.toNat).v else 0), .bool (decide (0 ≤ k) && hasO T k.toNat)]) ∧ w' = w := by
  have HX := hide x
  clear x
  obtain ⟨b, hb⟩ : ∃ b, (decide (0 ≤ k) && hasO T k.toNat) = b := ⟨_, rfl⟩
  rw [hb]
  have HK := hide hk
  cases b with
  | false =>
    rw [if_neg Bool.false_ne_true]
    go_enter Tryz.func40, Tryz.ntmps40
    go_wp2_with fail
    refine (has_any k _ HX.out HK.out).mono ?_; rintro e w1 ⟨rfl, rfl⟩
    rw [hb]
    clear hb
    go_wp2
    go_ret2
    exact ⟨rfl, rfl⟩
  | true =>
    have hb2 := hb
    rw [Bool.and_eq_true] at hb2
    have h0 : 0 ≤ k := of_decide_eq_true hb2.1
    obtain ⟨n, rfl⟩ : ∃ n : Nat, k = (n : Int) := ⟨k.toNat, by omega⟩
    have h1 : n < 64 := (hasO_yes hb2.2).1
    rw [Int.toNat_natCast, if_pos rfl]
    rcases hT : T n with ⟨s, e, v, l⟩
    go_enter Tryz.func40, Tryz.ntmps40
    go_wp2_with fail
    refine (has_any n _ HX.out HK.out).mono ?_; rintro e1 w1 ⟨rfl, rfl⟩
    rw [hb]
    obtain ⟨k0, k1, k2, k3⟩ := HX.out.at n h1 s e v l hT
    clear hb hb2 hT hk
    have h2 : (n : Int) < 64 := by omega
    go_wp2
    go_ret2
    exact ⟨rfl, rfl⟩
set_option maxHeartbeats 800000 in
theorem end_any (k : Nat) (w : World) (x : Tb w g p go T) (hk : k < 64) :
    Calls Tryz.prog 60 #[.pointer (some ⟨g, 0, none⟩), .int .i64 (k : Int)] w fun e w' => e = .returned (.int .i64 (T k).v) ∧ Tb w' g p go (updO T k Ob.zero) ∧ Foot (fun j => j = g) w w' := by
  have HL := hide (x.lay k hk Ob.zero ⟨by show 0 ≤ _; omega, by show 0 ≤ _; omega⟩)
  have HF := hide (foot_lay4 w g k Ob.zero)
  obtain ⟨V, hV⟩ : ∃ V, lay4 w g k Ob.zero = V := ⟨_, rfl⟩
  rw [hV] at HL HF
  simp only [lay4, Ob.zero, Int.cast_ofNat_Int] at hV
  rcases hT : T k with ⟨s, e, v, l⟩
  obtain ⟨k0, k1, k2, k3⟩ := x.at k hk s e v l hT
  have z := x.z
  have h0 : (0 : Int) ≤ (k : Int) := by omega
  have h2 : (k : Int) < 64 := by omega
  clear x hT
  go_enter Tryz.func60, Tryz.ntmps60
  go_wp2
  go_ret
  exact ⟨rfl, HL.out, HF.out⟩
end
end Go.Proofs.YtlmnnjibggdboaaGreatDoor
namespace Go.Proofs.YtlmnnjibggdboaaGreatDoor
section
open Go.RowKit
structure Od (w0 w : World) (B g go m a h k p : Nat) (v : Value) (ws : List Nat) (t : Nat) (es : List Ent) (T : Nat → Ob) : Prop where
  tk : Tk w0 w B go m a h k v ws t es
  tb : Tb w g p go T
  new : w0.heap.size ≤ g
def OdS (g go m a : Nat) (v : Value) (j : Nat) : Prop := AskS go m a v j ∨ j = g
def OdEnd (w0 w : World) (B g go m a h k p : Nat) (v : Value) (ws : List Nat) (w' : World) (t : Nat) (es : List Ent) (T : Nat → Ob) : Prop :=
  ∃ v', Od w0 w' B g go m a h k p v' ws t es T ∧ Foot (OdS g go m a v) w w' ∧ ∀ r, v'.ownBlock = some r → v.ownBlock = some r ∨ w.heap.size ≤ r
variable {w0 w w1 w2 : World} {B g go m a h k p : Nat} {v v1 : Value} {ws : List Nat} {t t1 : Nat} {es es1 : List Ent} {T T1 : Nat → Ob}
theorem Od.drewN (x : Od w0 w B g go m a h k p v ws t es T) (q : Nat) : Od w0 (w.drewN q) B g go m a h k p v ws t es T := ⟨x.tk.drewN q, x.tb.drewN q, x.new⟩
theorem Od.grow (x : Od w0 w B g go m a h k p v ws t es T) (b : Below w.heap.size w w1) : Od w0 w1 B g go m a h k p v ws t es T := ⟨x.tk.grow b, x.tb.grow b, x.new⟩
/- a block of one type alone is none of the oracle's -/
theorem Tk.noAsk (S : Tk w0 w B go m a h k v ws t es) {b : Nat} {cs : Array Value} {ty : TypeId} (x : w.heap[b]? = some (.cells cs ty (0, 0))) (h1 : ty ≠ 79) (h2 : ty ≠ 83) (h3 : ty ≠ 179) : ¬ AskS go m a v b := by
  intro e
  obtain ⟨y, z, hm⟩ := S.orc.map.isMap
  rcases e with e | e | e | e
  · rw [e, S.orc.box] at x; cases x; exact h1 rfl
  · rw [e, hm] at x; cases x
  · rw [e, S.tape.box] at x; cases x; exact h2 rfl
  · obtain ⟨cur, hx, _⟩ := owns_block S.orc.row e; rw [hx] at x; cases x; exact h3 rfl
theorem Tk.noBlk (S : Tk w0 w B go m a h k v ws t es) {b : Nat} {cs : Array Value} {ty : TypeId} (x : w.heap[b]? = some (.cells cs ty (0, 0))) (h1 : ty ≠ 79) (h2 : ty ≠ 83) (h3 : ty ≠ 179) (h4 : ty ≠ 32) : b ≠ go ∧ b ≠ m ∧ b ≠ a ∧ b ≠ h ∧ v.ownBlock ≠ some b := by
  have n := S.noAsk x h1 h2 h3
  refine ⟨fun e => n (.inl e), fun e => n (.inr (.inl e)), fun e => n (.inr (.inr (.inl e))), fun e => ?_, fun e => n (.inr (.inr (.inr e)))⟩
  have hr : w.heap[h]? = some _ := S.tape.row
  rw [e, hr] at x
  cases x; exact h4 rfl
theorem Tb.blk (x : Tb w g p go T) : ∃ cs, w.heap[g]? = some (.cells cs 88 (0, 0)) := by
  obtain ⟨C, h, _⟩ := x.box; exact ⟨C, h⟩
theorem Od.noG (x : Od w0 w B g go m a h k p v ws t es T) : ¬ AskS go m a v g := by
  obtain ⟨C, hC⟩ := x.tb.blk
  exact x.tk.noAsk hC (by decide) (by decide) (by decide)
theorem Tk.far (S : Tk w0 w B go m a h k v ws t es) {b : Nat} (f : Foot (fun j => j = b) w w1) {cs : Array Value} {ty : TypeId} (x : w.heap[b]? = some (.cells cs ty (0, 0))) (h1 : ty ≠ 79) (h2 : ty ≠ 83) (h3 : ty ≠ 179) (h4 : ty ≠ 32) (hb : w0.heap.size ≤ b) : Tk w0 w1 B go m a h k v ws t es := by
  obtain ⟨n1, n2, n3, n4, n5⟩ := S.noBlk x h1 h2 h3 h4
  exact ⟨S.orc.foot f (fun e => n1 e.symm) (fun e => n2 e.symm) (fun r hr e => n5 (e ▸ hr)), S.tape.foot f (fun e => n3 e.symm) (fun e => n4 e.symm), ⟨S.new.b0, S.new.a0, S.new.h0, S.new.bel.trans (f.below S.new.bel.size fun j (e : j = b) => by omega), Nat.le_trans S.new.bs f.size⟩⟩
/- what an answer leaves -/
theorem Od.asked (x : Od w0 w B g go m a h k p v ws t es T) {X : Ans} (L : Left w0 w B go m a h k v ws w1 X) : OdEnd w0 w B g go m a h k p v ws w1 X.t X.es T := by
  obtain ⟨v', S, F, hv⟩ := L
  exact ⟨v', ⟨S, x.tb.foot F x.noG, x.new⟩, F.mono (fun _ e => .inl e), hv⟩
theorem Od.stay (x : Od w0 w B g go m a h k p v ws t es T) : OdEnd w0 w B g go m a h k p v ws w t es T := ⟨v, x, Foot.refl _ _, fun _ e => .inl e⟩
theorem OdEnd.from (x : OdEnd w0 w1 B g go m a h k p v ws w2 t es T) (b : Below w.heap.size w w1) : OdEnd w0 w B g go m a h k p v ws w2 t es T := by
  obtain ⟨v', S, F, hv⟩ := x
  refine ⟨v', S, (below_foot _ b).trans F (fun _ e => .inl e), fun r hr => ?_⟩
  rcases hv r hr with e | e
  · exact .inl e
  · exact .inr (Nat.le_trans b.size e)
theorem OdEnd.to (x : OdEnd w0 w B g go m a h k p v ws w1 t es T) (b : Below w1.heap.size w1 w2) : OdEnd w0 w B g go m a h k p v ws w2 t es T := by
  obtain ⟨v', S, F, hv⟩ := x
  exact ⟨v', S.grow b, F.trans (below_foot (OdS g go m a v) b) (fun _ e => .inl e), hv⟩
/- one deed behind the other -/
theorem OdEnd.on (F : Foot (OdS g go m a v) w w1) (hv : ∀ r, v1.ownBlock = some r → v.ownBlock = some r ∨ w.heap.size ≤ r) (x : OdEnd w0 w1 B g go m a h k p v1 ws w2 t es T) : OdEnd w0 w B g go m a h k p v ws w2 t es T := by
  obtain ⟨v2, S, F2, hv2⟩ := x
  refine ⟨v2, S, F.trans F2 (fun j e => ?_), fun r hr => ?_⟩
  · rcases e with (e | e | e | e) | e
    · exact .inl (.inl (.inl e))
    · exact .inl (.inl (.inr (.inl e)))
    · exact .inl (.inl (.inr (.inr (.inl e))))
    · rcases hv j e with e | e
      · exact .inl (.inl (.inr (.inr (.inr e))))
      · exact .inr e
    · exact .inl (.inr e)
  · rcases hv2 r hr with e | e
    · exact hv r e
    · exact .inr (Nat.le_trans F.size e)
/- the table's own block turns -/
theorem Od.turn (x : Od w0 w B g go m a h k p v ws t es T) (y : Tb w1 g p go T1) (f : Foot (fun j => j = g) w w1) : OdEnd w0 w B g go m a h k p v ws w1 t es T1 := by
  obtain ⟨C, hC⟩ := x.tb.blk
  exact ⟨v, ⟨x.tk.far f hC (by decide) (by decide) (by decide) (by decide) x.new, y, x.new⟩, f.mono (fun _ e => .inr e), fun _ e => .inl e⟩
/- a new variable of a capability turns -/
theorem OdEnd.cap (x : OdEnd w0 w B g go m a h k p v ws w1 t es T) {b : Nat} (C : CapB w1 b) (hw : w0.heap.size ≤ w.heap.size) (hb : w.heap.size ≤ b) (f : Foot (fun j => j = b) w1 w2) : OdEnd w0 w B g go m a h k p v ws w2 t es T := by
  obtain ⟨v', S, F, hv⟩ := x
  obtain ⟨cs, hc⟩ := C
  have ng : ¬ g = b := fun e => by
    obtain ⟨C, hC⟩ := S.tb.blk
    rw [e, hc] at hC; cases hC
  exact ⟨v', ⟨S.tk.far f hc (by decide) (by decide) (by decide) (by decide) (Nat.le_trans hw hb), S.tb.foot f ng, S.new⟩, F.trans f (fun j (e : j = b) => .inr (by omega)), hv⟩
theorem CBox.od {b p0 o r c : Nat} (x : CBox w b p0 o r c) (S : Od w0 w B g go m a h k p v ws t es T) (F : Foot (OdS g go m a v) w w1) : CBox w1 b p0 o r c := by
  refine x.foot F fun e => ?_
  rcases e with e | e
  · exact S.tk.noAsk x (by decide) (by decide) (by decide) e
  · obtain ⟨C, hC⟩ := S.tb.blk
    unfold CBox at x
    rw [e, hC] at x; cases x
theorem foot4 (w : World) (b : Nat) (x0 x1 x2 x3 : Value) : Foot (fun j => j = b) w ((((w.setCell ⟨b, 0, none⟩ x0).setCell ⟨b, 1, none⟩ x1).setCell ⟨b, 2, none⟩ x2).setCell ⟨b, 3, none⟩ x3) := by
  have t : ∀ {a c : World}, Foot (fun j => j = b) a c → ∀ (o : Nat) (v : Value), Foot (fun j => j = b) a (c.setCell ⟨b, o, none⟩ v) := fun h o v => h.trans (foot_set _ ⟨b, o, none⟩ v) (fun _ e => .inl e)
  exact t (t (t (t (Foot.refl _ _) _ _) _ _) _ _) _ _
theorem size_al (w : World) (o : Obj) : (w.alloc o).heap.size = w.heap.size + 1 := by simp
set_option maxHeartbeats 1600000 in
theorem cap_any (i r : Nat) (w : World) (x : Od w0 w B g go m a h k p v ws t es T) (hi : i < 64) (hr : r ≤ 255) (hl : es.length ≤ 5000000000000) (X : Ans) (hX : ofF ws t es (T i).s r = X) :
    Calls Tryz.prog 32 #[.pointer (some ⟨g, 0, none⟩), .int .i64 (i : Int), .int .u8 (r : Int)] w fun e w' => e = .returned (.tuple #[(cabF p i r X).val, erV X.ok]) ∧ OdEnd w0 w B g go m a h k p v ws w' X.t X.es T := by
  rcases hT : T i with ⟨s, ep, vl, l⟩
  rw [hT] at hX
  have hs : s ≤ 281474976710655 := by have := (x.tb.ok i).1; rw [hT] at this; exact this
  obtain ⟨Y, hY⟩ : ∃ Y, w.alloc (.cells #[.int .u64 0, .int .u32 0, .int .u8 0, .int .u64 0] 40) = Y := ⟨_, rfl⟩
  have bY : Below w.heap.size w Y := hY ▸ below_alloc w _
  have xY := x.grow bY
  have cY : CBox Y w.heap.size 0 0 0 0 := hY ▸ CBox.new w 0 0 0 0
  have HX := hide hX
  have HK := hide (xY.drewN 1)
  have HC := hide (cY.drewN 1)
  have HB := hide bY
  have HW := hide x.tk.new.bel.size
  have HS := hide hs
  have HR := hide hr
  have HL := hide hl
  have HI := hide hi
  have HT := hide hT
  have k0 := (xY.tb.at i hi s ep vl l hT).1
  have hi2 : (i : Int) < 64 := by omega
  clear hX x xY cY bY hs hr hl hT
  obtain ⟨y, ok, t', es'⟩ := X
  go_enter Tryz.func32, Tryz.ntmps32
  go_wp2_with fail
  go_region_held (fun W => W.cell? ⟨g, 2 + i * 4, none⟩ = some (.int .u64 (s : Int))) (exact (HK.out.tb.at i HI.out s ep vl l HT.out).1) (first
    | (go_at_call 30; refine (oracle_any _ HK.out.tb).mono ?_; rintro e wx ⟨rfl, rfl⟩)
    | (go_at_call 46; refine (tof_any w0 B go m a h k v ws t es s r _ HK.out.tk (by have := HS.out; omega) HR.out HL.out).mono ?_; rintro e wx ⟨rfl, L⟩; rw [HX.out] at L ⊢; have HE := hide (HK.out.asked L); have HCX := hide (HC.out.ask HK.out.tk L.choose_spec.2.1); clear L; have HK := hide HE.out.choose_spec.1))
  have d0 : wx.cell? ⟨w.heap.size, 0, none⟩ = some (.int .u64 0) := HCX.out.c0
  have d1 : wx.cell? ⟨w.heap.size, 1, none⟩ = some (.int .u32 0) := HCX.out.c1
  have d2 : wx.cell? ⟨w.heap.size, 2, none⟩ = some (.int .u8 0) := HCX.out.c2
  have d3 : wx.cell? ⟨w.heap.size, 3, none⟩ = some (.int .u64 0) := HCX.out.c3
  have z := HCX.out.z
  have p0 := HK.out.tb.c0
  have HEE : Hid (OdEnd w0 w B g go m a h k p v ws wx t' es' T) := HE.out.from (below_drewN HB.out 1)
  have hi3 : (0 : Int) ≤ (i : Int) := by omega
  have hi4 : (i : Int) ≤ 4294967295 := by omega
  clear k0 HK HE HC HX HS HB
  cases ok <;> simp only [erV]
  · go_wp2
    refine bodyPost_ret (by simp [results, Tryz.results32, go_sem, d0, d1, d2, d3]; rfl) rfl ?_
    exact ⟨rfl, HEE.out.cap HCX.out.capB HW.out (Nat.le_refl _) (foot4 _ _ _ _ _ _)⟩
  · go_wp2
    refine bodyPost_ret (by simp [results, Tryz.results32, go_sem, d0, d1, d2, d3]; rfl) rfl ?_
    exact ⟨rfl, HEE.out.cap HCX.out.capB HW.out (Nat.le_refl _) (foot4 _ _ _ _ _ _)⟩
end
end Go.Proofs.YtlmnnjibggdboaaGreatDoor
namespace Go.Proofs.YtlmnnjibggdboaaGreatDoor
section
open Go.RowKit
variable {w0 w w1 w2 : World} {B g go m a h k p : Nat} {v v1 : Value} {ws : List Nat} {t t1 : Nat} {es es1 : List Ent} {T T1 : Nat → Ob}
set_option maxHeartbeats 1600000 in
theorem check_port (c : Cp) (need : Nat) (w : World) (x : Od w0 w B g go m a h k p v ws t es T) (hc : c.ok) (hn : c.p ≠ p) :
    Calls Tryz.prog 34 #[.pointer (some ⟨g, 0, none⟩), c.val, .int .u8 (need : Int)] w fun e w' => e = .returned (.tuple #[.int .i64 0, erN 1]) ∧ Below w.heap.size w w' := by
  obtain ⟨cp, co, cr, cc⟩ := c
  obtain ⟨Y, hY⟩ : ∃ Y, w.alloc (.cells #[.int .u64 (cp : Int), .int .u32 (co : Int), .int .u8 (cr : Int), .int .u64 (cc : Int)] 40) = Y := ⟨_, rfl⟩
  have bY : Below w.heap.size w Y := hY ▸ below_alloc w _
  have xY := x.grow bY
  have cY : CBox Y w.heap.size cp co cr cc := hY ▸ CBox.new w cp co cr cc
  have k0 := cY.c0
  have k1 := cY.c1
  have p0 := xY.tb.c0
  have HO := hide hc.2.1
  have hne : ¬ (cp : Int) = (p : Int) := by have : cp ≠ p := hn; omega
  have hnb : ((cp : Int) != (p : Int)) = true := by simpa using hne
  have hu : undef = Value.tuple #[] := rfl
  have hco : (co : Int) ≤ 4294967295 := by have : co ≤ 4294967295 := hc.2.1; omega
  have hco0 : (0 : Int) ≤ co := by omega
  have HB := hide bY
  rw [erN_not (by omega : (1 : Int) ≠ 0)]
  clear x xY cY hc hn bY
  simp only [Cp.val]
  go_enter Tryz.func34, Tryz.ntmps34
  go_wp2_with fail
  first | (go_region_with (fail)) | fail
  all_goals (go_wp2; go_ret2; exact ⟨rfl, below_drewN HB.out 1⟩)
set_option maxHeartbeats 1600000 in
theorem check_none (c : Cp) (need : Nat) (w : World) (x : Od w0 w B g go m a h k p v ws t es T) (hc : c.ok) (hp : c.p = p) (hn : hasO T c.o = false) :
    Calls Tryz.prog 34 #[.pointer (some ⟨g, 0, none⟩), c.val, .int .u8 (need : Int)] w fun e w' => e = .returned (.tuple #[.int .i64 0, erN 1]) ∧ Below w.heap.size w w' := by
  obtain ⟨cp, co, cr, cc⟩ := c
  obtain rfl : cp = p := hp
  obtain ⟨Y, hY⟩ : ∃ Y, w.alloc (.cells #[.int .u64 (cp : Int), .int .u32 (co : Int), .int .u8 (cr : Int), .int .u64 (cc : Int)] 40) = Y := ⟨_, rfl⟩
  have bY : Below w.heap.size w Y := hY ▸ below_alloc w _
  have xY := x.grow bY
  have cY : CBox Y w.heap.size cp co cr cc := hY ▸ CBox.new w cp co cr cc
  have k1 := cY.c1
  have HK := hide (xY.drewN 1)
  have HC := hide (cY.drewN 1)
  have HO := hide hc.2.1
  have hco : (co : Int) ≤ 4294967295 := by have : co ≤ 4294967295 := hc.2.1; omega
  have hco0 : (0 : Int) ≤ co := by omega
  have hbool : (decide ((0 : Int) ≤ (co : Int)) && hasO T ((co : Int)).toNat) = false := by rw [Int.toNat_natCast, hn]; simp
  have HN := hide hbool
  have HB := hide bY
  have hu : undef = Value.tuple #[] := rfl
  rw [erN_not (by omega : (1 : Int) ≠ 0)]
  clear x xY cY hc hn bY hbool
  simp only [Cp.val]
  go_enter Tryz.func34, Tryz.ntmps34
  go_wp2_with fail
  go_region_held (fun W => W.cell? ⟨w.heap.size, 0, none⟩ = some (.int .u64 (cp : Int)) ∧ W.cell? ⟨g, 0, none⟩ = some (.int .u64 (cp : Int))) (exact ⟨HC.out.c0, HK.out.tb.c0⟩) (first
    | (go_at_call 51; refine (has_any co _ HK.out.tb (by omega)).mono ?_; rintro e wx ⟨rfl, rfl⟩; rw [HN.out]))
  all_goals (go_wp2; go_ret2; exact ⟨rfl, below_drewN HB.out 1⟩)
theorem and_nat (r n : Nat) (hr : r ≤ 255) (hn : n ≤ 255) : bits .and .u8 (r : Int) (n : Int) = ((r &&& n : Nat) : Int) := by
  have h : ∀ (a b : Fin 256), bits .and .u8 ((a.val : Nat) : Int) ((b.val : Nat) : Int) = ((a.val &&& b.val : Nat) : Int) := by
    intro a b
    have e1 : IntKind.u8.bits = 8 := rfl
    have e2 : IntKind.u8.signed = false := rfl
    have ha := a.isLt
    have hb := b.isLt
    have hab : a.val &&& b.val < 2 ^ 8 := Nat.and_lt_two_pow _ (by omega)
    simp [bits, IntKind.wrap, e1, e2, Nat.mod_eq_of_lt ha, Nat.mod_eq_of_lt hb]
    omega
  exact h ⟨r, by omega⟩ ⟨n, by omega⟩
set_option maxHeartbeats 3200000 in
theorem check_has (c : Cp) (need : Nat) (w : World) (x : Od w0 w B g go m a h k p v ws t es T) (hc : c.ok) (hp : c.p = p) (hn : hasO T c.o = true) (hnd : need ≤ 255) (hl : es.length ≤ 5000000000000) (X : Ans) (hX : ofF ws t es (T c.o).s c.r = X) :
    Calls Tryz.prog 34 #[.pointer (some ⟨g, 0, none⟩), c.val, .int .u8 (need : Int)] w fun e w' => e = .returned (.tuple #[.int .i64 (if X.ok = true ∧ c.c = X.x ∧ c.r &&& need = need then (c.o : Int) else 0), erN (if X.ok = false then 7 else if c.c ≠ X.x then 1 else if c.r &&& need ≠ need then 2 else 0)]) ∧ OdEnd w0 w B g go m a h k p v ws w' X.t X.es T := by
  obtain ⟨cp, co, cr, cc⟩ := c
  obtain rfl : cp = p := hp
  have hX' : ofF ws t es (T co).s cr = X := hX
  rcases hT : T co with ⟨s, ep, vl, l⟩
  rw [hT] at hX'
  have hs : s ≤ 281474976710655 := by have := (x.tb.ok co).1; rw [hT] at this; exact this
  obtain ⟨Y, hY⟩ : ∃ Y, w.alloc (.cells #[.int .u64 (cp : Int), .int .u32 (co : Int), .int .u8 (cr : Int), .int .u64 (cc : Int)] 40) = Y := ⟨_, rfl⟩
  have bY : Below w.heap.size w Y := hY ▸ below_alloc w _
  have xY := x.grow bY
  have cY : CBox Y w.heap.size cp co cr cc := hY ▸ CBox.new w cp co cr cc
  have k1 := cY.c1
  have HK := hide (xY.drewN 1)
  have HK2 := hide (xY.drewN 2)
  have HC := hide (cY.drewN 1)
  have HC2 := hide (cY.drewN 2)
  have HX := hide hX'
  have HS := hide hs
  have HT := hide hT
  have HL := hide hl
  have HR := hide hc.2.2.1
  have HND := hide hnd
  have HI := hide (hasO_yes hn).1
  have hco : (co : Int) ≤ 4294967295 := by have : co ≤ 4294967295 := hc.2.1; omega
  have hco0 : (0 : Int) ≤ co := by omega
  have hco1 : (co : Int) < 64 := by have : co < 64 := (hasO_yes hn).1; omega
  have hbool : (decide ((0 : Int) ≤ (co : Int)) && hasO T ((co : Int)).toNat) = true := by rw [Int.toNat_natCast, hn]; simp
  have HN := hide hbool
  have HB := hide bY
  have hand := and_nat cr need hc.2.2.1 hnd
  have hu : undef = Value.tuple #[] := rfl
  clear x xY cY hc hn bY hbool hX hX' hT hs hl
  simp only [Cp.val]
  obtain ⟨y, ok, t', es'⟩ := X
  obtain ⟨R, hR⟩ : ∃ R : Int, (if ok = true ∧ cc = y ∧ cr &&& need = need then (co : Int) else 0) = R := ⟨_, rfl⟩
  obtain ⟨E, hE⟩ : ∃ E : Value, erN (if ok = false then 7 else if cc ≠ y then 1 else if cr &&& need ≠ need then 2 else 0) = E := ⟨_, rfl⟩
  rw [show (if (Ans.mk y ok t' es').ok = true ∧ cc = (Ans.mk y ok t' es').x ∧ cr &&& need = need then (co : Int) else 0) = R from hR, show erN (if (Ans.mk y ok t' es').ok = false then 7 else if cc ≠ (Ans.mk y ok t' es').x then 1 else if cr &&& need ≠ need then 2 else 0) = E from hE]
  have HRR := hide hR
  have HER := hide hE
  clear hR hE
  go_enter Tryz.func34, Tryz.ntmps34
  go_wp2_with fail
  go_region_held (fun W => W.cell? ⟨w.heap.size, 0, none⟩ = some (.int .u64 (cp : Int)) ∧ W.cell? ⟨g, 0, none⟩ = some (.int .u64 (cp : Int))) (exact ⟨HC.out.c0, HK.out.tb.c0⟩) (first
    | (go_at_call 51; refine (has_any co _ HK.out.tb (by omega)).mono ?_; rintro e wx ⟨rfl, rfl⟩; rw [HN.out]))
  go_wp2_with fail
  go_region_held (fun W => W.cell? ⟨g, 2 + co * 4, none⟩ = some (.int .u64 (s : Int)) ∧ W.cell? ⟨w.heap.size, 0, none⟩ = some (.int .u64 (cp : Int)) ∧ W.cell? ⟨w.heap.size, 1, none⟩ = some (.int .u32 (co : Int)) ∧ W.cell? ⟨w.heap.size, 2, none⟩ = some (.int .u8 (cr : Int)) ∧ W.cell? ⟨w.heap.size, 3, none⟩ = some (.int .u64 (cc : Int))) (exact ⟨(HK2.out.tb.at co HI.out s ep vl l HT.out).1, HC2.out.c0, HC2.out.c1, HC2.out.c2, HC2.out.c3⟩) (first
    | (go_at_call 30; refine (oracle_any _ HK2.out.tb).mono ?_; rintro e wx ⟨rfl, rfl⟩)
    | (go_at_call 52; refine (tgood_any w0 B go m a h k v ws t es s cp co cr cc _ HK2.out.tk (by have := HS.out; omega) HR.out HL.out).mono ?_; rintro e wx ⟨rfl, L⟩; rw [HX.out] at L ⊢; have HE := hide (HK2.out.asked L); have HC2 := hide (HC2.out.ask HK2.out.tk L.choose_spec.2.1); clear L; have HK2 := hide HE.out.choose_spec.1))
  have HEE : Hid (OdEnd w0 w B g go m a h k cp v ws wx t' es' T) := HE.out.from (below_drewN HB.out 2)
  have k2 := HC2.out.c2
  clear HE HK HK2 HC HX HT HN HB
  cases ok with
  | false =>
    have e1 : R = 0 := by rw [← HRR.out]; exact if_neg (fun e => by cases e.1)
    have e2 : E = .iface 47 (.int .i64 7) := by rw [← HER.out]; rfl
    subst e1 e2
    simp only [erV, goodF, Bool.false_and]
    go_wp2
    go_ret2
    exact ⟨rfl, HEE.out⟩
  | true =>
    by_cases hcx : cc = y
    · rw [show goodF ⟨y, true, t', es'⟩ cc = true by simp [goodF, hcx]]
      by_cases hr : cr &&& need = need
      · have e1 : R = (co : Int) := by rw [← HRR.out]; exact if_pos ⟨rfl, hcx, hr⟩
        have e2 : E = .nilIface := by rw [← HER.out, if_neg (by simp), if_neg (fun e => e hcx), if_neg (fun e => e hr)]; rfl
        subst e1 e2
        rw [hr] at hand
        simp only [erV]
        go_wp2
        go_ret2
        exact ⟨rfl, HEE.out⟩
      · have e1 : R = 0 := by rw [← HRR.out]; exact if_neg (fun e => hr e.2.2)
        have e2 : E = .iface 47 (.int .i64 2) := by rw [← HER.out, if_neg (by simp), if_neg (fun e => e hcx), if_pos hr]; rfl
        subst e1 e2
        have hr1 : ¬ ((cr &&& need : Nat) : Int) = (need : Int) := by omega
        simp only [erV]
        go_wp2
        go_ret2
        exact ⟨rfl, HEE.out⟩
    · rw [show goodF ⟨y, true, t', es'⟩ cc = false by simp [goodF, hcx]]
      have e1 : R = 0 := by rw [← HRR.out]; exact if_neg (fun e => hcx e.2.1)
      have e2 : E = .iface 47 (.int .i64 1) := by rw [← HER.out, if_neg (by simp), if_pos hcx]; rfl
      subst e1 e2
      simp only [erV]
      go_wp2
      go_ret2
      exact ⟨rfl, HEE.out⟩
end
end Go.Proofs.YtlmnnjibggdboaaGreatDoor
namespace Go.Proofs.YtlmnnjibggdboaaGreatDoor
section
open Go.RowKit
variable {w0 w w1 w2 : World} {B g go m a h k p : Nat} {v v1 : Value} {ws : List Nat} {t t1 : Nat} {es es1 : List Ent} {T T1 : Nat → Ob}
theorem check_any (c : Cp) (need : Nat) (w : World) (x : Od w0 w B g go m a h k p v ws t es T) (hc : c.ok) (hnd : need ≤ 255) (hl : es.length ≤ 5000000000000) (R : Chk) (hR : chkF ws t es p T c need = R) :
    Calls Tryz.prog 34 #[.pointer (some ⟨g, 0, none⟩), c.val, .int .u8 (need : Int)] w fun e w' => e = .returned (.tuple #[.int .i64 (R.k : Int), erN (R.e : Int)]) ∧ OdEnd w0 w B g go m a h k p v ws w' R.t R.es T := by
  subst hR
  by_cases hp : c.p = p
  · cases hn : hasO T c.o with
    | false =>
      have e : chkF ws t es p T c need = ⟨0, 1, t, es⟩ := by unfold chkF; rw [if_pos (.inr hn)]
      rw [e]
      refine (check_none c need w x hc hp hn).mono ?_
      rintro e w1 ⟨rfl, b⟩
      exact ⟨rfl, x.stay.to b⟩
    | true =>
      refine (check_has c need w x hc hp hn hnd hl _ rfl).mono ?_
      rintro e w1 ⟨rfl, E⟩
      unfold chkF
      rw [if_neg (show ¬ (c.p ≠ p ∨ hasO T c.o = false) from fun e => by
        rcases e with e | e
        · exact e hp
        · rw [hn] at e; cases e)]
      obtain ⟨X, hX⟩ : ∃ X, ofF ws t es (T c.o).s c.r = X := ⟨_, rfl⟩
      rw [hX] at E ⊢
      obtain ⟨y, ok, t', es'⟩ := X
      cases ok with
      | false => exact ⟨by simp, E⟩
      | true =>
        by_cases hcx : c.c = y
        · by_cases hr : c.r &&& need = need
          · simp [hcx, hr]; exact E
          · simp [hcx, hr]; exact E
        · simp [hcx]; exact E
  · have e : chkF ws t es p T c need = ⟨0, 1, t, es⟩ := by unfold chkF; rw [if_pos (.inl hp)]
    rw [e]
    refine (check_port c need w x hc hp).mono ?_
    rintro e w1 ⟨rfl, b⟩
    exact ⟨rfl, x.stay.to b⟩
end
end Go.Proofs.YtlmnnjibggdboaaGreatDoor
namespace Go.Proofs.YtlmnnjibggdboaaGreatDoor
section
open Go.RowKit
variable {w w' : World} {g p go : Nat} {T : Nat → Ob}
/- the lowest number that no object has; 64, if there is none -/
def freeO (T : Nat → Ob) : Nat := (List.range 64).findIdx fun k => decide ((T k).l = 0)
theorem freeO_le (T : Nat → Ob) : freeO T ≤ 64 := by
  have := List.findIdx_le_length (xs := List.range 64) (p := fun k => decide ((T k).l = 0))
  rw [List.length_range] at this
  exact this
theorem freeO_before {T : Nat → Ob} {j : Nat} (h : j < freeO T) : (T j).l ≠ 0 := by
  have h64 : j < 64 := Nat.lt_of_lt_of_le h (freeO_le T)
  have := List.not_of_lt_findIdx h
  simpa using this
theorem freeO_is {T : Nat → Ob} (h : freeO T < 64) : (T (freeO T)).l = 0 := by
  have h1 : freeO T < (List.range 64).length := by rw [List.length_range]; exact h
  have := List.findIdx_getElem (xs := List.range 64) (p := fun k => decide ((T k).l = 0)) (w := h1)
  have e := List.getElem_range (n := 64) (h := h1)
  have this := of_decide_eq_true this
  unfold freeO at e ⊢
  rw [e] at this
  exact this
theorem freeO_eq {T : Nat → Ob} {k : Nat} (hk : k < 64) (h0 : (T k).l = 0) (hn : ∀ j, j < k → (T j).l ≠ 0) : freeO T = k := by
  have h1 : ¬ k < freeO T := fun e => freeO_before e h0
  have h2 : ¬ freeO T < k := fun e => hn _ e (freeO_is (by omega))
  omega
theorem freeO_none {T : Nat → Ob} (hn : ∀ j, j < 64 → (T j).l ≠ 0) : freeO T = 64 := by
  have h1 := freeO_le T
  have h2 : ¬ freeO T < 64 := fun e => hn _ e (freeO_is e)
  omega
def freeI (T : Nat → Ob) : Int := if freeO T < 64 then (freeO T : Int) else -1
set_option maxHeartbeats 800000 in
theorem ask_free (x : Ob) (w : World) :
    Calls Tryz.prog 29 #[.agg #[.int .u64 (x.s : Int), .int .i64 (x.e : Int), .int .i64 x.v, .int .i64 (x.l : Int)]] w fun e w' => e = .returned (.bool (decide (x.l = 0))) ∧ Below w.heap.size w w' := by
  obtain ⟨s, ep, v, l⟩ := x
  by_cases h : l = 0
  · subst h
    rw [decide_eq_true rfl]
    go_enter Tryz.func29, Tryz.ntmps29
    go_wp2
    go_ret
    exact ⟨rfl, below_alloc _ _⟩
  · have hl : ((l : Int) == 0) = false := by simpa using h
    rw [decide_eq_false h]
    clear h
    go_enter Tryz.func29, Tryz.ntmps29
    go_wp2
    go_ret
    exact ⟨rfl, below_alloc _ _⟩
def FreeRel (w : World) (T : Nat → Ob) (gk : Nat) (vi : Value) (wr : World) : Prop := ∃ i : Nat, i + gk = 64 ∧ vi = .int .i64 (i : Int) ∧ (∀ j, j < i → (T j).l ≠ 0) ∧ Below w.heap.size w wr
set_option maxRecDepth 20000 in
set_option maxHeartbeats 1600000 in
theorem index_any (w : World) (x : Tb w g p go T) :
    Calls Tryz.prog 28 #[.slice (some ⟨g, 2, none⟩) 64 64, .func (.func 29) #[] #[]] w fun e w' => e = .returned (.int .i64 (freeI T)) ∧ Below w.heap.size w w' := by
  have HX := hide x
  obtain ⟨R, hR⟩ : ∃ R, freeI T = R := ⟨_, rfl⟩
  have HR := hide hR
  rw [hR]
  clear x hR
  go_enter Tryz.func28, Tryz.ntmps28
  go_wp2
  go_loopg [8] 64 (fun gk vi wr => FreeRel w T gk vi wr)
  case atStart => exact ⟨0, by omega, rfl, fun j hj => by omega, Below.refl _ _⟩
  case round =>
    obtain ⟨i, hi, rfl, hno, b⟩ := hrel
    have HN := hide hno
    have HB := hide b
    clear hno b
    cases gk with
    | zero =>
      obtain rfl : i = 64 := by omega
      have e : R = -1 := by rw [← HR.out]; unfold freeI; rw [if_neg (by rw [freeO_none HN.out]; omega)]
      subst e
      go_wp2
      go_ret
      exact ⟨rfl, HB.out⟩
    | succ g1 =>
      have hin : i < 64 := by omega
      have hlt : (i : Int) < 64 := by omega
      rcases hT : T i with ⟨s, ep, v, l⟩
      obtain ⟨k0, k1, k2, k3⟩ := (HX.out.grow HB.out).at i hin s ep v l hT
      have HT := hide hT
      clear hT
      go_wp2_with fail
      refine (ask_free ⟨s, ep, v, l⟩ _).mono ?_; rintro e w1 ⟨rfl, b1⟩
      obtain ⟨r, hr⟩ : ∃ r, decide (l = 0) = r := ⟨_, rfl⟩
      have HRR := hide hr
      rw [show decide ((Ob.mk s ep v l).l = 0) = r from hr]
      have HB1 := hide (below_one HB.out b1)
      clear b1 hr
      cases r with
      | true =>
        have e : R = (i : Int) := by
          have h0 : (T i).l = 0 := by rw [HT.out]; exact of_decide_eq_true HRR.out
          rw [← HR.out]; unfold freeI; rw [freeO_eq hin h0 HN.out, if_pos hin]
        subst e
        go_wp2
        go_ret
        exact ⟨rfl, HB1.out⟩
      | false =>
        go_wp2
        go_roundg g1
        case measure => omega
        case rel =>
          refine ⟨i + 1, by omega, by go_num, fun j hj => ?_, HB1.out⟩
          by_cases e : j = i
          · rw [e, HT.out]; exact of_decide_eq_false HRR.out
          · exact HN.out j (by omega)
end
end Go.Proofs.YtlmnnjibggdboaaGreatDoor
namespace Go.Proofs.YtlmnnjibggdboaaGreatDoor
section
open Go.RowKit
variable {w0 w w1 w2 : World} {B g go m a h k p : Nat} {v v1 : Value} {ws : List Nat} {t t1 : Nat} {es es1 : List Ent} {T T1 : Nat → Ob}
/- a draw -/
def drwF (ws : List Nat) (t : Nat) (es : List Ent) : Ans := if t < ws.length then ⟨ws.getD t 0, true, t + 1, es⟩ else ⟨0, false, t, es⟩
theorem draw_ans (w : World) (S : Tk w0 w B go m a h k v ws t es) :
    Calls Tryz.prog 31 #[.pointer (some ⟨go, 0, none⟩)] w fun e w' => e = .returned (.tuple #[.int .u64 ((drwF ws t es).x : Nat), erV (drwF ws t es).ok]) ∧ Left w0 w B go m a h k v ws w' (drwF ws t es) := by
  rcases Nat.lt_or_ge t ws.length with ht | ht
  · have e : drwF ws t es = ⟨ws.getD t 0, true, t + 1, es⟩ := if_pos ht
    rw [e]
    refine (odraw_yes go m B a h t k _ v es ws w S.orc S.tape ht rfl).mono ?_
    rintro e w' ⟨rfl, T1, t1⟩
    have F : Foot (AskS go m a v) w w' := t1.foot.mono (fun j e => .inr (.inr (.inl e)))
    obtain ⟨o1, o2⟩ := S.tape.off S.orc
    exact ⟨rfl, v, ⟨S.orc.foot t1.foot (fun e => o1.1 e.symm) (fun e => o1.2.1 e.symm) (fun r hr e => o1.2.2 (e ▸ hr)), T1, S.new.step S.orc F⟩, F, fun _ h => .inl h⟩
  · have e : drwF ws t es = ⟨0, false, t, es⟩ := if_neg (by omega)
    rw [e]
    have e2 : t = ws.length := by have := S.tape.some; omega
    subst e2
    refine (odraw_end go m B a h k v es ws w S.orc S.tape).mono ?_
    rintro e w' ⟨rfl, r, rfl⟩
    exact ⟨rfl, v, S.drewN r, foot_drewN _ _ _, fun _ h => .inl h⟩
/- what Create answers: the capability, the error, what is there behind it -/
structure Cre where
  c : Cp
  e : Nat
  t : Nat
  es : List Ent
  T : Nat → Ob
def creF (ws : List Nat) (t : Nat) (es : List Ent) (p : Nat) (T : Nat → Ob) (v : Int) : Cre :=
  if freeO T < 64 then
    if t < ws.length then ⟨⟨p, freeO T, 255, ws.getD t 0⟩, 0, t + 1, es, updO T (freeO T) ⟨ws.getD t 0, 0, v, 24⟩⟩
    else ⟨Cp.zero, 7, t, es, T⟩
  else ⟨Cp.zero, 5, t, es, T⟩
/- what Restrict answers -/
def resF (ws : List Nat) (t : Nat) (es : List Ent) (p : Nat) (T : Nat → Ob) (c : Cp) (mask : Nat) : Cre :=
  if (chkF ws t es p T c 0).e = 0 then
    ⟨cabF p (chkF ws t es p T c 0).k (c.r &&& mask) (ofF ws (chkF ws t es p T c 0).t (chkF ws t es p T c 0).es (T (chkF ws t es p T c 0).k).s (c.r &&& mask)),
      if (ofF ws (chkF ws t es p T c 0).t (chkF ws t es p T c 0).es (T (chkF ws t es p T c 0).k).s (c.r &&& mask)).ok then 0 else 7,
      (ofF ws (chkF ws t es p T c 0).t (chkF ws t es p T c 0).es (T (chkF ws t es p T c 0).k).s (c.r &&& mask)).t,
      (ofF ws (chkF ws t es p T c 0).t (chkF ws t es p T c 0).es (T (chkF ws t es p T c 0).k).s (c.r &&& mask)).es, T⟩
  else ⟨Cp.zero, (chkF ws t es p T c 0).e, (chkF ws t es p T c 0).t, (chkF ws t es p T c 0).es, T⟩
/- what Revoke answers -/
def revO (x : Ob) (s : Nat) : Ob := ⟨s, x.e + 1, x.v, x.l⟩
def revF (ws : List Nat) (t : Nat) (es : List Ent) (p : Nat) (T : Nat → Ob) (c : Cp) : Cre :=
  if (chkF ws t es p T c 255).e = 0 then
    if (chkF ws t es p T c 255).t < ws.length then
      ⟨⟨p, (chkF ws t es p T c 255).k, 255, ws.getD (chkF ws t es p T c 255).t 0⟩, 0, (chkF ws t es p T c 255).t + 1, (chkF ws t es p T c 255).es,
        updO T (chkF ws t es p T c 255).k (revO (T (chkF ws t es p T c 255).k) (ws.getD (chkF ws t es p T c 255).t 0))⟩
    else ⟨Cp.zero, 7, (chkF ws t es p T c 255).t, (chkF ws t es p T c 255).es, T⟩
  else ⟨Cp.zero, (chkF ws t es p T c 255).e, (chkF ws t es p T c 255).t, (chkF ws t es p T c 255).es, T⟩
theorem chk_has {c : Cp} {need : Nat} (h0 : (chkF ws t es p T c need).e = 0) : hasO T c.o = true ∧ c.p = p ∧ (chkF ws t es p T c need).k = c.o := by
  unfold chkF at h0 ⊢
  split at h0
  · cases h0
  · rename_i hn
    rw [if_neg hn]
    have hp : c.p = p := Classical.byContradiction fun e => hn (.inl e)
    have hh : hasO T c.o = true := by
      cases e : hasO T c.o with
      | true => rfl
      | false => exact absurd (.inr e) hn
    split at h0
    · cases h0
    · rename_i h1
      rw [if_neg h1]
      split at h0
      · cases h0
      · rename_i h2
        rw [if_neg h2]
        split at h0
        · cases h0
        · rename_i h3
          rw [if_neg h3]
          exact ⟨hh, hp, rfl⟩
theorem chk_lt {c : Cp} {need : Nat} (h0 : (chkF ws t es p T c need).e = 0) : (chkF ws t es p T c need).k < 64 := by
  obtain ⟨h1, _, h2⟩ := chk_has h0
  rw [h2]; exact (hasO_yes h1).1
theorem chk_len (ws : List Nat) (t : Nat) (es : List Ent) (p : Nat) (T : Nat → Ob) (c : Cp) (need : Nat) : (chkF ws t es p T c need).es.length ≤ es.length + 1 := by
  unfold chkF
  have := of_len ws t es (T c.o).s c.r
  split
  · show es.length ≤ _; omega
  · split
    · exact this
    · split
      · exact this
      · split <;> exact this
theorem chk_not {c : Cp} {need : Nat} (h0 : (chkF ws t es p T c need).e ≠ 0) : (chkF ws t es p T c need).k = 0 := by
  unfold chkF at h0 ⊢
  split
  · rfl
  · rename_i hn
    rw [if_neg hn] at h0
    split
    · rfl
    · rename_i h1
      rw [if_neg h1] at h0
      split
      · rfl
      · rename_i h2
        rw [if_neg h2] at h0
        split
        · rfl
        · rename_i h3
          rw [if_neg h3] at h0
          exact absurd rfl h0
theorem tapeWord (S : Tk w0 w B go m a h k v ws t es) (j : Nat) : ws.getD j 0 ≤ 281474976710655 := S.tape.word j
end
end Go.Proofs.YtlmnnjibggdboaaGreatDoor
