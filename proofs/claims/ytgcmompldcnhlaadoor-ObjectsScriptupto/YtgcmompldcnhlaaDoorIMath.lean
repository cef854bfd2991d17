/-
  What an object is; what objects' functions answer of a table, a tape and what was answered, as functions.
-/
import Derived.Test.YtgcmompldcnhlaaDoorKMath
namespace Go.Proofs.YtgcmompldcnhlaaDoor
/- an object: its secret, its epoch, what it stands for, how many rounds it lives on (of none: 0) -/
structure Ob where
  s : Nat
  e : Nat
  v : Int
  l : Nat
def Ob.zero : Ob := ⟨0, 0, 0, 0⟩
def Ob.cells (x : Ob) : List Value := [.int .u64 (x.s : Int), .int .i64 (x.e : Int), .int .i64 x.v, .int .i64 (x.l : Int)]
def Ob.ok (x : Ob) : Prop := x.s ≤ 281474976710655 ∧ x.l ≤ 24
def updO (T : Nat → Ob) (k : Nat) (x : Ob) : Nat → Ob := fun j => if j = k then x else T j
theorem updO_same (T : Nat → Ob) (k : Nat) (x : Ob) : updO T k x k = x := if_pos rfl
theorem updO_other (T : Nat → Ob) {k j : Nat} (x : Ob) (h : j ≠ k) : updO T k x j = T j := if_neg h
def noneO : Nat → Ob := fun _ => Ob.zero
def hasO (T : Nat → Ob) (k : Nat) : Bool := decide (k < 64) && decide (0 < (T k).l)
theorem hasO_yes {T : Nat → Ob} {k : Nat} (h : hasO T k = true) : k < 64 ∧ 0 < (T k).l := by
  unfold hasO at h
  rw [Bool.and_eq_true] at h
  exact ⟨of_decide_eq_true h.1, of_decide_eq_true h.2⟩
theorem hasO_of {T : Nat → Ob} {k : Nat} (h1 : k < 64) (h2 : 0 < (T k).l) : hasO T k = true := by
  unfold hasO; rw [Bool.and_eq_true]; exact ⟨decide_eq_true h1, decide_eq_true h2⟩
/- a capability -/
structure Cp where
  p : Nat
  o : Nat
  r : Nat
  c : Nat
def Cp.zero : Cp := ⟨0, 0, 0, 0⟩
def Cp.ok (x : Cp) : Prop := x.p ≤ 18446744073709551615 ∧ x.o ≤ 4294967295 ∧ x.r ≤ 255 ∧ x.c ≤ 18446744073709551615
/- what Check answers: the number, the error, what is there behind it -/
structure Chk where
  k : Nat
  e : Nat
  t : Nat
  es : List Ent
def chkF (ws : List Nat) (t : Nat) (es : List Ent) (p : Nat) (T : Nat → Ob) (c : Cp) (need : Nat) : Chk :=
  if c.p ≠ p ∨ hasO T c.o = false then ⟨0, 1, t, es⟩
  else
    if (ofF ws t es (T c.o).s c.r).ok = false then ⟨0, 7, (ofF ws t es (T c.o).s c.r).t, (ofF ws t es (T c.o).s c.r).es⟩
    else if c.c ≠ (ofF ws t es (T c.o).s c.r).x then ⟨0, 1, (ofF ws t es (T c.o).s c.r).t, (ofF ws t es (T c.o).s c.r).es⟩
    else if c.r &&& need ≠ need then ⟨0, 2, (ofF ws t es (T c.o).s c.r).t, (ofF ws t es (T c.o).s c.r).es⟩
    else ⟨c.o, 0, (ofF ws t es (T c.o).s c.r).t, (ofF ws t es (T c.o).s c.r).es⟩
/- the capability of an object for rights -/
def cabF (p k r : Nat) (X : Ans) : Cp := if X.ok then ⟨p, k, r, X.x⟩ else Cp.zero
end Go.Proofs.YtgcmompldcnhlaaDoor
