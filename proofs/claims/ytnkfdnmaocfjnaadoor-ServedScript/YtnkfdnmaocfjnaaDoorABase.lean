/-
  What stays of memory when other memory turns; blocks that turned and blocks that did not.
-/
import Derived.Test.YtnkfdnmaocfjnaaDoorRows
import Derived.WalkKit
import Derived.WalkSpells
import Derived.WalkLawsBesides
import Derived.Below
import Derived.Deep.OwnRows
import Derived.Deep.QuietTactic
import Derived.BigQuiet
import Derived.Lib.LazyBuf
import Derived.Laws.IdiomStrings
import Derived.WalkMore
import Derived.Deep.LoopGhost
import Derived.Deep.CutRange
import Derived.Deep.RegionHeld
import Derived.Handy
import Derived.OpenShut
namespace Go.Proofs.YtnkfdnmaocfjnaaDoor
open Go.RowKit
theorem hide {p : Prop} (h : p) : Hid p := h
theorem lt_of_heap {w : World} {g : Nat} {o : Obj} (h : w.heap[g]? = some o) : g < w.heap.size := (Array.getElem?_eq_some_iff.1 h).1
theorem lt_of_cell {w : World} {a : Addr} {v : Value} (h : w.cell? a = some v) : a.block < w.heap.size := World.block_lt_of_cell? w a h
theorem add0 (g j : Nat) : Addr.add ⟨g, 0, none⟩ j = ⟨g, j, none⟩ := by
  unfold Addr.add
  split
  · subst_vars; rfl
  · rw [Nat.zero_add]
theorem addN (g o j : Nat) : Addr.add ⟨g, o, none⟩ j = ⟨g, o + j, none⟩ := by
  unfold Addr.add
  split
  · subst_vars; rfl
  · rfl
theorem below_drewN {B : Nat} {a w : World} (h : Below B a w) (q : Nat) : Below B a (w.drewN q) := ⟨h.os, h.tape, h.output, h.size, h.block⟩
theorem below_alloc (w : World) (o : Obj) : Below w.heap.size w (w.alloc o) := (Below.refl _ _).alloc (Nat.le_refl _) o
theorem below_one {w w1 : World} (h : Below w.heap.size w w1) {w2 : World} (k : Below w1.heap.size w1 w2) : Below w.heap.size w w2 := h.trans (k.mono h.size)
/- blocks outside S are as they were -/
structure Foot (S : Nat → Prop) (w w' : World) : Prop where
  os : w'.os = w.os
  tape : w'.tape = w.tape
  output : w'.output = w.output
  size : w.heap.size ≤ w'.heap.size
  block : ∀ k, k < w.heap.size → ¬ S k → w'.heap[k]? = w.heap[k]?
theorem Foot.refl (S : Nat → Prop) (w : World) : Foot S w w := ⟨rfl, rfl, rfl, Nat.le_refl _, fun _ _ _ => rfl⟩
theorem Foot.mono {S S' : Nat → Prop} {w w' : World} (h : Foot S w w') (hS : ∀ k, S k → S' k) : Foot S' w w' := ⟨h.os, h.tape, h.output, h.size, fun k hk hn => h.block k hk fun x => hn (hS k x)⟩
theorem Foot.trans {S S' : Nat → Prop} {a b c : World} (h : Foot S a b) (k : Foot S' b c) (hS : ∀ j, S' j → S j ∨ a.heap.size ≤ j) : Foot S a c :=
  ⟨k.os.trans h.os, k.tape.trans h.tape, k.output.trans h.output, Nat.le_trans h.size k.size, fun i hi hn => (k.block i (Nat.lt_of_lt_of_le hi h.size) fun x => by
    rcases hS i x with x | x
    · exact hn x
    · omega).trans (h.block i hi hn)⟩
theorem Foot.then {S : Nat → Prop} {a b c : World} (h : Foot S a b) (k : Foot S b c) : Foot S a c := h.trans k fun _ x => .inl x
theorem Foot.drewN {S : Nat → Prop} {a w : World} (h : Foot S a w) (q : Nat) : Foot S a (w.drewN q) := ⟨h.os, h.tape, h.output, h.size, h.block⟩
theorem foot_drewN (S : Nat → Prop) (w : World) (q : Nat) : Foot S w (w.drewN q) := (Foot.refl S w).drewN q
theorem foot_alloc (S : Nat → Prop) (w : World) (o : Obj) : Foot S w (w.alloc o) := ⟨rfl, rfl, rfl, (below_alloc w o).size, fun k hk _ => Below.heap_alloc w o k hk⟩
theorem foot_set (w : World) (p : Addr) (v : Value) : Foot (fun k => k = p.block) w (w.setCell p v) := ⟨rfl, rfl, rfl, by simp [World.setCell], fun k _ hn => heap_setCell_other _ _ _ _ hn⟩
theorem foot_row (w : World) (g : Nat) (cs : Array Value) : Foot (fun k => k = g) w (w.setRow g cs) := ⟨rfl, rfl, rfl, by simp [World.setRow], fun k _ hn => setRow_other w g k cs (fun e => hn e)⟩
theorem Foot.below {S : Nat → Prop} {B : Nat} {w w' : World} (h : Foot S w w') (hB : B ≤ w.heap.size) (hS : ∀ k, S k → B ≤ k) : Below B w w' :=
  ⟨h.os, h.tape, h.output, h.size, fun k hk => h.block k (by omega) fun x => by have := hS k x; omega⟩
theorem below_foot {w w' : World} (S : Nat → Prop) (h : Below w.heap.size w w') : Foot S w w' := ⟨h.os, h.tape, h.output, h.size, fun k hk _ => h.block k hk⟩
theorem add_block (a : Addr) (j : Nat) : (a.add j).block = a.block := by unfold Addr.add; split <;> rfl
theorem Foot.cell {S : Nat → Prop} {w w' : World} (h : Foot S w w') (p : Addr) (hp : p.block < w.heap.size) (hS : ¬ S p.block) : w'.cell? p = w.cell? p := by
  unfold World.cell?; rw [h.block _ hp hS]
def New (w : World) (co : Option Addr) : Prop := ∀ ad, co = some ad → w.heap.size ≤ ad.block
theorem new_none (w : World) : New w none := fun _ e => by cases e
theorem New.le {w w' : World} {co : Option Addr} (h : New w' co) (hs : w.heap.size ≤ w'.heap.size) : New w co := fun ad e => Nat.le_trans hs (h ad e)
theorem u8_nat {n : Int} (h : (Lit.int .u8 n).wf = true) : ∃ v : Nat, n = (v : Int) ∧ v ≤ 255 := by
  have := bounds_u8 h; exact ⟨n.toNat, by omega, by omega⟩
end Go.Proofs.YtnkfdnmaocfjnaaDoor
