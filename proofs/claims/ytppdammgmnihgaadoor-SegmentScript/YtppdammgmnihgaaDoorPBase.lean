/-
  Bytes of slices in memory, what stays of them when other memory turns; blocks that turned and blocks that did not; string(b); slices.Clone of bytes.
-/
import Derived.Test.YtppdammgmnihgaaDoorPMath
import Derived.WalkKit
import Derived.WalkSpells
import Derived.WalkLawsBesides
import Derived.Below
import Derived.Deep.OwnRows
import Derived.Deep.QuietTactic
import Derived.BigQuiet
import Derived.Lib.LazyBuf
import Derived.Laws.IdiomStrings
import Derived.WalkMore
import Derived.Deep.LoopGhost
namespace Go.Proofs.YtppdammgmnihgaaDoor
open Go.RowKit
theorem hide {p : Prop} (h : p) : Hid p := h
theorem lt_of_heap {w : World} {g : Nat} {o : Obj} (h : w.heap[g]? = some o) : g < w.heap.size := (Array.getElem?_eq_some_iff.1 h).1
theorem lt_of_cell {w : World} {a : Addr} {v : Value} (h : w.cell? a = some v) : a.block < w.heap.size := World.block_lt_of_cell? w a h
theorem add0 (g j : Nat) : Addr.add ⟨g, 0, none⟩ j = ⟨g, j, none⟩ := by
  unfold Addr.add
  split
  · subst_vars; rfl
  · rw [Nat.zero_add]
theorem addN (g o j : Nat) : Addr.add ⟨g, o, none⟩ j = ⟨g, o + j, none⟩ := by
  unfold Addr.add
  split
  · subst_vars; rfl
  · rfl
theorem below_drewN {B : Nat} {a w : World} (h : Below B a w) (q : Nat) : Below B a (w.drewN q) := ⟨h.os, h.tape, h.output, h.size, h.block⟩
theorem below_alloc (w : World) (o : Obj) : Below w.heap.size w (w.alloc o) := (Below.refl _ _).alloc (Nat.le_refl _) o
theorem below_one {w w1 : World} (h : Below w.heap.size w w1) {w2 : World} (k : Below w1.heap.size w1 w2) : Below w.heap.size w w2 := h.trans (k.mono h.size)
/- blocks outside S are as they were -/
structure Foot (S : Nat → Prop) (w w' : World) : Prop where
  os : w'.os = w.os
  tape : w'.tape = w.tape
  output : w'.output = w.output
  size : w.heap.size ≤ w'.heap.size
  block : ∀ k, k < w.heap.size → ¬ S k → w'.heap[k]? = w.heap[k]?
theorem Foot.refl (S : Nat → Prop) (w : World) : Foot S w w := ⟨rfl, rfl, rfl, Nat.le_refl _, fun _ _ _ => rfl⟩
theorem Foot.mono {S S' : Nat → Prop} {w w' : World} (h : Foot S w w') (hS : ∀ k, S k → S' k) : Foot S' w w' := ⟨h.os, h.tape, h.output, h.size, fun k hk hn => h.block k hk fun x => hn (hS k x)⟩
theorem Foot.trans {S S' : Nat → Prop} {a b c : World} (h : Foot S a b) (k : Foot S' b c) (hS : ∀ j, S' j → S j ∨ a.heap.size ≤ j) : Foot S a c :=
  ⟨k.os.trans h.os, k.tape.trans h.tape, k.output.trans h.output, Nat.le_trans h.size k.size, fun i hi hn => (k.block i (Nat.lt_of_lt_of_le hi h.size) fun x => by
    rcases hS i x with x | x
    · exact hn x
    · omega).trans (h.block i hi hn)⟩
theorem Foot.then {S : Nat → Prop} {a b c : World} (h : Foot S a b) (k : Foot S b c) : Foot S a c := h.trans k fun _ x => .inl x
theorem Foot.drewN {S : Nat → Prop} {a w : World} (h : Foot S a w) (q : Nat) : Foot S a (w.drewN q) := ⟨h.os, h.tape, h.output, h.size, h.block⟩
theorem foot_drewN (S : Nat → Prop) (w : World) (q : Nat) : Foot S w (w.drewN q) := (Foot.refl S w).drewN q
theorem foot_alloc (S : Nat → Prop) (w : World) (o : Obj) : Foot S w (w.alloc o) := ⟨rfl, rfl, rfl, (below_alloc w o).size, fun k hk _ => Below.heap_alloc w o k hk⟩
theorem foot_set (w : World) (p : Addr) (v : Value) : Foot (fun k => k = p.block) w (w.setCell p v) := ⟨rfl, rfl, rfl, by simp [World.setCell], fun k _ hn => heap_setCell_other _ _ _ _ hn⟩
theorem foot_row (w : World) (g : Nat) (cs : Array Value) : Foot (fun k => k = g) w (w.setRow g cs) := ⟨rfl, rfl, rfl, by simp [World.setRow], fun k _ hn => setRow_other w g k cs (fun e => hn e)⟩
theorem Foot.below {S : Nat → Prop} {B : Nat} {w w' : World} (h : Foot S w w') (hB : B ≤ w.heap.size) (hS : ∀ k, S k → B ≤ k) : Below B w w' :=
  ⟨h.os, h.tape, h.output, h.size, fun k hk => h.block k (by omega) fun x => by have := hS k x; omega⟩
theorem below_foot {w w' : World} (S : Nat → Prop) (h : Below w.heap.size w w') : Foot S w w' := ⟨h.os, h.tape, h.output, h.size, fun k hk _ => h.block k hk⟩
/- the bytes of a slice -/
def bt (l : List UInt8) (j : Nat) : Int := ((l.getD j 0).toNat : Int)
theorem bt_lo (l : List UInt8) (j : Nat) : 0 ≤ bt l j := by unfold bt; omega
theorem bt_hi (l : List UInt8) (j : Nat) : bt l j ≤ 255 := by unfold bt; have := (l.getD j 0).toNat_lt; omega
theorem bt_get (l : List UInt8) (j : Nat) (h : j < l.length) : bt l j = (l[j].toNat : Int) := by unfold bt; rw [List.getD_eq_getElem?_getD, List.getElem?_eq_getElem h]; rfl
theorem ofNat_toNat (x : Nat) : (UInt8.ofNat x).toNat = x % 256 := by simp
def Bts (w : World) (ao : Option Addr) (n cap : Nat) (l : List UInt8) : Prop :=
  n = l.length ∧ n ≤ cap ∧ cap ≤ maxLen ∧ (ao = none → cap = 0) ∧ ∀ ad, ao = some ad → ∀ j, j < l.length → w.cell? (ad.add j) = some (.int .u8 (bt l j))
theorem Bts.carry {w w' : World} {ao : Option Addr} {n cap : Nat} {l : List UInt8} (h : Bts w ao n cap l) (b : Below w.heap.size w w') : Bts w' ao n cap l := by
  refine ⟨h.1, h.2.1, h.2.2.1, h.2.2.2.1, fun ad e j hj => ?_⟩
  have hc := h.2.2.2.2 ad e j hj
  rw [b.cell (lt_of_cell hc), hc]
theorem add_block (a : Addr) (j : Nat) : (a.add j).block = a.block := by unfold Addr.add; split <;> rfl
theorem Foot.cell {S : Nat → Prop} {w w' : World} (h : Foot S w w') (p : Addr) (hp : p.block < w.heap.size) (hS : ¬ S p.block) : w'.cell? p = w.cell? p := by
  unfold World.cell?; rw [h.block _ hp hS]
theorem Bts.foot {S : Nat → Prop} {w w' : World} {ao : Option Addr} {n cap : Nat} {l : List UInt8} (h : Bts w ao n cap l) (b : Foot S w w') (hS : ∀ ad, ao = some ad → ad.block < w.heap.size → ¬ S ad.block) : Bts w' ao n cap l := by
  refine ⟨h.1, h.2.1, h.2.2.1, h.2.2.2.1, fun ad e j hj => ?_⟩
  have hc := h.2.2.2.2 ad e j hj
  have hl := lt_of_cell hc
  rw [b.cell _ hl (by rw [add_block] at hl ⊢; exact hS ad e hl), hc]
theorem Bts.drewN {w : World} {ao : Option Addr} {n cap : Nat} {l : List UInt8} (h : Bts w ao n cap l) (q : Nat) : Bts (w.drewN q) ao n cap l := h
def cellsB (l : List UInt8) : List Value := l.map fun c => Value.int .u8 (c.toNat : Int)
theorem cellsB_len (l : List UInt8) : (cellsB l).length = l.length := by simp [cellsB]
theorem cellsB_append (l r : List UInt8) : cellsB (l ++ r) = cellsB l ++ cellsB r := by simp [cellsB]
theorem cellsB_splice (l r : List UInt8) (p : Nat) : cellsB (splice l p r) = splice (cellsB l) p (cellsB r) := splice_map _ _ _ _
theorem cellsB_get (l : List UInt8) (j : Nat) (h : j < l.length) : (cellsB l)[j]? = some (.int .u8 (bt l j)) := by
  simp [cellsB, bt, List.getElem?_eq_getElem h, List.getD_eq_getElem?_getD]
theorem cellsB_one (l : List UInt8) : ∀ u ∈ cellsB l, u.oneCell' = true := by
  intro u hu; simp only [cellsB, List.mem_map] at hu; obtain ⟨c, _, rfl⟩ := hu; rfl
theorem cellsB_zeros (n : Nat) : cellsB (zeros n) = List.replicate n (.int .u8 0) := by simp [cellsB, zeros]
theorem Bts.news {w : World} {ao : Option Addr} {n cap : Nat} {l : List UInt8} (h : Bts w ao n cap l) : ∀ ad, ao = some ad → ∀ j u, (cellsB l)[j]? = some u → w.cell? (ad.add j) = some u := by
  intro ad e j u hj
  have hlt : j < l.length := by have := (List.getElem?_eq_some_iff.1 hj).1; rw [cellsB_len] at this; exact this
  rw [cellsB_get l j hlt] at hj; rw [h.2.2.2.2 ad e j hlt, hj]
theorem Bts.none {w : World} {ao : Option Addr} {n cap : Nat} {l : List UInt8} (h : Bts w ao n cap l) : ao = none → n = 0 ∧ cap = 0 := by
  intro e; have := h.2.2.2.1 e; have := h.2.1; omega
theorem bts_nil (w : World) : Bts w none 0 0 [] := ⟨rfl, Nat.le_refl _, by decide, fun _ => rfl, fun _ e => by cases e⟩
theorem owns_bts {w : World} {base : Nat} {v : Value} {n : Nat} {l : List UInt8} (h : w.ownsRow base 5 1 v n (cellsB l)) : ∃ ao cap, v = .slice ao n cap ∧ Bts w ao n cap l := by
  have hl := h.1; rw [cellsB_len] at hl
  rcases h.2 with ⟨rfl, rfl⟩ | ⟨g, cap, cur, rfl, _, _, hc, hm, _, _⟩
  · refine ⟨none, 0, rfl, by omega, Nat.le_refl _, by decide, fun _ => rfl, fun ad e => by cases e⟩
  · refine ⟨some ⟨g, 0, none⟩, cap, rfl, by omega, hc, hm, (fun e => by cases e), fun ad e j hj => ?_⟩
    obtain rfl := Option.some.inj e
    have := h.cellAt j (by omega)
    rw [cellsB_get l j hj] at this
    rw [add0]; exact this
theorem own_empty (w : World) : (w.alloc (.cells #[] 5)).ownsRow w.heap.size 5 1 (.slice (some ⟨w.heap.size, 0, none⟩) 0 0) 0 [] :=
  ⟨rfl, Or.inr ⟨w.heap.size, 0, #[], rfl, Nat.le_refl _, heap_alloc_new _ _, Nat.le_refl _, by decide, rfl, rfl⟩⟩
/- memory that was not there -/
def New (w : World) (co : Option Addr) : Prop := ∀ ad, co = some ad → w.heap.size ≤ ad.block
theorem new_none (w : World) : New w none := fun _ e => by cases e
theorem New.le {w w' : World} {co : Option Addr} (h : New w' co) (hs : w.heap.size ≤ w'.heap.size) : New w co := fun ad e => Nat.le_trans hs (h ad e)
theorem owns_new {w w' : World} {base n cap : Nat} {co : Option Addr} {xs : List Value} (h : w'.ownsRow base 5 1 (.slice co n cap) n xs) (hb : w.heap.size ≤ base) : New w co := by
  intro ad e
  rcases h.2 with ⟨hv, _⟩ | ⟨g, cap', cur, hv, hg, _⟩
  · cases hv; cases e
  · cases hv; cases e; exact Nat.le_trans hb hg
theorem Tryd.info5 : (Tryd.prog.info? 5).map (fun i => (i.zero, i.size, i.bytes)) = some (some (.int .u8 0), 1, 1) := by kernel_rfl
set_option maxHeartbeats 800000 in
theorem clone_any (ao : Option Addr) (n cap : Nat) (l : List UInt8) (w : World) (hb : Bts w ao n cap l) (hr : n ≤ 140737488355328) :
    Calls Tryd.prog 33 #[.slice ao n cap] w fun e w' => ∃ co cc, e = .returned (.slice co n cc) ∧ Bts w' co n cc l ∧ New w co ∧ Below w.heap.size w w' := by
  have HB : Hid (Bts w ao n cap l) := hb
  clear hb
  cases ao with
  | none =>
    obtain ⟨rfl, rfl⟩ := HB.out.none rfl
    have he := run_eql_slice_nil (P := Tryd.prog) w 28 5 none 0 0 Tryd.underlying28
    go_enter Tryd.func33, Tryd.ntmps33
    go_wp2
    go_ret
    exact ⟨none, 0, rfl, HB.out, new_none _, Below.refl _ _⟩
  | some ad =>
    obtain ⟨i0, hi, hz0, hz1, hz2⟩ := info_parts Tryd.info5
    have hcm : cap ≤ 9223372036854775807 := HB.out.2.2.1
    have he := run_eql_slice_nil (P := Tryd.prog) w 28 5 (some ad) n cap Tryd.underlying28
    go_enter Tryd.func33, Tryd.ntmps33
    go_wp2_with (at_builtin; refine wpList_append_own _ rfl _ _ 28 rfl w.heap.size 5 i0 (.int .u8 0) 1 1 Tryd.underlying28 hi hz0 hz1 hz2 rfl (by decide) _ 0 [] rfl (own_empty w) ad n cap (cellsB l) rfl (by rw [cellsB_len]; have := HB.out.1; omega) ?c1 (cellsB_one l) (by unfold maxLen; omega) (by omega) ?c5 ?_)
    case c1 => exact (HB.out.carry (below_alloc w _)).news ad rfl
    case c5 => exact (below_alloc w _).size
    intro v' w2 hown2 hgrow2 _
    obtain ⟨co, cc, rfl, hb2⟩ := owns_bts hown2
    have HW : Hid (New w co) := owns_new hown2 (Nat.le_refl _)
    have bel2 : Below w.heap.size w w2 := (below_alloc w (Obj.cells #[] 5)).grown hgrow2 (below_alloc w _).size (fun k e => by cases e; exact Nat.le_refl _)
    have HB2 : Hid (Bts w2 co n cc l) := hb2
    clear hown2 hgrow2 hb2
    go_wp2
    go_ret
    exact ⟨co, cc, rfl, HB2.out, HW.out, bel2⟩
/- string(b) -/
def str (l : List UInt8) : ByteArray := ⟨l.toArray⟩
theorem str_inj {a b : List UInt8} (h : str a = str b) : a = b := by
  have := congrArg ByteArray.data h; simpa [str] using this
theorem conv_bts {w : World} {ao : Option Addr} {n cap : Nat} {l : List UInt8} (h : Bts w ao n cap l) : (convert 28 9 (.slice ao n cap)).run Tryd.prog w = .ok (.string (str l)) w := by
  cases ao with
  | none =>
    obtain ⟨rfl, rfl⟩ := h.none rfl
    obtain rfl : l = [] := List.eq_nil_of_length_eq_zero h.1.symm
    rw [run_convert_bytes_string w 28 9 5 none 0 0 Tryd.underlying28 Tryd.underlying5 Tryd.underlying9]
    simp [Conv.bytesToString]; rfl
  | some ad =>
    have e := h.1
    subst e
    exact run_convert_bytes_back (P := Tryd.prog) w 28 9 5 ad cap l Tryd.underlying28 Tryd.underlying5 Tryd.underlying9 (fun j hj => by
      rw [h.2.2.2.2 ad rfl j hj, bt_get l j hj])
end Go.Proofs.YtppdammgmnihgaaDoor
