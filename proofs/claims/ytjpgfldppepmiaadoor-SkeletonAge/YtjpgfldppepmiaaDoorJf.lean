/-
  New memory; blocks that did not turn: what the texts on bytes want of it, beside a table.
  Bytes of slices in memory, what stays of them when other memory turns; parts of them; string(b); bytes.Clone.
  Messages by their numbers: where their cells lie; a capability's four cells.
  What header.Answer, header.Fault and the statements' own Same answer, as contracts.
  A half of a script: a table with its oracle, a service that remembers; what a deed leaves of it; two halves in one memory.
  What the statements' own service answers, and what it leaves: Need, Do, Gone, as contracts.
  What the server's own parts answer, and what they leave: whole, need, gone, do, as contracts.
-/
import Derived.Test.YtjpgfldppepmiaaDoorJe
import Derived.Laws.StructEq
import Derived.Handy
import Derived.Deep.RegionHeld
import Derived.Recover
import Derived.Defers
namespace Go.Proofs.YtjpgfldppepmiaaDoor
section
open Go.RowKit
theorem Foot.then {S : Nat → Prop} {a b c : World} (h : Foot S a b) (k : Foot S b c) : Foot S a c := h.trans k fun _ x => .inl x
theorem add_block (a : Addr) (j : Nat) : (a.add j).block = a.block := by unfold Addr.add; split <;> rfl
theorem Foot.cell {S : Nat → Prop} {w w' : World} (h : Foot S w w') (p : Addr) (hp : p.block < w.heap.size) (hS : ¬ S p.block) : w'.cell? p = w.cell? p := by
  unfold World.cell?; rw [h.block _ hp hS]
def New (w : World) (co : Option Addr) : Prop := ∀ ad, co = some ad → w.heap.size ≤ ad.block
theorem new_none (w : World) : New w none := fun _ e => by cases e
theorem New.le {w w' : World} {co : Option Addr} (h : New w' co) (hs : w.heap.size ≤ w'.heap.size) : New w co := fun ad e => Nat.le_trans hs (h ad e)
theorem owns_new {w w' : World} {e : TypeId} {sz n m cap : Nat} {ao : Option Addr} {xs : List Value} (h : w'.ownsRow w.heap.size e sz (.slice ao m cap) n xs) : New w ao := by
  intro ad e
  rcases h.2 with ⟨h1, _⟩ | ⟨g, c, cur, h1, h2, _⟩
  · cases h1; cases e
  · cases h1; cases e; exact h2
end
end Go.Proofs.YtjpgfldppepmiaaDoor
namespace Go.Proofs.YtjpgfldppepmiaaDoor
section
open Go.RowKit
def bt (l : List UInt8) (j : Nat) : Int := ((l.getD j 0).toNat : Int)
theorem bt_get (l : List UInt8) (j : Nat) (h : j < l.length) : bt l j = (l[j].toNat : Int) := by unfold bt; rw [List.getD_eq_getElem?_getD, List.getElem?_eq_getElem h]; rfl
theorem ofNat_toNat (x : Nat) : (UInt8.ofNat x).toNat = x % 256 := by simp
def Bts (w : World) (ao : Option Addr) (n cap : Nat) (l : List UInt8) : Prop :=
  n = l.length ∧ n ≤ cap ∧ cap ≤ maxLen ∧ (ao = none → cap = 0) ∧ ∀ ad, ao = some ad → ∀ j, j < l.length → w.cell? (ad.add j) = some (.int .u8 (bt l j))
theorem Bts.carry {w w' : World} {ao : Option Addr} {n cap : Nat} {l : List UInt8} (h : Bts w ao n cap l) (b : Below w.heap.size w w') : Bts w' ao n cap l := by
  refine ⟨h.1, h.2.1, h.2.2.1, h.2.2.2.1, fun ad e j hj => ?_⟩
  have hc := h.2.2.2.2 ad e j hj
  rw [b.cell (lt_of_cell hc), hc]
theorem Bts.over {w w' : World} {ao : Option Addr} {n cap B : Nat} {l : List UInt8} (h : Bts w ao n cap l) (b : Below B w w') (hB : w.heap.size ≤ B) : Bts w' ao n cap l := by
  refine ⟨h.1, h.2.1, h.2.2.1, h.2.2.2.1, fun ad e j hj => ?_⟩
  have hc := h.2.2.2.2 ad e j hj
  rw [b.cell (Nat.lt_of_lt_of_le (lt_of_cell hc) hB), hc]
theorem Bts.foot {S : Nat → Prop} {w w' : World} {ao : Option Addr} {n cap : Nat} {l : List UInt8} (h : Bts w ao n cap l) (b : Foot S w w') (hS : ∀ ad, ao = some ad → ad.block < w.heap.size → ¬ S ad.block) : Bts w' ao n cap l := by
  refine ⟨h.1, h.2.1, h.2.2.1, h.2.2.2.1, fun ad e j hj => ?_⟩
  have hc := h.2.2.2.2 ad e j hj
  have hl := lt_of_cell hc
  rw [b.cell _ hl (by rw [add_block] at hl ⊢; exact hS ad e hl), hc]
theorem Bts.drewN {w : World} {ao : Option Addr} {n cap : Nat} {l : List UInt8} (h : Bts w ao n cap l) (q : Nat) : Bts (w.drewN q) ao n cap l := h
def cellsB (l : List UInt8) : List Value := l.map fun c => Value.int .u8 (c.toNat : Int)
theorem cellsB_len (l : List UInt8) : (cellsB l).length = l.length := by simp [cellsB]
theorem cellsB_append (l r : List UInt8) : cellsB (l ++ r) = cellsB l ++ cellsB r := by simp [cellsB]
theorem cellsB_get (l : List UInt8) (j : Nat) (h : j < l.length) : (cellsB l)[j]? = some (.int .u8 (bt l j)) := by
  simp [cellsB, bt, List.getElem?_eq_getElem h, List.getD_eq_getElem?_getD]
theorem cellsB_one (l : List UInt8) : ∀ u ∈ cellsB l, u.oneCell' = true := by
  intro u hu; simp only [cellsB, List.mem_map] at hu; obtain ⟨c, _, rfl⟩ := hu; rfl
theorem Bts.news {w : World} {ao : Option Addr} {n cap : Nat} {l : List UInt8} (h : Bts w ao n cap l) : ∀ ad, ao = some ad → ∀ j u, (cellsB l)[j]? = some u → w.cell? (ad.add j) = some u := by
  intro ad e j u hj
  have hlt : j < l.length := by have := (List.getElem?_eq_some_iff.1 hj).1; rw [cellsB_len] at this; exact this
  rw [cellsB_get l j hlt] at hj; rw [h.2.2.2.2 ad e j hlt, hj]
theorem Bts.none {w : World} {ao : Option Addr} {n cap : Nat} {l : List UInt8} (h : Bts w ao n cap l) : ao = none → n = 0 ∧ cap = 0 := by
  intro e; have := h.2.2.2.1 e; have := h.2.1; omega
theorem bts_nil (w : World) : Bts w none 0 0 [] := ⟨rfl, Nat.le_refl _, by decide, fun _ => rfl, fun _ e => by cases e⟩
theorem owns_bts {w : World} {base : Nat} {v : Value} {n : Nat} {l : List UInt8} (h : w.ownsRow base 5 1 v n (cellsB l)) : ∃ ao cap, v = .slice ao n cap ∧ Bts w ao n cap l := by
  have hl := h.1; rw [cellsB_len] at hl
  rcases h.2 with ⟨rfl, rfl⟩ | ⟨g, cap, cur, rfl, _, _, hc, hm, _, _⟩
  · refine ⟨none, 0, rfl, by omega, Nat.le_refl _, by decide, fun _ => rfl, fun ad e => by cases e⟩
  · refine ⟨some ⟨g, 0, none⟩, cap, rfl, by omega, hc, hm, (fun e => by cases e), fun ad e j hj => ?_⟩
    obtain rfl := Option.some.inj e
    have := h.cellAt j (by omega)
    rw [cellsB_get l j hj] at this
    rw [add0]; exact this
theorem own_empty (w : World) : (w.alloc (.cells #[] 5)).ownsRow w.heap.size 5 1 (.slice (some ⟨w.heap.size, 0, none⟩) 0 0) 0 [] :=
  ⟨rfl, Or.inr ⟨w.heap.size, 0, #[], rfl, Nat.le_refl _, heap_alloc_new _ _, Nat.le_refl _, by decide, rfl, rfl⟩⟩
/- bytes that were written out -/
theorem bts_cells (w : World) (l : List UInt8) (C : Array Value) (fr : Nat × Nat) (hC : (cellsB l).toArray = C) (hl : l.length ≤ 1000) : Bts (w.alloc (.cells C 5 fr)) (some ⟨w.heap.size, 0, none⟩) l.length l.length l := by
  subst hC
  refine ⟨rfl, Nat.le_refl _, by unfold maxLen; omega, (fun e => by cases e), fun ad e j hj => ?_⟩
  obtain rfl := Option.some.inj e
  rw [add0, cell_of_row _ w.heap.size j _ _ _ (heap_alloc_new _ _)]
  simpa using cellsB_get l j hj
theorem Tryd.info5 : (Tryd.prog.info? 5).map (fun i => (i.zero, i.size, i.bytes)) = some (some (.int .u8 0), 1, 1) := by kernel_rfl
set_option maxHeartbeats 800000 in
theorem clone_any (ao : Option Addr) (n cap : Nat) (l : List UInt8) (w : World) (hb : Bts w ao n cap l) (hr : n ≤ 140737488355328) :
    Calls Tryd.prog 52 #[.slice ao n cap] w fun e w' => ∃ co cc, e = .returned (.slice co n cc) ∧ Bts w' co n cc l ∧ New w co ∧ Below w.heap.size w w' := by
  have HB : Hid (Bts w ao n cap l) := hb
  clear hb
  cases ao with
  | none =>
    obtain ⟨rfl, rfl⟩ := HB.out.none rfl
    have he := run_eql_slice_nil (P := Tryd.prog) w 47 5 none 0 0 Tryd.underlying47
    go_enter Tryd.func52, Tryd.ntmps52
    go_wp2
    go_ret
    exact ⟨none, 0, rfl, HB.out, new_none _, Below.refl _ _⟩
  | some ad =>
    obtain ⟨i0, hi, hz0, hz1, hz2⟩ := info_parts Tryd.info5
    have hcm : cap ≤ 9223372036854775807 := HB.out.2.2.1
    have he := run_eql_slice_nil (P := Tryd.prog) w 47 5 (some ad) n cap Tryd.underlying47
    go_enter Tryd.func52, Tryd.ntmps52
    go_wp2_with (at_builtin; refine wpList_append_own _ rfl _ _ 47 rfl w.heap.size 5 i0 (.int .u8 0) 1 1 Tryd.underlying47 hi hz0 hz1 hz2 rfl (by decide) _ 0 [] rfl (own_empty w) ad n cap (cellsB l) rfl (by rw [cellsB_len]; have := HB.out.1; omega) ?c1 (cellsB_one l) (by unfold maxLen; omega) (by omega) ?c5 ?_)
    case c1 => exact (HB.out.carry (below_alloc w _)).news ad rfl
    case c5 => exact (below_alloc w _).size
    intro v' w2 hown2 hgrow2 _
    obtain ⟨co, cc, rfl, hb2⟩ := owns_bts hown2
    have HW : Hid (New w co) := owns_new hown2
    have bel2 : Below w.heap.size w w2 := (below_alloc w (Obj.cells #[] 5)).grown hgrow2 (below_alloc w _).size (fun k e => by cases e; exact Nat.le_refl _)
    have HB2 : Hid (Bts w2 co n cc l) := hb2
    clear hown2 hgrow2 hb2
    go_wp2
    go_ret
    exact ⟨co, cc, rfl, HB2.out, HW.out, bel2⟩
/- string(b) -/
def str (l : List UInt8) : ByteArray := ⟨l.toArray⟩
theorem str_inj {a b : List UInt8} (h : str a = str b) : a = b := by
  have := congrArg ByteArray.data h; simpa [str] using this
theorem conv_bts {w : World} {ao : Option Addr} {n cap : Nat} {l : List UInt8} (h : Bts w ao n cap l) : (convert 47 9 (.slice ao n cap)).run Tryd.prog w = .ok (.string (str l)) w := by
  cases ao with
  | none =>
    obtain ⟨rfl, rfl⟩ := h.none rfl
    obtain rfl : l = [] := List.eq_nil_of_length_eq_zero h.1.symm
    rw [run_convert_bytes_string w 47 9 5 none 0 0 Tryd.underlying47 Tryd.underlying5 Tryd.underlying9]
    simp [Conv.bytesToString]; rfl
  | some ad =>
    have e := h.1
    subst e
    exact run_convert_bytes_back (P := Tryd.prog) w 47 9 5 ad cap l Tryd.underlying47 Tryd.underlying5 Tryd.underlying9 (fun j hj => by
      rw [h.2.2.2.2 ad rfl j hj, bt_get l j hj])
/- parts of a slice -/
def tailA (ao : Option Addr) (k cap : Nat) : Option Addr := if cap = k then ao else ao.map (·.add k)
theorem Tryd.sizeByte (w : World) : (sizeOf 5).run Tryd.prog w = .ok 1 w := by kernel_rfl
theorem cut_lh8 (w : World) (ao : Option Addr) (n cap k m : Nat) (hkm : k ≤ m) (h : m ≤ cap) : (Instr.slice 47 (.slice ao n cap) (some (.int .i64 (k : Int))) (some (.int .i64 (m : Int))) none).run Tryd.prog w = .ok (.slice (tailA ao k cap) (m - k) (cap - k)) w := by
  have ht : Tryd.prog.underlying 47 = some (.slice (Tryd.prog.elem 47)) := by simp [Program.elem, Tryd.underlying47]
  have he : Tryd.prog.elem 47 = 5 := by simp [Program.elem, Tryd.underlying47]
  rw [run_slice_lh (P := Tryd.prog) w 47 ao n cap ht .i64 .i64 (k : Int) (m : Int) (by omega) (by omega) (by omega), he, Tryd.sizeByte]
  simp [Result.andThen, sliced, tailA]
theorem Bts.part {w : World} {ao : Option Addr} {n cap : Nat} {l : List UInt8} (h : Bts w ao n cap l) (k m : Nat) (hk : k ≤ m) (hm : m ≤ n) : Bts w (tailA ao k cap) (m - k) (cap - k) ((l.drop k).take (m - k)) := by
  have h1 := h.1
  have h2 := h.2.1
  have h3 := h.2.2.1
  refine ⟨by rw [List.length_take, List.length_drop]; omega, by omega, by omega, fun e => ?_, fun ad e j hj => ?_⟩
  · unfold tailA at e
    split at e
    · omega
    · have := h.2.2.2.1 (by cases ao <;> simp_all); omega
  · rw [List.length_take, List.length_drop] at hj
    unfold tailA at e
    rw [if_neg (by omega)] at e
    obtain ⟨a0, rfl, rfl⟩ := Option.map_eq_some_iff.1 e
    rw [add_add, h.2.2.2.2 a0 rfl (k + j) (by omega)]
    unfold bt
    simp only [List.getD_eq_getElem?_getD]
    rw [List.getElem?_take, if_pos (by omega), List.getElem?_drop]
end
end Go.Proofs.YtjpgfldppepmiaaDoor
namespace Go.Proofs.YtjpgfldppepmiaaDoor
section
open Go.RowKit
structure Msg where
  ta : Nat
  rp : Nat
  id : Nat
  op : Nat
  st : Nat
  p : Nat
  o : Nat
  r : Nat
  c : Nat
  ar : Nat
/- its parts fit their kinds -/
def Msg.ok (m : Msg) : Prop := m.ta ≤ 18446744073709551615 ∧ m.rp ≤ 18446744073709551615 ∧ m.id ≤ 4294967295 ∧ m.op ≤ 65535 ∧ m.st ≤ 65535 ∧ m.p ≤ 18446744073709551615 ∧ m.o ≤ 4294967295 ∧ m.r ≤ 255 ∧ m.c ≤ 18446744073709551615 ∧ m.ar ≤ 18446744073709551615
/- its parts fit their bytes -/
def Msg.good (m : Msg) : Prop := m.ta ≤ 281474976710655 ∧ m.rp ≤ 281474976710655 ∧ m.id ≤ 4294967295 ∧ m.op ≤ 65535 ∧ m.st ≤ 65535 ∧ m.p ≤ 281474976710655 ∧ m.o ≤ 16777215 ∧ m.r ≤ 255 ∧ m.c ≤ 281474976710655 ∧ m.ar ≤ 18446744073709551615
theorem Msg.good_ok {m : Msg} (h : m.good) : m.ok := by unfold Msg.good at h; unfold Msg.ok; omega
def Msg.zero : Msg := ⟨0, 0, 0, 0, 0, 0, 0, 0, 0, 0⟩
/- may the message be? -/
def hmayD (m : Msg) (n : Nat) : Bool := decide (m.ta ≤ 281474976710655 ∧ m.rp ≤ 281474976710655 ∧ (m.p ≤ 281474976710655 ∧ m.o ≤ 16777215 ∧ m.c ≤ 281474976710655) ∧ n ≤ 4096)
def MBox (w : World) (g : Nat) (m : Msg) (D : Value) : Prop := (w.cell? ⟨g, 0, none⟩ = some (.int .u64 m.ta) ∧ w.cell? ⟨g, 1, none⟩ = some (.int .u64 m.rp) ∧ w.cell? ⟨g, 2, none⟩ = some (.int .u32 m.id) ∧ w.cell? ⟨g, 3, none⟩ = some (.int .u16 m.op) ∧ w.cell? ⟨g, 4, none⟩ = some (.int .u16 m.st) ∧ w.cell? ⟨g, 5, none⟩ = some (.int .u64 m.p) ∧ w.cell? ⟨g, 6, none⟩ = some (.int .u32 m.o) ∧ w.cell? ⟨g, 7, none⟩ = some (.int .u8 m.r) ∧ w.cell? ⟨g, 8, none⟩ = some (.int .u64 m.c) ∧ w.cell? ⟨g, 9, none⟩ = some (.int .u64 m.ar) ∧ w.cell? ⟨g, 10, none⟩ = some (D))
def MFree (w : World) (g : Nat) : Prop := (w.frozen? ⟨g, 0, none⟩ = false ∧ w.frozen? ⟨g, 1, none⟩ = false ∧ w.frozen? ⟨g, 2, none⟩ = false ∧ w.frozen? ⟨g, 3, none⟩ = false ∧ w.frozen? ⟨g, 4, none⟩ = false ∧ w.frozen? ⟨g, 5, none⟩ = false ∧ w.frozen? ⟨g, 6, none⟩ = false ∧ w.frozen? ⟨g, 7, none⟩ = false ∧ w.frozen? ⟨g, 8, none⟩ = false ∧ w.frozen? ⟨g, 9, none⟩ = false ∧ w.frozen? ⟨g, 10, none⟩ = false)
theorem mbox_new (w : World) (m : Msg) (D : Value) : MBox (w.alloc (.cells #[.int .u64 m.ta, .int .u64 m.rp, .int .u32 m.id, .int .u16 m.op, .int .u16 m.st, .int .u64 m.p, .int .u32 m.o, .int .u8 m.r, .int .u64 m.c, .int .u64 m.ar, D] 49)) w.heap.size m D := by
  refine ⟨?_, ?_, ?_, ?_, ?_, ?_, ?_, ?_, ?_, ?_, ?_⟩ <;> simp
theorem mfree_new (w : World) (cs : Array Value) : MFree (w.alloc (.cells cs 49)) w.heap.size := by
  refine ⟨?_, ?_, ?_, ?_, ?_, ?_, ?_, ?_, ?_, ?_, ?_⟩ <;> simp
theorem MBox.lt {w : World} {g : Nat} {m : Msg} {D : Value} (h : MBox w g m D) : g < w.heap.size := lt_of_cell h.1
theorem MBox.carry {w w' : World} {g : Nat} {m : Msg} {D : Value} (h : MBox w g m D) (b : Below w.heap.size w w') : MBox w' g m D := by
  have hl := h.lt
  obtain ⟨k0, k1, k2, k3, k4, k5, k6, k7, k8, k9, k10⟩ := h
  refine ⟨?_, ?_, ?_, ?_, ?_, ?_, ?_, ?_, ?_, ?_, ?_⟩ <;> (rw [b.cell (by exact hl)]; assumption)
theorem MFree.carry {w w' : World} {g : Nat} (h : MFree w g) (hl : g < w.heap.size) (b : Below w.heap.size w w') : MFree w' g := by
  obtain ⟨z0, z1, z2, z3, z4, z5, z6, z7, z8, z9, z10⟩ := h
  refine ⟨?_, ?_, ?_, ?_, ?_, ?_, ?_, ?_, ?_, ?_, ?_⟩ <;> (rw [b.frozen (by exact hl)]; assumption)
/- where a capability's four cells lie -/
def Box (w : World) (g : Nat) (p o r c : Nat) : Prop :=
  w.cell? ⟨g, 0, none⟩ = some (.int .u64 p) ∧ w.cell? ⟨g, 1, none⟩ = some (.int .u32 o) ∧ w.cell? ⟨g, 2, none⟩ = some (.int .u8 r) ∧ w.cell? ⟨g, 3, none⟩ = some (.int .u64 c)
theorem box_new (w : World) (p o r c : Nat) : Box (w.alloc (.cells #[.int .u64 p, .int .u32 o, .int .u8 r, .int .u64 c] 41)) w.heap.size p o r c := by
  refine ⟨?_, ?_, ?_, ?_⟩ <;> simp
theorem Box.carry {w w' : World} {g p o r c : Nat} (h : Box w g p o r c) (b : Below w.heap.size w w') : Box w' g p o r c := by
  obtain ⟨h0, h1, h2, h3⟩ := h
  exact ⟨by rw [b.cell (lt_of_cell h0), h0], by rw [b.cell (lt_of_cell h1), h1], by rw [b.cell (lt_of_cell h2), h2], by rw [b.cell (lt_of_cell h3), h3]⟩
theorem Bts.set {w : World} {ao : Option Addr} {n cap : Nat} {l : List UInt8} (h : Bts w ao n cap l) (p : Addr) (v : Value) (hp : ∀ ad, ao = some ad → ad.block ≠ p.block) : Bts (w.setCell p v) ao n cap l := by
  refine ⟨h.1, h.2.1, h.2.2.1, h.2.2.2.1, fun ad e j hj => ?_⟩
  have hc := h.2.2.2.2 ad e j hj
  have hb : (ad.add j).block = ad.block := by unfold Addr.add; split <;> rfl
  rw [World.cell?_setCell_far _ _ _ _ (by rw [hb]; exact fun x => hp ad e x.symm), hc]

theorem zero_new (w : World) : MBox (w.alloc (.cells #[.int .u64 0, .int .u64 0, .int .u32 0, .int .u16 0, .int .u16 0, .int .u64 0, .int .u32 0, .int .u8 0, .int .u64 0, .int .u64 0, .slice none 0 0] 49)) w.heap.size Msg.zero (.slice none 0 0) := mbox_new w Msg.zero _
theorem MBox.drew {w : World} {g : Nat} {m : Msg} {D : Value} (h : MBox w g m D) : MBox w.drew g m D := h
theorem MBox.four {w : World} {g : Nat} {m : Msg} {D : Value} (h : MBox w g m D) : w.cell? ⟨g, 0, none⟩ = some (.int .u64 m.ta) ∧ w.cell? ⟨g, 1, none⟩ = some (.int .u64 m.rp) ∧ w.cell? ⟨g, 2, none⟩ = some (.int .u32 m.id) ∧ w.cell? ⟨g, 3, none⟩ = some (.int .u16 m.op) := ⟨h.1, h.2.1, h.2.2.1, h.2.2.2.1⟩
/- a message in a variable, as a whole -/
def MB (w : World) (g : Nat) (m : Msg) (D : Value) : Prop := w.heap[g]? = some (.cells #[.int .u64 m.ta, .int .u64 m.rp, .int .u32 m.id, .int .u16 m.op, .int .u16 m.st, .int .u64 m.p, .int .u32 m.o, .int .u8 m.r, .int .u64 m.c, .int .u64 m.ar, D] 49 (0, 0))
theorem MB.all {w : World} {g : Nat} {m : Msg} {D : Value} (h : MB w g m D) : MBox w g m D := by
  refine ⟨?_, ?_, ?_, ?_, ?_, ?_, ?_, ?_, ?_, ?_, ?_⟩ <;> (rw [cell_of_row w g _ _ _ _ h]; rfl)
theorem MB.z {w : World} {g : Nat} {m : Msg} {D : Value} (h : MB w g m D) (j : Nat) : w.frozen? ⟨g, j, none⟩ = false := frozen_of_row w g j _ _ h
theorem MB.grow {w w' : World} {g : Nat} {m : Msg} {D : Value} (h : MB w g m D) (b : Below w.heap.size w w') : MB w' g m D := (b.block g (lt_of_heap h)).trans h
theorem MB.foot {S : Nat → Prop} {w w' : World} {g : Nat} {m : Msg} {D : Value} (h : MB w g m D) (f : Foot S w w') (hS : ¬ S g) : MB w' g m D := (f.block g (lt_of_heap h) hS).trans h
theorem MB.kp {w w' : World} {g : Nat} {m : Msg} {D : Value} (h : MB w g m D) (k : Kp w w') : MB w' g m D := (k.block g _ _ h ⟨by decide, by decide, by decide, by decide⟩).trans h
theorem mb_new (w : World) (m : Msg) (D : Value) : MB (w.alloc (.cells #[.int .u64 m.ta, .int .u64 m.rp, .int .u32 m.id, .int .u16 m.op, .int .u16 m.st, .int .u64 m.p, .int .u32 m.o, .int .u8 m.r, .int .u64 m.c, .int .u64 m.ar, D] 49)) w.heap.size m D := heap_alloc_new _ _
def lay11 (w : World) (g : Nat) (m : Msg) (D : Value) : World := (((((((((((w.setCell ⟨g, 0, none⟩ (.int .u64 m.ta)).setCell ⟨g, 1, none⟩ (.int .u64 m.rp)).setCell ⟨g, 2, none⟩ (.int .u32 m.id)).setCell ⟨g, 3, none⟩ (.int .u16 m.op)).setCell ⟨g, 4, none⟩ (.int .u16 m.st)).setCell ⟨g, 5, none⟩ (.int .u64 m.p)).setCell ⟨g, 6, none⟩ (.int .u32 m.o)).setCell ⟨g, 7, none⟩ (.int .u8 m.r)).setCell ⟨g, 8, none⟩ (.int .u64 m.c)).setCell ⟨g, 9, none⟩ (.int .u64 m.ar)).setCell ⟨g, 10, none⟩ (D))
theorem MB.lay {w : World} {g : Nat} {x m : Msg} {X D : Value} (h : MB w g x X) : MB (lay11 w g m D) g m D := by
  have h1 := heap_setCell_same w g 0 _ _ (.int .u64 m.ta) h
  have h2 := heap_setCell_same _ g 1 _ _ (.int .u64 m.rp) h1
  have h3 := heap_setCell_same _ g 2 _ _ (.int .u32 m.id) h2
  have h4 := heap_setCell_same _ g 3 _ _ (.int .u16 m.op) h3
  have h5 := heap_setCell_same _ g 4 _ _ (.int .u16 m.st) h4
  have h6 := heap_setCell_same _ g 5 _ _ (.int .u64 m.p) h5
  have h7 := heap_setCell_same _ g 6 _ _ (.int .u32 m.o) h6
  have h8 := heap_setCell_same _ g 7 _ _ (.int .u8 m.r) h7
  have h9 := heap_setCell_same _ g 8 _ _ (.int .u64 m.c) h8
  have h10 := heap_setCell_same _ g 9 _ _ (.int .u64 m.ar) h9
  have h11 := heap_setCell_same _ g 10 _ _ D h10
  unfold MB lay11
  rw [h11]
  simp
theorem Foot.put {a w : World} {g : Nat} (h : Foot (fun j => j = g) a w) (o : Nat) (v : Value) : Foot (fun j => j = g) a (w.setCell ⟨g, o, none⟩ v) := h.trans (foot_set w ⟨g, o, none⟩ v) (fun _ e => .inl e)
theorem foot_lay11 (w : World) (g : Nat) (m : Msg) (D : Value) : Foot (fun j => j = g) w (lay11 w g m D) := by
  unfold lay11
  exact (((((((((((Foot.refl _ w).put _ _).put _ _).put _ _).put _ _).put _ _).put _ _).put _ _).put _ _).put _ _).put _ _).put _ _
end
end Go.Proofs.YtjpgfldppepmiaaDoor
namespace Go.Proofs.YtjpgfldppepmiaaDoor
section
open Go.RowKit
theorem apart0 {W : World} {ao : Option Addr} (hn : New W ao) : ∀ g, g < W.heap.size → ∀ ad, ao = some ad → ad.block ≠ g := fun g hg ad e h => by have := hn ad e; omega
theorem wrap16 (v : Nat) (h : v ≤ 65535) : IntKind.u16.wrap (v : Int) = (v : Int) := by
  rw [IntKind.wrap_u16]; omega
set_option maxHeartbeats 4000000 in
theorem answer_any (m : Msg) (D : Value) (s p o r c ar : Nat) (ao : Option Addr) (n cap : Nat) (l : List UInt8) (w : World) (hs : s ≤ 65535) (hb : Bts w ao n cap l) (hn : n ≤ 140737488355328) (m2 : Msg) (h2 : (⟨m.rp, m.ta, m.id, m.op, s, p, o, r, c, ar⟩ : Msg) = m2) :
    Calls Tryd.prog 29 #[.agg #[.int .u64 m.ta, .int .u64 m.rp, .int .u32 m.id, .int .u16 m.op, .int .u16 m.st, .int .u64 m.p, .int .u32 m.o, .int .u8 m.r, .int .u64 m.c, .int .u64 m.ar, D], .int .i64 s, .agg #[.int .u64 p, .int .u32 o, .int .u8 r, .int .u64 c], .int .u64 ar, .slice ao n cap] w fun e w' => ∃ co cc, e = .returned (.agg #[.int .u64 m2.ta, .int .u64 m2.rp, .int .u32 m2.id, .int .u16 m2.op, .int .u16 m2.st, .int .u64 m2.p, .int .u32 m2.o, .int .u8 m2.r, .int .u64 m2.c, .int .u64 m2.ar, .slice co n cc]) ∧ Bts w' co n cc l ∧ New w co ∧ Below w.heap.size w w' := by
  subst h2
  have hw := wrap16 s hs
  have HB : Hid (Bts w ao n cap l) := hb
  clear hb
  have b1 : Below w.heap.size w (w.alloc (.cells #[.int .u64 m.ta, .int .u64 m.rp, .int .u32 m.id, .int .u16 m.op, .int .u16 m.st, .int .u64 m.p, .int .u32 m.o, .int .u8 m.r, .int .u64 m.c, .int .u64 m.ar, D] 49)) := below_alloc _ _
  have z1 : (w.alloc (.cells #[.int .u64 m.ta, .int .u64 m.rp, .int .u32 m.id, .int .u16 m.op, .int .u16 m.st, .int .u64 m.p, .int .u32 m.o, .int .u8 m.r, .int .u64 m.c, .int .u64 m.ar, D] 49)).heap.size = w.heap.size + 1 := by simp
  have x1 := mbox_new w m D
  have c2 := box_new (w.alloc (.cells #[.int .u64 m.ta, .int .u64 m.rp, .int .u32 m.id, .int .u16 m.op, .int .u16 m.st, .int .u64 m.p, .int .u32 m.o, .int .u8 m.r, .int .u64 m.c, .int .u64 m.ar, D] 49)) p o r c
  have b2 := below_alloc (w.alloc (.cells #[.int .u64 m.ta, .int .u64 m.rp, .int .u32 m.id, .int .u16 m.op, .int .u16 m.st, .int .u64 m.p, .int .u32 m.o, .int .u8 m.r, .int .u64 m.c, .int .u64 m.ar, D] 49)) (.cells #[.int .u64 p, .int .u32 o, .int .u8 r, .int .u64 c] 41)
  have x2 := x1.carry b2
  have z2 : ((w.alloc (.cells #[.int .u64 m.ta, .int .u64 m.rp, .int .u32 m.id, .int .u16 m.op, .int .u16 m.st, .int .u64 m.p, .int .u32 m.o, .int .u8 m.r, .int .u64 m.c, .int .u64 m.ar, D] 49)).alloc (.cells #[.int .u64 p, .int .u32 o, .int .u8 r, .int .u64 c] 41)).heap.size = w.heap.size + 1 + 1 := by simp
  have x3 := zero_new ((w.alloc (.cells #[.int .u64 m.ta, .int .u64 m.rp, .int .u32 m.id, .int .u16 m.op, .int .u16 m.st, .int .u64 m.p, .int .u32 m.o, .int .u8 m.r, .int .u64 m.c, .int .u64 m.ar, D] 49)).alloc (.cells #[.int .u64 p, .int .u32 o, .int .u8 r, .int .u64 c] 41))
  have f3 := mfree_new ((w.alloc (.cells #[.int .u64 m.ta, .int .u64 m.rp, .int .u32 m.id, .int .u16 m.op, .int .u16 m.st, .int .u64 m.p, .int .u32 m.o, .int .u8 m.r, .int .u64 m.c, .int .u64 m.ar, D] 49)).alloc (.cells #[.int .u64 p, .int .u32 o, .int .u8 r, .int .u64 c] 41)) #[.int .u64 0, .int .u64 0, .int .u32 0, .int .u16 0, .int .u16 0, .int .u64 0, .int .u32 0, .int .u8 0, .int .u64 0, .int .u64 0, .slice none 0 0]
  rw [z1] at c2
  rw [z2] at x3 f3
  have HX := hide x2
  have HC := hide c2
  have HZ := hide x3
  have HF := hide f3
  have HS2 := hide z2
  have HBB := hide (below_one b1 b2)
  clear x1 x2 c2 x3 f3 z1 z2 b1 b2
  go_enter Tryd.func29, Tryd.ntmps29
  go_wp2_with fail
  generalize hW : (w.alloc (.cells #[.int .u64 m.ta, .int .u64 m.rp, .int .u32 m.id, .int .u16 m.op, .int .u16 m.st, .int .u64 m.p, .int .u32 m.o, .int .u8 m.r, .int .u64 m.c, .int .u64 m.ar, D] 49)).alloc (.cells #[.int .u64 p, .int .u32 o, .int .u8 r, .int .u64 c] 41) = W at *
  have hle : W.heap.size ≤ w.heap.size + 1 + 1 := by have := HS2.out; omega
  have hlw : w.heap.size ≤ W.heap.size := HBB.out.size
  have bb : Below W.heap.size W (W.alloc (.cells #[.int .u64 0, .int .u64 0, .int .u32 0, .int .u16 0, .int .u16 0, .int .u64 0, .int .u32 0, .int .u8 0, .int .u64 0, .int .u64 0, .slice none 0 0] 49)).drew := (below_alloc _ _).drew
  have HZ1 := hide HZ.out.drew
  have HF1 : Hid (MFree (W.alloc (.cells #[.int .u64 0, .int .u64 0, .int .u32 0, .int .u16 0, .int .u16 0, .int .u64 0, .int .u32 0, .int .u8 0, .int .u64 0, .int .u64 0, .slice none 0 0] 49)).drew (w.heap.size + 1 + 1)) := HF.out
  have HBW := hide (HB.out.carry HBB.out)
  clear hW HZ HF HB
  go_region_held (fun w' => (w'.cell? ⟨w.heap.size, 0, none⟩ = some (.int .u64 m.ta) ∧ w'.cell? ⟨w.heap.size, 1, none⟩ = some (.int .u64 m.rp) ∧ w'.cell? ⟨w.heap.size, 2, none⟩ = some (.int .u32 m.id) ∧ w'.cell? ⟨w.heap.size, 3, none⟩ = some (.int .u16 m.op)) ∧
      (w'.cell? ⟨w.heap.size + 1, 0, none⟩ = some (.int .u64 p) ∧ w'.cell? ⟨w.heap.size + 1, 1, none⟩ = some (.int .u32 o) ∧ w'.cell? ⟨w.heap.size + 1, 2, none⟩ = some (.int .u8 r) ∧ w'.cell? ⟨w.heap.size + 1, 3, none⟩ = some (.int .u64 c)))
    (exact ⟨(HX.out.carry (by go_grown)).four, HC.out.carry (by go_grown)⟩)
    (first
      | (go_at_call 52; refine (clone_any ao n cap l _ (HBW.out.carry (by go_grown)) hn).mono ?_; rintro e wx ⟨co, cc, rfl, hbx, hnx, bel⟩; have HN1 := hide (hnx.le (w := w) (by have h1 := bb.size; omega)); have HP1 := hide (apart0 hnx); have bb : Below W.heap.size W wx := below_one bb bel; obtain ⟨k0, k1, k2, k3, k4, k5, k6, k7, k8, k9, k10⟩ := HZ1.out.carry bel; obtain ⟨z0, z1, z2, z3, z4, z5, z6, z7, z8, z9, z10⟩ := HF1.out.carry HZ1.out.lt bel; have HBX := hide hbx; clear bel hbx hnx))
  go_wp2
  have HP2 : Hid (∀ ad, co = some ad → ad.block ≠ w.heap.size + 1 + 1) := HP1.out _ (by have := HS2.out; simp; omega)
  have b9 := below_one HBB.out bb
  have h9 : w.heap.size ≤ w.heap.size + 1 + 1 := by omega
  refine bodyPost_ret (by simp [results, Tryd.results29, go_sem, k0, k1, k2, k3, k4, k5, k6, k7, k8, k9, k10]; rfl) rfl ?_
  exact ⟨co, cc, rfl, ((((((((((HBX.out.set _ _ HP2.out).set _ _ HP2.out).set _ _ HP2.out).set _ _ HP2.out).set _ _ HP2.out).set _ _ HP2.out).set _ _ HP2.out).set _ _ HP2.out).set _ _ HP2.out).set _ _ HP2.out).set _ _ HP2.out, HN1.out, ((((((((((b9.setCell h9 _).setCell h9 _).setCell h9 _).setCell h9 _).setCell h9 _).setCell h9 _).setCell h9 _).setCell h9 _).setCell h9 _).setCell h9 _).setCell h9 _⟩
set_option maxHeartbeats 4000000 in
theorem fault_gen (m : Msg) (D v : Value) (a : Nat) (w : World) (ha : a ≤ 65535) (hg : Glob w) (hN : ∀ W, Glob W → Calls Tryd.prog 33 #[v] W fun e w' => e = .returned (.int .i64 (a : Int)) ∧ Below W.heap.size W w') (m2 : Msg) (h2 : (⟨m.rp, m.ta, m.id, m.op, a, 0, 0, 0, 0, 0⟩ : Msg) = m2) :
    Calls Tryd.prog 19 #[.agg #[.int .u64 m.ta, .int .u64 m.rp, .int .u32 m.id, .int .u16 m.op, .int .u16 m.st, .int .u64 m.p, .int .u32 m.o, .int .u8 m.r, .int .u64 m.c, .int .u64 m.ar, D], v] w fun e w' => ∃ co cc, e = .returned (.agg #[.int .u64 m2.ta, .int .u64 m2.rp, .int .u32 m2.id, .int .u16 m2.op, .int .u16 m2.st, .int .u64 m2.p, .int .u32 m2.o, .int .u8 m2.r, .int .u64 m2.c, .int .u64 m2.ar, .slice co 0 cc]) ∧ Bts w' co 0 cc [] ∧ Below w.heap.size w w' := by
  have HN : Hid _ := hN
  have H2 : Hid _ := h2
  have HG : Hid (Glob w) := hg
  have b1 : Below w.heap.size w (w.alloc (.cells #[.int .u64 m.ta, .int .u64 m.rp, .int .u32 m.id, .int .u16 m.op, .int .u16 m.st, .int .u64 m.p, .int .u32 m.o, .int .u8 m.r, .int .u64 m.c, .int .u64 m.ar, D] 49)) := below_alloc _ _
  have z1 : (w.alloc (.cells #[.int .u64 m.ta, .int .u64 m.rp, .int .u32 m.id, .int .u16 m.op, .int .u16 m.st, .int .u64 m.p, .int .u32 m.o, .int .u8 m.r, .int .u64 m.c, .int .u64 m.ar, D] 49)).heap.size = w.heap.size + 1 := by simp
  have x1 := mbox_new w m D
  have x3 := zero_new (w.alloc (.cells #[.int .u64 m.ta, .int .u64 m.rp, .int .u32 m.id, .int .u16 m.op, .int .u16 m.st, .int .u64 m.p, .int .u32 m.o, .int .u8 m.r, .int .u64 m.c, .int .u64 m.ar, D] 49))
  have f3 := mfree_new (w.alloc (.cells #[.int .u64 m.ta, .int .u64 m.rp, .int .u32 m.id, .int .u16 m.op, .int .u16 m.st, .int .u64 m.p, .int .u32 m.o, .int .u8 m.r, .int .u64 m.c, .int .u64 m.ar, D] 49)) #[.int .u64 0, .int .u64 0, .int .u32 0, .int .u16 0, .int .u16 0, .int .u64 0, .int .u32 0, .int .u8 0, .int .u64 0, .int .u64 0, .slice none 0 0]
  rw [z1] at x3 f3
  have HX := hide x1
  have HZ := hide x3
  have HF := hide f3
  have HS2 := hide z1
  have HBB := hide b1
  clear x1 x3 f3 z1 b1 hg hN h2
  go_enter Tryd.func19, Tryd.ntmps19
  go_wp2_with fail
  generalize hW : w.alloc (.cells #[.int .u64 m.ta, .int .u64 m.rp, .int .u32 m.id, .int .u16 m.op, .int .u16 m.st, .int .u64 m.p, .int .u32 m.o, .int .u8 m.r, .int .u64 m.c, .int .u64 m.ar, D] 49) = W at *
  have hle : W.heap.size ≤ w.heap.size + 1 := by have := HS2.out; omega
  have hlw : w.heap.size ≤ W.heap.size := HBB.out.size
  have bb : Below W.heap.size W (W.alloc (.cells #[.int .u64 0, .int .u64 0, .int .u32 0, .int .u16 0, .int .u16 0, .int .u64 0, .int .u32 0, .int .u8 0, .int .u64 0, .int .u64 0, .slice none 0 0] 49)).drew := (below_alloc _ _).drew
  have HZ1 := hide HZ.out.drew
  have HF1 : Hid (MFree (W.alloc (.cells #[.int .u64 0, .int .u64 0, .int .u32 0, .int .u16 0, .int .u16 0, .int .u64 0, .int .u32 0, .int .u8 0, .int .u64 0, .int .u64 0, .slice none 0 0] 49)).drew (w.heap.size + 1)) := HF.out
  have HGW := hide (HG.out.carry HBB.out)
  clear hW HZ HF HG
  go_region_held (fun w' => (w'.cell? ⟨w.heap.size, 0, none⟩ = some (.int .u64 m.ta) ∧ w'.cell? ⟨w.heap.size, 1, none⟩ = some (.int .u64 m.rp) ∧ w'.cell? ⟨w.heap.size, 2, none⟩ = some (.int .u32 m.id) ∧ w'.cell? ⟨w.heap.size, 3, none⟩ = some (.int .u16 m.op) ∧ w'.cell? ⟨w.heap.size, 4, none⟩ = some (.int .u16 m.st) ∧ w'.cell? ⟨w.heap.size, 5, none⟩ = some (.int .u64 m.p) ∧ w'.cell? ⟨w.heap.size, 6, none⟩ = some (.int .u32 m.o) ∧ w'.cell? ⟨w.heap.size, 7, none⟩ = some (.int .u8 m.r) ∧ w'.cell? ⟨w.heap.size, 8, none⟩ = some (.int .u64 m.c) ∧ w'.cell? ⟨w.heap.size, 9, none⟩ = some (.int .u64 m.ar) ∧ w'.cell? ⟨w.heap.size, 10, none⟩ = some (D)))
    (exact HX.out.carry (by go_grown))
    (first
      | (go_at_call 33; refine (HN.out _ (HGW.out.carry (by go_grown))).mono ?_; rintro e wx ⟨rfl, bel⟩; have HZ1 := hide (HZ1.out.carry bel); have HF1 := hide (HF1.out.carry (by have h1 := bb.size; have h2 := HS2.out; simp at h1 ⊢; omega) bel); have bb : Below W.heap.size W wx := below_one bb bel; clear bel)
      | (go_at_call 29; refine (answer_any m D a 0 0 0 0 0 none 0 0 [] _ ha (bts_nil _) (by omega) m2 H2.out).mono ?_; rintro e wy ⟨co, cc, rfl, hbx, hnx, bel⟩; have HP1 := hide (apart0 hnx); have HL1 := hide HZ1.out.lt; have bb : Below W.heap.size W wy := below_one bb bel; obtain ⟨k0, k1, k2, k3, k4, k5, k6, k7, k8, k9, k10⟩ := HZ1.out.carry bel; obtain ⟨z0, z1, z2, z3, z4, z5, z6, z7, z8, z9, z10⟩ := HF1.out.carry HZ1.out.lt bel; have HBX := hide hbx; clear bel hbx hnx))
  go_wp2
  have HP2 : Hid (∀ ad, co = some ad → ad.block ≠ w.heap.size + 1) := HP1.out _ HL1.out
  have b9 := below_one HBB.out bb
  have h9 : w.heap.size ≤ w.heap.size + 1 := by omega
  refine bodyPost_ret (by simp [results, Tryd.results19, go_sem, k0, k1, k2, k3, k4, k5, k6, k7, k8, k9, k10]; rfl) rfl ?_
  exact ⟨co, cc, rfl, ((((((((((HBX.out.set _ _ HP2.out).set _ _ HP2.out).set _ _ HP2.out).set _ _ HP2.out).set _ _ HP2.out).set _ _ HP2.out).set _ _ HP2.out).set _ _ HP2.out).set _ _ HP2.out).set _ _ HP2.out).set _ _ HP2.out, ((((((((((b9.setCell h9 _).setCell h9 _).setCell h9 _).setCell h9 _).setCell h9 _).setCell h9 _).setCell h9 _).setCell h9 _).setCell h9 _).setCell h9 _).setCell h9 _⟩
theorem str_list (l : List UInt8) : (str l).toList = l := by
  rw [str, ByteArray.toList_eq]
/- are two messages the same? -/
def sameD (m k : Msg) (l r : List UInt8) : Bool := decide (m.ta = k.ta ∧ m.rp = k.rp ∧ m.id = k.id ∧ m.op = k.op ∧ m.st = k.st ∧ (m.p = k.p ∧ m.o = k.o ∧ m.r = k.r ∧ m.c = k.c) ∧ m.ar = k.ar ∧ l = r)
theorem beq_cast (a b : Nat) : ((a : Int) == (b : Int)) = decide (a = b) := by
  by_cases h : a = b
  · subst h; simp
  · rw [decide_eq_false h]; simp; omega
theorem sameD_iff {m k : Msg} {l r : List UInt8} : sameD m k l r = true ↔ (m = k ∧ l = r) := by
  unfold sameD; rw [decide_eq_true_iff]
  constructor
  · rintro ⟨h0, h1, h2, h3, h4, ⟨h5, h6, h7, h8⟩, h9, h10⟩
    cases m; cases k; simp_all
  · rintro ⟨rfl, rfl⟩; simp
set_option maxHeartbeats 1600000 in
theorem same_any (m k : Msg) (ao : Option Addr) (n cap : Nat) (l : List UInt8) (bo : Option Addr) (nb capb : Nat) (r : List UInt8) (w : World) (ha : Bts w ao n cap l) (hb : Bts w bo nb capb r) :
    Calls Tryd.prog 16 #[.agg #[.int .u64 m.ta, .int .u64 m.rp, .int .u32 m.id, .int .u16 m.op, .int .u16 m.st, .int .u64 m.p, .int .u32 m.o, .int .u8 m.r, .int .u64 m.c, .int .u64 m.ar, .slice ao n cap], .agg #[.int .u64 k.ta, .int .u64 k.rp, .int .u32 k.id, .int .u16 k.op, .int .u16 k.st, .int .u64 k.p, .int .u32 k.o, .int .u8 k.r, .int .u64 k.c, .int .u64 k.ar, .slice bo nb capb]] w fun e w' => e = .returned (.bool (sameD m k l r)) ∧ Below w.heap.size w w' := by
  have HT : Hid (Below w.heap.size w ((w.alloc (.cells #[.int .u64 m.ta, .int .u64 m.rp, .int .u32 m.id, .int .u16 m.op, .int .u16 m.st, .int .u64 m.p, .int .u32 m.o, .int .u8 m.r, .int .u64 m.c, .int .u64 m.ar, .slice ao n cap] 49)).alloc (.cells #[.int .u64 k.ta, .int .u64 k.rp, .int .u32 k.id, .int .u16 k.op, .int .u16 k.st, .int .u64 k.p, .int .u32 k.o, .int .u8 k.r, .int .u64 k.c, .int .u64 k.ar, .slice bo nb capb] 49))) := below_one (below_alloc _ _) (below_alloc _ _)
  have cva := conv_bts (ha.carry HT.out)
  have cvb := conv_bts (hb.carry HT.out)
  have hg := eqGuard41
  have hE := eql_cap m.p m.o m.r m.c k.p k.o k.r k.c
  have hED : decide ((m.p : Int) = k.p ∧ (m.o : Int) = k.o ∧ (m.r : Int) = k.r ∧ (m.c : Int) = k.c) = decide (m.p = k.p ∧ m.o = k.o ∧ m.r = k.r ∧ m.c = k.c) := by apply decide_eq_decide.2; omega
  rw [hED] at hE
  have e0 := beq_cast m.ta k.ta
  have e1 := beq_cast m.rp k.rp
  have e2 := beq_cast m.id k.id
  have e3 := beq_cast m.op k.op
  have e4 := beq_cast m.st k.st
  have e6 := beq_cast m.ar k.ar
  have HS : Hid (sameD m k l r = (decide (m.ta = k.ta) && decide (m.rp = k.rp) && decide (m.id = k.id) && decide (m.op = k.op) && decide (m.st = k.st) && decide (m.p = k.p ∧ m.o = k.o ∧ m.r = k.r ∧ m.c = k.c) && decide (m.ar = k.ar) && decide (l = r))) := by
    show sameD m k l r = _
    simp only [sameD, Bool.decide_and, Bool.and_assoc]
  rw [HS.out]
  clear ha hb hED HS
  generalize decide (m.ta = k.ta) = q0 at e0 ⊢
  generalize decide (m.rp = k.rp) = q1 at e1 ⊢
  generalize decide (m.id = k.id) = q2 at e2 ⊢
  generalize decide (m.op = k.op) = q3 at e3 ⊢
  generalize decide (m.st = k.st) = q4 at e4 ⊢
  generalize decide (m.p = k.p ∧ m.o = k.o ∧ m.r = k.r ∧ m.c = k.c) = q5 at hE ⊢
  generalize decide (m.ar = k.ar) = q6 at e6 ⊢
  cases q0 with
  | false =>
    simp only [Bool.false_and]
    go_enter Tryd.func16, Tryd.ntmps16
    go_wp2
    go_ret
    exact ⟨rfl, HT.out⟩
  | true =>
    cases q1 with
    | false =>
      simp only [Bool.false_and, Bool.true_and]
      go_enter Tryd.func16, Tryd.ntmps16
      go_wp2
      go_ret
      exact ⟨rfl, HT.out⟩
    | true =>
      cases q2 with
      | false =>
        simp only [Bool.false_and, Bool.true_and]
        go_enter Tryd.func16, Tryd.ntmps16
        go_wp2
        go_ret
        exact ⟨rfl, HT.out⟩
      | true =>
        cases q3 with
        | false =>
          simp only [Bool.false_and, Bool.true_and]
          go_enter Tryd.func16, Tryd.ntmps16
          go_wp2
          go_ret
          exact ⟨rfl, HT.out⟩
        | true =>
          cases q4 with
          | false =>
            simp only [Bool.false_and, Bool.true_and]
            go_enter Tryd.func16, Tryd.ntmps16
            go_wp2
            go_ret
            exact ⟨rfl, HT.out⟩
          | true =>
            cases q5 with
            | false =>
              simp only [Bool.false_and, Bool.true_and]
              go_enter Tryd.func16, Tryd.ntmps16
              go_wp2
              go_ret
              exact ⟨rfl, HT.out⟩
            | true =>
              cases q6 with
              | false =>
                simp only [Bool.false_and, Bool.true_and]
                go_enter Tryd.func16, Tryd.ntmps16
                go_wp2
                go_ret
                exact ⟨rfl, HT.out⟩
              | true =>
                simp only [Bool.true_and]
                go_enter Tryd.func16, Tryd.ntmps16
                go_wp2
                go_ret
                refine ⟨?_, HT.out⟩
                show Ending.returned (.bool ((str l).toList == (str r).toList)) = _
                rw [str_list, str_list]
                by_cases h : l = r
                · subst h; rw [decide_eq_true rfl, BEq.rfl]
                · rw [decide_eq_false h, beq_eq_false_iff_ne.2 h]
end
end Go.Proofs.YtjpgfldppepmiaaDoor
namespace Go.Proofs.YtjpgfldppepmiaaDoor
section
open Go.RowKit
/- where a half lies -/
structure Ad where
  B : Nat
  g : Nat
  go : Nat
  m : Nat
  a : Nat
  h : Nat
  k : Nat
  v : Value
  sb : Nat
  N : Nat
  dv : Value
  nv : Value
def Ad.upd (A : Ad) (v dv nv : Value) : Ad := ⟨A.B, A.g, A.go, A.m, A.a, A.h, A.k, v, A.sb, A.N, dv, nv⟩
/- what a half holds -/
structure Hs where
  t : Nat
  es : List Ent
  T : Nat → Ob
  D : List Int
  G : List Int
def cellsU (D : List Int) : List Value := D.map (Value.int .u64)
def cellsG (G : List Int) : List Value := G.map (Value.int .i64)
structure Sv (w0 w : World) (A : Ad) (p : Nat) (ws : List Nat) (s : Hs) : Prop where
  od : Od w0 w A.B A.g A.go A.m A.a A.h A.k p A.v ws s.t s.es s.T
  box : w.heap[A.sb]? = some (.cells #[A.dv, A.nv] 35 (0, 0))
  dn : w.ownsRow A.N 27 1 A.dv s.D.length (cellsU s.D)
  gn : w.ownsRow A.N 3 1 A.nv s.G.length (cellsG s.G)
  hn : A.h < A.N
  n0 : w0.heap.size ≤ A.N
  nw : A.N ≤ w.heap.size
  s0 : w0.heap.size ≤ A.sb
def SvS (A : Ad) (j : Nat) : Prop := OdS A.g A.go A.m A.a A.v j ∨ j = A.sb ∨ A.dv.ownBlock = some j ∨ A.nv.ownBlock = some j
def SvEnd (w0 w : World) (A : Ad) (p : Nat) (ws : List Nat) (w' : World) (s : Hs) : Prop :=
  ∃ v dv nv, Sv w0 w' (A.upd v dv nv) p ws s ∧ Foot (SvS A) w w' ∧ Moved w A.v v ∧ Moved w A.dv dv ∧ Moved w A.nv nv
variable {w0 w w1 w2 w' : World} {A A' : Ad} {p : Nat} {ws : List Nat} {s s' s1 : Hs}
theorem Moved.refl (w : World) (v : Value) : Moved w v v := fun _ e => .inl e
theorem Moved.trans {v v1 v2 : Value} (h : Moved w v v1) (k : Moved w1 v1 v2) (hs : w.heap.size ≤ w1.heap.size) : Moved w v v2 := fun r e => by
  rcases k r e with e | e
  · exact h r e
  · exact .inr (Nat.le_trans hs e)
/- a block of a type that tables and oracles have nothing of -/
theorem Sv.noT (x : Sv w0 w A p ws s) {b : Nat} {cs : Array Value} {ty : TypeId} (hb : w.heap[b]? = some (.cells cs ty (0, 0))) (ht : Odd ty) : ¬ OdS A.g A.go A.m A.a A.v b := fun e => by
  rcases e with e | e
  · exact x.od.tk.noAsk hb ht.1 ht.2.1 ht.2.2.1 e
  · obtain ⟨C, hC⟩ := x.od.tb.blk
    rw [e, hC] at hb; cases hb; exact ht.2.2.2 rfl
theorem odd_svc : Odd 35 := ⟨by decide, by decide, by decide, by decide⟩
theorem odd_u64 : Odd 27 := ⟨by decide, by decide, by decide, by decide⟩
theorem odd_int : Odd 3 := ⟨by decide, by decide, by decide, by decide⟩
/- a type that no half has anything of -/
def Odd3 (ty : TypeId) : Prop := Odd ty ∧ ty ≠ 35 ∧ ty ≠ 27 ∧ ty ≠ 3
theorem Sv.noS (x : Sv w0 w A p ws s) {b : Nat} {cs : Array Value} {ty : TypeId} (hb : w.heap[b]? = some (.cells cs ty (0, 0))) (ht : Odd3 ty) : ¬ SvS A b := fun e => by
  rcases e with e | e | e | e
  · exact x.noT hb ht.1 e
  · rw [e, x.box] at hb; cases hb; exact ht.2.1 rfl
  · obtain ⟨cur, h1, _⟩ := owns_block x.dn e
    rw [h1] at hb; cases hb; exact ht.2.2.1 rfl
  · obtain ⟨cur, h1, _⟩ := owns_block x.gn e
    rw [h1] at hb; cases hb; exact ht.2.2.2 rfl
theorem Sv.up (x : Sv w0 w A p ws s) {j : Nat} (e : SvS A j) : w0.heap.size ≤ j ∧ j < w.heap.size := by
  have b0 := x.od.tk.new.b0
  have a0 := x.od.tk.new.a0
  have n0 := x.n0
  rcases e with ((e | e | e | e) | e) | e | e | e
  · have := x.od.tk.orc.bg; have := lt_of_heap x.od.tk.orc.box; omega
  · obtain ⟨y, z, hm⟩ := x.od.tk.orc.map.isMap
    have := x.od.tk.orc.bm; have := lt_of_heap hm; omega
  · have := lt_of_heap x.od.tk.tape.box; omega
  · obtain ⟨cur, h1, h2⟩ := owns_block x.od.tk.orc.row e
    have := lt_of_heap h1; omega
  · obtain ⟨C, hC⟩ := x.od.tb.blk
    have := x.od.new; have := lt_of_heap hC; omega
  · have := x.s0; have := lt_of_heap x.box; omega
  · obtain ⟨cur, h1, h2⟩ := owns_block x.dn e
    have := lt_of_heap h1; omega
  · obtain ⟨cur, h1, h2⟩ := owns_block x.gn e
    have := lt_of_heap h1; omega
theorem Sv.noH (x : Sv w0 w A p ws s) {b : Nat} {cs : Array Value} (hb : w.heap[b]? = some (.cells cs 27 (0, 0))) (hn : b < A.N) : ¬ SvS A b := fun e => by
  rcases e with e | e | e | e
  · exact x.noT hb odd_u64 e
  · rw [e, x.box] at hb; cases hb
  · obtain ⟨cur, h1, h2⟩ := owns_block x.dn e; omega
  · obtain ⟨cur, h1, h2⟩ := owns_block x.gn e
    rw [h1] at hb; cases hb
theorem Od.foot {B g go m a h k : Nat} {v : Value} {t : Nat} {es : List Ent} {T : Nat → Ob} (x : Od w0 w B g go m a h k p v ws t es T) {S : Nat → Prop} (f : Foot S w w') (no : ∀ j, S j → w0.heap.size ≤ j ∧ ¬ OdS g go m a v j ∧ j ≠ h) : Od w0 w' B g go m a h k p v ws t es T :=
  ⟨⟨x.tk.orc.foot f (fun e => (no _ e).2.1 (.inl (.inl rfl))) (fun e => (no _ e).2.1 (.inl (.inr (.inl rfl)))) (fun _ hr e => (no _ e).2.1 (.inl (.inr (.inr (.inr hr))))), x.tk.tape.foot f (fun e => (no _ e).2.1 (.inl (.inr (.inr (.inl rfl))))) (fun e => (no _ e).2.2 rfl),
    ⟨x.tk.new.b0, x.tk.new.a0, x.tk.new.h0, x.tk.new.bel.trans (f.below x.tk.new.bel.size fun j e => (no j e).1), Nat.le_trans x.tk.new.bs f.size⟩⟩, x.tb.foot f (fun e => (no _ e).2.1 (.inr rfl)), x.new⟩
theorem Sv.foot (x : Sv w0 w A p ws s) {S : Nat → Prop} (f : Foot S w w') (no : ∀ j, S j → w0.heap.size ≤ j ∧ ¬ SvS A j ∧ j ≠ A.h) : Sv w0 w' A p ws s :=
  ⟨x.od.foot f (fun j e => ⟨(no j e).1, fun h => (no j e).2.1 (.inl h), (no j e).2.2⟩), (f.block _ (lt_of_heap x.box) (fun e => (no _ e).2.1 (.inr (.inl rfl)))).trans x.box,
    owns_foot x.dn f (fun _ hr e => (no _ e).2.1 (.inr (.inr (.inl hr)))), owns_foot x.gn f (fun _ hr e => (no _ e).2.1 (.inr (.inr (.inr hr)))), x.hn, x.n0, Nat.le_trans x.nw f.size, x.s0⟩
theorem Sv.grow (x : Sv w0 w A p ws s) (b : Below w.heap.size w w') : Sv w0 w' A p ws s := x.foot (below_foot (fun _ => False) b) (fun _ e => e.elim)
theorem Sv.drewN (x : Sv w0 w A p ws s) (q : Nat) : Sv w0 (w.drewN q) A p ws s := ⟨x.od.drewN q, x.box, x.dn, x.gn, x.hn, x.n0, x.nw, x.s0⟩
theorem Sv.bel (x : Sv w0 w A p ws s) : Below w0.heap.size w0 w := x.od.tk.new.bel
theorem Sv.glob (x : Sv w0 w A p ws s) (hg : Glob w0) : Glob w := hg.carry x.bel
theorem Sv.hrow (x : Sv w0 w A p ws s) : ∃ cs, w.heap[A.h]? = some (.cells cs 27 (0, 0)) := ⟨_, x.od.tk.tape.row⟩
/- other memory turns: blocks of types that no half has anything of, and new ones -/
def Fre3 (w : World) (b : Nat) : Prop := w.heap.size ≤ b ∨ ∃ (cs : Array Value) (ty : TypeId), w.heap[b]? = some (.cells cs ty (0, 0)) ∧ Odd3 ty
theorem Sv.off (x : Sv w0 w A p ws s) {S : Nat → Prop} (f : Foot S w w') (hS : ∀ b, S b → w0.heap.size ≤ b ∧ Fre3 w b) : Sv w0 w' A p ws s := by
  refine x.foot f fun j e => ⟨(hS j e).1, ?_, ?_⟩
  · rcases (hS j e).2 with h | ⟨cs, ty, h, ht⟩
    · intro h2; have := (x.up h2).2; omega
    · exact x.noS h ht
  · obtain ⟨cr, hr⟩ := x.hrow
    rcases (hS j e).2 with h | ⟨cs, ty, h, ht⟩
    · have := lt_of_heap hr; omega
    · rintro rfl
      rw [hr] at h; cases h; exact ht.2.2.1 rfl
/- the end of deeds -/
theorem Sv.stay (x : Sv w0 w A p ws s) : SvEnd w0 w A p ws w s := ⟨_, _, _, x, Foot.refl _ _, Moved.refl _ _, Moved.refl _ _, Moved.refl _ _⟩
theorem SvEnd.from (x : SvEnd w0 w1 A p ws w2 s) (b : Below w.heap.size w w1) : SvEnd w0 w A p ws w2 s := by
  obtain ⟨v, dv, nv, S, F, h1, h2, h3⟩ := x
  exact ⟨v, dv, nv, S, (below_foot _ b).trans F (fun _ e => .inl e), (Moved.refl w A.v).trans h1 b.size, (Moved.refl w A.dv).trans h2 b.size, (Moved.refl w A.nv).trans h3 b.size⟩
theorem SvEnd.to (x : SvEnd w0 w A p ws w1 s) (b : Below w1.heap.size w1 w2) : SvEnd w0 w A p ws w2 s := by
  obtain ⟨v, dv, nv, S, F, h1, h2, h3⟩ := x
  exact ⟨v, dv, nv, S.grow b, F.trans (below_foot (SvS A) b) (fun _ e => .inl e), h1, h2, h3⟩
theorem SvS.upd {v dv nv : Value} {j : Nat} (h1 : Moved w A.v v) (h2 : Moved w A.dv dv) (h3 : Moved w A.nv nv) (e : SvS (A.upd v dv nv) j) : SvS A j ∨ w.heap.size ≤ j := by
  rcases e with ((e | e | e | e) | e) | e | e | e
  · exact .inl (.inl (.inl (.inl e)))
  · exact .inl (.inl (.inl (.inr (.inl e))))
  · exact .inl (.inl (.inl (.inr (.inr (.inl e)))))
  · rcases h1 j e with e | e
    · exact .inl (.inl (.inl (.inr (.inr (.inr e)))))
    · exact .inr e
  · exact .inl (.inl (.inr e))
  · exact .inl (.inr (.inl e))
  · rcases h2 j e with e | e
    · exact .inl (.inr (.inr (.inl e)))
    · exact .inr e
  · rcases h3 j e with e | e
    · exact .inl (.inr (.inr (.inr e)))
    · exact .inr e
/- one deed behind the other -/
theorem SvEnd.on {v dv nv : Value} (F : Foot (SvS A) w w1) (h1 : Moved w A.v v) (h2 : Moved w A.dv dv) (h3 : Moved w A.nv nv) (x : SvEnd w0 w1 (A.upd v dv nv) p ws w2 s) : SvEnd w0 w A p ws w2 s := by
  obtain ⟨v', dv', nv', S, F2, k1, k2, k3⟩ := x
  exact ⟨v', dv', nv', S, F.trans F2 (fun j e => SvS.upd h1 h2 h3 e), h1.trans k1 F.size, h2.trans k2 F.size, h3.trans k3 F.size⟩
/- a deed on the table -/
theorem Sv.table (x : Sv w0 w A p ws s) {t : Nat} {es : List Ent} {T : Nat → Ob} (E : OdEnd w0 w A.B A.g A.go A.m A.a A.h A.k p A.v ws w' t es T) : SvEnd w0 w A p ws w' ⟨t, es, T, s.D, s.G⟩ := by
  obtain ⟨v, S, F, hv⟩ := E
  refine ⟨v, A.dv, A.nv, ⟨S, (F.block _ (lt_of_heap x.box) (x.noT x.box odd_svc)).trans x.box, owns_foot x.dn F (fun r hr => ?_), owns_foot x.gn F (fun r hr => ?_), x.hn, x.n0, Nat.le_trans x.nw F.size, x.s0⟩, F.mono (fun _ e => .inl e), hv, Moved.refl _ _, Moved.refl _ _⟩
  · obtain ⟨cur, h1, _⟩ := owns_block x.dn hr
    exact x.noT h1 odd_u64
  · obtain ⟨cur, h1, _⟩ := owns_block x.gn hr
    exact x.noT h1 odd_int
/- a deed of the service's -/
theorem Sv.svc (x : Sv w0 w A p ws s) {dv nv : Value} {D G : List Int} (F : Foot (fun j => j = A.sb ∨ A.dv.ownBlock = some j ∨ A.nv.ownBlock = some j) w w') (hb : w'.heap[A.sb]? = some (.cells #[dv, nv] 35 (0, 0)))
    (hd : w'.ownsRow A.N 27 1 dv D.length (cellsU D)) (hg : w'.ownsRow A.N 3 1 nv G.length (cellsG G)) (md : Moved w A.dv dv) (mg : Moved w A.nv nv) : SvEnd w0 w A p ws w' ⟨s.t, s.es, s.T, D, G⟩ := by
  refine ⟨A.v, dv, nv, ⟨x.od.foot F (fun j e => ⟨(x.up (.inr e)).1, ?_, ?_⟩), hb, hd, hg, x.hn, x.n0, Nat.le_trans x.nw F.size, x.s0⟩, F.mono (fun _ e => .inr e), Moved.refl _ _, md, mg⟩
  · rcases e with e | e | e
    · rw [e]; exact x.noT x.box odd_svc
    · obtain ⟨cur, h1, _⟩ := owns_block x.dn e
      exact x.noT h1 odd_u64
    · obtain ⟨cur, h1, _⟩ := owns_block x.gn e
      exact x.noT h1 odd_int
  · obtain ⟨cr, hr⟩ := x.hrow
    have := x.hn
    rcases e with e | e | e
    · rintro rfl
      rw [e, x.box] at hr; cases hr
    · obtain ⟨cur, h1, h2⟩ := owns_block x.dn e
      omega
    · rintro rfl
      obtain ⟨cur, h1, _⟩ := owns_block x.gn e
      rw [h1] at hr; cases hr
/- what a deed leaves of other memory -/
structure Kh (w w' : World) : Prop where
  os : w'.os = w.os
  tape : w'.tape = w.tape
  output : w'.output = w.output
  size : w.heap.size ≤ w'.heap.size
  block : ∀ (b : Nat) (cs : Array Value) (ty : TypeId), w.heap[b]? = some (.cells cs ty (0, 0)) → Odd3 ty → w'.heap[b]? = w.heap[b]?
theorem Kh.foot (x : Kh w w') : Foot (Chg w w') w w' := ⟨x.os, x.tape, x.output, x.size, fun _ _ hn => Classical.byContradiction hn⟩
theorem Kh.same (x : Kh w w') {b : Nat} {cs : Array Value} {ty : TypeId} (hb : w.heap[b]? = some (.cells cs ty (0, 0))) (ht : Odd3 ty) : ¬ Chg w w' b := fun e => e (x.block b cs ty hb ht)
theorem Kh.refl (w : World) : Kh w w := ⟨rfl, rfl, rfl, Nat.le_refl _, fun _ _ _ _ _ => rfl⟩
theorem Kh.trans (x : Kh w w1) (y : Kh w1 w2) : Kh w w2 := ⟨y.os.trans x.os, y.tape.trans x.tape, y.output.trans x.output, Nat.le_trans x.size y.size, fun b cs ty hb ht => (y.block b cs ty ((x.block b cs ty hb ht).trans hb) ht).trans (x.block b cs ty hb ht)⟩
theorem below_kh (b : Below w.heap.size w w') : Kh w w' := ⟨b.os, b.tape, b.output, b.size, fun i _ _ hb _ => b.block i (lt_of_heap hb)⟩
theorem cap_odd3 : Odd3 41 := ⟨cap_odd, by decide, by decide, by decide⟩
theorem msg_odd3 : Odd3 49 := ⟨⟨by decide, by decide, by decide, by decide⟩, by decide, by decide, by decide⟩
theorem srv_odd3 : Odd3 81 := ⟨⟨by decide, by decide, by decide, by decide⟩, by decide, by decide, by decide⟩
theorem res_odd3 : Odd3 90 := ⟨⟨by decide, by decide, by decide, by decide⟩, by decide, by decide, by decide⟩
theorem byte_odd3 : Odd3 5 := ⟨⟨by decide, by decide, by decide, by decide⟩, by decide, by decide, by decide⟩
theorem CBox.kh {b p o r c : Nat} (x : CBox w b p o r c) (f : Kh w w') : CBox w' b p o r c := (f.block _ _ _ x cap_odd3).trans x
theorem MB.kh {g : Nat} {m : Msg} {D : Value} (x : MB w g m D) (f : Kh w w') : MB w' g m D := (f.block _ _ _ x msg_odd3).trans x
theorem owns_kh {base : Nat} {e : TypeId} {size : Nat} {v : Value} {n : Nat} {xs : List Value} (x : w.ownsRow base e size v n xs) (f : Kh w w') (ht : Odd3 e) : w'.ownsRow base e size v n xs := by
  refine owns_foot x f.foot fun r hr => ?_
  obtain ⟨cur, h1, _⟩ := owns_block x hr
  exact f.same h1 ht
theorem Sv.kh (x : Sv w0 w A p ws s) (E : SvEnd w0 w A p ws w' s1) : Kh w w' := by
  obtain ⟨v, dv, nv, S, F, h1, h2, h3⟩ := E
  exact ⟨F.os, F.tape, F.output, F.size, fun b cs ty hb ht => F.block b (lt_of_heap hb) (x.noS hb ht)⟩
/- two halves in one memory -/
structure Du (w0 w : World) (A A' : Ad) (p : Nat) (ws : List Nat) (s s' : Hs) : Prop where
  x : Sv w0 w A p ws s
  y : Sv w0 w A' p ws s'
  ap : ∀ j, SvS A j → ¬ SvS A' j
  hx : A.h < A'.N
  hy : A'.h < A.N
theorem Du.symm (d : Du w0 w A A' p ws s s') : Du w0 w A' A p ws s' s := ⟨d.y, d.x, fun j e h => d.ap j h e, d.hy, d.hx⟩
theorem Du.grow (d : Du w0 w A A' p ws s s') (b : Below w.heap.size w w') : Du w0 w' A A' p ws s s' := ⟨d.x.grow b, d.y.grow b, d.ap, d.hx, d.hy⟩
theorem Du.drewN (d : Du w0 w A A' p ws s s') (q : Nat) : Du w0 (w.drewN q) A A' p ws s s' := ⟨d.x.drewN q, d.y.drewN q, d.ap, d.hx, d.hy⟩
theorem Du.off (d : Du w0 w A A' p ws s s') {S : Nat → Prop} (f : Foot S w w') (hS : ∀ b, S b → w0.heap.size ≤ b ∧ Fre3 w b) : Du w0 w' A A' p ws s s' := ⟨d.x.off f hS, d.y.off f hS, d.ap, d.hx, d.hy⟩
/- a deed on the one leaves the other -/
theorem Du.left (d : Du w0 w A A' p ws s s') (E : SvEnd w0 w A p ws w' s1) : ∃ v dv nv, Du w0 w' (A.upd v dv nv) A' p ws s1 s' := by
  obtain ⟨v, dv, nv, S, F, h1, h2, h3⟩ := E
  refine ⟨v, dv, nv, ⟨S, d.y.foot F (fun j e => ⟨(d.x.up e).1, d.ap j e, ?_⟩), fun j e h => ?_, d.hx, d.hy⟩⟩
  · rintro rfl
    obtain ⟨cr, hr⟩ := d.y.hrow
    exact d.x.noH hr d.hy e
  · rcases SvS.upd h1 h2 h3 e with e | e
    · exact d.ap j e h
    · have := (d.y.up h).2; omega
end
end Go.Proofs.YtjpgfldppepmiaaDoor
namespace Go.Proofs.YtjpgfldppepmiaaDoor
section
open Go.RowKit
variable {w0 w w1 w2 w' : World} {A A' : Ad} {p : Nat} {ws : List Nat} {s s' s1 : Hs}
theorem Tryd.infoU64 : (Tryd.prog.info? 27).map (fun i => (i.zero, i.size, i.bytes)) = some (some (.int .u64 0), 1, 8) := by kernel_rfl
theorem Tryd.infoInt : (Tryd.prog.info? 3).map (fun i => (i.zero, i.size, i.bytes)) = some (some (.int .i64 0), 1, 8) := by kernel_rfl
/- which rights an operation needs -/
def needB (op : Nat) : Bool := decide (op = 7) || (decide (100 ≤ op) && decide (op ≤ 103))
def needN (op : Nat) : Nat := if op = 7 then 0 else if op = 100 then 1 else if op = 101 then 2 else if op = 102 then 4 else if op = 103 then 8 else 0
theorem needN_le (op : Nat) : needN op ≤ 255 := by unfold needN; repeat' split
                                                   all_goals omega
set_option maxHeartbeats 800000 in
theorem svc_need (a : Option Addr) (op : Nat) (w : World) (ho : op ≤ 65535) :
    Calls Tryd.prog 39 #[.pointer a, .int .u16 (op : Int)] w fun e w' => e = .returned (.tuple #[.int .u8 (needN op : Int), .bool (needB op)]) ∧ w' = w := by
  by_cases h7 : op = 7
  · subst h7
    go_enter Tryd.func39, Tryd.ntmps39
    go_wp2
    go_ret2
    exact ⟨rfl, rfl⟩
  · have h7i : ¬ (op : Int) = 7 := by omega
    by_cases h1 : op < 100
    · have h1i : (op : Int) < 100 := by omega
      rw [show needB op = false from by unfold needB; rw [decide_eq_false h7, decide_eq_false (by omega : ¬ 100 ≤ op)]; rfl, show needN op = 0 from by unfold needN; rw [if_neg h7, if_neg (by omega), if_neg (by omega), if_neg (by omega), if_neg (by omega)]]
      clear h7 h1
      go_enter Tryd.func39, Tryd.ntmps39
      go_wp2
      go_ret2
      exact ⟨rfl, rfl⟩
    · by_cases h2 : 103 < op
      · have h1i : ¬ (op : Int) < 100 := by omega
        have h2i : (103 : Int) < (op : Int) := by omega
        rw [show needB op = false from by unfold needB; rw [decide_eq_false h7, decide_eq_false (by omega : ¬ op ≤ 103), Bool.and_false]; rfl, show needN op = 0 from by unfold needN; rw [if_neg h7, if_neg (by omega), if_neg (by omega), if_neg (by omega), if_neg (by omega)]]
        clear h7 h1 h2
        go_enter Tryd.func39, Tryd.ntmps39
        go_wp2
        go_ret2
        exact ⟨rfl, rfl⟩
      · have : op = 100 ∨ op = 101 ∨ op = 102 ∨ op = 103 := by omega
        clear h7 h7i h1 h2 ho
        rcases this with rfl | rfl | rfl | rfl
        all_goals
          go_enter Tryd.func39, Tryd.ntmps39
          go_wp2
          go_ret2
          exact ⟨rfl, rfl⟩
theorem cellsG_snoc (G : List Int) (z : Int) : cellsG (G ++ [z]) = cellsG G ++ [.int .i64 z] := by simp [cellsG]
theorem cellsU_snoc (D : List Int) (z : Int) : cellsU (D ++ [z]) = cellsU D ++ [.int .u64 z] := by simp [cellsU]
theorem len_snoc {α : Type} (D : List α) (z : α) : (D ++ [z]).length = D.length + 1 := by simp
set_option maxRecDepth 20000 in
set_option maxHeartbeats 1600000 in
theorem svc_gone (z : Int) (w : World) (x : Sv w0 w A p ws s) (hl : s.G.length ≤ 5000000000000) :
    Calls Tryd.prog 38 #[.pointer (some ⟨A.sb, 0, none⟩), .int .i64 z] w fun e w' => e = .returned (.tuple #[]) ∧ SvEnd w0 w A p ws w' ⟨s.t, s.es, s.T, s.D, s.G ++ [z]⟩ := by
  have c1 : w.cell? ⟨A.sb, 1, none⟩ = some A.nv := by rw [cell_of_row w _ _ _ _ _ x.box]; rfl
  obtain ⟨v', w1, hr, ho, hf, hm⟩ := app_elem (s := 33) (e := 3) (ty := 33) (z := .int .i64 0) (sz := 1) (by' := 8) #[.int .i64 z] Tryd.underlying33 Tryd.infoInt rfl (by omega) rfl (fun u hu => by simp at hu; subst hu; rfl) (by omega) (by unfold maxLen; omega) x.gn x.nw
  obtain ⟨ro, rc, rfl⟩ := owns_slice ho
  have ns : ¬ A.nv.ownBlock = some A.sb := fun e => by
    obtain ⟨cur, h1, _⟩ := owns_block x.gn e
    rw [x.box] at h1; cases h1
  have hb1 : w1.heap[A.sb]? = some (.cells #[A.dv, A.nv] 35 (0, 0)) := (hf.block _ (lt_of_heap x.box) ns).trans x.box
  have hb2 := heap_setCell_same w1 A.sb 1 _ _ (.slice ro (s.G.length + 1) rc) hb1
  have f2 := foot_set w1 ⟨A.sb, 1, none⟩ (.slice ro (s.G.length + 1) rc)
  have HE : Hid (SvEnd w0 w A p ws (w1.setCell ⟨A.sb, 1, none⟩ (.slice ro (s.G.length + 1) rc)) ⟨s.t, s.es, s.T, s.D, s.G ++ [z]⟩) := by
    refine x.svc ((hf.mono (fun j e => .inr (.inr e))).trans f2 (fun j e => .inl (.inl e))) hb2 ?_ ?_ (Moved.refl _ _) hm
    · refine owns_foot (owns_foot x.dn hf (fun r hr e => ?_)) f2 (fun r hr e => ?_)
      · obtain ⟨c1, h1, _⟩ := owns_block x.dn hr
        obtain ⟨c2, h2, _⟩ := owns_block x.gn e
        rw [h1] at h2; cases h2
      · obtain ⟨c1, h1, _⟩ := owns_block x.dn hr
        rw [show r = A.sb from e, x.box] at h1; cases h1
    · rw [cellsG_snoc, len_snoc]
      refine owns_foot ho f2 (fun r hr e => ?_)
      obtain ⟨c1, h1, _⟩ := owns_block ho hr
      rw [show r = A.sb from e, hb1] at h1; cases h1
  have z1 : w1.frozen? ⟨A.sb, 1, none⟩ = false := frozen_of_row w1 _ _ _ _ hb1
  have c2 : w1.cell? ⟨A.sb, 1, none⟩ = some A.nv := by rw [cell_of_row w1 _ _ _ _ _ hb1]; rfl
  have HR := hide hr
  clear x ho hf hm ns hb1 hb2 f2 hr
  obtain ⟨B, g, go, m, a, h, k, v, sb, N, dv, nv⟩ := A
  simp only at c1 c2 z1 HR
  go_enter Tryd.func38, Tryd.ntmps38
  go_wp2_with (at_builtin; refine wpList_append_run rfl _ _ _ rfl _ _ _ _ rfl rfl HR.out ?_)
  go_end0
  exact ⟨rfl, HE.out⟩
/- what is remembered of a deed -/
def doneF (op : Nat) (z : Int) : Int := IntKind.u64.wrap ((op : Int) * 65536 + IntKind.u64.wrap z)
def mkD (so : Option Addr) (sn sc : Nat) : Value := .slice so sn sc
def resZ : Array Value := #[.int .u64 0, .int .u32 0, .int .u8 0, .int .u64 0, .int .u64 0, .slice none 0 0]
theorem two_types {x y : Nat} {c d : Array Value} {t u : TypeId} {e f : Nat × Nat} (h1 : w.heap[x]? = some (.cells c t e)) (h2 : w.heap[y]? = some (.cells d u f)) (h : t ≠ u) : x ≠ y := by
  intro e; subst e; rw [h1] at h2; cases h2; exact h rfl
/- what an operation answers, in a variable -/
def RB (w : World) (g : Nat) (q : Cp) (ar : Int) (D : Value) : Prop := w.heap[g]? = some (.cells #[.int .u64 (q.p : Int), .int .u32 (q.o : Int), .int .u8 (q.r : Int), .int .u64 (q.c : Int), .int .u64 ar, D] 90 (0, 0))
def resC (q : Cp) (ar : Int) (D : Value) : Array Value := #[.int .u64 (q.p : Int), .int .u32 (q.o : Int), .int .u8 (q.r : Int), .int .u64 (q.c : Int), .int .u64 ar, D]
theorem RB.all {g : Nat} {q : Cp} {ar : Int} {D : Value} (h : RB w g q ar D) : w.cell? ⟨g, 0, none⟩ = some (.int .u64 (q.p : Int)) ∧ w.cell? ⟨g, 1, none⟩ = some (.int .u32 (q.o : Int)) ∧ w.cell? ⟨g, 2, none⟩ = some (.int .u8 (q.r : Int)) ∧ w.cell? ⟨g, 3, none⟩ = some (.int .u64 (q.c : Int)) ∧ w.cell? ⟨g, 4, none⟩ = some (.int .u64 ar) ∧ w.cell? ⟨g, 5, none⟩ = some D := by
  refine ⟨?_, ?_, ?_, ?_, ?_, ?_⟩ <;> (rw [cell_of_row w g _ _ _ _ h]; rfl)
theorem RB.z {g : Nat} {q : Cp} {ar : Int} {D : Value} (h : RB w g q ar D) (j : Nat) : w.frozen? ⟨g, j, none⟩ = false := frozen_of_row w g j _ _ h
theorem RB.grow {g : Nat} {q : Cp} {ar : Int} {D : Value} (h : RB w g q ar D) (b : Below w.heap.size w w') : RB w' g q ar D := (b.block g (lt_of_heap h)).trans h
theorem RB.foot {S : Nat → Prop} {g : Nat} {q : Cp} {ar : Int} {D : Value} (h : RB w g q ar D) (f : Foot S w w') (hS : ¬ S g) : RB w' g q ar D := (f.block g (lt_of_heap h) hS).trans h
theorem RB.kh {g : Nat} {q : Cp} {ar : Int} {D : Value} (h : RB w g q ar D) (k : Kh w w') : RB w' g q ar D := (k.block _ _ _ h res_odd3).trans h
theorem rb_new (w : World) (q : Cp) (ar : Int) (D : Value) : RB (w.alloc (.cells (resC q ar D) 90)) w.heap.size q ar D := heap_alloc_new _ _
def lay6 (w : World) (g : Nat) (q : Cp) (ar : Int) (D : Value) : World := (((((w.setCell ⟨g, 0, none⟩ (.int .u64 (q.p : Int))).setCell ⟨g, 1, none⟩ (.int .u32 (q.o : Int))).setCell ⟨g, 2, none⟩ (.int .u8 (q.r : Int))).setCell ⟨g, 3, none⟩ (.int .u64 (q.c : Int))).setCell ⟨g, 4, none⟩ (.int .u64 ar)).setCell ⟨g, 5, none⟩ D
theorem RB.lay {g : Nat} {x : Cp} {xr : Int} {X : Value} (h : RB w g x xr X) (q : Cp) (ar : Int) (D : Value) : RB (lay6 w g q ar D) g q ar D := by
  have h1 := heap_setCell_same w g 0 _ _ (.int .u64 (q.p : Int)) h
  have h2 := heap_setCell_same _ g 1 _ _ (.int .u32 (q.o : Int)) h1
  have h3 := heap_setCell_same _ g 2 _ _ (.int .u8 (q.r : Int)) h2
  have h4 := heap_setCell_same _ g 3 _ _ (.int .u64 (q.c : Int)) h3
  have h5 := heap_setCell_same _ g 4 _ _ (.int .u64 ar) h4
  have h6 := heap_setCell_same _ g 5 _ _ D h5
  unfold RB lay6
  rw [h6]
  simp
theorem foot_lay6 (w : World) (g : Nat) (q : Cp) (ar : Int) (D : Value) : Foot (fun j => j = g) w (lay6 w g q ar D) := by
  unfold lay6
  exact ((((((Foot.refl _ w).put _ _).put _ _).put _ _).put _ _).put _ _).put _ _
theorem SvEnd.off (x : SvEnd w0 w A p ws w1 s) (hw : w0.heap.size ≤ w.heap.size) {S : Nat → Prop} (f : Foot S w1 w2) (hS : ∀ b, S b → w.heap.size ≤ b ∧ Fre3 w1 b) : SvEnd w0 w A p ws w2 s := by
  obtain ⟨v, dv, nv, X, F, h1, h2, h3⟩ := x
  exact ⟨v, dv, nv, X.off f (fun b e => ⟨Nat.le_trans hw (hS b e).1, (hS b e).2⟩), F.trans f (fun j e => .inr (hS j e).1), h1, h2, h3⟩
theorem SvEnd.res (x : SvEnd w0 w A p ws w1 s) (hw : w0.heap.size ≤ w.heap.size) {g : Nat} {q : Cp} {ar : Int} {D : Value} (h : RB w1 g q ar D) (hg : w.heap.size ≤ g) (f : Foot (fun j => j = g) w1 w2) : SvEnd w0 w A p ws w2 s :=
  x.off hw f (fun b e => ⟨by omega, .inr ⟨_, _, e ▸ h, res_odd3⟩⟩)
theorem SvEnd.msg (x : SvEnd w0 w A p ws w1 s) (hw : w0.heap.size ≤ w.heap.size) {g : Nat} {m : Msg} {D : Value} (h : MB w1 g m D) (hg : w.heap.size ≤ g) (f : Foot (fun j => j = g) w1 w2) : SvEnd w0 w A p ws w2 s :=
  x.off hw f (fun b e => ⟨by omega, .inr ⟨_, _, e ▸ h, msg_odd3⟩⟩)
/- a service's row of what was done has grown -/
theorem Sv.done (x : Sv w0 w A p ws s) (q : Int) (hl : s.D.length ≤ 5000000000000) :
    ∃ ao cap w1, (Builtin.append_ #[22, 22] 22 #[A.dv, .slice (some ⟨w.heap.size, 0, none⟩) 1 1]).run Tryd.prog (w.alloc (.cells #[.int .u64 q] 27)) = .ok (.slice ao (s.D.length + 1) cap) w1 ∧
      SvEnd w0 w A p ws (w1.setCell ⟨A.sb, 0, none⟩ (.slice ao (s.D.length + 1) cap)) ⟨s.t, s.es, s.T, s.D ++ [q], s.G⟩ ∧ w1.heap[A.sb]? = some (.cells #[A.dv, A.nv] 35 (0, 0)) ∧ Foot (fun j => A.dv.ownBlock = some j) w w1 := by
  obtain ⟨v', w1, hr, ho, hf, hm⟩ := app_elem (s := 22) (e := 27) (ty := 22) (z := .int .u64 0) (sz := 1) (by' := 8) #[.int .u64 q] Tryd.underlying22 Tryd.infoU64 rfl (by omega) rfl (fun u hu => by simp at hu; subst hu; rfl) (by omega) (by unfold maxLen; omega) x.dn x.nw
  obtain ⟨ro, rc, rfl⟩ := owns_slice ho
  have ns : ¬ A.dv.ownBlock = some A.sb := fun e => by
    obtain ⟨cur, h1, _⟩ := owns_block x.dn e
    rw [x.box] at h1; cases h1
  have hb1 : w1.heap[A.sb]? = some (.cells #[A.dv, A.nv] 35 (0, 0)) := (hf.block _ (lt_of_heap x.box) ns).trans x.box
  have hb2 := heap_setCell_same w1 A.sb 0 _ _ (.slice ro (s.D.length + 1) rc) hb1
  have f2 := foot_set w1 ⟨A.sb, 0, none⟩ (.slice ro (s.D.length + 1) rc)
  refine ⟨ro, rc, w1, hr, x.svc ((hf.mono (fun j e => .inr (.inl e))).trans f2 (fun j e => .inl (.inl e))) hb2 ?_ ?_ hm (Moved.refl _ _), hb1, hf⟩
  · rw [cellsU_snoc, len_snoc]
    refine owns_foot ho f2 (fun r hr e => ?_)
    obtain ⟨c1, h1, _⟩ := owns_block ho hr
    rw [show r = A.sb from e, hb1] at h1; cases h1
  · refine owns_foot (owns_foot x.gn hf (fun r hr e => ?_)) f2 (fun r hr e => ?_)
    · obtain ⟨c1, h1, _⟩ := owns_block x.gn hr
      obtain ⟨c2, h2, _⟩ := owns_block x.dn e
      rw [h1] at h2; cases h2
    · obtain ⟨c1, h1, _⟩ := owns_block x.gn hr
      rw [show r = A.sb from e, x.box] at h1; cases h1
set_option maxRecDepth 20000 in
set_option maxHeartbeats 3200000 in
theorem svc_do_no (z : Int) (m : Msg) (so : Option Addr) (sn sc : Nat) (w : World) (x : Sv w0 w A p ws s) (hl : s.D.length ≤ 5000000000000) :
    Calls Tryd.prog 41 #[.pointer (some ⟨A.sb, 0, none⟩), .int .u16 103, .int .i64 z, .agg #[.int .u64 m.ta, .int .u64 m.rp, .int .u32 m.id, .int .u16 m.op, .int .u16 m.st, .int .u64 m.p, .int .u32 m.o, .int .u8 m.r, .int .u64 m.c, .int .u64 m.ar, .slice so sn sc]] w fun e w' =>
      e = .returned (.tuple #[.agg #[.int .u64 0, .int .u32 0, .int .u8 0, .int .u64 0, .int .u64 0, .slice none 0 0], .iface 61 (.int .i64 13)]) ∧ SvEnd w0 w A p ws w' ⟨s.t, s.es, s.T, s.D ++ [doneF 103 z], s.G⟩ := by
  obtain ⟨W, hW⟩ : ∃ W, (w.alloc (.cells #[.int .u64 m.ta, .int .u64 m.rp, .int .u32 m.id, .int .u16 m.op, .int .u16 m.st, .int .u64 m.p, .int .u32 m.o, .int .u8 m.r, .int .u64 m.c, .int .u64 m.ar, (mkD so sn sc)] 49)).alloc (.cells resZ 90) = W := ⟨_, rfl⟩
  have bW : Below w.heap.size w W := hW ▸ below_one (below_alloc w _) (below_alloc _ _)
  have xW := x.grow bW
  have rW : W.heap[w.heap.size + 1]? = some (.cells resZ 90 (0, 0)) := by
    have := heap_alloc_new (w.alloc (.cells #[.int .u64 m.ta, .int .u64 m.rp, .int .u32 m.id, .int .u16 m.op, .int .u16 m.st, .int .u64 m.p, .int .u32 m.o, .int .u8 m.r, .int .u64 m.c, .int .u64 m.ar, (mkD so sn sc)] 49)) (.cells resZ 90)
    rw [hW] at this
    simpa using this
  have c0 : W.cell? ⟨A.sb, 0, none⟩ = some A.dv := by rw [cell_of_row W _ _ _ _ _ xW.box]; rfl
  obtain ⟨q, hq⟩ : ∃ q, doneF 103 z = q := ⟨_, rfl⟩
  rw [hq]
  have hq1 : IntKind.u64.wrap (6750208 + IntKind.u64.wrap z) = q := hq
  obtain ⟨ro, rc, w1, hr, E, hb, hf⟩ := xW.done q hl
  have zz : w1.frozen? ⟨A.sb, 0, none⟩ = false := frozen_of_row w1 _ _ _ _ hb
  have cz : w1.cell? ⟨A.sb, 0, none⟩ = some A.dv := by rw [cell_of_row w1 _ _ _ _ _ hb]; rfl
  have hgs : w.heap.size + 1 ≠ A.sb := two_types rW xW.box (by decide)
  have r1 : RB w1 (w.heap.size + 1) Cp.zero 0 (.slice none 0 0) := RB.foot (show RB W _ _ _ _ from rW) hf (fun e => by
    obtain ⟨cur, h1, _⟩ := owns_block xW.dn e
    rw [rW] at h1; cases h1)
  have r2 : RB (w1.setCell ⟨A.sb, 0, none⟩ (.slice ro (s.D.length + 1) rc)) (w.heap.size + 1) Cp.zero 0 (.slice none 0 0) := r1.foot (foot_set _ _ _) hgs
  have r3 := r2.lay Cp.zero 0 (.slice none 0 0)
  have HE := hide ((E.from bW).res x.bel.size r2 (by omega) (foot_lay6 _ _ Cp.zero 0 (.slice none 0 0)))
  obtain ⟨V, hV⟩ : ∃ V, w1.setCell ⟨A.sb, 0, none⟩ (.slice ro (s.D.length + 1) rc) = V := ⟨_, rfl⟩
  rw [hV] at HE r2 r3
  obtain ⟨U, hU⟩ : ∃ U, lay6 V (w.heap.size + 1) Cp.zero 0 (.slice none 0 0) = U := ⟨_, rfl⟩
  rw [hU] at HE r3
  have y0 := r2.z 0
  have y1 := r2.z 1
  have y2 := r2.z 2
  have y3 := r2.z 3
  have y4 := r2.z 4
  have y5 := r2.z 5
  obtain ⟨d0, d1, d2, d3, d4, d5⟩ := r2.all
  obtain ⟨k0, k1, k2, k3, k4, k5⟩ := r3.all
  have HRUN := hide hr
  clear hr E hb hf r1 r2 r3 hgs bW rW x xW hq hl
  unfold lay6 at hU
  simp only [Cp.zero, show (((0 : Nat)) : Int) = 0 from rfl] at hU d0 d1 d2 d3 d4 d5 k0 k1 k2 k3 k4 k5
  unfold mkD resZ at hW
  obtain ⟨B, g, go, mm, a, h, k, v, sb, N, dv, nv⟩ := A
  simp only at c0 cz zz hV HRUN
  go_enter Tryd.func41, Tryd.ntmps41
  go_wp2_with (at_builtin; refine wpList_append_run rfl _ _ _ rfl _ _ _ _ rfl rfl HRUN.out ?_)
  refine bodyPost_ret (by simp [results, Tryd.results41, go_sem, k0, k1, k2, k3, k4, k5]; rfl) rfl ?_
  exact ⟨rfl, HE.out⟩
set_option maxRecDepth 20000 in
set_option maxHeartbeats 3200000 in
theorem svc_do_yes (op : Nat) (z : Int) (m : Msg) (so : Option Addr) (sn sc : Nat) (w : World) (x : Sv w0 w A p ws s) (hl : s.D.length ≤ 5000000000000) (h1 : op ≠ 103) (h2 : op ≤ 65535) :
    Calls Tryd.prog 41 #[.pointer (some ⟨A.sb, 0, none⟩), .int .u16 (op : Int), .int .i64 z, .agg #[.int .u64 m.ta, .int .u64 m.rp, .int .u32 m.id, .int .u16 m.op, .int .u16 m.st, .int .u64 m.p, .int .u32 m.o, .int .u8 m.r, .int .u64 m.c, .int .u64 m.ar, .slice so sn sc]] w fun e w' =>
      e = .returned (.tuple #[.agg #[.int .u64 (m.p : Int), .int .u32 (m.o : Int), .int .u8 (m.r : Int), .int .u64 (m.c : Int), .int .u64 (IntKind.u64.wrap ((m.ar : Int) + 1)), .slice so sn sc], .nilIface]) ∧ SvEnd w0 w A p ws w' ⟨s.t, s.es, s.T, s.D ++ [doneF op z], s.G⟩ := by
  obtain ⟨W, hW⟩ : ∃ W, (w.alloc (.cells #[.int .u64 m.ta, .int .u64 m.rp, .int .u32 m.id, .int .u16 m.op, .int .u16 m.st, .int .u64 m.p, .int .u32 m.o, .int .u8 m.r, .int .u64 m.c, .int .u64 m.ar, (mkD so sn sc)] 49)).alloc (.cells resZ 90) = W := ⟨_, rfl⟩
  have bW : Below w.heap.size w W := hW ▸ below_one (below_alloc w _) (below_alloc _ _)
  have xW := x.grow bW
  have rW : W.heap[w.heap.size + 1]? = some (.cells resZ 90 (0, 0)) := by
    have := heap_alloc_new (w.alloc (.cells #[.int .u64 m.ta, .int .u64 m.rp, .int .u32 m.id, .int .u16 m.op, .int .u16 m.st, .int .u64 m.p, .int .u32 m.o, .int .u8 m.r, .int .u64 m.c, .int .u64 m.ar, (mkD so sn sc)] 49)) (.cells resZ 90)
    rw [hW] at this
    simpa using this
  have c0 : W.cell? ⟨A.sb, 0, none⟩ = some A.dv := by rw [cell_of_row W _ _ _ _ _ xW.box]; rfl
  obtain ⟨ar, har⟩ : ∃ ar, IntKind.u64.wrap ((m.ar : Int) + 1) = ar := ⟨_, rfl⟩
  rw [har]
  have mW : MB W w.heap.size m (mkD so sn sc) := hW ▸ (mb_new w m (mkD so sn sc)).grow (below_alloc _ _)
  obtain ⟨q, hq⟩ : ∃ q, doneF op z = q := ⟨_, rfl⟩
  rw [hq]
  have hq1 : IntKind.u64.wrap ((op : Int) * 65536 + IntKind.u64.wrap z) = q := hq
  have hop : ¬ ((op : Int) = 103) := by omega
  obtain ⟨ro, rc, w1, hr, E, hb, hf⟩ := xW.done q hl
  have zz : w1.frozen? ⟨A.sb, 0, none⟩ = false := frozen_of_row w1 _ _ _ _ hb
  have cz : w1.cell? ⟨A.sb, 0, none⟩ = some A.dv := by rw [cell_of_row w1 _ _ _ _ _ hb]; rfl
  have hgs : w.heap.size + 1 ≠ A.sb := two_types rW xW.box (by decide)
  have r1 : RB w1 (w.heap.size + 1) Cp.zero 0 (.slice none 0 0) := RB.foot (show RB W _ _ _ _ from rW) hf (fun e => by
    obtain ⟨cur, h1, _⟩ := owns_block xW.dn e
    rw [rW] at h1; cases h1)
  have r2 : RB (w1.setCell ⟨A.sb, 0, none⟩ (.slice ro (s.D.length + 1) rc)) (w.heap.size + 1) Cp.zero 0 (.slice none 0 0) := r1.foot (foot_set _ _ _) hgs
  have m1 : MB w1 w.heap.size m (mkD so sn sc) := mW.foot hf (fun e => by
    obtain ⟨cur, h1, _⟩ := owns_block xW.dn e
    exact two_types mW h1 (by decide) rfl)
  have m2 : MB (w1.setCell ⟨A.sb, 0, none⟩ (.slice ro (s.D.length + 1) rc)) w.heap.size m (mkD so sn sc) := m1.foot (foot_set _ _ _) (two_types mW xW.box (by decide))
  have r3 := r2.lay ⟨m.p, m.o, m.r, m.c⟩ ar (mkD so sn sc)
  have HE := hide ((E.from bW).res x.bel.size r2 (by omega) (foot_lay6 _ _ ⟨m.p, m.o, m.r, m.c⟩ ar (mkD so sn sc)))
  obtain ⟨V, hV⟩ : ∃ V, w1.setCell ⟨A.sb, 0, none⟩ (.slice ro (s.D.length + 1) rc) = V := ⟨_, rfl⟩
  rw [hV] at HE r2 r3 m2
  have mb := m2.all
  unfold MBox mkD at mb
  obtain ⟨x0, x1, x2, x3, x4, x5, x6, x7, x8, x9, x10⟩ := mb
  obtain ⟨U, hU⟩ : ∃ U, lay6 V (w.heap.size + 1) ⟨m.p, m.o, m.r, m.c⟩ ar (mkD so sn sc) = U := ⟨_, rfl⟩
  rw [hU] at HE r3
  have y0 := r2.z 0
  have y1 := r2.z 1
  have y2 := r2.z 2
  have y3 := r2.z 3
  have y4 := r2.z 4
  have y5 := r2.z 5
  obtain ⟨d0, d1, d2, d3, d4, d5⟩ := r2.all
  obtain ⟨k0, k1, k2, k3, k4, k5⟩ := r3.all
  have HRUN := hide hr
  clear mW m1 m2 hr E hb hf r1 r2 r3 hgs bW rW x xW hq hl
  unfold lay6 at hU
  simp only [Cp.zero, show (((0 : Nat)) : Int) = 0 from rfl] at hU d0 d1 d2 d3 d4 d5 k0 k1 k2 k3 k4 k5
  unfold mkD at hU k5
  unfold mkD resZ at hW
  obtain ⟨B, g, go, mm, a, h, k, v, sb, N, dv, nv⟩ := A
  simp only at c0 cz zz hV HRUN
  go_enter Tryd.func41, Tryd.ntmps41
  go_wp2_with (at_builtin; refine wpList_append_run rfl _ _ _ rfl _ _ _ _ rfl rfl HRUN.out ?_)
  refine bodyPost_ret (by simp [results, Tryd.results41, go_sem, k0, k1, k2, k3, k4, k5]; rfl) rfl ?_
  exact ⟨rfl, HE.out⟩
theorem svc_do_bad (op : Nat) (z : Int) (m : Msg) (so : Option Addr) (sn sc : Nat) (w : World) (x : Sv w0 w A p ws s) (hl : s.D.length ≤ 5000000000000) (h1 : op = 103) :
    Calls Tryd.prog 41 #[.pointer (some ⟨A.sb, 0, none⟩), .int .u16 (op : Int), .int .i64 z, .agg #[.int .u64 m.ta, .int .u64 m.rp, .int .u32 m.id, .int .u16 m.op, .int .u16 m.st, .int .u64 m.p, .int .u32 m.o, .int .u8 m.r, .int .u64 m.c, .int .u64 m.ar, .slice so sn sc]] w fun e w' =>
      e = .returned (.tuple #[.agg #[.int .u64 0, .int .u32 0, .int .u8 0, .int .u64 0, .int .u64 0, .slice none 0 0], .iface 61 (.int .i64 13)]) ∧ SvEnd w0 w A p ws w' ⟨s.t, s.es, s.T, s.D ++ [doneF op z], s.G⟩ := by
  subst h1
  exact svc_do_no z m so sn sc w x hl
end
end Go.Proofs.YtjpgfldppepmiaaDoor
namespace Go.Proofs.YtjpgfldppepmiaaDoor
section
open Go.RowKit
variable {w0 w w1 w2 w' : World} {A A' : Ad} {p : Nat} {ws : List Nat} {s s' s1 : Hs} {r g sb : Nat}
/- a server in memory: its objects, its service -/
def Sr (w : World) (r g sb : Nat) : Prop := w.heap[r]? = some (.cells #[.pointer (some ⟨g, 0, none⟩), .iface 32 (.pointer (some ⟨sb, 0, none⟩))] 81 (0, 0))
theorem Sr.c0 (h : Sr w r g sb) : w.cell? ⟨r, 0, none⟩ = some (.pointer (some ⟨g, 0, none⟩)) := by rw [cell_of_row w r _ _ _ _ h]; rfl
theorem Sr.c1 (h : Sr w r g sb) : w.cell? ⟨r, 1, none⟩ = some (.iface 32 (.pointer (some ⟨sb, 0, none⟩))) := by rw [cell_of_row w r _ _ _ _ h]; rfl
theorem Sr.kh (h : Sr w r g sb) (k : Kh w w') : Sr w' r g sb := (k.block _ _ _ h srv_odd3).trans h
theorem Sr.grow (h : Sr w r g sb) (b : Below w.heap.size w w') : Sr w' r g sb := h.kh (below_kh b)
theorem Sr.foot {S : Nat → Prop} (h : Sr w r g sb) (f : Foot S w w') (hS : ¬ S r) : Sr w' r g sb := (f.block r (lt_of_heap h) hS).trans h
set_option maxHeartbeats 800000 in
theorem whole_any (h : Sr w r g sb) : Calls Tryd.prog 42 #[.pointer (some ⟨r, 0, none⟩)] w fun e w' => e = .returned (.bool true) ∧ w' = w := by
  have c0 := h.c0
  have c1 := h.c1
  clear h
  go_enter Tryd.func42, Tryd.ntmps42
  go_wp2
  go_ret
  exact ⟨rfl, rfl⟩
theorem need_idle (w : World) : CallsD Tryd.prog 71 #[] .returning w fun e u' w' => e = .returned (.tuple #[]) ∧ u' = .returning ∧ w' = w := by
  refine callsD_of_wpS Tryd.func71 rfl fun c₀ cs hu => ?_
  apply wpS_region
  simp [wpOpsS, go_sem, recoverD, hu, Tryd.ntmps71]
  cases c₀
  simp_all [bodyPostS, results, Tryd.results71]
theorem gone_idle (w : World) : CallsD Tryd.prog 56 #[] .returning w fun e u' w' => e = .returned (.tuple #[]) ∧ u' = .returning ∧ w' = w := by
  refine callsD_of_wpS Tryd.func56 rfl fun c₀ cs hu => ?_
  apply wpS_region
  simp [wpOpsS, go_sem, recoverD, hu, Tryd.ntmps56]
  cases c₀
  simp_all [bodyPostS, results, Tryd.results56]
theorem do_idle (a b : Addr) (w : World) : CallsD Tryd.prog 72 #[.pointer (some a), .pointer (some b)] .returning w fun e u' w' => e = .returned (.tuple #[]) ∧ u' = .returning ∧ w' = w := by
  refine callsD_of_wpS Tryd.func72 rfl fun c₀ cs hu => ?_
  apply wpS_seq
  apply wpS_region
  simp [wpOpsS, go_sem, recoverD, hu, Tryd.ntmps72, Exit.thenS]
  refine wpS_cond (t := false) (by simp [Act.eval, Array.replicate]) ?_
  simp only [Bool.false_eq_true, if_false]
  refine wpS_of_wp (wp_skip ?_)
  cases c₀
  simp_all [bodyPostS, results, Tryd.results72]
theorem Tryd.mNeed (v : Value) (w : World) : (Go.method 286 32 v "Need").run Tryd.prog w = .ok (39, v) w := by kernel_rfl
theorem Tryd.mDo (v : Value) (w : World) : (Go.method 286 32 v "Do").run Tryd.prog w = .ok (41, v) w := by kernel_rfl
theorem Tryd.mGone (v : Value) (w : World) : (Go.method 286 32 v "Gone").run Tryd.prog w = .ok (38, v) w := by kernel_rfl
set_option maxHeartbeats 800000 in
theorem need_any (h : Sr w r g sb) (op : Nat) (ho : op ≤ 65535) : Calls Tryd.prog 60 #[.pointer (some ⟨r, 0, none⟩), .int .u16 (op : Int)] w fun e w' => e = .returned (.tuple #[.int .u8 (needN op : Int), .bool (needB op)]) ∧ w' = w := by
  have c1 := h.c1
  have hm := Tryd.mNeed
  clear h
  go_enter_defers Tryd.func60, Tryd.ntmps60
  go_wp2_with fail
  refine (svc_need _ op _ ho).mono ?_; rintro e w1 ⟨rfl, rfl⟩
  go_wp2
  refine leaves_cons (f := 71) (args := #[]) (by simp) (by simp [go_sem]) ?_
  refine (need_idle _).mono ?_
  rintro e u' w'' ⟨rfl, rfl, rfl⟩
  simp [Leaves, settle, results, Tryd.results60, go_sem]
set_option maxHeartbeats 800000 in
theorem srv_gone (z : Int) (w : World) (h : Sr w r A.g A.sb) (x : Sv w0 w A p ws s) (hl : s.G.length ≤ 5000000000000) :
    Calls Tryd.prog 44 #[.pointer (some ⟨r, 0, none⟩), .int .i64 z] w fun e w' => e = .returned (.tuple #[]) ∧ SvEnd w0 w A p ws w' ⟨s.t, s.es, s.T, s.D, s.G ++ [z]⟩ := by
  have c1 := h.c1
  have hm := Tryd.mGone
  have HX := hide x
  have HL := hide hl
  clear h x hl
  go_enter_defers Tryd.func44, Tryd.ntmps44
  go_wp2_with fail
  refine (svc_gone z _ HX.out HL.out).mono ?_; rintro e w1 ⟨rfl, E⟩
  have HE := hide E
  clear E
  go_wp2
  refine leaves_cons (f := 56) (args := #[]) (by simp) (by simp [go_sem]) ?_
  refine (gone_idle _).mono ?_
  rintro e u' w'' ⟨rfl, rfl, rfl⟩
  simp [Leaves, settle, results, Tryd.results44, go_sem]
  exact HE.out
end
end Go.Proofs.YtjpgfldppepmiaaDoor
