/-
  New memory; blocks that did not turn: what the texts on bytes want of it, beside a table.
  Bytes of slices in memory, what stays of them when other memory turns; parts of them; string(b); bytes.Clone.
  Messages by their numbers: where their cells lie; a capability's four cells.
  What header.Answer, header.Fault and the statements' own Same answer, as contracts.
-/
import Derived.Test.YtlmnnjibggdboaaGreatDoorJe
import Derived.Laws.StructEq
import Derived.Handy
import Derived.Deep.RegionHeld
namespace Go.Proofs.YtlmnnjibggdboaaGreatDoor
section
open Go.RowKit
theorem Foot.then {S : Nat → Prop} {a b c : World} (h : Foot S a b) (k : Foot S b c) : Foot S a c := h.trans k fun _ x => .inl x
theorem add_block (a : Addr) (j : Nat) : (a.add j).block = a.block := by unfold Addr.add; split <;> rfl
theorem Foot.cell {S : Nat → Prop} {w w' : World} (h : Foot S w w') (p : Addr) (hp : p.block < w.heap.size) (hS : ¬ S p.block) : w'.cell? p = w.cell? p := by
  unfold World.cell?; rw [h.block _ hp hS]
def New (w : World) (co : Option Addr) : Prop := ∀ ad, co = some ad → w.heap.size ≤ ad.block
theorem new_none (w : World) : New w none := fun _ e => by cases e
theorem New.le {w w' : World} {co : Option Addr} (h : New w' co) (hs : w.heap.size ≤ w'.heap.size) : New w co := fun ad e => Nat.le_trans hs (h ad e)
theorem owns_new {w w' : World} {e : TypeId} {sz n m cap : Nat} {ao : Option Addr} {xs : List Value} (h : w'.ownsRow w.heap.size e sz (.slice ao m cap) n xs) : New w ao := by
  intro ad e
  rcases h.2 with ⟨h1, _⟩ | ⟨g, c, cur, h1, h2, _⟩
  · cases h1; cases e
  · cases h1; cases e; exact h2
end
end Go.Proofs.YtlmnnjibggdboaaGreatDoor
namespace Go.Proofs.YtlmnnjibggdboaaGreatDoor
section
open Go.RowKit
def bt (l : List UInt8) (j : Nat) : Int := ((l.getD j 0).toNat : Int)
theorem bt_get (l : List UInt8) (j : Nat) (h : j < l.length) : bt l j = (l[j].toNat : Int) := by unfold bt; rw [List.getD_eq_getElem?_getD, List.getElem?_eq_getElem h]; rfl
theorem ofNat_toNat (x : Nat) : (UInt8.ofNat x).toNat = x % 256 := by simp
def Bts (w : World) (ao : Option Addr) (n cap : Nat) (l : List UInt8) : Prop :=
  n = l.length ∧ n ≤ cap ∧ cap ≤ maxLen ∧ (ao = none → cap = 0) ∧ ∀ ad, ao = some ad → ∀ j, j < l.length → w.cell? (ad.add j) = some (.int .u8 (bt l j))
theorem Bts.carry {w w' : World} {ao : Option Addr} {n cap : Nat} {l : List UInt8} (h : Bts w ao n cap l) (b : Below w.heap.size w w') : Bts w' ao n cap l := by
  refine ⟨h.1, h.2.1, h.2.2.1, h.2.2.2.1, fun ad e j hj => ?_⟩
  have hc := h.2.2.2.2 ad e j hj
  rw [b.cell (lt_of_cell hc), hc]
theorem Bts.over {w w' : World} {ao : Option Addr} {n cap B : Nat} {l : List UInt8} (h : Bts w ao n cap l) (b : Below B w w') (hB : w.heap.size ≤ B) : Bts w' ao n cap l := by
  refine ⟨h.1, h.2.1, h.2.2.1, h.2.2.2.1, fun ad e j hj => ?_⟩
  have hc := h.2.2.2.2 ad e j hj
  rw [b.cell (Nat.lt_of_lt_of_le (lt_of_cell hc) hB), hc]
theorem Bts.foot {S : Nat → Prop} {w w' : World} {ao : Option Addr} {n cap : Nat} {l : List UInt8} (h : Bts w ao n cap l) (b : Foot S w w') (hS : ∀ ad, ao = some ad → ad.block < w.heap.size → ¬ S ad.block) : Bts w' ao n cap l := by
  refine ⟨h.1, h.2.1, h.2.2.1, h.2.2.2.1, fun ad e j hj => ?_⟩
  have hc := h.2.2.2.2 ad e j hj
  have hl := lt_of_cell hc
  rw [b.cell _ hl (by rw [add_block] at hl ⊢; exact hS ad e hl), hc]
theorem Bts.drewN {w : World} {ao : Option Addr} {n cap : Nat} {l : List UInt8} (h : Bts w ao n cap l) (q : Nat) : Bts (w.drewN q) ao n cap l := h
def cellsB (l : List UInt8) : List Value := l.map fun c => Value.int .u8 (c.toNat : Int)
theorem cellsB_len (l : List UInt8) : (cellsB l).length = l.length := by simp [cellsB]
theorem cellsB_append (l r : List UInt8) : cellsB (l ++ r) = cellsB l ++ cellsB r := by simp [cellsB]
theorem cellsB_get (l : List UInt8) (j : Nat) (h : j < l.length) : (cellsB l)[j]? = some (.int .u8 (bt l j)) := by
  simp [cellsB, bt, List.getElem?_eq_getElem h, List.getD_eq_getElem?_getD]
theorem cellsB_one (l : List UInt8) : ∀ u ∈ cellsB l, u.oneCell' = true := by
  intro u hu; simp only [cellsB, List.mem_map] at hu; obtain ⟨c, _, rfl⟩ := hu; rfl
theorem Bts.news {w : World} {ao : Option Addr} {n cap : Nat} {l : List UInt8} (h : Bts w ao n cap l) : ∀ ad, ao = some ad → ∀ j u, (cellsB l)[j]? = some u → w.cell? (ad.add j) = some u := by
  intro ad e j u hj
  have hlt : j < l.length := by have := (List.getElem?_eq_some_iff.1 hj).1; rw [cellsB_len] at this; exact this
  rw [cellsB_get l j hlt] at hj; rw [h.2.2.2.2 ad e j hlt, hj]
theorem Bts.none {w : World} {ao : Option Addr} {n cap : Nat} {l : List UInt8} (h : Bts w ao n cap l) : ao = none → n = 0 ∧ cap = 0 := by
  intro e; have := h.2.2.2.1 e; have := h.2.1; omega
theorem bts_nil (w : World) : Bts w none 0 0 [] := ⟨rfl, Nat.le_refl _, by decide, fun _ => rfl, fun _ e => by cases e⟩
theorem owns_bts {w : World} {base : Nat} {v : Value} {n : Nat} {l : List UInt8} (h : w.ownsRow base 5 1 v n (cellsB l)) : ∃ ao cap, v = .slice ao n cap ∧ Bts w ao n cap l := by
  have hl := h.1; rw [cellsB_len] at hl
  rcases h.2 with ⟨rfl, rfl⟩ | ⟨g, cap, cur, rfl, _, _, hc, hm, _, _⟩
  · refine ⟨none, 0, rfl, by omega, Nat.le_refl _, by decide, fun _ => rfl, fun ad e => by cases e⟩
  · refine ⟨some ⟨g, 0, none⟩, cap, rfl, by omega, hc, hm, (fun e => by cases e), fun ad e j hj => ?_⟩
    obtain rfl := Option.some.inj e
    have := h.cellAt j (by omega)
    rw [cellsB_get l j hj] at this
    rw [add0]; exact this
theorem own_empty (w : World) : (w.alloc (.cells #[] 5)).ownsRow w.heap.size 5 1 (.slice (some ⟨w.heap.size, 0, none⟩) 0 0) 0 [] :=
  ⟨rfl, Or.inr ⟨w.heap.size, 0, #[], rfl, Nat.le_refl _, heap_alloc_new _ _, Nat.le_refl _, by decide, rfl, rfl⟩⟩
/- bytes that were written out -/
theorem bts_cells (w : World) (l : List UInt8) (C : Array Value) (fr : Nat × Nat) (hC : (cellsB l).toArray = C) (hl : l.length ≤ 1000) : Bts (w.alloc (.cells C 5 fr)) (some ⟨w.heap.size, 0, none⟩) l.length l.length l := by
  subst hC
  refine ⟨rfl, Nat.le_refl _, by unfold maxLen; omega, (fun e => by cases e), fun ad e j hj => ?_⟩
  obtain rfl := Option.some.inj e
  rw [add0, cell_of_row _ w.heap.size j _ _ _ (heap_alloc_new _ _)]
  simpa using cellsB_get l j hj
theorem Tryz.info5 : (Tryz.prog.info? 5).map (fun i => (i.zero, i.size, i.bytes)) = some (some (.int .u8 0), 1, 1) := by kernel_rfl
set_option maxHeartbeats 800000 in
theorem clone_any (ao : Option Addr) (n cap : Nat) (l : List UInt8) (w : World) (hb : Bts w ao n cap l) (hr : n ≤ 140737488355328) :
    Calls Tryz.prog 59 #[.slice ao n cap] w fun e w' => ∃ co cc, e = .returned (.slice co n cc) ∧ Bts w' co n cc l ∧ New w co ∧ Below w.heap.size w w' := by
  have HB : Hid (Bts w ao n cap l) := hb
  clear hb
  cases ao with
  | none =>
    obtain ⟨rfl, rfl⟩ := HB.out.none rfl
    have he := run_eql_slice_nil (P := Tryz.prog) w 23 5 none 0 0 Tryz.underlying23
    go_enter Tryz.func59, Tryz.ntmps59
    go_wp2
    go_ret
    exact ⟨none, 0, rfl, HB.out, new_none _, Below.refl _ _⟩
  | some ad =>
    obtain ⟨i0, hi, hz0, hz1, hz2⟩ := info_parts Tryz.info5
    have hcm : cap ≤ 9223372036854775807 := HB.out.2.2.1
    have he := run_eql_slice_nil (P := Tryz.prog) w 23 5 (some ad) n cap Tryz.underlying23
    go_enter Tryz.func59, Tryz.ntmps59
    go_wp2_with (at_builtin; refine wpList_append_own _ rfl _ _ 23 rfl w.heap.size 5 i0 (.int .u8 0) 1 1 Tryz.underlying23 hi hz0 hz1 hz2 rfl (by decide) _ 0 [] rfl (own_empty w) ad n cap (cellsB l) rfl (by rw [cellsB_len]; have := HB.out.1; omega) ?c1 (cellsB_one l) (by unfold maxLen; omega) (by omega) ?c5 ?_)
    case c1 => exact (HB.out.carry (below_alloc w _)).news ad rfl
    case c5 => exact (below_alloc w _).size
    intro v' w2 hown2 hgrow2 _
    obtain ⟨co, cc, rfl, hb2⟩ := owns_bts hown2
    have HW : Hid (New w co) := owns_new hown2
    have bel2 : Below w.heap.size w w2 := (below_alloc w (Obj.cells #[] 5)).grown hgrow2 (below_alloc w _).size (fun k e => by cases e; exact Nat.le_refl _)
    have HB2 : Hid (Bts w2 co n cc l) := hb2
    clear hown2 hgrow2 hb2
    go_wp2
    go_ret
    exact ⟨co, cc, rfl, HB2.out, HW.out, bel2⟩
/- string(b) -/
def str (l : List UInt8) : ByteArray := ⟨l.toArray⟩
theorem str_inj {a b : List UInt8} (h : str a = str b) : a = b := by
  have := congrArg ByteArray.data h; simpa [str] using this
theorem conv_bts {w : World} {ao : Option Addr} {n cap : Nat} {l : List UInt8} (h : Bts w ao n cap l) : (convert 23 9 (.slice ao n cap)).run Tryz.prog w = .ok (.string (str l)) w := by
  cases ao with
  | none =>
    obtain ⟨rfl, rfl⟩ := h.none rfl
    obtain rfl : l = [] := List.eq_nil_of_length_eq_zero h.1.symm
    rw [run_convert_bytes_string w 23 9 5 none 0 0 Tryz.underlying23 Tryz.underlying5 Tryz.underlying9]
    simp [Conv.bytesToString]; rfl
  | some ad =>
    have e := h.1
    subst e
    exact run_convert_bytes_back (P := Tryz.prog) w 23 9 5 ad cap l Tryz.underlying23 Tryz.underlying5 Tryz.underlying9 (fun j hj => by
      rw [h.2.2.2.2 ad rfl j hj, bt_get l j hj])
/- parts of a slice -/
def tailA (ao : Option Addr) (k cap : Nat) : Option Addr := if cap = k then ao else ao.map (·.add k)
theorem Tryz.sizeByte (w : World) : (sizeOf 5).run Tryz.prog w = .ok 1 w := by kernel_rfl
theorem cut_lh8 (w : World) (ao : Option Addr) (n cap k m : Nat) (hkm : k ≤ m) (h : m ≤ cap) : (Instr.slice 23 (.slice ao n cap) (some (.int .i64 (k : Int))) (some (.int .i64 (m : Int))) none).run Tryz.prog w = .ok (.slice (tailA ao k cap) (m - k) (cap - k)) w := by
  have ht : Tryz.prog.underlying 23 = some (.slice (Tryz.prog.elem 23)) := by simp [Program.elem, Tryz.underlying23]
  have he : Tryz.prog.elem 23 = 5 := by simp [Program.elem, Tryz.underlying23]
  rw [run_slice_lh (P := Tryz.prog) w 23 ao n cap ht .i64 .i64 (k : Int) (m : Int) (by omega) (by omega) (by omega), he, Tryz.sizeByte]
  simp [Result.andThen, sliced, tailA]
theorem Bts.part {w : World} {ao : Option Addr} {n cap : Nat} {l : List UInt8} (h : Bts w ao n cap l) (k m : Nat) (hk : k ≤ m) (hm : m ≤ n) : Bts w (tailA ao k cap) (m - k) (cap - k) ((l.drop k).take (m - k)) := by
  have h1 := h.1
  have h2 := h.2.1
  have h3 := h.2.2.1
  refine ⟨by rw [List.length_take, List.length_drop]; omega, by omega, by omega, fun e => ?_, fun ad e j hj => ?_⟩
  · unfold tailA at e
    split at e
    · omega
    · have := h.2.2.2.1 (by cases ao <;> simp_all); omega
  · rw [List.length_take, List.length_drop] at hj
    unfold tailA at e
    rw [if_neg (by omega)] at e
    obtain ⟨a0, rfl, rfl⟩ := Option.map_eq_some_iff.1 e
    rw [add_add, h.2.2.2.2 a0 rfl (k + j) (by omega)]
    unfold bt
    simp only [List.getD_eq_getElem?_getD]
    rw [List.getElem?_take, if_pos (by omega), List.getElem?_drop]
end
end Go.Proofs.YtlmnnjibggdboaaGreatDoor
namespace Go.Proofs.YtlmnnjibggdboaaGreatDoor
section
open Go.RowKit
structure Msg where
  ta : Nat
  rp : Nat
  id : Nat
  op : Nat
  st : Nat
  p : Nat
  o : Nat
  r : Nat
  c : Nat
  ar : Nat
/- its parts fit their kinds -/
def Msg.ok (m : Msg) : Prop := m.ta ≤ 18446744073709551615 ∧ m.rp ≤ 18446744073709551615 ∧ m.id ≤ 4294967295 ∧ m.op ≤ 65535 ∧ m.st ≤ 65535 ∧ m.p ≤ 18446744073709551615 ∧ m.o ≤ 4294967295 ∧ m.r ≤ 255 ∧ m.c ≤ 18446744073709551615 ∧ m.ar ≤ 18446744073709551615
/- its parts fit their bytes -/
def Msg.good (m : Msg) : Prop := m.ta ≤ 281474976710655 ∧ m.rp ≤ 281474976710655 ∧ m.id ≤ 4294967295 ∧ m.op ≤ 65535 ∧ m.st ≤ 65535 ∧ m.p ≤ 281474976710655 ∧ m.o ≤ 16777215 ∧ m.r ≤ 255 ∧ m.c ≤ 281474976710655 ∧ m.ar ≤ 18446744073709551615
theorem Msg.good_ok {m : Msg} (h : m.good) : m.ok := by unfold Msg.good at h; unfold Msg.ok; omega
def Msg.zero : Msg := ⟨0, 0, 0, 0, 0, 0, 0, 0, 0, 0⟩
/- may the message be? -/
def hmayD (m : Msg) (n : Nat) : Bool := decide (m.ta ≤ 281474976710655 ∧ m.rp ≤ 281474976710655 ∧ (m.p ≤ 281474976710655 ∧ m.o ≤ 16777215 ∧ m.c ≤ 281474976710655) ∧ n ≤ 4096)
def MBox (w : World) (g : Nat) (m : Msg) (D : Value) : Prop := (w.cell? ⟨g, 0, none⟩ = some (.int .u64 m.ta) ∧ w.cell? ⟨g, 1, none⟩ = some (.int .u64 m.rp) ∧ w.cell? ⟨g, 2, none⟩ = some (.int .u32 m.id) ∧ w.cell? ⟨g, 3, none⟩ = some (.int .u16 m.op) ∧ w.cell? ⟨g, 4, none⟩ = some (.int .u16 m.st) ∧ w.cell? ⟨g, 5, none⟩ = some (.int .u64 m.p) ∧ w.cell? ⟨g, 6, none⟩ = some (.int .u32 m.o) ∧ w.cell? ⟨g, 7, none⟩ = some (.int .u8 m.r) ∧ w.cell? ⟨g, 8, none⟩ = some (.int .u64 m.c) ∧ w.cell? ⟨g, 9, none⟩ = some (.int .u64 m.ar) ∧ w.cell? ⟨g, 10, none⟩ = some (D))
def MFree (w : World) (g : Nat) : Prop := (w.frozen? ⟨g, 0, none⟩ = false ∧ w.frozen? ⟨g, 1, none⟩ = false ∧ w.frozen? ⟨g, 2, none⟩ = false ∧ w.frozen? ⟨g, 3, none⟩ = false ∧ w.frozen? ⟨g, 4, none⟩ = false ∧ w.frozen? ⟨g, 5, none⟩ = false ∧ w.frozen? ⟨g, 6, none⟩ = false ∧ w.frozen? ⟨g, 7, none⟩ = false ∧ w.frozen? ⟨g, 8, none⟩ = false ∧ w.frozen? ⟨g, 9, none⟩ = false ∧ w.frozen? ⟨g, 10, none⟩ = false)
theorem mbox_new (w : World) (m : Msg) (D : Value) : MBox (w.alloc (.cells #[.int .u64 m.ta, .int .u64 m.rp, .int .u32 m.id, .int .u16 m.op, .int .u16 m.st, .int .u64 m.p, .int .u32 m.o, .int .u8 m.r, .int .u64 m.c, .int .u64 m.ar, D] 55)) w.heap.size m D := by
  refine ⟨?_, ?_, ?_, ?_, ?_, ?_, ?_, ?_, ?_, ?_, ?_⟩ <;> simp
theorem mfree_new (w : World) (cs : Array Value) : MFree (w.alloc (.cells cs 55)) w.heap.size := by
  refine ⟨?_, ?_, ?_, ?_, ?_, ?_, ?_, ?_, ?_, ?_, ?_⟩ <;> simp
theorem MBox.lt {w : World} {g : Nat} {m : Msg} {D : Value} (h : MBox w g m D) : g < w.heap.size := lt_of_cell h.1
theorem MBox.carry {w w' : World} {g : Nat} {m : Msg} {D : Value} (h : MBox w g m D) (b : Below w.heap.size w w') : MBox w' g m D := by
  have hl := h.lt
  obtain ⟨k0, k1, k2, k3, k4, k5, k6, k7, k8, k9, k10⟩ := h
  refine ⟨?_, ?_, ?_, ?_, ?_, ?_, ?_, ?_, ?_, ?_, ?_⟩ <;> (rw [b.cell (by exact hl)]; assumption)
theorem MFree.carry {w w' : World} {g : Nat} (h : MFree w g) (hl : g < w.heap.size) (b : Below w.heap.size w w') : MFree w' g := by
  obtain ⟨z0, z1, z2, z3, z4, z5, z6, z7, z8, z9, z10⟩ := h
  refine ⟨?_, ?_, ?_, ?_, ?_, ?_, ?_, ?_, ?_, ?_, ?_⟩ <;> (rw [b.frozen (by exact hl)]; assumption)
/- where a capability's four cells lie -/
def Box (w : World) (g : Nat) (p o r c : Nat) : Prop :=
  w.cell? ⟨g, 0, none⟩ = some (.int .u64 p) ∧ w.cell? ⟨g, 1, none⟩ = some (.int .u32 o) ∧ w.cell? ⟨g, 2, none⟩ = some (.int .u8 r) ∧ w.cell? ⟨g, 3, none⟩ = some (.int .u64 c)
theorem box_new (w : World) (p o r c : Nat) : Box (w.alloc (.cells #[.int .u64 p, .int .u32 o, .int .u8 r, .int .u64 c] 40)) w.heap.size p o r c := by
  refine ⟨?_, ?_, ?_, ?_⟩ <;> simp
theorem Box.carry {w w' : World} {g p o r c : Nat} (h : Box w g p o r c) (b : Below w.heap.size w w') : Box w' g p o r c := by
  obtain ⟨h0, h1, h2, h3⟩ := h
  exact ⟨by rw [b.cell (lt_of_cell h0), h0], by rw [b.cell (lt_of_cell h1), h1], by rw [b.cell (lt_of_cell h2), h2], by rw [b.cell (lt_of_cell h3), h3]⟩
theorem Bts.set {w : World} {ao : Option Addr} {n cap : Nat} {l : List UInt8} (h : Bts w ao n cap l) (p : Addr) (v : Value) (hp : ∀ ad, ao = some ad → ad.block ≠ p.block) : Bts (w.setCell p v) ao n cap l := by
  refine ⟨h.1, h.2.1, h.2.2.1, h.2.2.2.1, fun ad e j hj => ?_⟩
  have hc := h.2.2.2.2 ad e j hj
  have hb : (ad.add j).block = ad.block := by unfold Addr.add; split <;> rfl
  rw [World.cell?_setCell_far _ _ _ _ (by rw [hb]; exact fun x => hp ad e x.symm), hc]

theorem zero_new (w : World) : MBox (w.alloc (.cells #[.int .u64 0, .int .u64 0, .int .u32 0, .int .u16 0, .int .u16 0, .int .u64 0, .int .u32 0, .int .u8 0, .int .u64 0, .int .u64 0, .slice none 0 0] 55)) w.heap.size Msg.zero (.slice none 0 0) := mbox_new w Msg.zero _
theorem MBox.drew {w : World} {g : Nat} {m : Msg} {D : Value} (h : MBox w g m D) : MBox w.drew g m D := h
theorem MBox.four {w : World} {g : Nat} {m : Msg} {D : Value} (h : MBox w g m D) : w.cell? ⟨g, 0, none⟩ = some (.int .u64 m.ta) ∧ w.cell? ⟨g, 1, none⟩ = some (.int .u64 m.rp) ∧ w.cell? ⟨g, 2, none⟩ = some (.int .u32 m.id) ∧ w.cell? ⟨g, 3, none⟩ = some (.int .u16 m.op) := ⟨h.1, h.2.1, h.2.2.1, h.2.2.2.1⟩
/- a message in a variable, as a whole -/
def MB (w : World) (g : Nat) (m : Msg) (D : Value) : Prop := w.heap[g]? = some (.cells #[.int .u64 m.ta, .int .u64 m.rp, .int .u32 m.id, .int .u16 m.op, .int .u16 m.st, .int .u64 m.p, .int .u32 m.o, .int .u8 m.r, .int .u64 m.c, .int .u64 m.ar, D] 55 (0, 0))
theorem MB.all {w : World} {g : Nat} {m : Msg} {D : Value} (h : MB w g m D) : MBox w g m D := by
  refine ⟨?_, ?_, ?_, ?_, ?_, ?_, ?_, ?_, ?_, ?_, ?_⟩ <;> (rw [cell_of_row w g _ _ _ _ h]; rfl)
theorem MB.z {w : World} {g : Nat} {m : Msg} {D : Value} (h : MB w g m D) (j : Nat) : w.frozen? ⟨g, j, none⟩ = false := frozen_of_row w g j _ _ h
theorem MB.grow {w w' : World} {g : Nat} {m : Msg} {D : Value} (h : MB w g m D) (b : Below w.heap.size w w') : MB w' g m D := (b.block g (lt_of_heap h)).trans h
theorem MB.foot {S : Nat → Prop} {w w' : World} {g : Nat} {m : Msg} {D : Value} (h : MB w g m D) (f : Foot S w w') (hS : ¬ S g) : MB w' g m D := (f.block g (lt_of_heap h) hS).trans h
theorem MB.kp {w w' : World} {g : Nat} {m : Msg} {D : Value} (h : MB w g m D) (k : Kp w w') : MB w' g m D := (k.block g _ _ h ⟨by decide, by decide, by decide, by decide⟩).trans h
theorem mb_new (w : World) (m : Msg) (D : Value) : MB (w.alloc (.cells #[.int .u64 m.ta, .int .u64 m.rp, .int .u32 m.id, .int .u16 m.op, .int .u16 m.st, .int .u64 m.p, .int .u32 m.o, .int .u8 m.r, .int .u64 m.c, .int .u64 m.ar, D] 55)) w.heap.size m D := heap_alloc_new _ _
def lay11 (w : World) (g : Nat) (m : Msg) (D : Value) : World := (((((((((((w.setCell ⟨g, 0, none⟩ (.int .u64 m.ta)).setCell ⟨g, 1, none⟩ (.int .u64 m.rp)).setCell ⟨g, 2, none⟩ (.int .u32 m.id)).setCell ⟨g, 3, none⟩ (.int .u16 m.op)).setCell ⟨g, 4, none⟩ (.int .u16 m.st)).setCell ⟨g, 5, none⟩ (.int .u64 m.p)).setCell ⟨g, 6, none⟩ (.int .u32 m.o)).setCell ⟨g, 7, none⟩ (.int .u8 m.r)).setCell ⟨g, 8, none⟩ (.int .u64 m.c)).setCell ⟨g, 9, none⟩ (.int .u64 m.ar)).setCell ⟨g, 10, none⟩ (D))
theorem MB.lay {w : World} {g : Nat} {x m : Msg} {X D : Value} (h : MB w g x X) : MB (lay11 w g m D) g m D := by
  have h1 := heap_setCell_same w g 0 _ _ (.int .u64 m.ta) h
  have h2 := heap_setCell_same _ g 1 _ _ (.int .u64 m.rp) h1
  have h3 := heap_setCell_same _ g 2 _ _ (.int .u32 m.id) h2
  have h4 := heap_setCell_same _ g 3 _ _ (.int .u16 m.op) h3
  have h5 := heap_setCell_same _ g 4 _ _ (.int .u16 m.st) h4
  have h6 := heap_setCell_same _ g 5 _ _ (.int .u64 m.p) h5
  have h7 := heap_setCell_same _ g 6 _ _ (.int .u32 m.o) h6
  have h8 := heap_setCell_same _ g 7 _ _ (.int .u8 m.r) h7
  have h9 := heap_setCell_same _ g 8 _ _ (.int .u64 m.c) h8
  have h10 := heap_setCell_same _ g 9 _ _ (.int .u64 m.ar) h9
  have h11 := heap_setCell_same _ g 10 _ _ D h10
  unfold MB lay11
  rw [h11]
  simp
theorem Foot.put {a w : World} {g : Nat} (h : Foot (fun j => j = g) a w) (o : Nat) (v : Value) : Foot (fun j => j = g) a (w.setCell ⟨g, o, none⟩ v) := h.trans (foot_set w ⟨g, o, none⟩ v) (fun _ e => .inl e)
theorem foot_lay11 (w : World) (g : Nat) (m : Msg) (D : Value) : Foot (fun j => j = g) w (lay11 w g m D) := by
  unfold lay11
  exact (((((((((((Foot.refl _ w).put _ _).put _ _).put _ _).put _ _).put _ _).put _ _).put _ _).put _ _).put _ _).put _ _).put _ _
end
end Go.Proofs.YtlmnnjibggdboaaGreatDoor
namespace Go.Proofs.YtlmnnjibggdboaaGreatDoor
section
open Go.RowKit
theorem apart0 {W : World} {ao : Option Addr} (hn : New W ao) : ∀ g, g < W.heap.size → ∀ ad, ao = some ad → ad.block ≠ g := fun g hg ad e h => by have := hn ad e; omega
theorem wrap16 (v : Nat) (h : v ≤ 65535) : IntKind.u16.wrap (v : Int) = (v : Int) := by
  rw [IntKind.wrap_u16]; omega
set_option maxHeartbeats 4000000 in
theorem answer_any (m : Msg) (D : Value) (s p o r c ar : Nat) (ao : Option Addr) (n cap : Nat) (l : List UInt8) (w : World) (hs : s ≤ 65535) (hb : Bts w ao n cap l) (hn : n ≤ 140737488355328) (m2 : Msg) (h2 : (⟨m.rp, m.ta, m.id, m.op, s, p, o, r, c, ar⟩ : Msg) = m2) :
    Calls Tryz.prog 37 #[.agg #[.int .u64 m.ta, .int .u64 m.rp, .int .u32 m.id, .int .u16 m.op, .int .u16 m.st, .int .u64 m.p, .int .u32 m.o, .int .u8 m.r, .int .u64 m.c, .int .u64 m.ar, D], .int .i64 s, .agg #[.int .u64 p, .int .u32 o, .int .u8 r, .int .u64 c], .int .u64 ar, .slice ao n cap] w fun e w' => ∃ co cc, e = .returned (.agg #[.int .u64 m2.ta, .int .u64 m2.rp, .int .u32 m2.id, .int .u16 m2.op, .int .u16 m2.st, .int .u64 m2.p, .int .u32 m2.o, .int .u8 m2.r, .int .u64 m2.c, .int .u64 m2.ar, .slice co n cc]) ∧ Bts w' co n cc l ∧ New w co ∧ Below w.heap.size w w' := by
  subst h2
  have hw := wrap16 s hs
  have HB : Hid (Bts w ao n cap l) := hb
  clear hb
  have b1 : Below w.heap.size w (w.alloc (.cells #[.int .u64 m.ta, .int .u64 m.rp, .int .u32 m.id, .int .u16 m.op, .int .u16 m.st, .int .u64 m.p, .int .u32 m.o, .int .u8 m.r, .int .u64 m.c, .int .u64 m.ar, D] 55)) := below_alloc _ _
  have z1 : (w.alloc (.cells #[.int .u64 m.ta, .int .u64 m.rp, .int .u32 m.id, .int .u16 m.op, .int .u16 m.st, .int .u64 m.p, .int .u32 m.o, .int .u8 m.r, .int .u64 m.c, .int .u64 m.ar, D] 55)).heap.size = w.heap.size + 1 := by simp
  have x1 := mbox_new w m D
  have c2 := box_new (w.alloc (.cells #[.int .u64 m.ta, .int .u64 m.rp, .int .u32 m.id, .int .u16 m.op, .int .u16 m.st, .int .u64 m.p, .int .u32 m.o, .int .u8 m.r, .int .u64 m.c, .int .u64 m.ar, D] 55)) p o r c
  have b2 := below_alloc (w.alloc (.cells #[.int .u64 m.ta, .int .u64 m.rp, .int .u32 m.id, .int .u16 m.op, .int .u16 m.st, .int .u64 m.p, .int .u32 m.o, .int .u8 m.r, .int .u64 m.c, .int .u64 m.ar, D] 55)) (.cells #[.int .u64 p, .int .u32 o, .int .u8 r, .int .u64 c] 40)
  have x2 := x1.carry b2
  have z2 : ((w.alloc (.cells #[.int .u64 m.ta, .int .u64 m.rp, .int .u32 m.id, .int .u16 m.op, .int .u16 m.st, .int .u64 m.p, .int .u32 m.o, .int .u8 m.r, .int .u64 m.c, .int .u64 m.ar, D] 55)).alloc (.cells #[.int .u64 p, .int .u32 o, .int .u8 r, .int .u64 c] 40)).heap.size = w.heap.size + 1 + 1 := by simp
  have x3 := zero_new ((w.alloc (.cells #[.int .u64 m.ta, .int .u64 m.rp, .int .u32 m.id, .int .u16 m.op, .int .u16 m.st, .int .u64 m.p, .int .u32 m.o, .int .u8 m.r, .int .u64 m.c, .int .u64 m.ar, D] 55)).alloc (.cells #[.int .u64 p, .int .u32 o, .int .u8 r, .int .u64 c] 40))
  have f3 := mfree_new ((w.alloc (.cells #[.int .u64 m.ta, .int .u64 m.rp, .int .u32 m.id, .int .u16 m.op, .int .u16 m.st, .int .u64 m.p, .int .u32 m.o, .int .u8 m.r, .int .u64 m.c, .int .u64 m.ar, D] 55)).alloc (.cells #[.int .u64 p, .int .u32 o, .int .u8 r, .int .u64 c] 40)) #[.int .u64 0, .int .u64 0, .int .u32 0, .int .u16 0, .int .u16 0, .int .u64 0, .int .u32 0, .int .u8 0, .int .u64 0, .int .u64 0, .slice none 0 0]
  rw [z1] at c2
  rw [z2] at x3 f3
  have HX := hide x2
  have HC := hide c2
  have HZ := hide x3
  have HF := hide f3
  have HS2 := hide z2
  have HBB := hide (below_one b1 b2)
  clear x1 x2 c2 x3 f3 z1 z2 b1 b2
  go_enter Tryz.func37, Tryz.ntmps37
  go_wp2_with fail
  generalize hW : (w.alloc (.cells #[.int .u64 m.ta, .int .u64 m.rp, .int .u32 m.id, .int .u16 m.op, .int .u16 m.st, .int .u64 m.p, .int .u32 m.o, .int .u8 m.r, .int .u64 m.c, .int .u64 m.ar, D] 55)).alloc (.cells #[.int .u64 p, .int .u32 o, .int .u8 r, .int .u64 c] 40) = W at *
  have hle : W.heap.size ≤ w.heap.size + 1 + 1 := by have := HS2.out; omega
  have hlw : w.heap.size ≤ W.heap.size := HBB.out.size
  have bb : Below W.heap.size W (W.alloc (.cells #[.int .u64 0, .int .u64 0, .int .u32 0, .int .u16 0, .int .u16 0, .int .u64 0, .int .u32 0, .int .u8 0, .int .u64 0, .int .u64 0, .slice none 0 0] 55)).drew := (below_alloc _ _).drew
  have HZ1 := hide HZ.out.drew
  have HF1 : Hid (MFree (W.alloc (.cells #[.int .u64 0, .int .u64 0, .int .u32 0, .int .u16 0, .int .u16 0, .int .u64 0, .int .u32 0, .int .u8 0, .int .u64 0, .int .u64 0, .slice none 0 0] 55)).drew (w.heap.size + 1 + 1)) := HF.out
  have HBW := hide (HB.out.carry HBB.out)
  clear hW HZ HF HB
  go_region_held (fun w' => (w'.cell? ⟨w.heap.size, 0, none⟩ = some (.int .u64 m.ta) ∧ w'.cell? ⟨w.heap.size, 1, none⟩ = some (.int .u64 m.rp) ∧ w'.cell? ⟨w.heap.size, 2, none⟩ = some (.int .u32 m.id) ∧ w'.cell? ⟨w.heap.size, 3, none⟩ = some (.int .u16 m.op)) ∧
      (w'.cell? ⟨w.heap.size + 1, 0, none⟩ = some (.int .u64 p) ∧ w'.cell? ⟨w.heap.size + 1, 1, none⟩ = some (.int .u32 o) ∧ w'.cell? ⟨w.heap.size + 1, 2, none⟩ = some (.int .u8 r) ∧ w'.cell? ⟨w.heap.size + 1, 3, none⟩ = some (.int .u64 c)))
    (exact ⟨(HX.out.carry (by go_grown)).four, HC.out.carry (by go_grown)⟩)
    (first
      | (go_at_call 59; refine (clone_any ao n cap l _ (HBW.out.carry (by go_grown)) hn).mono ?_; rintro e wx ⟨co, cc, rfl, hbx, hnx, bel⟩; have HN1 := hide (hnx.le (w := w) (by have h1 := bb.size; omega)); have HP1 := hide (apart0 hnx); have bb : Below W.heap.size W wx := below_one bb bel; obtain ⟨k0, k1, k2, k3, k4, k5, k6, k7, k8, k9, k10⟩ := HZ1.out.carry bel; obtain ⟨z0, z1, z2, z3, z4, z5, z6, z7, z8, z9, z10⟩ := HF1.out.carry HZ1.out.lt bel; have HBX := hide hbx; clear bel hbx hnx))
  go_wp2
  have HP2 : Hid (∀ ad, co = some ad → ad.block ≠ w.heap.size + 1 + 1) := HP1.out _ (by have := HS2.out; simp; omega)
  have b9 := below_one HBB.out bb
  have h9 : w.heap.size ≤ w.heap.size + 1 + 1 := by omega
  refine bodyPost_ret (by simp [results, Tryz.results37, go_sem, k0, k1, k2, k3, k4, k5, k6, k7, k8, k9, k10]; rfl) rfl ?_
  exact ⟨co, cc, rfl, ((((((((((HBX.out.set _ _ HP2.out).set _ _ HP2.out).set _ _ HP2.out).set _ _ HP2.out).set _ _ HP2.out).set _ _ HP2.out).set _ _ HP2.out).set _ _ HP2.out).set _ _ HP2.out).set _ _ HP2.out).set _ _ HP2.out, HN1.out, ((((((((((b9.setCell h9 _).setCell h9 _).setCell h9 _).setCell h9 _).setCell h9 _).setCell h9 _).setCell h9 _).setCell h9 _).setCell h9 _).setCell h9 _).setCell h9 _⟩
set_option maxHeartbeats 4000000 in
theorem fault_gen (m : Msg) (D v : Value) (a : Nat) (w : World) (ha : a ≤ 65535) (hg : Glob w) (hN : ∀ W, Glob W → Calls Tryz.prog 14 #[v] W fun e w' => e = .returned (.int .i64 (a : Int)) ∧ Below W.heap.size W w') (m2 : Msg) (h2 : (⟨m.rp, m.ta, m.id, m.op, a, 0, 0, 0, 0, 0⟩ : Msg) = m2) :
    Calls Tryz.prog 36 #[.agg #[.int .u64 m.ta, .int .u64 m.rp, .int .u32 m.id, .int .u16 m.op, .int .u16 m.st, .int .u64 m.p, .int .u32 m.o, .int .u8 m.r, .int .u64 m.c, .int .u64 m.ar, D], v] w fun e w' => ∃ co cc, e = .returned (.agg #[.int .u64 m2.ta, .int .u64 m2.rp, .int .u32 m2.id, .int .u16 m2.op, .int .u16 m2.st, .int .u64 m2.p, .int .u32 m2.o, .int .u8 m2.r, .int .u64 m2.c, .int .u64 m2.ar, .slice co 0 cc]) ∧ Bts w' co 0 cc [] ∧ Below w.heap.size w w' := by
  have HN : Hid _ := hN
  have H2 : Hid _ := h2
  have HG : Hid (Glob w) := hg
  have b1 : Below w.heap.size w (w.alloc (.cells #[.int .u64 m.ta, .int .u64 m.rp, .int .u32 m.id, .int .u16 m.op, .int .u16 m.st, .int .u64 m.p, .int .u32 m.o, .int .u8 m.r, .int .u64 m.c, .int .u64 m.ar, D] 55)) := below_alloc _ _
  have z1 : (w.alloc (.cells #[.int .u64 m.ta, .int .u64 m.rp, .int .u32 m.id, .int .u16 m.op, .int .u16 m.st, .int .u64 m.p, .int .u32 m.o, .int .u8 m.r, .int .u64 m.c, .int .u64 m.ar, D] 55)).heap.size = w.heap.size + 1 := by simp
  have x1 := mbox_new w m D
  have x3 := zero_new (w.alloc (.cells #[.int .u64 m.ta, .int .u64 m.rp, .int .u32 m.id, .int .u16 m.op, .int .u16 m.st, .int .u64 m.p, .int .u32 m.o, .int .u8 m.r, .int .u64 m.c, .int .u64 m.ar, D] 55))
  have f3 := mfree_new (w.alloc (.cells #[.int .u64 m.ta, .int .u64 m.rp, .int .u32 m.id, .int .u16 m.op, .int .u16 m.st, .int .u64 m.p, .int .u32 m.o, .int .u8 m.r, .int .u64 m.c, .int .u64 m.ar, D] 55)) #[.int .u64 0, .int .u64 0, .int .u32 0, .int .u16 0, .int .u16 0, .int .u64 0, .int .u32 0, .int .u8 0, .int .u64 0, .int .u64 0, .slice none 0 0]
  rw [z1] at x3 f3
  have HX := hide x1
  have HZ := hide x3
  have HF := hide f3
  have HS2 := hide z1
  have HBB := hide b1
  clear x1 x3 f3 z1 b1 hg hN h2
  go_enter Tryz.func36, Tryz.ntmps36
  go_wp2_with fail
  generalize hW : w.alloc (.cells #[.int .u64 m.ta, .int .u64 m.rp, .int .u32 m.id, .int .u16 m.op, .int .u16 m.st, .int .u64 m.p, .int .u32 m.o, .int .u8 m.r, .int .u64 m.c, .int .u64 m.ar, D] 55) = W at *
  have hle : W.heap.size ≤ w.heap.size + 1 := by have := HS2.out; omega
  have hlw : w.heap.size ≤ W.heap.size := HBB.out.size
  have bb : Below W.heap.size W (W.alloc (.cells #[.int .u64 0, .int .u64 0, .int .u32 0, .int .u16 0, .int .u16 0, .int .u64 0, .int .u32 0, .int .u8 0, .int .u64 0, .int .u64 0, .slice none 0 0] 55)).drew := (below_alloc _ _).drew
  have HZ1 := hide HZ.out.drew
  have HF1 : Hid (MFree (W.alloc (.cells #[.int .u64 0, .int .u64 0, .int .u32 0, .int .u16 0, .int .u16 0, .int .u64 0, .int .u32 0, .int .u8 0, .int .u64 0, .int .u64 0, .slice none 0 0] 55)).drew (w.heap.size + 1)) := HF.out
  have HGW := hide (HG.out.carry HBB.out)
  clear hW HZ HF HG
  go_region_held (fun w' => (w'.cell? ⟨w.heap.size, 0, none⟩ = some (.int .u64 m.ta) ∧ w'.cell? ⟨w.heap.size, 1, none⟩ = some (.int .u64 m.rp) ∧ w'.cell? ⟨w.heap.size, 2, none⟩ = some (.int .u32 m.id) ∧ w'.cell? ⟨w.heap.size, 3, none⟩ = some (.int .u16 m.op) ∧ w'.cell? ⟨w.heap.size, 4, none⟩ = some (.int .u16 m.st) ∧ w'.cell? ⟨w.heap.size, 5, none⟩ = some (.int .u64 m.p) ∧ w'.cell? ⟨w.heap.size, 6, none⟩ = some (.int .u32 m.o) ∧ w'.cell? ⟨w.heap.size, 7, none⟩ = some (.int .u8 m.r) ∧ w'.cell? ⟨w.heap.size, 8, none⟩ = some (.int .u64 m.c) ∧ w'.cell? ⟨w.heap.size, 9, none⟩ = some (.int .u64 m.ar) ∧ w'.cell? ⟨w.heap.size, 10, none⟩ = some (D)))
    (exact HX.out.carry (by go_grown))
    (first
      | (go_at_call 14; refine (HN.out _ (HGW.out.carry (by go_grown))).mono ?_; rintro e wx ⟨rfl, bel⟩; have HZ1 := hide (HZ1.out.carry bel); have HF1 := hide (HF1.out.carry (by have h1 := bb.size; have h2 := HS2.out; simp at h1 ⊢; omega) bel); have bb : Below W.heap.size W wx := below_one bb bel; clear bel)
      | (go_at_call 37; refine (answer_any m D a 0 0 0 0 0 none 0 0 [] _ ha (bts_nil _) (by omega) m2 H2.out).mono ?_; rintro e wy ⟨co, cc, rfl, hbx, hnx, bel⟩; have HP1 := hide (apart0 hnx); have HL1 := hide HZ1.out.lt; have bb : Below W.heap.size W wy := below_one bb bel; obtain ⟨k0, k1, k2, k3, k4, k5, k6, k7, k8, k9, k10⟩ := HZ1.out.carry bel; obtain ⟨z0, z1, z2, z3, z4, z5, z6, z7, z8, z9, z10⟩ := HF1.out.carry HZ1.out.lt bel; have HBX := hide hbx; clear bel hbx hnx))
  go_wp2
  have HP2 : Hid (∀ ad, co = some ad → ad.block ≠ w.heap.size + 1) := HP1.out _ HL1.out
  have b9 := below_one HBB.out bb
  have h9 : w.heap.size ≤ w.heap.size + 1 := by omega
  refine bodyPost_ret (by simp [results, Tryz.results36, go_sem, k0, k1, k2, k3, k4, k5, k6, k7, k8, k9, k10]; rfl) rfl ?_
  exact ⟨co, cc, rfl, ((((((((((HBX.out.set _ _ HP2.out).set _ _ HP2.out).set _ _ HP2.out).set _ _ HP2.out).set _ _ HP2.out).set _ _ HP2.out).set _ _ HP2.out).set _ _ HP2.out).set _ _ HP2.out).set _ _ HP2.out).set _ _ HP2.out, ((((((((((b9.setCell h9 _).setCell h9 _).setCell h9 _).setCell h9 _).setCell h9 _).setCell h9 _).setCell h9 _).setCell h9 _).setCell h9 _).setCell h9 _).setCell h9 _⟩
theorem str_list (l : List UInt8) : (str l).toList = l := by
  rw [str, ByteArray.toList_eq]
/- are two messages the same? -/
def sameD (m k : Msg) (l r : List UInt8) : Bool := decide (m.ta = k.ta ∧ m.rp = k.rp ∧ m.id = k.id ∧ m.op = k.op ∧ m.st = k.st ∧ (m.p = k.p ∧ m.o = k.o ∧ m.r = k.r ∧ m.c = k.c) ∧ m.ar = k.ar ∧ l = r)
theorem beq_cast (a b : Nat) : ((a : Int) == (b : Int)) = decide (a = b) := by
  by_cases h : a = b
  · subst h; simp
  · rw [decide_eq_false h]; simp; omega
theorem sameD_iff {m k : Msg} {l r : List UInt8} : sameD m k l r = true ↔ (m = k ∧ l = r) := by
  unfold sameD; rw [decide_eq_true_iff]
  constructor
  · rintro ⟨h0, h1, h2, h3, h4, ⟨h5, h6, h7, h8⟩, h9, h10⟩
    cases m; cases k; simp_all
  · rintro ⟨rfl, rfl⟩; simp
set_option maxHeartbeats 1600000 in
theorem same_any (m k : Msg) (ao : Option Addr) (n cap : Nat) (l : List UInt8) (bo : Option Addr) (nb capb : Nat) (r : List UInt8) (w : World) (ha : Bts w ao n cap l) (hb : Bts w bo nb capb r) :
    Calls Tryz.prog 18 #[.agg #[.int .u64 m.ta, .int .u64 m.rp, .int .u32 m.id, .int .u16 m.op, .int .u16 m.st, .int .u64 m.p, .int .u32 m.o, .int .u8 m.r, .int .u64 m.c, .int .u64 m.ar, .slice ao n cap], .agg #[.int .u64 k.ta, .int .u64 k.rp, .int .u32 k.id, .int .u16 k.op, .int .u16 k.st, .int .u64 k.p, .int .u32 k.o, .int .u8 k.r, .int .u64 k.c, .int .u64 k.ar, .slice bo nb capb]] w fun e w' => e = .returned (.bool (sameD m k l r)) ∧ Below w.heap.size w w' := by
  have HT : Hid (Below w.heap.size w ((w.alloc (.cells #[.int .u64 m.ta, .int .u64 m.rp, .int .u32 m.id, .int .u16 m.op, .int .u16 m.st, .int .u64 m.p, .int .u32 m.o, .int .u8 m.r, .int .u64 m.c, .int .u64 m.ar, .slice ao n cap] 55)).alloc (.cells #[.int .u64 k.ta, .int .u64 k.rp, .int .u32 k.id, .int .u16 k.op, .int .u16 k.st, .int .u64 k.p, .int .u32 k.o, .int .u8 k.r, .int .u64 k.c, .int .u64 k.ar, .slice bo nb capb] 55))) := below_one (below_alloc _ _) (below_alloc _ _)
  have cva := conv_bts (ha.carry HT.out)
  have cvb := conv_bts (hb.carry HT.out)
  have hg := eqGuard40
  have hE := eql_cap m.p m.o m.r m.c k.p k.o k.r k.c
  have hED : decide ((m.p : Int) = k.p ∧ (m.o : Int) = k.o ∧ (m.r : Int) = k.r ∧ (m.c : Int) = k.c) = decide (m.p = k.p ∧ m.o = k.o ∧ m.r = k.r ∧ m.c = k.c) := by apply decide_eq_decide.2; omega
  rw [hED] at hE
  have e0 := beq_cast m.ta k.ta
  have e1 := beq_cast m.rp k.rp
  have e2 := beq_cast m.id k.id
  have e3 := beq_cast m.op k.op
  have e4 := beq_cast m.st k.st
  have e6 := beq_cast m.ar k.ar
  have HS : Hid (sameD m k l r = (decide (m.ta = k.ta) && decide (m.rp = k.rp) && decide (m.id = k.id) && decide (m.op = k.op) && decide (m.st = k.st) && decide (m.p = k.p ∧ m.o = k.o ∧ m.r = k.r ∧ m.c = k.c) && decide (m.ar = k.ar) && decide (l = r))) := by
    show sameD m k l r = _
    simp only [sameD, Bool.decide_and, Bool.and_assoc]
  rw [HS.out]
  clear ha hb hED HS
  generalize decide (m.ta = k.ta) = q0 at e0 ⊢
  generalize decide (m.rp = k.rp) = q1 at e1 ⊢
  generalize decide (m.id = k.id) = q2 at e2 ⊢
  generalize decide (m.op = k.op) = q3 at e3 ⊢
  generalize decide (m.st = k.st) = q4 at e4 ⊢
  generalize decide (m.p = k.p ∧ m.o = k.o ∧ m.r = k.r ∧ m.c = k.c) = q5 at hE ⊢
  generalize decide (m.ar = k.ar) = q6 at e6 ⊢
  cases q0 with
  | false =>
    simp only [Bool.false_and]
    go_enter Tryz.func18, Tryz.ntmps18
    go_wp2
    go_ret
    exact ⟨rfl, HT.out⟩
  | true =>
    cases q1 with
    | false =>
      simp only [Bool.false_and, Bool.true_and]
      go_enter Tryz.func18, Tryz.ntmps18
      go_wp2
      go_ret
      exact ⟨rfl, HT.out⟩
    | true =>
      cases q2 with
      | false =>
        simp only [Bool.false_and, Bool.true_and]
        go_enter Tryz.func18, Tryz.ntmps18
        go_wp2
        go_ret
        exact ⟨rfl, HT.out⟩
      | true =>
        cases q3 with
        | false =>
          simp only [Bool.false_and, Bool.true_and]
          go_enter Tryz.func18, Tryz.ntmps18
          go_wp2
          go_ret
          exact ⟨rfl, HT.out⟩
        | true =>
          cases q4 with
          | false =>
            simp only [Bool.false_and, Bool.true_and]
            go_enter Tryz.func18, Tryz.ntmps18
            go_wp2
            go_ret
            exact ⟨rfl, HT.out⟩
          | true =>
            cases q5 with
            | false =>
              simp only [Bool.false_and, Bool.true_and]
              go_enter Tryz.func18, Tryz.ntmps18
              go_wp2
              go_ret
              exact ⟨rfl, HT.out⟩
            | true =>
              cases q6 with
              | false =>
                simp only [Bool.false_and, Bool.true_and]
                go_enter Tryz.func18, Tryz.ntmps18
                go_wp2
                go_ret
                exact ⟨rfl, HT.out⟩
              | true =>
                simp only [Bool.true_and]
                go_enter Tryz.func18, Tryz.ntmps18
                go_wp2
                go_ret
                refine ⟨?_, HT.out⟩
                show Ending.returned (.bool ((str l).toList == (str r).toList)) = _
                rw [str_list, str_list]
                by_cases h : l = r
                · subst h; rw [decide_eq_true rfl, BEq.rfl]
                · rw [decide_eq_false h, beq_eq_false_iff_ne.2 h]
end
end Go.Proofs.YtlmnnjibggdboaaGreatDoor
