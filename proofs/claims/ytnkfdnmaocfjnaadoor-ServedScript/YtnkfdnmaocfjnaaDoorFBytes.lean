/-
  Bytes of slices in memory, what stays of them when other memory turns; parts of them; string(b); bytes.Clone.
-/
import Derived.Test.YtnkfdnmaocfjnaaDoorQLies
namespace Go.Proofs.YtnkfdnmaocfjnaaDoor
open Go.RowKit
def bt (l : List UInt8) (j : Nat) : Int := ((l.getD j 0).toNat : Int)
theorem bt_get (l : List UInt8) (j : Nat) (h : j < l.length) : bt l j = (l[j].toNat : Int) := by unfold bt; rw [List.getD_eq_getElem?_getD, List.getElem?_eq_getElem h]; rfl
theorem ofNat_toNat (x : Nat) : (UInt8.ofNat x).toNat = x % 256 := by simp
def Bts (w : World) (ao : Option Addr) (n cap : Nat) (l : List UInt8) : Prop :=
  n = l.length ∧ n ≤ cap ∧ cap ≤ maxLen ∧ (ao = none → cap = 0) ∧ ∀ ad, ao = some ad → ∀ j, j < l.length → w.cell? (ad.add j) = some (.int .u8 (bt l j))
theorem Bts.carry {w w' : World} {ao : Option Addr} {n cap : Nat} {l : List UInt8} (h : Bts w ao n cap l) (b : Below w.heap.size w w') : Bts w' ao n cap l := by
  refine ⟨h.1, h.2.1, h.2.2.1, h.2.2.2.1, fun ad e j hj => ?_⟩
  have hc := h.2.2.2.2 ad e j hj
  rw [b.cell (lt_of_cell hc), hc]
theorem Bts.over {w w' : World} {ao : Option Addr} {n cap B : Nat} {l : List UInt8} (h : Bts w ao n cap l) (b : Below B w w') (hB : w.heap.size ≤ B) : Bts w' ao n cap l := by
  refine ⟨h.1, h.2.1, h.2.2.1, h.2.2.2.1, fun ad e j hj => ?_⟩
  have hc := h.2.2.2.2 ad e j hj
  rw [b.cell (Nat.lt_of_lt_of_le (lt_of_cell hc) hB), hc]
theorem Bts.foot {S : Nat → Prop} {w w' : World} {ao : Option Addr} {n cap : Nat} {l : List UInt8} (h : Bts w ao n cap l) (b : Foot S w w') (hS : ∀ ad, ao = some ad → ad.block < w.heap.size → ¬ S ad.block) : Bts w' ao n cap l := by
  refine ⟨h.1, h.2.1, h.2.2.1, h.2.2.2.1, fun ad e j hj => ?_⟩
  have hc := h.2.2.2.2 ad e j hj
  have hl := lt_of_cell hc
  rw [b.cell _ hl (by rw [add_block] at hl ⊢; exact hS ad e hl), hc]
theorem Bts.drewN {w : World} {ao : Option Addr} {n cap : Nat} {l : List UInt8} (h : Bts w ao n cap l) (q : Nat) : Bts (w.drewN q) ao n cap l := h
def cellsB (l : List UInt8) : List Value := l.map fun c => Value.int .u8 (c.toNat : Int)
theorem cellsB_len (l : List UInt8) : (cellsB l).length = l.length := by simp [cellsB]
theorem cellsB_append (l r : List UInt8) : cellsB (l ++ r) = cellsB l ++ cellsB r := by simp [cellsB]
theorem cellsB_get (l : List UInt8) (j : Nat) (h : j < l.length) : (cellsB l)[j]? = some (.int .u8 (bt l j)) := by
  simp [cellsB, bt, List.getElem?_eq_getElem h, List.getD_eq_getElem?_getD]
theorem cellsB_one (l : List UInt8) : ∀ u ∈ cellsB l, u.oneCell' = true := by
  intro u hu; simp only [cellsB, List.mem_map] at hu; obtain ⟨c, _, rfl⟩ := hu; rfl
theorem Bts.news {w : World} {ao : Option Addr} {n cap : Nat} {l : List UInt8} (h : Bts w ao n cap l) : ∀ ad, ao = some ad → ∀ j u, (cellsB l)[j]? = some u → w.cell? (ad.add j) = some u := by
  intro ad e j u hj
  have hlt : j < l.length := by have := (List.getElem?_eq_some_iff.1 hj).1; rw [cellsB_len] at this; exact this
  rw [cellsB_get l j hlt] at hj; rw [h.2.2.2.2 ad e j hlt, hj]
theorem Bts.none {w : World} {ao : Option Addr} {n cap : Nat} {l : List UInt8} (h : Bts w ao n cap l) : ao = none → n = 0 ∧ cap = 0 := by
  intro e; have := h.2.2.2.1 e; have := h.2.1; omega
theorem bts_nil (w : World) : Bts w none 0 0 [] := ⟨rfl, Nat.le_refl _, by decide, fun _ => rfl, fun _ e => by cases e⟩
theorem owns_bts {w : World} {base : Nat} {v : Value} {n : Nat} {l : List UInt8} (h : w.ownsRow base 5 1 v n (cellsB l)) : ∃ ao cap, v = .slice ao n cap ∧ Bts w ao n cap l := by
  have hl := h.1; rw [cellsB_len] at hl
  rcases h.2 with ⟨rfl, rfl⟩ | ⟨g, cap, cur, rfl, _, _, hc, hm, _, _⟩
  · refine ⟨none, 0, rfl, by omega, Nat.le_refl _, by decide, fun _ => rfl, fun ad e => by cases e⟩
  · refine ⟨some ⟨g, 0, none⟩, cap, rfl, by omega, hc, hm, (fun e => by cases e), fun ad e j hj => ?_⟩
    obtain rfl := Option.some.inj e
    have := h.cellAt j (by omega)
    rw [cellsB_get l j hj] at this
    rw [add0]; exact this
theorem own_empty (w : World) : (w.alloc (.cells #[] 5)).ownsRow w.heap.size 5 1 (.slice (some ⟨w.heap.size, 0, none⟩) 0 0) 0 [] :=
  ⟨rfl, Or.inr ⟨w.heap.size, 0, #[], rfl, Nat.le_refl _, heap_alloc_new _ _, Nat.le_refl _, by decide, rfl, rfl⟩⟩
/- bytes that were written out -/
theorem bts_cells (w : World) (l : List UInt8) (C : Array Value) (fr : Nat × Nat) (hC : (cellsB l).toArray = C) (hl : l.length ≤ 1000) : Bts (w.alloc (.cells C 5 fr)) (some ⟨w.heap.size, 0, none⟩) l.length l.length l := by
  subst hC
  refine ⟨rfl, Nat.le_refl _, by unfold maxLen; omega, (fun e => by cases e), fun ad e j hj => ?_⟩
  obtain rfl := Option.some.inj e
  rw [add0, cell_of_row _ w.heap.size j _ _ _ (heap_alloc_new _ _)]
  simpa using cellsB_get l j hj
theorem Tryd.info5 : (Tryd.prog.info? 5).map (fun i => (i.zero, i.size, i.bytes)) = some (some (.int .u8 0), 1, 1) := by kernel_rfl
set_option maxHeartbeats 800000 in
theorem clone_any (ao : Option Addr) (n cap : Nat) (l : List UInt8) (w : World) (hb : Bts w ao n cap l) (hr : n ≤ 140737488355328) :
    Calls Tryd.prog 19 #[.slice ao n cap] w fun e w' => ∃ co cc, e = .returned (.slice co n cc) ∧ Bts w' co n cc l ∧ New w co ∧ Below w.heap.size w w' := by
  have HB : Hid (Bts w ao n cap l) := hb
  clear hb
  cases ao with
  | none =>
    obtain ⟨rfl, rfl⟩ := HB.out.none rfl
    have he := run_eql_slice_nil (P := Tryd.prog) w 30 5 none 0 0 Tryd.underlying30
    go_enter Tryd.func19, Tryd.ntmps19
    go_wp2
    go_ret
    exact ⟨none, 0, rfl, HB.out, new_none _, Below.refl _ _⟩
  | some ad =>
    obtain ⟨i0, hi, hz0, hz1, hz2⟩ := info_parts Tryd.info5
    have hcm : cap ≤ 9223372036854775807 := HB.out.2.2.1
    have he := run_eql_slice_nil (P := Tryd.prog) w 30 5 (some ad) n cap Tryd.underlying30
    go_enter Tryd.func19, Tryd.ntmps19
    go_wp2_with (at_builtin; refine wpList_append_own _ rfl _ _ 30 rfl w.heap.size 5 i0 (.int .u8 0) 1 1 Tryd.underlying30 hi hz0 hz1 hz2 rfl (by decide) _ 0 [] rfl (own_empty w) ad n cap (cellsB l) rfl (by rw [cellsB_len]; have := HB.out.1; omega) ?c1 (cellsB_one l) (by unfold maxLen; omega) (by omega) ?c5 ?_)
    case c1 => exact (HB.out.carry (below_alloc w _)).news ad rfl
    case c5 => exact (below_alloc w _).size
    intro v' w2 hown2 hgrow2 _
    obtain ⟨co, cc, rfl, hb2⟩ := owns_bts hown2
    have HW : Hid (New w co) := owns_new hown2
    have bel2 : Below w.heap.size w w2 := (below_alloc w (Obj.cells #[] 5)).grown hgrow2 (below_alloc w _).size (fun k e => by cases e; exact Nat.le_refl _)
    have HB2 : Hid (Bts w2 co n cc l) := hb2
    clear hown2 hgrow2 hb2
    go_wp2
    go_ret
    exact ⟨co, cc, rfl, HB2.out, HW.out, bel2⟩
/- string(b) -/
def str (l : List UInt8) : ByteArray := ⟨l.toArray⟩
theorem str_inj {a b : List UInt8} (h : str a = str b) : a = b := by
  have := congrArg ByteArray.data h; simpa [str] using this
theorem conv_bts {w : World} {ao : Option Addr} {n cap : Nat} {l : List UInt8} (h : Bts w ao n cap l) : (convert 30 9 (.slice ao n cap)).run Tryd.prog w = .ok (.string (str l)) w := by
  cases ao with
  | none =>
    obtain ⟨rfl, rfl⟩ := h.none rfl
    obtain rfl : l = [] := List.eq_nil_of_length_eq_zero h.1.symm
    rw [run_convert_bytes_string w 30 9 5 none 0 0 Tryd.underlying30 Tryd.underlying5 Tryd.underlying9]
    simp [Conv.bytesToString]; rfl
  | some ad =>
    have e := h.1
    subst e
    exact run_convert_bytes_back (P := Tryd.prog) w 30 9 5 ad cap l Tryd.underlying30 Tryd.underlying5 Tryd.underlying9 (fun j hj => by
      rw [h.2.2.2.2 ad rfl j hj, bt_get l j hj])
/- parts of a slice -/
def tailA (ao : Option Addr) (k cap : Nat) : Option Addr := if cap = k then ao else ao.map (·.add k)
theorem Tryd.sizeByte (w : World) : (sizeOf 5).run Tryd.prog w = .ok 1 w := by kernel_rfl
theorem cut_lh8 (w : World) (ao : Option Addr) (n cap k m : Nat) (hkm : k ≤ m) (h : m ≤ cap) : (Instr.slice 30 (.slice ao n cap) (some (.int .i64 (k : Int))) (some (.int .i64 (m : Int))) none).run Tryd.prog w = .ok (.slice (tailA ao k cap) (m - k) (cap - k)) w := by
  have ht : Tryd.prog.underlying 30 = some (.slice (Tryd.prog.elem 30)) := by simp [Program.elem, Tryd.underlying30]
  have he : Tryd.prog.elem 30 = 5 := by simp [Program.elem, Tryd.underlying30]
  rw [run_slice_lh (P := Tryd.prog) w 30 ao n cap ht .i64 .i64 (k : Int) (m : Int) (by omega) (by omega) (by omega), he, Tryd.sizeByte]
  simp [Result.andThen, sliced, tailA]
theorem Bts.part {w : World} {ao : Option Addr} {n cap : Nat} {l : List UInt8} (h : Bts w ao n cap l) (k m : Nat) (hk : k ≤ m) (hm : m ≤ n) : Bts w (tailA ao k cap) (m - k) (cap - k) ((l.drop k).take (m - k)) := by
  have h1 := h.1
  have h2 := h.2.1
  have h3 := h.2.2.1
  refine ⟨by rw [List.length_take, List.length_drop]; omega, by omega, by omega, fun e => ?_, fun ad e j hj => ?_⟩
  · unfold tailA at e
    split at e
    · omega
    · have := h.2.2.2.1 (by cases ao <;> simp_all); omega
  · rw [List.length_take, List.length_drop] at hj
    unfold tailA at e
    rw [if_neg (by omega)] at e
    obtain ⟨a0, rfl, rfl⟩ := Option.map_eq_some_iff.1 e
    rw [add_add, h.2.2.2.2 a0 rfl (k + j) (by omega)]
    unfold bt
    simp only [List.getD_eq_getElem?_getD]
    rw [List.getElem?_take, if_pos (by omega), List.getElem?_drop]
end Go.Proofs.YtnkfdnmaocfjnaaDoor
