/-
  What came in gives to the walks: a slice's bytes, a number.
-/
import Derived.Test.YtppdammgmnihgaaDoorPOf
import Derived.OpenShut
import Derived.Deep.CutRange
import Derived.Deep.RegionHeld
import Derived.Handy
namespace Go.Proofs.YtppdammgmnihgaaDoor
open Go.RowKit
/- a slice of integers that came in: nil, or a row of so many cells, each fitting its kind -/
def RowOf (k : IntKind) (w : World) (a : Option Addr) (len cap : Nat) (zs : List Int) : Prop :=
  (a = none ∧ len = 0 ∧ cap = 0 ∧ zs = []) ∨
  ∃ x, a = some x ∧ len ≤ cap ∧ cap ≤ maxLen ∧ zs.length = cap ∧ (∀ i, i < zs.length → w.cell? (x.add i) = some (.int k (zs.getD i 0))) ∧ ∀ n ∈ zs, (Lit.int k n).wf = true
theorem RowOf.bytes {w : World} {a : Option Addr} {len cap : Nat} {zs : List Int} (h : RowOf .u8 w a len cap zs) : ∃ l, Bts w a len cap l := by
  rcases h with ⟨rfl, rfl, rfl, rfl⟩ | ⟨x, rfl, h1, h2, h3, h4, h5⟩
  · exact ⟨[], bts_nil w⟩
  · have hlen : ((zs.take len).map fun z => UInt8.ofNat z.toNat).length = len := by simp; omega
    refine ⟨(zs.take len).map fun z => UInt8.ofNat z.toNat, hlen.symm, h1, h2, (fun e => by cases e), fun ad e j hj => ?_⟩
    obtain rfl := Option.some.inj e
    rw [hlen] at hj
    have hjz : j < zs.length := by omega
    rw [h4 j hjz, bt_get _ _ (by rw [hlen]; exact hj)]
    have e1 : zs.getD j 0 = zs[j] := by rw [List.getD_eq_getElem?_getD, List.getElem?_eq_getElem hjz]; rfl
    have e2 := bounds_u8 (h5 zs[j] (List.getElem_mem hjz))
    rw [e1]
    simp only [List.getElem_map, List.getElem_take, ofNat_toNat]
    congr 2
    omega
theorem u8_nat {n : Int} (h : (Lit.int .u8 n).wf = true) : ∃ v : Nat, n = (v : Int) ∧ v ≤ 255 := by
  have := bounds_u8 h; exact ⟨n.toNat, by omega, by omega⟩
theorem bytesOf5 : Tryd.prog.bytesOf 5 = 1 := by kernel_rfl
/- a new row of bytes that are 0 -/
set_option maxRecDepth 100000 in
theorem make_bytes (n : Nat) (hn : n ≤ 4096) (w : World) :
    (Instr.makeSlice 28 (.int .i64 (n : Int)) (.int .i64 (n : Int))).run Tryd.prog w = .ok (.slice (some ⟨w.heap.size, 0, none⟩) n n) (w.alloc (.cells (cellsB (zeros n)).toArray 5)) := by
  rw [run_make_row' (P := Tryd.prog) 28 5 (.int .u8 0) 1 Tryd.underlying28 Tryd.info5 rfl .i64 .i64 n (by omega) (by omega) w]
  congr 2
  apply congrArg (fun x => Obj.cells x 5 (0, 0))
  apply Array.ext'
  rw [toList_madeCells_one, cellsB_zeros]
theorem bts_zeros (w : World) (n : Nat) (hn : n ≤ 4096) (C : Array Value) (hC : (cellsB (zeros n)).toArray = C) : Bts (w.alloc (.cells C 5)) (some ⟨w.heap.size, 0, none⟩) n n (zeros n) := by
  subst hC
  refine ⟨(zeros_len n).symm, Nat.le_refl _, by unfold maxLen; omega, (fun e => by cases e), fun ad e j hj => ?_⟩
  obtain rfl := Option.some.inj e
  rw [add0, cell_of_row _ w.heap.size j _ _ _ (heap_alloc_new _ _)]
  simpa using cellsB_get (zeros n) j hj
theorem conv_new (w : World) (C : Array Value) (hC : (cellsB (zeros 64)).toArray = C) : (convert 28 9 (.slice (some ⟨w.heap.size, 0, none⟩) 64 64)).run Tryd.prog (w.alloc (.cells C 5)) = .ok (.string (str (zeros 64))) (w.alloc (.cells C 5)) :=
  conv_bts (bts_zeros w 64 (by omega) C hC)
end Go.Proofs.YtppdammgmnihgaaDoor
