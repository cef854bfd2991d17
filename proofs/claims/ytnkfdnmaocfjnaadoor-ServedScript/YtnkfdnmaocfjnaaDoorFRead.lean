/-
  What came in gives to the walks: a slice's bytes, a number.
-/
import Derived.Test.YtnkfdnmaocfjnaaDoorNAwake
namespace Go.Proofs.YtnkfdnmaocfjnaaDoor
open Go.RowKit
/- a slice of integers that came in: nil, or a row of so many cells, each fitting its kind -/
def RowOf (k : IntKind) (w : World) (a : Option Addr) (len cap : Nat) (zs : List Int) : Prop :=
  (a = none ∧ len = 0 ∧ cap = 0 ∧ zs = []) ∨
  ∃ x, a = some x ∧ len ≤ cap ∧ cap ≤ maxLen ∧ zs.length = cap ∧ (∀ i, i < zs.length → w.cell? (x.add i) = some (.int k (zs.getD i 0))) ∧ ∀ n ∈ zs, (Lit.int k n).wf = true
theorem RowOf.bytes {w : World} {a : Option Addr} {len cap : Nat} {zs : List Int} (h : RowOf .u8 w a len cap zs) : ∃ l, Bts w a len cap l := by
  rcases h with ⟨rfl, rfl, rfl, rfl⟩ | ⟨x, rfl, h1, h2, h3, h4, h5⟩
  · exact ⟨[], bts_nil w⟩
  · have hlen : ((zs.take len).map fun z => UInt8.ofNat z.toNat).length = len := by simp; omega
    refine ⟨(zs.take len).map fun z => UInt8.ofNat z.toNat, hlen.symm, h1, h2, (fun e => by cases e), fun ad e j hj => ?_⟩
    obtain rfl := Option.some.inj e
    rw [hlen] at hj
    have hjz : j < zs.length := by omega
    rw [h4 j hjz, bt_get _ _ (by rw [hlen]; exact hj)]
    have e1 : zs.getD j 0 = zs[j] := by rw [List.getD_eq_getElem?_getD, List.getElem?_eq_getElem hjz]; rfl
    have e2 := bounds_u8 (h5 zs[j] (List.getElem_mem hjz))
    rw [e1]
    simp only [List.getElem_map, List.getElem_take, ofNat_toNat]
    congr 2
    omega
theorem u16_nat {n : Int} (h : (Lit.int .u16 n).wf = true) : ∃ v : Nat, n = (v : Int) ∧ v ≤ 65535 := by
  have := bounds_u16 h; exact ⟨n.toNat, by omega, by omega⟩
theorem bytesOf5 : Tryd.prog.bytesOf 5 = 1 := by kernel_rfl
end Go.Proofs.YtnkfdnmaocfjnaaDoor
