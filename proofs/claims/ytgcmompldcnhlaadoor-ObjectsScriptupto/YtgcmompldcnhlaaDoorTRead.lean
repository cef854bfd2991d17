/-
  What came in gives to the walks: a slice's numbers, a small number.
-/
import Derived.Test.YtgcmompldcnhlaaDoorRows
import Derived.Test.YtgcmompldcnhlaaDoorTRow
import Derived.OpenShut
namespace Go.Proofs.YtgcmompldcnhlaaDoor
open Go.RowKit
/- a slice of integers that came in: nil, or a row of so many cells, each fitting its kind -/
def RowOf (k : IntKind) (w : World) (a : Option Addr) (len cap : Nat) (zs : List Int) : Prop :=
  (a = none ∧ len = 0 ∧ cap = 0 ∧ zs = []) ∨
  ∃ x, a = some x ∧ len ≤ cap ∧ cap ≤ maxLen ∧ zs.length = cap ∧ (∀ i, i < zs.length → w.cell? (x.add i) = some (.int k (zs.getD i 0))) ∧ ∀ n ∈ zs, (Lit.int k n).wf = true
theorem u8_nat {n : Int} (h : (Lit.int .u8 n).wf = true) : ∃ v : Nat, n = (v : Int) ∧ v ≤ 255 := by
  have := bounds_u8 h; exact ⟨n.toNat, by omega, by omega⟩
theorem bytesOf22 : Tryd.prog.bytesOf 22 = 8 := by kernel_rfl
theorem RowOf.u64s {w : World} {a : Option Addr} {len cap : Nat} {zs : List Int} (h : RowOf .u64 w a len cap zs) : ∃ us, U64s w a len cap us := by
  rcases h with ⟨rfl, rfl, rfl, rfl⟩ | ⟨x, rfl, h1, h2, h3, h4, h5⟩
  · exact ⟨[], rfl, Nat.le_refl _, by decide, fun _ => rfl, (fun ad e => by cases e), fun j => by simp⟩
  · have hlen : ((zs.take len).map Int.toNat).length = len := by simp; omega
    have hget : ∀ j, j < len → ∃ z, zs[j]? = some z ∧ zs.getD j 0 = z ∧ ((zs.take len).map Int.toNat).getD j 0 = z.toNat ∧ 0 ≤ z ∧ z ≤ 18446744073709551615 := by
      intro j hj
      have hjz : j < zs.length := by omega
      have e2 := bounds_u64 (h5 zs[j] (List.getElem_mem hjz))
      refine ⟨zs[j], List.getElem?_eq_getElem hjz, ?_, ?_, e2.1, e2.2⟩
      · rw [List.getD_eq_getElem?_getD, List.getElem?_eq_getElem hjz]; rfl
      · rw [List.getD_eq_getElem?_getD, List.getElem?_map, List.getElem?_take, if_pos hj, List.getElem?_eq_getElem hjz]; rfl
    refine ⟨(zs.take len).map Int.toNat, hlen.symm, h1, h2, (fun e => by cases e), fun ad e j hj => ?_, fun j => ?_⟩
    · obtain rfl := Option.some.inj e
      rw [hlen] at hj
      obtain ⟨z, _, e1, e2, e3, _⟩ := hget j hj
      rw [h4 j (by omega), e1, e2]
      congr 2; omega
    · by_cases hj : j < len
      · obtain ⟨z, _, e1, e2, e3, e4⟩ := hget j hj
        rw [e2]; omega
      · rw [List.getD_eq_getElem?_getD, List.getElem?_eq_none (by rw [hlen]; omega)]; simp
end Go.Proofs.YtgcmompldcnhlaaDoor
