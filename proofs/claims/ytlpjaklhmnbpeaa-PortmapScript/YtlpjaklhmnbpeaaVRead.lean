/-
  What came in gives to the walks: a slice's numbers; bytes.
-/
import Derived.Test.YtlpjaklhmnbpeaaVAwake
import Derived.OpenShut
namespace Go.Proofs.Ytlpjaklhmnbpeaa
open Go.RowKit
/- a slice of integers that came in: nil, or a row of so many cells, each fitting its kind -/
def RowOf (k : IntKind) (w : World) (a : Option Addr) (len cap : Nat) (zs : List Int) : Prop :=
  (a = none ∧ len = 0 ∧ cap = 0 ∧ zs = []) ∨
  ∃ x, a = some x ∧ len ≤ cap ∧ cap ≤ maxLen ∧ zs.length = cap ∧ (∀ i, i < zs.length → w.cell? (x.add i) = some (.int k (zs.getD i 0))) ∧ ∀ n ∈ zs, (Lit.int k n).wf = true
theorem bytesOf3 : Try.prog.bytesOf 3 = 8 := by kernel_rfl
theorem bytesOf5 : Try.prog.bytesOf 5 = 1 := by kernel_rfl
/- a slice's numbers, of the kind k -/
def Its (k : IntKind) (w : World) (ao : Option Addr) (n cap : Nat) (zs : List Int) : Prop := n ≤ cap ∧ cap ≤ maxLen ∧ (ao = none → n = 0) ∧ ∀ ad, ao = some ad → ∀ j, j < n → w.cell? (ad.add j) = some (.int k (zs.getD j 0)) ∧ (Lit.int k (zs.getD j 0)).wf = true
theorem RowOf.its {k : IntKind} {w : World} {a : Option Addr} {len cap : Nat} {zs : List Int} (h : RowOf k w a len cap zs) : Its k w a len cap zs := by
  rcases h with ⟨rfl, rfl, rfl, rfl⟩ | ⟨x, rfl, h1, h2, h3, h4, h5⟩
  · exact ⟨Nat.le_refl _, Nat.zero_le _, fun _ => rfl, fun _ e => by cases e⟩
  · refine ⟨h1, h2, (fun e => by cases e), fun ad e j hj => ?_⟩
    obtain rfl := Option.some.inj e
    refine ⟨h4 j (by omega), h5 _ ?_⟩
    rw [List.getD_eq_getElem?_getD, List.getElem?_eq_getElem (by omega)]; exact List.getElem_mem _
theorem Its.carry {k : IntKind} {w w' : World} {ao : Option Addr} {n cap : Nat} {zs : List Int} (h : Its k w ao n cap zs) {B : Nat} (b : Below B w w') (hB : w.heap.size ≤ B) : Its k w' ao n cap zs :=
  ⟨h.1, h.2.1, h.2.2.1, fun ad e j hj => by
    obtain ⟨h1, h2⟩ := h.2.2.2 ad e j hj
    exact ⟨by rw [b.cell (Nat.lt_of_lt_of_le (lt_of_cell h1) hB), h1], h2⟩⟩
theorem Its.there {k : IntKind} {w : World} {ao : Option Addr} {n cap : Nat} {zs : List Int} (h : Its k w ao n cap zs) {i : Nat} (hk : i < n) : ∃ ad, ao = some ad := by
  cases ao with
  | none => have := h.2.2.1 rfl; omega
  | some ad => exact ⟨ad, rfl⟩
theorem u64_nat {n : Int} (h : (Lit.int .u64 n).wf = true) : ∃ v : Nat, n = (v : Int) ∧ v ≤ 18446744073709551615 := by
  have := bounds_u64 h; exact ⟨n.toNat, by omega, by omega⟩
end Go.Proofs.Ytlpjaklhmnbpeaa
