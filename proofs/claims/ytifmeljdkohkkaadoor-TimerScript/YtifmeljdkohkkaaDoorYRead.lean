/-
  What came in gives to the walks: a slice's numbers; bytes.
-/
import Derived.Test.YtifmeljdkohkkaaDoorYOn
import Derived.OpenShut
namespace Go.Proofs.YtifmeljdkohkkaaDoor
open Go.RowKit
/- a slice of integers that came in: nil, or a row of so many cells, each fitting its kind -/
def RowOf (k : IntKind) (w : World) (a : Option Addr) (len cap : Nat) (zs : List Int) : Prop :=
  (a = none ∧ len = 0 ∧ cap = 0 ∧ zs = []) ∨
  ∃ x, a = some x ∧ len ≤ cap ∧ cap ≤ maxLen ∧ zs.length = cap ∧ (∀ i, i < zs.length → w.cell? (x.add i) = some (.int k (zs.getD i 0))) ∧ ∀ n ∈ zs, (Lit.int k n).wf = true
theorem bytesOf3 : Tryd.prog.bytesOf 3 = 8 := by kernel_rfl
theorem RowOf.nums {w : World} {a : Option Addr} {len cap : Nat} {zs : List Int} (h : RowOf .i64 w a len cap zs) : Nums w a len cap (zs.take len) := by
  rcases h with ⟨rfl, rfl, rfl, rfl⟩ | ⟨x, rfl, h1, h2, h3, h4, _⟩
  · exact nums_nil w
  · refine ⟨by rw [cellsI_len, List.length_take]; omega, h1, h2, (fun e => by cases e), fun ad e j u hu => ?_⟩
    obtain rfl := Option.some.inj e
    unfold cellsI at hu
    rw [List.map_take, List.getElem?_take] at hu
    split at hu
    · rename_i hj
      have := cellsI_get zs j (by omega)
      unfold cellsI at this
      rw [this] at hu
      rw [h4 j (by omega)]; exact hu
    · cases hu
theorem bytesOf5 : Tryd.prog.bytesOf 5 = 1 := by kernel_rfl
/- a slice of bytes -/
def Oct (w : World) (ao : Option Addr) (n cap : Nat) (zs : List Int) : Prop := n ≤ cap ∧ cap ≤ maxLen ∧ (ao = none → n = 0) ∧ ∀ ad, ao = some ad → ∀ j, j < n → w.cell? (ad.add j) = some (.int .u8 (zs.getD j 0)) ∧ 0 ≤ zs.getD j 0 ∧ zs.getD j 0 ≤ 255
theorem RowOf.oct {w : World} {a : Option Addr} {len cap : Nat} {zs : List Int} (h : RowOf .u8 w a len cap zs) : Oct w a len cap zs := by
  rcases h with ⟨rfl, rfl, rfl, rfl⟩ | ⟨x, rfl, h1, h2, h3, h4, h5⟩
  · exact ⟨Nat.le_refl _, Nat.zero_le _, fun _ => rfl, fun _ e => by cases e⟩
  · refine ⟨h1, h2, (fun e => by cases e), fun ad e j hj => ?_⟩
    obtain rfl := Option.some.inj e
    refine ⟨h4 j (by omega), ?_⟩
    have hm : zs.getD j 0 ∈ zs := by
      rw [List.getD_eq_getElem?_getD, List.getElem?_eq_getElem (by omega)]; exact List.getElem_mem _
    have := bounds_u8 (h5 _ hm)
    exact ⟨by omega, by omega⟩
theorem Oct.carry {w w' : World} {ao : Option Addr} {n cap : Nat} {zs : List Int} (h : Oct w ao n cap zs) {B : Nat} (b : Below B w w') (hB : w.heap.size ≤ B) : Oct w' ao n cap zs :=
  ⟨h.1, h.2.1, h.2.2.1, fun ad e j hj => by
    obtain ⟨h1, h2⟩ := h.2.2.2 ad e j hj
    exact ⟨by rw [b.cell (Nat.lt_of_lt_of_le (lt_of_cell h1) hB), h1], h2⟩⟩
theorem Oct.there {w : World} {ao : Option Addr} {n cap : Nat} {zs : List Int} (h : Oct w ao n cap zs) {k : Nat} (hk : k < n) : ∃ ad, ao = some ad := by
  cases ao with
  | none => have := h.2.2.1 rfl; omega
  | some ad => exact ⟨ad, rfl⟩
end Go.Proofs.YtifmeljdkohkkaaDoor
