/-
  A slice of truths that came in.
-/
import Derived.Test.YtibdhjohjkdgdaaDoorFRead
import Derived.Deep.Grids
namespace Go.Proofs.YtibdhjohjkdgdaaDoor
open Go.RowKit Go.Deep
def Bls (w : World) (ao : Option Addr) (n cap : Nat) (xs : List Bool) : Prop :=
  n = xs.length ∧ n ≤ cap ∧ cap ≤ maxLen ∧ (ao = none → cap = 0) ∧ ∀ ad, ao = some ad → ∀ j, j < n → w.cell? (ad.add j) = some (.bool (xs.getD j false))
theorem Bls.carry {w w' : World} {ao : Option Addr} {n cap : Nat} {xs : List Bool} (h : Bls w ao n cap xs) {B : Nat} (b : Below B w w') (hB : w.heap.size ≤ B) : Bls w' ao n cap xs :=
  ⟨h.1, h.2.1, h.2.2.1, h.2.2.2.1, fun ad e j hj => by
    have := h.2.2.2.2 ad e j hj
    rw [b.cell (Nat.lt_of_lt_of_le (lt_of_cell this) hB), this]⟩
theorem bytesB : Tryd.prog.bytesOf 4 = 1 := by kernel_rfl
theorem open_bls {H : Type} {enc : TypeId × Value → H} {w : World} {a : Option Addr} {len cap fuel : Nat} {x : DataW H × List MemPlace} (hf : DataW.trod enc Tryd.prog w 0 (fun _ => true) true fuel 52 [.slice a len cap] = some x) :
    ∃ xs, Bls w a len cap xs ∧ (x.1 = .nil ∧ cap = 0 ∨ ∃ els sp, x.1 = .slice els sp ∧ els.length + sp.length = cap) := by
  rcases open_bools Tryd.underlying52 Tryd.underlying4 (by kernel_rfl) hf with ⟨hcs, hx⟩ | ⟨ad, l, c, Q, hcs, _, hl, hm, hx, hel⟩
  · simp at hcs
    obtain ⟨rfl, rfl, rfl⟩ := hcs
    exact ⟨[], ⟨rfl, Nat.le_refl _, by decide, fun _ => rfl, (fun ad e => by cases e)⟩, .inl ⟨by rw [hx], rfl⟩⟩
  · simp at hcs
    obtain ⟨rfl, rfl, rfl⟩ := hcs
    refine ⟨(List.range len).map Q, ⟨by simp, hl, hm, (fun e => by cases e), fun ad' e j hj => ?_⟩, .inr ⟨_, _, by rw [hx]; rfl, by simp; omega⟩⟩
    obtain rfl := Option.some.inj e
    rw [hel j (by omega), List.getD_eq_getElem?_getD, List.getElem?_map, List.getElem?_range hj]; rfl
theorem Bls.there {w : World} {ao : Option Addr} {n cap : Nat} {xs : List Bool} (h : Bls w ao n cap xs) {k : Nat} (hk : k < n) : ∃ ad, ao = some ad := by
  cases ao with
  | none => have := h.2.2.2.1 rfl; have := h.2.1; omega
  | some ad => exact ⟨ad, rfl⟩
end Go.Proofs.YtibdhjohjkdgdaaDoor
