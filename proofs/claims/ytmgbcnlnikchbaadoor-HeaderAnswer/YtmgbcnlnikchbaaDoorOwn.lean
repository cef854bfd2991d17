/-
  What the statements' own Bytes answers, as a contract: the document's bytes, in new memory.
-/
import Derived.Test.YtmgbcnlnikchbaaDoorBytes
import Derived.Deep.RegionHeldLaw
import Derived.Deep.AppendLies
namespace Go.Proofs.YtmgbcnlnikchbaaDoor
open Go.RowKit
theorem Box.grown {w w' : World} {g p o r c : Nat} {row : Option Nat} (h : Box w g p o r c) (hg : w.grownBy w' row) (hne : some g ≠ row) : Box w' g p o r c := by
  obtain ⟨h0, h1, h2, h3⟩ := h
  exact ⟨by rw [hg.cell_far _ (lt_of_cell h0) hne, h0], by rw [hg.cell_far _ (lt_of_cell h1) hne, h1], by rw [hg.cell_far _ (lt_of_cell h2) hne, h2], by rw [hg.cell_far _ (lt_of_cell h3) hne, h3]⟩
/- what is owned stays owned where nothing that was there is turned -/
theorem owns_carry {w w' : World} {base : Nat} {e : TypeId} {size : Nat} {v : Value} {n : Nat} {xs : List Value} (h : w.ownsRow base e size v n xs) (b : Below w.heap.size w w') : w'.ownsRow base e size v n xs := by
  refine ⟨h.1, ?_⟩
  rcases h.2 with ⟨hv, hn⟩ | ⟨g, cap, cur, hv, hb, hg, h1, h2, h3, h4⟩
  · exact .inl ⟨hv, hn⟩
  · have hlt : g < w.heap.size := by
      by_cases hlt : g < w.heap.size
      · exact hlt
      · rw [Array.getElem?_eq_none (by omega)] at hg; cases hg
    exact .inr ⟨g, cap, cur, hv, hb, (b.block g hlt).trans hg, h1, h2, h3, h4⟩
theorem owns_lt {w : World} {base : Nat} {e : TypeId} {size : Nat} {v : Value} {n : Nat} {xs : List Value} (h : w.ownsRow base e size v n xs) : ∀ g, v.ownBlock = some g → base ≤ g ∧ g < w.heap.size := by
  intro g0 e
  rcases h.2 with ⟨rfl, hn⟩ | ⟨g, cap, cur, rfl, hb, hg, h1, h2, h3, h4⟩
  · cases e
  · have hlt : g < w.heap.size := by
      by_cases hlt : g < w.heap.size
      · exact hlt
      · rw [Array.getElem?_eq_none (by omega)] at hg; cases hg
    obtain rfl : g = g0 := Option.some.inj e
    exact ⟨hb, hlt⟩
theorem owns_news {w : World} {base g n cap : Nat} {l : List UInt8} (h : w.ownsRow base 5 1 (.slice (some ⟨g, 0, none⟩) n cap) n (cellsB l)) : ∀ j u, (cellsB l)[j]? = some u → w.cell? ((⟨g, 0, none⟩ : Addr).add j) = some u := (owns_at h).news _ rfl
end Go.Proofs.YtmgbcnlnikchbaaDoor
