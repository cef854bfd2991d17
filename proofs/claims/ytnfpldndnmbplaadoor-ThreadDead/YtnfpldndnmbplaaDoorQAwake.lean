/-
  The statements' awake: the document's examples: it answers true. An append to nothing: a row of one's own.
-/
import Derived.Test.YtnfpldndnmbplaaDoorQTake
namespace Go.Proofs.YtnfpldndnmbplaaDoor
open Go.RowKit
theorem nums_alloc (w : World) (L : List Int) (T : TypeId) (C : Array Value) (n : Nat) (hC : C.toList = cellsI L) (hn : L.length = n) (h : n ≤ 1000) : Nums (w.alloc (.cells C T)) (some ⟨w.heap.size, 0, none⟩) n n L := by
  refine ⟨by rw [cellsI_len, hn]; omega, Nat.le_refl _, by unfold maxLen; omega, (fun e => by cases e), fun ad e j u hu => ?_⟩
  obtain rfl := Option.some.inj e
  exact World.news_of_block (heap_alloc_new w _) j u (by rw [hC]; exact hu)
theorem owns_below {w w' : World} {B : Nat} {e : TypeId} {sz n : Nat} {v : Value} {xs : List Value} (h : w.ownsRow B e sz v n xs) (b : Below w.heap.size w w') : w'.ownsRow B e sz v n xs := by
  refine ⟨h.1, ?_⟩
  rcases h.2 with h0 | ⟨g, cap, cur, h1, h2, h3, h4⟩
  · exact .inl h0
  · exact .inr ⟨g, cap, cur, h1, h2, (b.block g (lt_of_heap h3)).trans h3, h4⟩
theorem owns_lt {w : World} {B : Nat} {e : TypeId} {sz n : Nat} {v : Value} {xs : List Value} (h : w.ownsRow B e sz v n xs) {k : Nat} (hk : v.ownBlock = some k) : k < w.heap.size ∧ B ≤ k := by
  rcases h.2 with ⟨h0, _⟩ | ⟨g, cap, cur, h1, h2, h3, h4⟩
  · rw [h0] at hk; simp [Value.ownBlock] at hk
  · rw [h1] at hk
    have : g = k := by simpa [Value.ownBlock] using hk
    subst this
    exact ⟨lt_of_heap h3, h2⟩
theorem Nums.far {w w' : World} {row : Option Nat} {ao : Option Addr} {n cap : Nat} {L : List Int} (h : Nums w ao n cap L) (hg : w.grownBy w' row) (hne : ∀ ad, ao = some ad → some ad.block ≠ row) : Nums w' ao n cap L :=
  ⟨h.1, h.2.1, h.2.2.1, h.2.2.2.1, fun ad e j u hu => by
    have := h.2.2.2.2 ad e j u hu
    have hb : (ad.add j).block = ad.block := add_block ad j
    rw [hg.cell_far _ (lt_of_cell this) (by rw [hb]; exact hne ad e), this]⟩
/- append([]int(nil), q...) -/
def OwnEnd (w : World) (n : Nat) (L : List Int) (v : Value) (w' : World) : Prop := w'.ownsRow w.heap.size 3 1 v n (cellsI L) ∧ Below w.heap.size w w'
theorem app_new {t ty : TypeId} (ht : Tryd.prog.underlying t = some (.slice 3)) {n c : Nat} {w : World} {L : List Int} {ao : Option Addr} (hA : Nums w ao n c L) (hn : n ≤ 17592186044416) :
    ∃ v' w', (Builtin.append_ #[t, t] ty #[.slice none 0 0, .slice ao n c]).run Tryd.prog w = .ok v' w' ∧ OwnEnd w n L v' w' := by
  obtain ⟨v', w', hr, ho, hg⟩ := app_own (ty := ty) ht (L := []) (owns_nil w w.heap.size 3 1) hA (by omega) (Nat.le_refl _)
  rw [Nat.zero_add, List.nil_append] at ho
  exact ⟨v', w', hr, ho, below_grown (Below.refl _ _) (Nat.le_refl _) (owns_nil w w.heap.size 3 1) hg⟩
theorem OwnEnd.nums {w w' : World} {n : Nat} {L : List Int} {v : Value} (h : OwnEnd w n L v w') : ∃ ro rc, v = .slice ro n rc ∧ Nums w' ro n rc L ∧ New w ro := by
  obtain ⟨ro, rc, rfl, hl⟩ := owns_lies h.1
  exact ⟨ro, rc, rfl, hl, owns_new h.1⟩
end Go.Proofs.YtnfpldndnmbplaaDoor
