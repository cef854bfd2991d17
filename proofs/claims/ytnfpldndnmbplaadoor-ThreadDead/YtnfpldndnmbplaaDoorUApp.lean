/-
  An own row of numbers: one is appended; what stays of it, and of a table beside it.
-/
import Derived.Test.YtnfpldndnmbplaaDoorUStart
namespace Go.Proofs.YtnfpldndnmbplaaDoor
open Go.RowKit
variable {g : Nat} {T : List Th} {R : List Int} {ro : Option Addr} {rc : Nat} {w w' : World}
theorem grown_foot {row : Option Nat} (h : w.grownBy w' row) : Foot (fun k => row = some k) w w' := ⟨h.os, h.tape, h.output, h.size, fun k hk hn => h.block k hk fun e => hn e.symm⟩
theorem owns_foot {S : Nat → Prop} {B : Nat} {e : TypeId} {sz n : Nat} {v : Value} {xs : List Value} (h : w.ownsRow B e sz v n xs) (f : Foot S w w') (hS : ∀ k, v.ownBlock = some k → ¬ S k) : w'.ownsRow B e sz v n xs := by
  refine ⟨h.1, ?_⟩
  rcases h.2 with h0 | ⟨k, cap, cur, h1, h2, h3, h4⟩
  · exact .inl h0
  · exact .inr ⟨k, cap, cur, h1, h2, (f.block k (lt_of_heap h3) (hS k (by rw [h1]; rfl))).trans h3, h4⟩
/- an own row's block has its type -/
theorem owns_type {B : Nat} {e : TypeId} {sz n : Nat} {v : Value} {xs : List Value} (h : w.ownsRow B e sz v n xs) {k : Nat} (hk : v.ownBlock = some k) : ∃ cur, w.heap[k]? = some (.cells cur e (0, 0)) := by
  rcases h.2 with ⟨h0, _⟩ | ⟨j, cap, cur, h1, h2, h3, h4⟩
  · rw [h0] at hk; cases hk
  · rw [h1] at hk
    have : j = k := by simpa [Value.ownBlock] using hk
    subst this
    exact ⟨cur, h3⟩
theorem two_types {x y : Nat} {c d : Array Value} {t u : TypeId} {e f : Nat × Nat} (h1 : w.heap[x]? = some (.cells c t e)) (h2 : w.heap[y]? = some (.cells d u f)) (h : t ≠ u) : x ≠ y := by
  intro e; subst e; rw [h1] at h2; cases h2; exact h rfl
theorem Tb.off {B : Nat} {sz n : Nat} {v : Value} {xs : List Value} {t : TypeId} (x : Tb w g T R ro rc) (h : w.ownsRow B t sz v n xs) (ht : t ≠ 32) : v.ownBlock ≠ some g := fun e => by
  obtain ⟨cur, h1⟩ := owns_type h e
  obtain ⟨C, h2, _⟩ := x.box
  exact two_types h1 h2 ht rfl
/- what was appended to lies where it lay, or in new memory -/
def Moved (w : World) (v v' : Value) : Prop := ∀ k, v'.ownBlock = some k → v.ownBlock = some k ∨ w.heap.size ≤ k
def OffV (n : Nat) (ro : Option Addr) (v : Value) : Prop := 0 < n → ∀ ad, ro = some ad → v.ownBlock ≠ some ad.block
theorem Nums.lt {ao : Option Addr} {n cap : Nat} {L : List Int} (h : Nums w ao n cap L) (hn : 0 < n) (ad : Addr) (e : ao = some ad) : ad.block < w.heap.size := by
  subst e
  have := lt_of_cell (h.elem 0 hn)
  rw [add_block] at this; exact this
theorem OffV.moved {v v' : Value} (h : OffV R.length ro v) (x : Tb w g T R ro rc) (m : Moved w v v') : OffV R.length ro v' := fun hn ad e he => by
  rcases m _ he with m | m
  · exact h hn ad e m
  · have := x.row.lt hn ad e; omega
/- the table's queue is as it was, or lies in new memory -/
theorem OffV.queue {v : Value} {n n' : Nat} {ao : Option Addr} (h : OffV n ro v) (ha : ao = ro ∧ n' = n ∨ New w ao) (hv : ∀ k, v.ownBlock = some k → k < w.heap.size) : OffV n' ao v := fun h0 ad e he => by
  have hk := hv _ he
  rcases ha with ⟨rfl, rfl⟩ | ha
  · exact h h0 ad e he
  · have := ha ad e; omega
theorem app_one {ty : TypeId} {B n : Nat} {v : Value} {L : List Int} (x : Int) (h : w.ownsRow B 3 1 v n (cellsI L)) (hn : n ≤ 17592186044400) (hB : B ≤ w.heap.size) :
    ∃ v' w', (Builtin.append_ #[29, 29] ty #[v, .slice (some ⟨w.heap.size, 0, none⟩) 1 1]).run Tryd.prog (w.alloc (.cells #[.int .i64 x] 3)) = .ok v' w' ∧ w'.ownsRow B 3 1 v' (n + 1) (cellsI (L ++ [x])) ∧ Foot (fun k => v.ownBlock = some k) w w' ∧ Moved w v v' := by
  obtain ⟨i0, hi0, hz0, hz1, hz2⟩ := info_parts Tryd.infoN
  obtain ⟨v', w', hr, ho, hg, _, hm⟩ := run_append_own_at (P := Tryd.prog) (w.alloc (.cells #[.int .i64 x] 3)) B 29 ty 3 i0 _ 1 8 Tryd.underlying29 hi0 hz0 hz1 hz2 rfl (by omega) v n _ (h.alloc _) ⟨w.heap.size, 0, none⟩ 1 1 (cellsI [x]) rfl (fun j u hu => World.news_of_block (heap_alloc_new w _) j u hu) (cellsI_one [x]) (by unfold maxLen; omega) (by omega) (Nat.le_trans hB (below_alloc w _).size)
  refine ⟨v', w', hr, by rw [cellsI_append]; exact ho, (foot_alloc _ w _).then (grown_foot hg), fun k e => ?_⟩
  rcases hm with hm | hm
  · exact .inl (by rw [← hm]; exact e)
  · rw [hm] at e; cases e; exact .inr (below_alloc w _).size
/- the same, in a region that draws its order -/
theorem app_one_d {ty : TypeId} {B n : Nat} {v : Value} {L : List Int} (x : Int) (h : w.ownsRow B 3 1 v n (cellsI L)) (hn : n ≤ 17592186044400) (hB : B ≤ w.heap.size) :
    ∃ v' w', (Builtin.append_ #[29, 29] ty #[v, .slice (some ⟨w.heap.size, 0, none⟩) 1 1]).run Tryd.prog (w.alloc (.cells #[.int .i64 x] 3)).drew = .ok v' w' ∧ w'.ownsRow B 3 1 v' (n + 1) (cellsI (L ++ [x])) ∧ Foot (fun k => v.ownBlock = some k) w w' ∧ Moved w v v' := by
  obtain ⟨i0, hi0, hz0, hz1, hz2⟩ := info_parts Tryd.infoN
  obtain ⟨v', w', hr, ho, hg, _, hm⟩ := run_append_own_at (P := Tryd.prog) (w.alloc (.cells #[.int .i64 x] 3)).drew B 29 ty 3 i0 _ 1 8 Tryd.underlying29 hi0 hz0 hz1 hz2 rfl (by omega) v n _ (h.alloc _) ⟨w.heap.size, 0, none⟩ 1 1 (cellsI [x]) rfl (fun j u hu => World.news_of_block (heap_alloc_new w _) j u hu) (cellsI_one [x]) (by unfold maxLen; omega) (by omega) (Nat.le_trans hB (below_alloc w _).size)
  refine ⟨v', w', hr, by rw [cellsI_append]; exact ho, ((foot_alloc _ w _).drewN 1).then (grown_foot hg), fun k e => ?_⟩
  rcases hm with hm | hm
  · exact .inl (by rw [← hm]; exact e)
  · rw [hm] at e; cases e; exact .inr (below_alloc w _).size
end Go.Proofs.YtnfpldndnmbplaaDoor
