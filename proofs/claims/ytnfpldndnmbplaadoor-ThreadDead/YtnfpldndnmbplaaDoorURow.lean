/-
  A table of threads in memory; what stays of it when other memory turns.
-/
import Derived.Test.YtnfpldndnmbplaaDoorUMath
import Derived.Test.YtnfpldndnmbplaaDoorQAwake
import Derived.Deep.MidRow
namespace Go.Proofs.YtnfpldndnmbplaaDoor
open Go.RowKit
/- the cells of a table: three a thread, and the queue -/
structure TabC (C : Array Value) (T : List Th) (v : Value) : Prop where
  size : C.size = 193
  p : ∀ j, j < 64 → C[j * 3]? = some (.int .i64 (thd T j).p)
  s : ∀ j, j < 64 → C[j * 3 + 1]? = some (.int .i64 (thd T j).s)
  u : ∀ j, j < 64 → C[j * 3 + 2]? = some (.int .i64 (thd T j).u)
  q : C[192]? = some v
structure Tb (w : World) (g : Nat) (T : List Th) (R : List Int) (ro : Option Addr) (rc : Nat) : Prop where
  box : ∃ C, w.heap[g]? = some (.cells C 32 (0, 0)) ∧ TabC C T (.slice ro R.length rc)
  row : Nums w ro R.length rc R
  far : ∀ ad, ro = some ad → ad.block ≠ g
variable {w w' : World} {g : Nat} {T : List Th} {R : List Int} {ro : Option Addr} {rc : Nat}
theorem Nums.foot {S : Nat → Prop} {ao : Option Addr} {n cap : Nat} {L : List Int} (h : Nums w ao n cap L) (f : Foot S w w') (hS : 0 < n → ∀ ad, ao = some ad → ¬ S ad.block) : Nums w' ao n cap L :=
  ⟨h.1, h.2.1, h.2.2.1, h.2.2.2.1, fun ad e j u hu => by
    have := h.2.2.2.2 ad e j u hu
    have hn : 0 < n := by
      have h1 := h.1
      have h2 := (List.getElem?_eq_some_iff.1 hu).1
      omega
    rw [f.cell (ad.add j) (lt_of_cell this) (by rw [add_block]; exact hS hn ad e), this]⟩
theorem Tb.lt (x : Tb w g T R ro rc) : g < w.heap.size := by obtain ⟨C, h, _⟩ := x.box; exact lt_of_heap h
theorem Tb.c0 (x : Tb w g T R ro rc) (k : Nat) (hk : k < 64) : w.cell? ⟨g, k * 3, none⟩ = some (.int .i64 (thd T k).p) := by
  obtain ⟨C, h, c⟩ := x.box; rw [cell_of_row w g _ _ _ _ h]; exact c.p k hk
theorem Tb.c1 (x : Tb w g T R ro rc) (k : Nat) (hk : k < 64) : w.cell? ⟨g, k * 3 + 1, none⟩ = some (.int .i64 (thd T k).s) := by
  obtain ⟨C, h, c⟩ := x.box; rw [cell_of_row w g _ _ _ _ h]; exact c.s k hk
theorem Tb.c2 (x : Tb w g T R ro rc) (k : Nat) (hk : k < 64) : w.cell? ⟨g, k * 3 + 2, none⟩ = some (.int .i64 (thd T k).u) := by
  obtain ⟨C, h, c⟩ := x.box; rw [cell_of_row w g _ _ _ _ h]; exact c.u k hk
theorem Tb.cq (x : Tb w g T R ro rc) : w.cell? ⟨g, 192, none⟩ = some (.slice ro R.length rc) := by
  obtain ⟨C, h, c⟩ := x.box; rw [cell_of_row w g _ _ _ _ h]; exact c.q
theorem Tb.z (x : Tb w g T R ro rc) (j : Nat) : w.frozen? ⟨g, j, none⟩ = false := by
  obtain ⟨C, h, c⟩ := x.box; exact frozen_of_row w g j _ _ h
theorem Tb.foot {S : Nat → Prop} (x : Tb w g T R ro rc) (f : Foot S w w') (hg : ¬ S g) (hr : 0 < R.length → ∀ ad, ro = some ad → ¬ S ad.block) : Tb w' g T R ro rc := by
  obtain ⟨C, h, c⟩ := x.box
  exact ⟨⟨C, (f.block g (lt_of_heap h) hg).trans h, c⟩, x.row.foot f hr, x.far⟩
theorem Tb.grow (x : Tb w g T R ro rc) (b : Below w.heap.size w w') : Tb w' g T R ro rc := x.foot (below_foot (fun _ => False) b) id (fun _ _ _ => id)
theorem Tb.drewN (x : Tb w g T R ro rc) (q : Nat) : Tb (w.drewN q) g T R ro rc := x.grow (below_d w q)
theorem set_get (C : Array Value) (i j : Nat) (v : Value) (hi : i < C.size) : (C.setIfInBounds i v)[j]? = if j = i then some v else C[j]? := by
  rw [Array.getElem?_setIfInBounds]
  by_cases e : i = j
  · subst e; simp [hi]
  · rw [if_neg e, if_neg (fun x => e x.symm)]
/- a thread's three cells are laid anew -/
theorem TabC.put {C : Array Value} {v : Value} (c : TabC C T v) (T' : List Th) (k : Nat) (hk : k < 64) (hT : ∀ j, j ≠ k → thd T' j = thd T j) :
    TabC (((C.setIfInBounds (k * 3) (.int .i64 (thd T' k).p)).setIfInBounds (k * 3 + 1) (.int .i64 (thd T' k).s)).setIfInBounds (k * 3 + 2) (.int .i64 (thd T' k).u)) T' v := by
  have hs := c.size
  have get : ∀ j, (((C.setIfInBounds (k * 3) (.int .i64 (thd T' k).p)).setIfInBounds (k * 3 + 1) (.int .i64 (thd T' k).s)).setIfInBounds (k * 3 + 2) (.int .i64 (thd T' k).u))[j]? = if j = k * 3 + 2 then some (.int .i64 (thd T' k).u) else if j = k * 3 + 1 then some (.int .i64 (thd T' k).s) else if j = k * 3 then some (.int .i64 (thd T' k).p) else C[j]? := fun j => by
    rw [set_get _ _ _ _ (by simp; omega), set_get _ _ _ _ (by simp; omega), set_get _ _ _ _ (by omega)]
  refine ⟨by simp [hs], fun j hj => ?_, fun j hj => ?_, fun j hj => ?_, ?_⟩
  · rw [get]
    by_cases e : j = k
    · subst e; rw [if_neg (by omega), if_neg (by omega), if_pos rfl]
    · rw [if_neg (by omega), if_neg (by omega), if_neg (by omega), c.p j hj, hT j e]
  · rw [get]
    by_cases e : j = k
    · subst e; rw [if_neg (by omega), if_pos rfl]
    · rw [if_neg (by omega), if_neg (by omega), if_neg (by omega), c.s j hj, hT j e]
  · rw [get]
    by_cases e : j = k
    · subst e; rw [if_pos rfl]
    · rw [if_neg (by omega), if_neg (by omega), if_neg (by omega), c.u j hj, hT j e]
  · rw [get, if_neg (by omega), if_neg (by omega), if_neg (by omega)]; exact c.q
/- two of the three -/
theorem TabC.two {C : Array Value} {v : Value} (c : TabC C T v) (k : Nat) (hk : k < T.length) (hl : T.length ≤ 64) (s u : Int) :
    TabC ((C.setIfInBounds (k * 3 + 1) (.int .i64 s)).setIfInBounds (k * 3 + 2) (.int .i64 u)) (setT T k s u) v := by
  have hs := c.size
  have h := c.put (setT T k s u) k (by omega) (fun j hj => thd_other T k j s u hj)
  rw [thd_same T k s u hk] at h
  have e : C.setIfInBounds (k * 3) (.int .i64 (thd T k).p) = C := by
    apply Array.ext_getElem?
    intro j
    rw [set_get _ _ _ _ (by omega)]
    by_cases e : j = k * 3
    · rw [if_pos e, e, c.p k (by omega)]
    · rw [if_neg e]
  simp only [e] at h
  exact h
theorem Tb.two (x : Tb w g T R ro rc) (k : Nat) (hk : k < T.length) (hl : T.length ≤ 64) (s u : Int) : ∃ X Y, w.setCell ⟨g, k * 3 + 1, none⟩ (.int .i64 s) = X ∧ X.setCell ⟨g, k * 3 + 2, none⟩ (.int .i64 u) = Y ∧
    X.cell? ⟨g, k * 3 + 2, none⟩ = some (.int .i64 (thd T k).u) ∧ X.frozen? ⟨g, k * 3 + 2, none⟩ = false ∧ Tb Y g (setT T k s u) R ro rc ∧ Foot (fun j => j = g) w Y := by
  obtain ⟨C, h, c⟩ := x.box
  have f := (foot_set w ⟨g, k * 3 + 1, none⟩ (.int .i64 s)).then (foot_set (w.setCell ⟨g, k * 3 + 1, none⟩ (.int .i64 s)) ⟨g, k * 3 + 2, none⟩ (.int .i64 u))
  have h1 := heap_setCell_same w g (k * 3 + 1) _ _ (.int .i64 s) h
  have h2 := heap_setCell_same _ g (k * 3 + 2) _ _ (.int .i64 u) h1
  refine ⟨_, _, rfl, rfl, ?_, frozen_of_row _ g _ _ _ h1, ⟨⟨_, h2, c.two k hk hl s u⟩, x.row.foot f (fun _ ad e => x.far ad e), x.far⟩, f⟩
  rw [cell_of_row _ g _ _ _ _ h1, set_get _ _ _ _ (by have := c.size; omega), if_neg (by omega)]
  exact c.u k (by omega)
/- the queue is laid anew -/
theorem TabC.queue {C : Array Value} {v : Value} (c : TabC C T v) (v' : Value) : TabC (C.setIfInBounds 192 v') T v' := by
  have hs := c.size
  refine ⟨by simp [hs], fun j hj => ?_, fun j hj => ?_, fun j hj => ?_, ?_⟩
  · rw [set_get _ _ _ _ (by omega), if_neg (by omega)]; exact c.p j hj
  · rw [set_get _ _ _ _ (by omega), if_neg (by omega)]; exact c.s j hj
  · rw [set_get _ _ _ _ (by omega), if_neg (by omega)]; exact c.u j hj
  · rw [set_get _ _ _ _ (by omega), if_pos rfl]
theorem Tb.queue (x : Tb w g T R ro rc) {ao : Option Addr} {n c : Nat} {L : List Int} (hA : Nums w ao n c L) (hf : ∀ ad, ao = some ad → ad.block ≠ g) : Tb (w.setCell ⟨g, 192, none⟩ (.slice ao n c)) g T L ao c := by
  obtain ⟨C, h, k⟩ := x.box
  have hl := hA.len
  subst hl
  exact ⟨⟨_, heap_setCell_same w g 192 _ _ _ h, k.queue _⟩, hA.foot (foot_set w ⟨g, 192, none⟩ _) (fun _ ad e => hf ad e), hf⟩
/- a new table -/
def tabZ : Array Value := (List.replicate 192 (Value.int .i64 0) ++ [Value.slice none 0 0]).toArray
theorem Tryd.zeroTab (w : World) : (zeroValue 32).run Tryd.prog w = .ok (.agg tabZ) w := by kernel_rfl
theorem zero_get (j : Nat) (hj : j < 192) : tabZ[j]? = some (.int .i64 0) := by
  unfold tabZ
  rw [List.getElem?_toArray, List.getElem?_append_left (by rw [List.length_replicate]; exact hj), List.getElem?_replicate, if_pos hj]
theorem zero_tab : TabC tabZ [] (.slice none 0 0) := by
  have hz : ∀ j, thd [] j = Th.zero := fun j => by unfold thd; simp
  refine ⟨by unfold tabZ; rw [List.size_toArray, List.length_append, List.length_replicate]; rfl, fun j hj => ?_, fun j hj => ?_, fun j hj => ?_, ?_⟩
  · rw [hz, zero_get _ (by omega)]; rfl
  · rw [hz, zero_get _ (by omega)]; rfl
  · rw [hz, zero_get _ (by omega)]; rfl
  · unfold tabZ
    rw [List.getElem?_toArray, List.getElem?_append_right (by rw [List.length_replicate]; omega), List.length_replicate]; rfl
theorem tab_new (w : World) : Tb (w.alloc (.cells tabZ 32)) w.heap.size [] [] none 0 :=
  ⟨⟨_, heap_alloc_new _ _, zero_tab⟩, nums_nil _, fun _ e => by cases e⟩
/- all threads of a table, by value -/
theorem ext3 (A : Array Value) (o : Nat) (a b c : Value) (h0 : A[o]? = some a) (h1 : A[o + 1]? = some b) (h2 : A[o + 2]? = some c) : A.extract o (o + 3) = #[a, b, c] := by
  apply Array.ext_getElem?
  intro i
  have hs : o + 2 < A.size := (Array.getElem?_eq_some_iff.1 h2).1
  rw [Array.getElem?_extract]
  rcases i with _ | _ | _ | i
  · rw [if_pos (by omega)]; simpa using h0
  · rw [if_pos (by omega)]; simpa using h1
  · rw [if_pos (by omega)]; simpa using h2
  · rw [if_neg (by omega)]; simp
theorem Tryd.infoTh : (Tryd.prog.info? 27).map (fun i => (i.zero, i.size, i.bytes)) = some (some (.agg #[.int .i64 0, .int .i64 0, .int .i64 0]), 3, 24) := by kernel_rfl
theorem Tryd.infoThs : (Tryd.prog.info? 28).map (·.size) = some 192 := by kernel_rfl
theorem Tryd.aggTh (w : World) : (isAgg 27).run Tryd.prog w = .ok true w := by kernel_rfl
theorem Tryd.sizeTh (w : World) : (sizeOf 27).run Tryd.prog w = .ok 3 w := by kernel_rfl
def Arr (A : List Value) (T : List Th) : Prop := A.length = 192 ∧ ∀ (j : Nat) (W : World), j < 64 → (Instr.index 28 (.agg A.toArray) (.int .i64 (j : Int))).run Tryd.prog W = .ok (.agg #[.int .i64 (thd T j).p, .int .i64 (thd T j).s, .int .i64 (thd T j).u]) W
theorem Tb.arr (x : Tb w g T R ro rc) : ∃ A, w.rangeAt g 0 A ∧ Arr A T := by
  obtain ⟨C, h, c⟩ := x.box
  have hs := c.size
  refine ⟨_, World.rangeAt_of_block h 0 192, by simp; omega, fun j W hj => ?_⟩
  obtain ⟨A, hA⟩ : ∃ A, (C.extract 0 (0 + 192)).toList.toArray = A := ⟨_, rfl⟩
  have get : ∀ i, i < 192 → A[i]? = C[i]? := fun i hi => by rw [← hA, Array.toArray_toList, Array.getElem?_extract, if_pos (by omega), Nat.zero_add]
  rw [hA]
  have hx := ext3 A (j * 3) _ _ _ ((get _ (by omega)).trans (c.p j hj)) ((get _ (by omega)).trans (c.s j hj)) ((get _ (by omega)).trans (c.u j hj))
  have h1 : (0 : Int) ≤ (j : Int) ∧ (j : Int) < ((64 : Nat) : Int) := by omega
  simp only [Instr.index, asIntOf, Sem.run_bind, Sem.run_pure, Result.andThen_ok, run_underlying Tryd.underlying28]
  rw [if_pos h1]
  simp only [Sem.run_bind, Tryd.sizeTh, Result.andThen_ok, part, Tryd.aggTh, Int.toNat_natCast]
  simp [hx]
end Go.Proofs.YtnfpldndnmbplaaDoor
