/-
  A lock in memory; a row of numbers of one's own whose head may have been cut off; what stays of both when other memory turns.
-/
import Derived.Test.YtgbggdmpbbhkaaaDoorXMath
import Derived.Test.YtgbggdmpbbhkaaaDoorQRow
import Derived.ArgAppend
import Derived.Deep.AppendLies
namespace Go.Proofs.YtgbggdmpbbhkaaaDoor
open Go.RowKit
variable {w w' : World} {g : Nat} {L : List Int} {ro : Option Addr} {rc : Nat}
theorem Nums.foot {S : Nat → Prop} {ao : Option Addr} {n cap : Nat} {L : List Int} (h : Nums w ao n cap L) (f : Foot S w w') (hS : 0 < n → ∀ ad, ao = some ad → ¬ S ad.block) : Nums w' ao n cap L :=
  ⟨h.1, h.2.1, h.2.2.1, h.2.2.2.1, fun ad e j u hu => by
    have := h.2.2.2.2 ad e j u hu
    have hn : 0 < n := by
      have h1 := h.1
      have h2 := (List.getElem?_eq_some_iff.1 hu).1
      omega
    rw [f.cell (ad.add j) (lt_of_cell this) (by rw [add_block]; exact hS hn ad e), this]⟩
theorem Nums.lt {ao : Option Addr} {n cap : Nat} {L : List Int} (h : Nums w ao n cap L) (hn : 0 < n) (ad : Addr) (e : ao = some ad) : ad.block < w.heap.size := by
  subst e
  have := lt_of_cell (h.elem 0 hn)
  rw [add_block] at this; exact this
structure Mx (w : World) (g : Nat) (L : List Int) (ro : Option Addr) (rc : Nat) : Prop where
  box : w.heap[g]? = some (.cells #[.slice ro L.length rc] 27 (0, 0))
  row : Nums w ro L.length rc L
  far : ∀ ad, ro = some ad → ad.block ≠ g
theorem Mx.lt (x : Mx w g L ro rc) : g < w.heap.size := lt_of_heap x.box
theorem Mx.c0 (x : Mx w g L ro rc) : w.cell? ⟨g, 0, none⟩ = some (.slice ro L.length rc) := by rw [cell_of_row w g _ _ _ _ x.box]; rfl
theorem Mx.z (x : Mx w g L ro rc) : w.frozen? ⟨g, 0, none⟩ = false := frozen_of_row w g 0 _ _ x.box
theorem Mx.foot {S : Nat → Prop} (x : Mx w g L ro rc) (f : Foot S w w') (hg : ¬ S g) (hr : 0 < L.length → ∀ ad, ro = some ad → ¬ S ad.block) : Mx w' g L ro rc :=
  ⟨(f.block g x.lt hg).trans x.box, x.row.foot f hr, x.far⟩
theorem Mx.grow (x : Mx w g L ro rc) (b : Below w.heap.size w w') : Mx w' g L ro rc := x.foot (below_foot (fun _ => False) b) id (fun _ _ _ => id)
theorem Mx.drewN (x : Mx w g L ro rc) (q : Nat) : Mx (w.drewN q) g L ro rc := x.grow (below_d w q)
theorem Mx.put (x : Mx w g L ro rc) {ao : Option Addr} {n c : Nat} {M : List Int} (hA : Nums w ao n c M) (hf : ∀ ad, ao = some ad → ad.block ≠ g) : Mx (w.setCell ⟨g, 0, none⟩ (.slice ao n c)) g M ao c := by
  have hl := hA.len
  subst hl
  refine ⟨?_, hA.foot (foot_set w ⟨g, 0, none⟩ _) (fun _ ad e => hf ad e), hf⟩
  rw [heap_setCell_same w g 0 _ _ _ x.box]; rfl
theorem mx_new (w : World) : Mx (w.alloc (.cells #[.slice none 0 0] 27)) w.heap.size [] none 0 :=
  ⟨heap_alloc_new _ _, nums_nil _, fun _ e => by cases e⟩
/- the line is as it was, or lies in new memory -/
def MxEnd (w : World) (g : Nat) (L : List Int) (ro : Option Addr) (n : Nat) (w' : World) : Prop := ∃ ao c, Mx w' g L ao c ∧ Foot (fun j => j = g) w w' ∧ (ao = ro ∧ L.length = n ∨ New w ao)
theorem Mx.same (x : Mx w g L ro rc) (b : Below w.heap.size w w') : MxEnd w g L ro L.length w' := ⟨ro, rc, x.grow b, below_foot _ b, .inl ⟨rfl, rfl⟩⟩
theorem Mx.ended {w3 : World} (x : Mx w g L ro rc) {M : List Int} {n c : Nat} {ao : Option Addr} (hA : Nums w3 ao n c M) (b : Below w.heap.size w w3) (hn : New w ao) : MxEnd w g M ro L.length (w3.setCell ⟨g, 0, none⟩ (.slice ao n c)) := by
  have hf : ∀ ad, ao = some ad → ad.block ≠ g := fun ad e h => by have := hn ad e; have := x.lt; omega
  exact ⟨ao, c, (x.grow b).put hA hf, (below_foot _ b).then (foot_set w3 ⟨g, 0, none⟩ _), .inr hn⟩
theorem MxEnd.from {w0 : World} {M : List Int} {n : Nat} (h : MxEnd w g M ro n w') (b : Below w0.heap.size w0 w) : MxEnd w0 g M ro n w' := by
  obtain ⟨ao, c, x, f, k⟩ := h
  exact ⟨ao, c, x, (below_foot _ b).then f, k.imp id (fun n => n.le b.size)⟩
theorem MxEnd.to {w2 : World} {M : List Int} {n : Nat} (h : MxEnd w g M ro n w') (b : Below w'.heap.size w' w2) : MxEnd w g M ro n w2 := by
  obtain ⟨ao, c, x, f, k⟩ := h
  exact ⟨ao, c, x.grow b, f.then (below_foot _ b), k⟩
/- a lock of one's own: all that turns is new -/
def Lk (B : Nat) (w : World) (g : Nat) (L : List Int) : Prop := ∃ ro rc, Mx w g L ro rc ∧ B ≤ g
/- a row of one's own, its head cut off or not -/
structure Tl (w : World) (B : Nat) (ao : Option Addr) (n cap : Nat) (L : List Int) : Prop where
  row : Nums w ao n cap L
  own : ∀ ad, ao = some ad → ∃ cur, ad = ⟨ad.block, ad.off, none⟩ ∧ B ≤ ad.block ∧ w.heap[ad.block]? = some (.cells cur 3 (0, 0)) ∧ ad.off + cap ≤ cur.size
theorem tl_nil (w : World) (B : Nat) : Tl w B none 0 0 [] := ⟨nums_nil w, fun _ e => by cases e⟩
theorem tl_own {B n : Nat} {v : Value} (h : w.ownsRow B 3 1 v n (cellsI L)) : ∃ ao cap, v = .slice ao n cap ∧ Tl w B ao n cap L := by
  obtain ⟨ao, cap, rfl, hl⟩ := owns_lies h
  refine ⟨ao, cap, rfl, hl, fun ad e => ?_⟩
  rcases h.2 with ⟨h0, _⟩ | ⟨k, c, cur, h1, h2, h3, h4, h5, h6, _⟩
  · cases h0; cases e
  · cases h1; cases e
    exact ⟨cur, rfl, h2, h3, by simp; omega⟩
theorem Tl.foot {S : Nat → Prop} {B n cap : Nat} {ao : Option Addr} (h : Tl w B ao n cap L) (f : Foot S w w') (hS : ∀ ad, ao = some ad → ¬ S ad.block) : Tl w' B ao n cap L :=
  ⟨h.row.foot f (fun _ ad e => hS ad e), fun ad e => by
    obtain ⟨cur, h1, h2, h3, h4⟩ := h.own ad e
    exact ⟨cur, h1, h2, (f.block _ (lt_of_heap h3) (hS ad e)).trans h3, h4⟩⟩
theorem Tl.grow {B n cap : Nat} {ao : Option Addr} (h : Tl w B ao n cap L) (b : Below w.heap.size w w') : Tl w' B ao n cap L := h.foot (below_foot (fun _ => False) b) (fun _ _ => id)
theorem Tl.lt {B n cap : Nat} {ao : Option Addr} (h : Tl w B ao n cap L) (ad : Addr) (e : ao = some ad) : ad.block < w.heap.size ∧ B ≤ ad.block := by
  obtain ⟨cur, _, h2, h3, _⟩ := h.own ad e
  exact ⟨lt_of_heap h3, h2⟩
theorem Tl.base {B B' n cap : Nat} {ao : Option Addr} (h : Tl w B ao n cap L) (hB : B' ≤ B) : Tl w B' ao n cap L :=
  ⟨h.row, fun ad e => by
    obtain ⟨cur, h1, h2, h3, h4⟩ := h.own ad e
    exact ⟨cur, h1, Nat.le_trans hB h2, h3, h4⟩⟩
theorem Tl.cut {B n cap : Nat} {ao : Option Addr} (h : Tl w B ao n cap L) (k : Nat) (hk : k ≤ n) : Tl w B (tailA ao k cap) (n - k) (cap - k) (L.drop k) := by
  refine ⟨h.row.tail k hk, fun ad e => ?_⟩
  have hc := h.row.2.1
  unfold tailA at e
  split at e
  · obtain ⟨cur, h1, h2, h3, h4⟩ := h.own ad e
    exact ⟨cur, h1, h2, h3, by omega⟩
  · obtain ⟨a0, rfl, rfl⟩ := Option.map_eq_some_iff.1 e
    obtain ⟨cur, h1, h2, h3, h4⟩ := h.own a0 rfl
    rw [h1, addN]
    exact ⟨cur, rfl, h2, h3, by show a0.off + k + (cap - k) ≤ _; omega⟩
theorem tail_block (ao : Option Addr) (k cap : Nat) (ad : Addr) (e : tailA ao k cap = some ad) : ∃ a0, ao = some a0 ∧ a0.block = ad.block := by
  unfold tailA at e
  split at e
  · exact ⟨ad, e, rfl⟩
  · obtain ⟨a0, rfl, rfl⟩ := Option.map_eq_some_iff.1 e
    exact ⟨a0, rfl, (add_block a0 k).symm⟩
/- what was appended to lies where it lay, or in new memory -/
def Mvd (w : World) (ao bo : Option Addr) : Prop := ∀ ad, bo = some ad → (∃ a0, ao = some a0 ∧ a0.block = ad.block) ∨ w.heap.size ≤ ad.block
def Bk (ao : Option Addr) (k : Nat) : Prop := ∃ ad, ao = some ad ∧ ad.block = k
theorem grown_foot {row : Option Nat} (h : w.grownBy w' row) : Foot (fun k => row = some k) w w' := ⟨h.os, h.tape, h.output, h.size, fun k hk hn => h.block k hk fun e => hn e.symm⟩
theorem setOne (w : World) (b o : Nat) (u : Value) : w.setCells b o [u] = w.setCell ⟨b, o, none⟩ u := rfl
theorem tl_app {ty : TypeId} {B n cap : Nat} {ao : Option Addr} (x : Int) (h : Tl w B ao n cap L) (hn : n ≤ 1000000) (hB : B ≤ w.heap.size) :
    ∃ bo c w', (Builtin.append_ #[25, 25] ty #[.slice ao n cap, .slice (some ⟨w.heap.size, 0, none⟩) 1 1]).run Tryd.prog (w.alloc (.cells #[.int .i64 x] 3)) = .ok (.slice bo (n + 1) c) w' ∧ Tl w' B bo (n + 1) c (L ++ [x]) ∧ Foot (Bk ao) w w' ∧ Mvd w ao bo := by
  obtain ⟨i0, hi0, hz0, hz1, hz2⟩ := info_parts Tryd.infoN
  obtain ⟨X, hX⟩ : ∃ X, w.alloc (.cells #[.int .i64 x] 3) = X := ⟨_, rfl⟩
  have bX : Below w.heap.size w X := hX ▸ below_alloc w _
  have hX2 : ∀ j u, (cellsI [x])[j]? = some u → X.cell? ((⟨w.heap.size, 0, none⟩ : Addr).add j) = some u := fun j u hu => World.news_of_block (hX ▸ heap_alloc_new w _) j u hu
  have hT := h.grow bX
  rw [hX]
  have own : ∀ (v' : Value) (w3 : World), w3.ownsRow X.heap.size 3 1 v' (n + 1) (cellsI L ++ cellsI [x]) → Foot (Bk ao) X w3 → ∃ bo c, v' = .slice bo (n + 1) c ∧ Tl w3 B bo (n + 1) c (L ++ [x]) ∧ Foot (Bk ao) w w3 ∧ Mvd w ao bo := fun v' w3 ho hf => by
    rw [← cellsI_append] at ho
    obtain ⟨bo, c, rfl, ht⟩ := tl_own ho
    exact ⟨bo, c, rfl, ht.base (Nat.le_trans hB bX.size), (below_foot _ bX).then hf, fun ad e => .inr (Nat.le_trans bX.size (ht.lt ad e).2)⟩
  cases ao with
  | none =>
    obtain rfl : cap = 0 := h.row.2.2.2.1 rfl
    obtain rfl : n = 0 := by have := h.row.2.1; omega
    obtain rfl : L = [] := List.eq_nil_of_length_eq_zero h.row.len.symm
    obtain ⟨v', w3, hr, ho, hg, _, _⟩ := run_append_own_at (P := Tryd.prog) X X.heap.size 25 ty 3 i0 _ 1 8 Tryd.underlying25 hi0 hz0 hz1 hz2 rfl (by omega) (.slice none 0 0) 0 _ (owns_nil X _ _ _) ⟨w.heap.size, 0, none⟩ 1 1 (cellsI [x]) rfl hX2 (cellsI_one [x]) (by unfold maxLen; omega) (by omega) (Nat.le_refl _)
    obtain ⟨bo, c, rfl, a1, a2, a3⟩ := own v' w3 ho ((grown_foot hg).mono fun k e => by cases e)
    exact ⟨bo, c, w3, hr, a1, a2, a3⟩
  | some ad =>
    obtain ⟨cur, h1, h2, h3, h4⟩ := hT.own ad rfl
    by_cases hroom : n + 1 ≤ cap
    · obtain ⟨b, o, hbo⟩ : ∃ b o, ad = ⟨b, o, none⟩ := ⟨_, _, h1⟩
      subst hbo
      simp only at h2 h3 h4
      have hc : ∀ j, j < (cellsI [x]).length → (X.cell? ⟨b, o + n * i0.size + j, none⟩).isSome = true := fun j hj => by
        rw [hz1, cell_of_row X b _ _ _ _ h3]
        have : j = 0 := by simp [cellsI] at hj; omega
        rw [Array.getElem?_eq_getElem (by omega)]; rfl
      have hr := run_append_room_cells (P := Tryd.prog) X 25 ty 3 i0 Tryd.underlying25 hi0 b o n cap ⟨w.heap.size, 0, none⟩ 1 1 (cellsI [x]) (by rw [hz1]; rfl) hX2 (cellsI_one [x]) hroom hc (fun j _ => frozen_of_row X b _ _ _ h3)
      rw [hz1, Nat.mul_one, show cellsI [x] = [Value.int .i64 x] from rfl, setOne] at hr
      have hs := heap_setCell_same X b (o + n) _ _ (.int .i64 x) h3
      refine ⟨_, cap, _, hr, ⟨⟨by rw [cellsI_len, List.length_append, h.row.len]; simp, hroom, h.row.2.2.1, (fun e => by cases e), fun bd e j u hu => ?_⟩, fun bd e => ?_⟩, (below_foot _ bX).then ((foot_set X ⟨b, o + n, none⟩ _).mono fun k e => ⟨_, rfl, e.symm⟩), fun bd e => .inl ⟨_, rfl, by cases e; rfl⟩⟩
      · cases e
        have hl := h.row.len
        rw [addN, cell_of_row _ b _ _ _ _ hs, Array.getElem?_setIfInBounds]
        rw [cellsI_append] at hu
        by_cases hj : j < n
        · rw [if_neg (by omega)]
          rw [List.getElem?_append_left (by rw [cellsI_len]; omega)] at hu
          have := hT.row.2.2.2.2 _ rfl j u hu
          rw [addN, cell_of_row X b _ _ _ _ h3] at this
          exact this
        · rw [List.getElem?_append_right (by rw [cellsI_len]; omega), cellsI_len] at hu
          have hj2 : j = n := by
            have := (List.getElem?_eq_some_iff.1 hu).1
            simp [cellsI] at this; omega
          subst hj2
          rw [if_pos rfl, if_pos (by omega)]
          rw [← hl, Nat.sub_self] at hu
          exact hu
      · cases e
        exact ⟨_, rfl, h2, hs, by simp; omega⟩
    · obtain ⟨v', w3, hr, ho, hg⟩ := run_append_arg_grows (P := Tryd.prog) X 25 ty 3 i0 _ 1 8 Tryd.underlying25 hi0 hz0 hz1 hz2 rfl (by omega) ad n cap (cellsI L) hT.row.1 (hT.row.2.2.2.2 ad rfl) ⟨w.heap.size, 0, none⟩ 1 1 (cellsI [x]) rfl hX2 (by omega) (by unfold maxLen; omega) (by omega)
      obtain ⟨bo, c, rfl, a1, a2, a3⟩ := own v' w3 ho ((grown_foot hg).mono fun k e => by cases e)
      exact ⟨bo, c, w3, hr, a1, a2, a3⟩
end Go.Proofs.YtgbggdmpbbhkaaaDoor
