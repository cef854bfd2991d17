/-
  The statement's own row of messages in memory, its head cut off or not, beside a gather: what is appended to it, stored into it, taken out of it.
-/
import Derived.Test.YtdfakeddhoolcaaGCome
import Derived.ArgAppend
import Derived.Deep.AppendLies
namespace Go.Proofs.Ytdfakeddhoolcaa
open Go.RowKit
theorem Try.infoO : (Try.prog.info? 41).map (fun i => (i.zero, i.size, i.bytes)) = some (some (.slice none 0 0), 1, 24) := by kernel_rfl
theorem Try.sizeOfO (w : World) : (sizeOf 41).run Try.prog w = .ok 1 w := by kernel_rfl
variable {w w' : World}
/- a row of one's own, of messages, its head cut off or not -/
structure Tl (w : World) (B : Nat) (ao : Option Addr) (n cap : Nat) (cs : List Value) : Prop where
  row : Lies 1 w ao n cap cs
  one : ∀ u ∈ cs, u.oneCell' = true
  own : ∀ ad, ao = some ad → ∃ cur, ad = ⟨ad.block, ad.off, none⟩ ∧ B ≤ ad.block ∧ w.heap[ad.block]? = some (.cells cur 41 (0, 0)) ∧ ad.off + cap ≤ cur.size
theorem tl_nil (w : World) (B : Nat) : Tl w B none 0 0 [] := ⟨lies_nil 1 w, (fun _ h => by cases h), fun _ e => by cases e⟩
theorem tl_own {B n : Nat} {v : Value} {cs : List Value} (h : w.ownsRow B 41 1 v n cs) (ho : ∀ u ∈ cs, u.oneCell' = true) : ∃ ao cap, v = .slice ao n cap ∧ Tl w B ao n cap cs := by
  obtain ⟨ao, cap, rfl, hl⟩ := owns_lies h
  refine ⟨ao, cap, rfl, hl, ho, fun ad e => ?_⟩
  rcases h.2 with ⟨h0, _⟩ | ⟨k, c, cur, h1, h2, h3, h4, h5, h6, _⟩
  · cases h0; cases e
  · cases h1; cases e
    exact ⟨cur, rfl, h2, h3, by simp; omega⟩
variable {B n cap : Nat} {ao : Option Addr} {cs : List Value}
theorem Tl.len (h : Tl w B ao n cap cs) : n = cs.length := by have := h.row.1; omega
theorem Tl.foot {S : Nat → Prop} (h : Tl w B ao n cap cs) (f : Foot S w w') (hS : ∀ ad, ao = some ad → ¬ S ad.block) : Tl w' B ao n cap cs :=
  ⟨h.row.foot f (fun _ ad e => hS ad e), h.one, fun ad e => by
    obtain ⟨cur, h1, h2, h3, h4⟩ := h.own ad e
    exact ⟨cur, h1, h2, (f.block _ (lt_of_heap h3) (hS ad e)).trans h3, h4⟩⟩
theorem Tl.grow (h : Tl w B ao n cap cs) (b : Below w.heap.size w w') : Tl w' B ao n cap cs := h.foot (below_foot (fun _ => False) b) (fun _ _ => id)
theorem Tl.lt (h : Tl w B ao n cap cs) (ad : Addr) (e : ao = some ad) : ad.block < w.heap.size ∧ B ≤ ad.block := by
  obtain ⟨cur, _, h2, h3, _⟩ := h.own ad e
  exact ⟨lt_of_heap h3, h2⟩
theorem Tl.base {B' : Nat} (h : Tl w B ao n cap cs) (hB : B' ≤ B) : Tl w B' ao n cap cs :=
  ⟨h.row, h.one, fun ad e => by
    obtain ⟨cur, h1, h2, h3, h4⟩ := h.own ad e
    exact ⟨cur, h1, Nat.le_trans hB h2, h3, h4⟩⟩
theorem Tl.cut (h : Tl w B ao n cap cs) (k : Nat) (hk : k ≤ n) : Tl w B (tailG 1 ao k cap) (n - k) (cap - k) (cs.drop k) := by
  have ht := h.row.tail k hk
  rw [Nat.mul_one] at ht
  refine ⟨ht, fun u hu => h.one u (List.mem_of_mem_drop hu), fun ad e => ?_⟩
  have hc := h.row.2.1
  unfold tailG at e
  split at e
  · obtain ⟨cur, h1, h2, h3, h4⟩ := h.own ad e
    exact ⟨cur, h1, h2, h3, by omega⟩
  · obtain ⟨a0, rfl, rfl⟩ := Option.map_eq_some_iff.1 e
    obtain ⟨cur, h1, h2, h3, h4⟩ := h.own a0 rfl
    rw [h1, addN]
    exact ⟨cur, rfl, h2, h3, by show a0.off + k * 1 + (cap - k) ≤ _; omega⟩
/- the block that a row lies in -/
def Bk (ao : Option Addr) (k : Nat) : Prop := ∃ ad, ao = some ad ∧ ad.block = k
theorem tail_bk (sz k c : Nat) (j : Nat) (h : Bk (tailG sz ao k c) j) : Bk ao j := by
  obtain ⟨ad, e, rfl⟩ := h
  unfold tailG at e
  split at e
  · exact ⟨ad, e, rfl⟩
  · obtain ⟨a0, rfl, rfl⟩ := Option.map_eq_some_iff.1 e
    exact ⟨a0, rfl, (add_block a0 _).symm⟩
/- what was appended to lies where it lay, or in new memory -/
def Mvd (w : World) (ao bo : Option Addr) : Prop := ∀ k, Bk bo k → Bk ao k ∨ w.heap.size ≤ k
theorem grown_foot {row : Option Nat} (h : w.grownBy w' row) : Foot (fun k => row = some k) w w' := ⟨h.os, h.tape, h.output, h.size, fun k hk hn => h.block k hk fun e => hn e.symm⟩
theorem setOne (w : World) (b o : Nat) (u : Value) : w.setCells b o [u] = w.setCell ⟨b, o, none⟩ u := rfl
theorem tl_app {ty : TypeId} (u : Value) (hu1 : u.oneCell' = true) (h : Tl w B ao n cap cs) (hn : n ≤ 1000000) (hB : B ≤ w.heap.size) :
    ∃ bo c w', (Builtin.append_ #[28, 28] ty #[.slice ao n cap, .slice (some ⟨w.heap.size, 0, none⟩) 1 1]).run Try.prog (w.alloc (.cells #[u] 41)) = .ok (.slice bo (n + 1) c) w' ∧ Tl w' B bo (n + 1) c (cs ++ [u]) ∧ Foot (Bk ao) w w' ∧ Mvd w ao bo := by
  obtain ⟨i0, hi0, hz0, hz1, hz2⟩ := info_parts Try.infoO
  obtain ⟨X, hX⟩ : ∃ X, w.alloc (.cells #[u] 41) = X := ⟨_, rfl⟩
  have bX : Below w.heap.size w X := hX ▸ below_alloc w _
  have hX2 : ∀ j v, [u][j]? = some v → X.cell? ((⟨w.heap.size, 0, none⟩ : Addr).add j) = some v := fun j v hv => World.news_of_block (hX ▸ heap_alloc_new w _) j v hv
  have hT := h.grow bX
  have hone : ∀ v ∈ [u], v.oneCell' = true := fun v hv => by rw [List.mem_singleton.1 hv]; exact hu1
  have hone2 : ∀ v ∈ cs ++ [u], v.oneCell' = true := fun v hv => by
    rcases List.mem_append.1 hv with hv | hv
    · exact h.one v hv
    · exact hone v hv
  rw [hX]
  have own : ∀ (v' : Value) (w3 : World), w3.ownsRow X.heap.size 41 1 v' (n + 1) (cs ++ [u]) → Foot (Bk ao) X w3 → ∃ bo c, v' = .slice bo (n + 1) c ∧ Tl w3 B bo (n + 1) c (cs ++ [u]) ∧ Foot (Bk ao) w w3 ∧ Mvd w ao bo := fun v' w3 ho hf => by
    obtain ⟨bo, c, rfl, ht⟩ := tl_own ho hone2
    exact ⟨bo, c, rfl, ht.base (Nat.le_trans hB bX.size), (below_foot _ bX).then hf, fun k e => .inr (by obtain ⟨ad, e, rfl⟩ := e; exact Nat.le_trans bX.size (ht.lt ad e).2)⟩
  cases ao with
  | none =>
    obtain rfl : cap = 0 := h.row.2.2.2.1 rfl
    obtain rfl : n = 0 := by have := h.row.2.1; omega
    obtain rfl : cs = [] := List.eq_nil_of_length_eq_zero h.len.symm
    obtain ⟨v', w3, hr, ho, hg, _, _⟩ := run_append_own_at (P := Try.prog) X X.heap.size 28 ty 41 i0 _ 1 24 Try.underlying28 hi0 hz0 hz1 hz2 rfl (by omega) (.slice none 0 0) 0 _ (owns_nil X _ _ _) ⟨w.heap.size, 0, none⟩ 1 1 [u] rfl hX2 hone (by unfold maxLen; omega) (by omega) (Nat.le_refl _)
    obtain ⟨bo, c, rfl, a1, a2, a3⟩ := own v' w3 ho ((grown_foot hg).mono fun k e => by cases e)
    exact ⟨bo, c, w3, hr, a1, a2, a3⟩
  | some ad =>
    obtain ⟨cur, h1, h2, h3, h4⟩ := hT.own ad rfl
    by_cases hroom : n + 1 ≤ cap
    · obtain ⟨b, o, hbo⟩ : ∃ b o, ad = ⟨b, o, none⟩ := ⟨_, _, h1⟩
      subst hbo
      simp only at h2 h3 h4
      have hc : ∀ j, j < [u].length → (X.cell? ⟨b, o + n * i0.size + j, none⟩).isSome = true := fun j hj => by
        rw [hz1, cell_of_row X b _ _ _ _ h3]
        have : j = 0 := by simp at hj; omega
        rw [Array.getElem?_eq_getElem (by omega)]; rfl
      have hr := run_append_room_cells (P := Try.prog) X 28 ty 41 i0 Try.underlying28 hi0 b o n cap ⟨w.heap.size, 0, none⟩ 1 1 [u] (by rw [hz1]; rfl) hX2 hone hroom hc (fun j _ => frozen_of_row X b _ _ _ h3)
      rw [hz1, Nat.mul_one, setOne] at hr
      have hs := heap_setCell_same X b (o + n) _ _ u h3
      have hl := h.len
      refine ⟨_, cap, _, hr, ⟨⟨by rw [List.length_append]; simp; omega, hroom, h.row.2.2.1, (fun e => by cases e), fun bd e j v hv => ?_⟩, hone2, fun bd e => ?_⟩, (below_foot _ bX).then ((foot_set X ⟨b, o + n, none⟩ _).mono fun k e => ⟨_, rfl, e.symm⟩), fun k e => .inl (by obtain ⟨ad, e, rfl⟩ := e; cases e; exact ⟨_, rfl, rfl⟩)⟩
      · cases e
        rw [addN, cell_of_row _ b _ _ _ _ hs, Array.getElem?_setIfInBounds]
        by_cases hj : j < n
        · rw [if_neg (by omega)]
          rw [List.getElem?_append_left (by omega)] at hv
          have := hT.row.2.2.2.2 _ rfl j v hv
          rw [addN, cell_of_row X b _ _ _ _ h3] at this
          exact this
        · rw [List.getElem?_append_right (by omega)] at hv
          have hj2 : j = n := by
            have := (List.getElem?_eq_some_iff.1 hv).1
            simp at this; omega
          subst hj2
          rw [if_pos rfl, if_pos (by omega)]
          rw [← hl, Nat.sub_self] at hv
          exact hv
      · cases e
        exact ⟨_, rfl, h2, hs, by simp; omega⟩
    · obtain ⟨v', w3, hr, ho, hg⟩ := run_append_arg_grows (P := Try.prog) X 28 ty 41 i0 _ 1 24 Try.underlying28 hi0 hz0 hz1 hz2 rfl (by omega) ad n cap cs hT.row.1 (hT.row.2.2.2.2 ad rfl) ⟨w.heap.size, 0, none⟩ 1 1 [u] rfl hX2 (by omega) (by unfold maxLen; omega) (by omega)
      obtain ⟨bo, c, rfl, a1, a2, a3⟩ := own v' w3 ho ((grown_foot hg).mono fun k e => by cases e)
      exact ⟨bo, c, w3, hr, a1, a2, a3⟩
/- a store into a row's element -/
theorem Tl.put (h : Tl w B ao n cap cs) {ad : Addr} (e : ao = some ad) (k : Nat) (hk : k < n) (u : Value) (hu : u.oneCell' = true) : Tl (w.setCell (ad.add k) u) B ao n cap (cs.set k u) ∧ w.frozen? (ad.add k) = false := by
  subst e
  obtain ⟨cur, h1, h2, h3, h4⟩ := h.own ad rfl
  obtain ⟨b, o, hbo⟩ : ∃ b o, ad = ⟨b, o, none⟩ := ⟨_, _, h1⟩
  subst hbo
  simp only at h2 h3 h4
  have hl := h.len
  have hnc := h.row.2.1
  have hs := heap_setCell_same w b (o + k) _ _ u h3
  rw [addN]
  refine ⟨⟨⟨by rw [List.length_set]; exact h.row.1, hnc, h.row.2.2.1, h.row.2.2.2.1, fun bd e j v hv => ?_⟩, fun v hv => ?_, fun bd e => ?_⟩, frozen_of_row w b _ _ _ h3⟩
  · cases e
    rw [addN, cell_of_row _ b _ _ _ _ hs, Array.getElem?_setIfInBounds]
    rw [List.getElem?_set] at hv
    by_cases hj : k = j
    · subst hj
      rw [if_pos rfl, if_pos (by omega)] at *
      exact hv
    · rw [if_neg (by omega)]
      rw [if_neg hj] at hv
      have := h.row.2.2.2.2 _ rfl j v hv
      rw [addN, cell_of_row w b _ _ _ _ h3] at this
      exact this
  · rcases List.mem_or_eq_of_mem_set hv with hv | rfl
    · exact h.one v hv
    · exact hu
  · cases e
    exact ⟨_, rfl, h2, hs, by simp; omega⟩
end Go.Proofs.Ytdfakeddhoolcaa
