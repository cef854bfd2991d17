/-
  The statement's own rows of messages in memory, their heads cut off or not: what is appended to them, what stays of them.
-/
import Derived.Test.YtibdhjohjkdgdaaDoorMAct
namespace Go.Proofs.YtibdhjohjkdgdaaDoor
open Go.RowKit
variable {w w' : World}
theorem setCells_heap (b : Nat) (t : TypeId) : ∀ (vs : List Value) (o : Nat) (w : World) (cur : Array Value), w.heap[b]? = some (.cells cur t (0, 0)) → ∃ cur', (w.setCells b o vs).heap[b]? = some (.cells cur' t (0, 0)) ∧ cur'.size = cur.size
  | [], _, _, cur, h => ⟨cur, h, rfl⟩
  | v :: vs, o, w, cur, h => by
    have h1 := heap_setCell_same w b o _ _ v h
    obtain ⟨c', h2, h3⟩ := setCells_heap b t vs (o + 1) _ _ h1
    exact ⟨c', h2, by rw [h3]; simp⟩
theorem foot_setCells (b : Nat) : ∀ (vs : List Value) (o : Nat) (w : World), Foot (· = b) w (w.setCells b o vs)
  | [], _, w => Foot.refl _ w
  | v :: vs, o, w => (foot_set w ⟨b, o, none⟩ v).then (foot_setCells b vs (o + 1) _)
/- a row of one's own, of messages, its head cut off or not -/
structure Tl (w : World) (B : Nat) (ao : Option Addr) (n cap : Nat) (L : List Ms) : Prop where
  row : Lies 11 w ao n cap (cellsM L)
  own : ∀ ad, ao = some ad → ∃ cur, ad = ⟨ad.block, ad.off, none⟩ ∧ B ≤ ad.block ∧ w.heap[ad.block]? = some (.cells cur 35 (0, 0)) ∧ ad.off + cap * 11 ≤ cur.size
theorem tl_nil (w : World) (B : Nat) : Tl w B none 0 0 [] := ⟨lies_nil 11 w, fun _ e => by cases e⟩
theorem tl_own {B n : Nat} {v : Value} {L : List Ms} (h : w.ownsRow B 35 11 v n (cellsM L)) : ∃ ao cap, v = .slice ao n cap ∧ Tl w B ao n cap L := by
  obtain ⟨ao, cap, rfl, hl⟩ := owns_lies h
  refine ⟨ao, cap, rfl, hl, fun ad e => ?_⟩
  rcases h.2 with ⟨h0, _⟩ | ⟨k, c, cur, h1, h2, h3, h4, h5, h6, _⟩
  · cases h0; cases e
  · cases h1; cases e
    exact ⟨cur, rfl, h2, h3, by simp; omega⟩
variable {B n cap : Nat} {ao : Option Addr} {L : List Ms}
theorem Tl.len (h : Tl w B ao n cap L) : n = L.length := by have := h.row.1; rw [cellsM_len] at this; omega
theorem Tl.foot {S : Nat → Prop} (h : Tl w B ao n cap L) (f : Foot S w w') (hS : ∀ ad, ao = some ad → ¬ S ad.block) : Tl w' B ao n cap L :=
  ⟨h.row.foot f (fun _ ad e => hS ad e), fun ad e => by
    obtain ⟨cur, h1, h2, h3, h4⟩ := h.own ad e
    exact ⟨cur, h1, h2, (f.block _ (lt_of_heap h3) (hS ad e)).trans h3, h4⟩⟩
theorem Tl.grow (h : Tl w B ao n cap L) (b : Below w.heap.size w w') : Tl w' B ao n cap L := h.foot (below_foot (fun _ => False) b) (fun _ _ => id)
theorem Tl.lt (h : Tl w B ao n cap L) (ad : Addr) (e : ao = some ad) : ad.block < w.heap.size ∧ B ≤ ad.block := by
  obtain ⟨cur, _, h2, h3, _⟩ := h.own ad e
  exact ⟨lt_of_heap h3, h2⟩
theorem Tl.base {B' : Nat} (h : Tl w B ao n cap L) (hB : B' ≤ B) : Tl w B' ao n cap L :=
  ⟨h.row, fun ad e => by
    obtain ⟨cur, h1, h2, h3, h4⟩ := h.own ad e
    exact ⟨cur, h1, Nat.le_trans hB h2, h3, h4⟩⟩
theorem Tl.cut (h : Tl w B ao n cap L) (hk : 1 ≤ n) : Tl w B (tailG 11 ao 1 cap) (n - 1) (cap - 1) (L.drop 1) := by
  have ht := h.row.tail 1 hk
  rw [cellsM_drop] at ht
  refine ⟨ht, fun ad e => ?_⟩
  have hc := h.row.2.1
  unfold tailG at e
  split at e
  · obtain ⟨cur, h1, h2, h3, h4⟩ := h.own ad e
    exact ⟨cur, h1, h2, h3, by omega⟩
  · obtain ⟨a0, rfl, rfl⟩ := Option.map_eq_some_iff.1 e
    obtain ⟨cur, h1, h2, h3, h4⟩ := h.own a0 rfl
    rw [h1, addN]
    exact ⟨cur, rfl, h2, h3, by show a0.off + 1 * 11 + (cap - 1) * 11 ≤ _; omega⟩
/- the block that a row lies in -/
def Bk (ao : Option Addr) (k : Nat) : Prop := ∃ ad, ao = some ad ∧ ad.block = k
theorem tail_bk (sz k c : Nat) (j : Nat) (h : Bk (tailG sz ao k c) j) : Bk ao j := by
  obtain ⟨ad, e, rfl⟩ := h
  unfold tailG at e
  split at e
  · exact ⟨ad, e, rfl⟩
  · obtain ⟨a0, rfl, rfl⟩ := Option.map_eq_some_iff.1 e
    exact ⟨a0, rfl, (add_block a0 _).symm⟩
theorem Tl.type (h : Tl w B ao n cap L) {k : Nat} (hk : Bk ao k) : ∃ cur, w.heap[k]? = some (.cells cur 35 (0, 0)) := by
  obtain ⟨ad, e, rfl⟩ := hk
  obtain ⟨cur, _, _, h3, _⟩ := h.own ad e
  exact ⟨cur, h3⟩
/- what was appended to lies where it lay, or in new memory -/
def Mvd (w : World) (ao bo : Option Addr) : Prop := ∀ k, Bk bo k → Bk ao k ∨ w.heap.size ≤ k
theorem tl_app (p : Ms) (h : Tl w B ao n cap L) (hn : n ≤ 99999) (hB : B ≤ w.heap.size) :
    ∃ bo c w', (Builtin.append_ #[41, 41] 41 #[.slice ao n cap, .slice (some ⟨w.heap.size, 0, none⟩) 1 1]).run Tryd.prog (w.alloc (.cells #[.int .u64 p.ta, .int .u64 p.rp, .int .u32 p.id, .int .u16 p.op, .int .u16 p.st, .int .u64 p.p, .int .u32 p.o, .int .u8 p.r, .int .u64 p.c, .int .u64 p.ar, .slice p.so p.sn p.sc] 35)) = .ok (.slice bo (n + 1) c) w' ∧ Tl w' B bo (n + 1) c (L ++ [p]) ∧ Foot (Bk ao) w w' ∧ Mvd w ao bo := by
  obtain ⟨i0, hi0, hz0, hz1, hz2⟩ := info_parts Tryd.infoM
  obtain ⟨X, hX⟩ : ∃ X, w.alloc (.cells #[.int .u64 p.ta, .int .u64 p.rp, .int .u32 p.id, .int .u16 p.op, .int .u16 p.st, .int .u64 p.p, .int .u32 p.o, .int .u8 p.r, .int .u64 p.c, .int .u64 p.ar, .slice p.so p.sn p.sc] 35) = X := ⟨_, rfl⟩
  have bX : Below w.heap.size w X := hX ▸ below_alloc w _
  have hl : Lies 11 X (some ⟨w.heap.size, 0, none⟩) 1 1 (cellsM [p]) := hX ▸ lies_alloc rfl rfl (by omega)
  have hX2 := hl.2.2.2.2 _ rfl
  have hT := h.grow bX
  rw [hX]
  have own : ∀ (v' : Value) (w3 : World), w3.ownsRow X.heap.size 35 11 v' (n + 1) (cellsM L ++ cellsM [p]) → Foot (Bk ao) X w3 → ∃ bo c, v' = .slice bo (n + 1) c ∧ Tl w3 B bo (n + 1) c (L ++ [p]) ∧ Foot (Bk ao) w w3 ∧ Mvd w ao bo := fun v' w3 ho hf => by
    rw [← cellsM_append] at ho
    obtain ⟨bo, c, rfl, ht⟩ := tl_own ho
    exact ⟨bo, c, rfl, ht.base (Nat.le_trans hB bX.size), (below_foot _ bX).then hf, fun k e => .inr (by obtain ⟨ad, e, rfl⟩ := e; exact Nat.le_trans bX.size (ht.lt ad e).2)⟩
  cases ao with
  | none =>
    obtain rfl : cap = 0 := h.row.2.2.2.1 rfl
    obtain rfl : n = 0 := by have := h.row.2.1; omega
    obtain rfl : L = [] := List.eq_nil_of_length_eq_zero h.len.symm
    obtain ⟨v', w3, hr, ho, hg, _, _⟩ := run_append_own_at (P := Tryd.prog) X X.heap.size 41 41 35 i0 _ 11 80 Tryd.underlying41 hi0 hz0 hz1 hz2 rfl (by omega) (.slice none 0 0) 0 _ (owns_nil X _ _ _) ⟨w.heap.size, 0, none⟩ 1 1 (cellsM [p]) rfl hX2 (cellsM_one _) (by unfold maxLen; omega) (by omega) (Nat.le_refl _)
    obtain ⟨bo, c, rfl, a1, a2, a3⟩ := own v' w3 ho ((grown_foot hg).mono fun k e => by cases e)
    exact ⟨bo, c, w3, hr, a1, a2, a3⟩
  | some ad =>
    obtain ⟨cur, h1, h2, h3, h4⟩ := hT.own ad rfl
    by_cases hroom : n + 1 ≤ cap
    · obtain ⟨b, o, hbo⟩ : ∃ b o, ad = ⟨b, o, none⟩ := ⟨_, _, h1⟩
      subst hbo
      simp only at h2 h3 h4
      have hlp : (cellsM [p]).length = 11 := rfl
      have hc : ∀ j, j < (cellsM [p]).length → (X.cell? ⟨b, o + n * 11 + j, none⟩).isSome = true := fun j hj => by
        rw [hlp] at hj
        rw [cell_of_row X b _ _ _ _ h3, Array.getElem?_eq_getElem (by omega)]; rfl
      have hr := run_append_room_cells (P := Tryd.prog) X 41 41 35 i0 Tryd.underlying41 hi0 b o n cap ⟨w.heap.size, 0, none⟩ 1 1 (cellsM [p]) (by rw [hz1]; rfl) hX2 (cellsM_one _) hroom (by rw [hz1]; exact hc) (fun j _ => frozen_of_row X b _ _ _ h3)
      rw [hz1] at hr
      obtain ⟨cur', hs, hss⟩ := setCells_heap b _ (cellsM [p]) (o + n * 11) X cur h3
      have hl := h.len
      refine ⟨_, cap, _, hr, ⟨⟨by rw [cellsM_len, List.length_append]; simp; omega, hroom, h.row.2.2.1, (fun e => by cases e), fun bd e j v hv => ?_⟩, fun bd e => ?_⟩, (below_foot _ bX).then ((foot_setCells b _ _ X).mono fun k e => ⟨_, rfl, e.symm⟩), fun k e => .inl (by obtain ⟨ad, e, rfl⟩ := e; cases e; exact ⟨_, rfl, rfl⟩)⟩
      · cases e
        rw [addN]
        rw [cellsM_append] at hv
        by_cases hj : j < n * 11
        · rw [World.cell?_setCells_out b _ _ X ⟨b, o + j, none⟩ (fun _ _ => .inl (by show o + j < _; omega))]
          rw [List.getElem?_append_left (by rw [cellsM_len]; omega)] at hv
          have := hT.row.2.2.2.2 _ rfl j v hv
          rwa [addN] at this
        · rw [List.getElem?_append_right (by rw [cellsM_len]; omega), cellsM_len, ← hl] at hv
          have hj2 := (List.getElem?_eq_some_iff.1 hv).1
          have := World.cell?_setCells_in b (cellsM [p]) (o + n * 11) X hc (j - n * 11) hj2
          rw [show o + n * 11 + (j - n * 11) = o + j by omega] at this
          rw [this]
          rw [List.getElem?_eq_getElem hj2] at hv
          exact hv
      · cases e
        exact ⟨cur', rfl, h2, hs, by rw [hss]; exact h4⟩
    · obtain ⟨v', w3, hr, ho, hg⟩ := run_append_arg_grows (P := Tryd.prog) X 41 41 35 i0 _ 11 80 Tryd.underlying41 hi0 hz0 hz1 hz2 rfl (by omega) ad n cap (cellsM L) hT.row.1 (hT.row.2.2.2.2 ad rfl) ⟨w.heap.size, 0, none⟩ 1 1 (cellsM [p]) rfl hX2 (by omega) (by unfold maxLen; omega) (by omega)
      obtain ⟨bo, c, rfl, a1, a2, a3⟩ := own v' w3 ho ((grown_foot hg).mono fun k e => by cases e)
      exact ⟨bo, c, w3, hr, a1, a2, a3⟩
end Go.Proofs.YtibdhjohjkdgdaaDoor
