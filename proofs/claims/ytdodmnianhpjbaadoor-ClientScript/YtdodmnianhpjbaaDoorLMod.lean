/-
  The statement's own calls: how they go on with time, how they stand to the client's; a row of them in memory.
-/
import Derived.Test.YtdodmnianhpjbaaDoorLAct
import Derived.Test.YtdodmnianhpjbaaDoorJSame
namespace Go.Proofs.YtdodmnianhpjbaaDoor
open Go.RowKit
structure Mc where
  q : Ms
  r : Ms
  s : Int
  a : Int
  n : Int
def Mc.zero : Mc := ⟨Ms.zero, Ms.zero, 0, 0, 0⟩
def Mc.cells (x : Mc) : List Value := [.int .u64 x.q.ta, .int .u64 x.q.rp, .int .u32 x.q.id, .int .u16 x.q.op, .int .u16 x.q.st, .int .u64 x.q.p, .int .u32 x.q.o, .int .u8 x.q.r, .int .u64 x.q.c, .int .u64 x.q.ar, .slice x.q.so x.q.sn x.q.sc, .int .u64 x.r.ta, .int .u64 x.r.rp, .int .u32 x.r.id, .int .u16 x.r.op, .int .u16 x.r.st, .int .u64 x.r.p, .int .u32 x.r.o, .int .u8 x.r.r, .int .u64 x.r.c, .int .u64 x.r.ar, .slice x.r.so x.r.sn x.r.sc, .int .i64 x.s, .int .i64 x.a, .int .i64 x.n]
def mc (K : List Mc) (j : Nat) : Mc := K.getD j Mc.zero
theorem mc_mem (K : List Mc) (j : Nat) (h : j < K.length) : mc K j ∈ K := by
  unfold mc; rw [List.getD_eq_getElem?_getD, List.getElem?_eq_getElem h]; exact List.getElem_mem h
theorem mc_snoc (K : List Mc) (x : Mc) (j : Nat) : mc (K ++ [x]) j = if j = K.length then x else mc K j := by
  unfold mc
  rw [List.getD_eq_getElem?_getD, List.getD_eq_getElem?_getD]
  by_cases h : j = K.length
  · subst h; simp
  · rw [if_neg h]
    by_cases h2 : j < K.length
    · rw [List.getElem?_append_left h2]
    · rw [List.getElem?_eq_none (by simp; omega), List.getElem?_eq_none (by omega)]
theorem mc_set (K : List Mc) (x : Mc) (k j : Nat) (hk : k < K.length) : mc (K.set k x) j = if j = k then x else mc K j := by
  unfold mc
  rw [List.getD_eq_getElem?_getD, List.getD_eq_getElem?_getD, List.getElem?_set]
  by_cases h : k = j
  · subst h; simp [hk]
  · rw [if_neg h, if_neg (fun e => h e.symm)]
/- one tick later; is it sent again -/
def mtF (W N : Int) (y : Mc) : Mc × Bool :=
  if y.s = 1 then (if y.a + 1 = W then (if y.n = N then (⟨y.q, y.r, 3, y.a + 1, y.n⟩, false) else (⟨y.q, y.r, 1, 0, y.n + 1⟩, true)) else (⟨y.q, y.r, 1, y.a + 1, y.n⟩, false)) else (y, false)
/- a client's call and the statement's are alike -/
structure RlC (w0 : World) (i : Nat) (x : Cl) (y : Mc) : Prop where
  s : y.s = x.s
  id : y.q.id = (i : Int) + 1
  hq : y.q.has w0
  hr : y.r.has w0
  by_ : (x.s = 1 ∧ x.m = y.q.nm ∧ x.a = y.a ∧ x.n = y.n ∧ y.r = Ms.zero) ∨ (x.s = 2 ∧ x.m = y.r.nm) ∨ (x.s = 3 ∧ y.r = Ms.zero)
theorem RlC.tick {w0 : World} {i : Nat} {x : Cl} {y : Mc} {W N : Int} (h : RlC w0 i x y) (ho : x.ok W N) : RlC w0 i (olderF W N x).1 (mtF W N y).1 ∧ (mtF W N y).2 = (olderF W N x).2 ∧ ((olderF W N x).2 = true → y.q.nm = x.m) := by
  obtain ⟨s, m, n, a⟩ := x
  obtain ⟨q, r, s', a', n'⟩ := y
  obtain ⟨e1, e2, e3, e4, e5⟩ := h
  dsimp only at *
  subst e1
  rcases e5 with ⟨rfl, hm, rfl, rfl, rfl⟩ | ⟨rfl, hm⟩ | ⟨rfl, rfl⟩
  · have hk : 0 ≤ a ∧ a < W ∧ 1 ≤ n ∧ n ≤ N := by
      rcases ho with ho | ho | ho
      · exact ho.2
      · cases ho
      · cases ho
    by_cases h1 : a + 1 < W
    · have h2 : ¬ (a + 1 = W) := by omega
      have eo : olderF W N ⟨1, m, n, a⟩ = (⟨1, m, n, a + 1⟩, false) := by simp [olderF, h1]
      have em : mtF W N ⟨q, Ms.zero, 1, a, n⟩ = (⟨q, Ms.zero, 1, a + 1, n⟩, false) := by simp [mtF, h2]
      rw [eo, em]
      exact ⟨⟨rfl, e2, e3, e4, .inl ⟨rfl, hm, rfl, rfl, rfl⟩⟩, rfl, fun h => by cases h⟩
    · have h2 : a + 1 = W := by omega
      by_cases h3 : N ≤ n
      · have h4 : n = N := by omega
        have eo : olderF W N ⟨1, m, n, a⟩ = (⟨3, Ms.zero, 0, 0⟩, false) := by simp [olderF, h1, h3]
        have em : mtF W N ⟨q, Ms.zero, 1, a, n⟩ = (⟨q, Ms.zero, 3, a + 1, n⟩, false) := by simp [mtF, h2, h4]
        rw [eo, em]
        exact ⟨⟨rfl, e2, e3, e4, .inr (.inr ⟨rfl, rfl⟩)⟩, rfl, fun h => by cases h⟩
      · have h4 : ¬ n = N := by omega
        have eo : olderF W N ⟨1, m, n, a⟩ = (⟨1, m, n + 1, 0⟩, true) := by simp [olderF, h1, h3]
        have em : mtF W N ⟨q, Ms.zero, 1, a, n⟩ = (⟨q, Ms.zero, 1, 0, n + 1⟩, true) := by simp [mtF, h2, h4]
        rw [eo, em]
        exact ⟨⟨rfl, e2, e3, e4, .inl ⟨rfl, hm, rfl, rfl, rfl⟩⟩, rfl, fun _ => hm.symm⟩
  · have eo : olderF W N ⟨2, m, n, a⟩ = (⟨2, m, n, a⟩, false) := by simp [olderF]
    have em : mtF W N ⟨q, r, 2, a', n'⟩ = (⟨q, r, 2, a', n'⟩, false) := by simp [mtF]
    rw [eo, em]
    exact ⟨⟨rfl, e2, e3, e4, .inr (.inl ⟨rfl, hm⟩)⟩, rfl, fun h => by cases h⟩
  · have eo : olderF W N ⟨3, m, n, a⟩ = (⟨3, m, n, a⟩, false) := by simp [olderF]
    have em : mtF W N ⟨q, Ms.zero, 3, a', n'⟩ = (⟨q, Ms.zero, 3, a', n'⟩, false) := by simp [mtF]
    rw [eo, em]
    exact ⟨⟨rfl, e2, e3, e4, .inr (.inr ⟨rfl, rfl⟩)⟩, rfl, fun h => by cases h⟩
def Rl (w0 : World) (i : Nat) (L : List Cl) (K : List Mc) : Prop := L.length = K.length ∧ ∀ j, j < K.length → RlC w0 (i + j) (cl L j) (mc K j)
theorem Rl.cons {w0 : World} {i : Nat} {x : Cl} {y : Mc} {L : List Cl} {K : List Mc} (h : Rl w0 i (x :: L) (y :: K)) : RlC w0 i x y ∧ Rl w0 (i + 1) L K := by
  refine ⟨h.2 0 (by simp), by simpa using h.1, fun j hj => ?_⟩
  have := h.2 (j + 1) (by simpa using hj)
  rw [show i + (j + 1) = i + 1 + j by omega] at this
  exact this
theorem Rl.mk {w0 : World} {i : Nat} {x : Cl} {y : Mc} {L : List Cl} {K : List Mc} (h : RlC w0 i x y) (k : Rl w0 (i + 1) L K) : Rl w0 i (x :: L) (y :: K) := by
  refine ⟨by simpa using k.1, fun j hj => ?_⟩
  cases j with
  | zero => exact h
  | succ j =>
    have := k.2 j (by simpa using hj)
    rw [show i + 1 + j = i + (j + 1) by omega] at this
    exact this
def mtL (W N : Int) (K : List Mc) : List Mc := K.map fun y => (mtF W N y).1
def mtM (W N : Int) (K : List Mc) : List Ms := (K.filter fun y => (mtF W N y).2).map Mc.q
theorem Rl.tick {w0 : World} {W N : Int} : ∀ (L : List Cl) (K : List Mc) (i : Nat), Rl w0 i L K → (∀ x ∈ L, x.ok W N) → Rl w0 i (tickL W N L) (mtL W N K) ∧ (mtM W N K).map Ms.nm = tickM W N L := by
  intro L
  induction L with
  | nil =>
    intro K i h _
    have hK : K = [] := List.eq_nil_of_length_eq_zero (by have := h.1; simpa using this.symm)
    subst hK
    exact ⟨h, rfl⟩
  | cons x L ih =>
    intro K i h ho
    cases K with
    | nil => have := h.1; simp at this
    | cons y K =>
      obtain ⟨h1, h2⟩ := h.cons
      obtain ⟨t1, t2, t3⟩ := h1.tick (ho x (List.mem_cons_self ..))
      obtain ⟨r1, r2⟩ := ih K (i + 1) h2 (fun z hz => ho z (List.mem_cons_of_mem _ hz))
      refine ⟨Rl.mk t1 r1, ?_⟩
      unfold mtM tickM at r2 ⊢
      rw [List.filter_cons, List.filter_cons, t2]
      split
      · rename_i hb
        rw [List.map_cons, List.map_cons, List.map_cons, r2, t3 hb]
      · exact r2
theorem Rl.snoc {w0 : World} {L : List Cl} {K : List Mc} {x : Cl} {y : Mc} (h : Rl w0 0 L K) (k : RlC w0 K.length x y) : Rl w0 0 (L ++ [x]) (K ++ [y]) := by
  refine ⟨by simp [h.1], fun j hj => ?_⟩
  rw [cl_snoc, mc_snoc, h.1]
  by_cases e : j = K.length
  · rw [if_pos e, if_pos e, e, Nat.zero_add]; exact k
  · rw [if_neg e, if_neg e]
    exact h.2 j (by simp at hj; omega)
theorem Rl.set {w0 : World} {L : List Cl} {K : List Mc} {x : Cl} {y : Mc} {k : Nat} (h : Rl w0 0 L K) (hk : k < K.length) (r : RlC w0 k x y) : Rl w0 0 (L.set k x) (K.set k y) := by
  refine ⟨by simp [h.1], fun j hj => ?_⟩
  rw [List.length_set] at hj
  rw [cl_set L x k j (by rw [h.1]; exact hk), mc_set K y k j hk]
  by_cases e : j = k
  · rw [if_pos e, if_pos e, e, Nat.zero_add]; exact r
  · rw [if_neg e, if_neg e]; exact h.2 j hj
theorem Rl.at {w0 : World} {L : List Cl} {K : List Mc} {k : Nat} (h : Rl w0 0 L K) (hk : k < K.length) : RlC w0 k (cl L k) (mc K k) := by
  have := h.2 k hk; rw [Nat.zero_add] at this; exact this
/- behind so many rounds -/
def mtT (W N : Int) (K : List Mc) (i : Nat) : List Mc := mtL W N (K.take i) ++ K.drop i
theorem mtT_len {W N : Int} (K : List Mc) (i : Nat) : (mtT W N K i).length = K.length := by
  unfold mtT mtL
  rw [List.length_append, List.length_map, ← List.length_append, List.take_append_drop]
theorem take_mc (K : List Mc) (i : Nat) (h : i < K.length) : K.take (i + 1) = K.take i ++ [mc K i] := by
  unfold mc
  rw [List.take_add_one, List.getElem?_eq_getElem h, List.getD_eq_getElem?_getD, List.getElem?_eq_getElem h]; rfl
theorem drop_mc (K : List Mc) (i : Nat) (h : i < K.length) : K.drop i = mc K i :: K.drop (i + 1) := by
  unfold mc
  rw [List.drop_eq_getElem_cons h, List.getD_eq_getElem?_getD, List.getElem?_eq_getElem h]; rfl
theorem mtT_at {W N : Int} (K : List Mc) (i : Nat) (h : i < K.length) : mc (mtT W N K i) i = mc K i := by
  have hl : (mtL W N (K.take i)).length = i := by unfold mtL; rw [List.length_map, List.length_take]; omega
  rw [mtT, drop_mc K i h]
  show ((mtL W N (K.take i) ++ (mc K i :: K.drop (i + 1)))).getD i Mc.zero = _
  rw [List.getD_eq_getElem?_getD, List.getElem?_append_right (by omega), hl, Nat.sub_self]; rfl
theorem mtT_set {W N : Int} (K : List Mc) (i : Nat) (h : i < K.length) : (mtT W N K i).set i (mtF W N (mc K i)).1 = mtT W N K (i + 1) := by
  have hl : (mtL W N (K.take i)).length = i := by unfold mtL; rw [List.length_map, List.length_take]; omega
  rw [mtT, drop_mc K i h, List.set_append_right _ _ (by omega), hl, Nat.sub_self, List.set_cons_zero, mtT, take_mc K i h]
  unfold mtL
  rw [List.map_append, List.append_assoc]; rfl
theorem mtM_snoc (W N : Int) (K : List Mc) (y : Mc) : mtM W N (K ++ [y]) = mtM W N K ++ (if (mtF W N y).2 then [y.q] else []) := by
  unfold mtM
  rw [List.filter_append, List.map_append]
  congr 1
  rw [List.filter_cons]
  split <;> rfl
/- a row of them -/
def cellsR (K : List Mc) : List Value := K.flatMap Mc.cells
theorem cellsR_len (K : List Mc) : (cellsR K).length = K.length * 25 := by
  induction K with
  | nil => rfl
  | cons x r ih => simp only [cellsR, List.flatMap_cons, List.length_append, List.length_cons] at ih ⊢; rw [ih]; simp only [Mc.cells, List.length_cons, List.length_nil]; omega
theorem cellsR_append (a b : List Mc) : cellsR (a ++ b) = cellsR a ++ cellsR b := by simp [cellsR]
theorem cellsR_one (K : List Mc) : ∀ u ∈ cellsR K, u.oneCell' = true := by
  intro u hu
  simp only [cellsR, List.mem_flatMap] at hu
  obtain ⟨x, _, hx⟩ := hu
  simp only [Mc.cells, List.mem_cons, List.not_mem_nil, or_false] at hx
  rcases hx with rfl | rfl | rfl | rfl | rfl | rfl | rfl | rfl | rfl | rfl | rfl | rfl | rfl | rfl | rfl | rfl | rfl | rfl | rfl | rfl | rfl | rfl | rfl | rfl | rfl <;> rfl
theorem cellsR_get (K : List Mc) (k f : Nat) (h : k < K.length) (hf : f < 25) : (cellsR K)[k * 25 + f]? = (mc K k).cells[f]? := by
  induction K generalizing k with
  | nil => simp at h
  | cons x r ih =>
    simp only [cellsR, List.flatMap_cons] at ih ⊢
    have hl : x.cells.length = 25 := rfl
    cases k with
    | zero => rw [List.getElem?_append_left (by rw [hl]; omega), Nat.zero_mul, Nat.zero_add]; rfl
    | succ k =>
      rw [List.getElem?_append_right (by rw [hl]; omega), hl, show (k + 1) * 25 + f - 25 = k * 25 + f from by omega, ih k (by simpa using h)]
      rfl
theorem cellsR_set (K : List Mc) (k f : Nat) (y : Mc) (u : Value) (h : k < K.length) (hf : f < 25) (hy : y.cells = (mc K k).cells.set f u) : cellsR (K.set k y) = (cellsR K).set (k * 25 + f) u := by
  apply List.ext_getElem?
  intro j
  rw [List.getElem?_set]
  by_cases hj : j < K.length * 25
  · obtain ⟨a, b, hb, rfl⟩ : ∃ a b, b < 25 ∧ j = a * 25 + b := ⟨j / 25, j % 25, Nat.mod_lt _ (by omega), by omega⟩
    have ha : a < K.length := by omega
    rw [cellsR_get _ a b (by rw [List.length_set]; exact ha) hb, mc_set K y k a h, cellsR_len]
    by_cases e : a = k
    · subst e
      rw [if_pos rfl, hy, List.getElem?_set]
      by_cases e2 : f = b
      · subst e2
        have hl : (mc K a).cells.length = 25 := rfl
        rw [if_pos rfl, if_pos rfl, if_pos (by rw [hl]; exact hf), if_pos (by omega)]
      · rw [if_neg e2, if_neg (by omega), cellsR_get K a b ha hb]
    · rw [if_neg e, if_neg (by omega), cellsR_get K a b ha hb]
  · rw [List.getElem?_eq_none (by rw [cellsR_len, List.length_set]; omega), cellsR_len]
    split
    · rw [if_neg (by omega)]
    · rw [List.getElem?_eq_none (by rw [cellsR_len]; omega)]
abbrev OwnR (w : World) (B : Nat) (v : Value) (K : List Mc) : Prop := w.ownsRow B 46 25 v K.length (cellsR K)
variable {w w' : World} {B : Nat} {v : Value} {K : List Mc}
theorem OwnR.form (x : OwnR w B v K) : ∃ aa ac, v = .slice aa K.length ac ∧ K.length ≤ ac ∧ ac ≤ 9223372036854775807 := by
  obtain ⟨aa, ac, e, l⟩ := owns_lies x
  exact ⟨aa, ac, e, l.2.1, l.2.2.1⟩
theorem OwnR.elem (x : OwnR w B v K) (k : Nat) (hk : k < K.length) : ∃ h ac, v = .slice (some ⟨h, 0, none⟩) K.length ac ∧ B ≤ h ∧ K.length ≤ ac ∧ ac ≤ 9223372036854775807 := by
  rcases x.2 with ⟨_, e⟩ | ⟨h, cap, cur, e, hb, hg, hl, hm, hs, ht⟩
  · omega
  · exact ⟨h, cap, e, hb, hl, hm⟩
theorem OwnR.cell {h n ac : Nat} (x : OwnR w B (.slice (some ⟨h, 0, none⟩) n ac) K) (k f : Nat) (hk : k < K.length) (hf : f < 25) : w.cell? ⟨h, k * 25 + f, none⟩ = (mc K k).cells[f]? := by
  rcases x.2 with ⟨_, e⟩ | ⟨h', cap, cur, e, hb, hg, hl, hm, hs, ht⟩
  · omega
  · cases e
    have get : cur[k * 25 + f]? = (cellsR K)[k * 25 + f]? := by
      rw [← ht, List.getElem?_take, if_pos (by omega)]; simp
    rw [cell_of_row w h _ _ _ _ hg, get, cellsR_get K k f hk hf]
theorem OwnR.z {h n ac : Nat} (x : OwnR w B (.slice (some ⟨h, 0, none⟩) n ac) K) (hk : 0 < K.length) (j : Nat) : w.frozen? ⟨h, j, none⟩ = false := by
  rcases x.2 with ⟨_, e⟩ | ⟨h', cap, cur, e, hb, hg, hl, hm, hs, ht⟩
  · omega
  · cases e
    exact frozen_of_row w h j _ _ hg
theorem OwnR.all {h n ac : Nat} (x : OwnR w B (.slice (some ⟨h, 0, none⟩) n ac) K) (k : Nat) (hk : k < K.length) (y : Mc) (hy : mc K k = y) : (w.cell? ⟨h, k * 25, none⟩ = some (.int .u64 y.q.ta) ∧ w.cell? ⟨h, k * 25 + 1, none⟩ = some (.int .u64 y.q.rp) ∧ w.cell? ⟨h, k * 25 + 2, none⟩ = some (.int .u32 y.q.id) ∧ w.cell? ⟨h, k * 25 + 3, none⟩ = some (.int .u16 y.q.op) ∧ w.cell? ⟨h, k * 25 + 4, none⟩ = some (.int .u16 y.q.st) ∧ w.cell? ⟨h, k * 25 + 5, none⟩ = some (.int .u64 y.q.p) ∧ w.cell? ⟨h, k * 25 + 6, none⟩ = some (.int .u32 y.q.o) ∧ w.cell? ⟨h, k * 25 + 7, none⟩ = some (.int .u8 y.q.r) ∧ w.cell? ⟨h, k * 25 + 8, none⟩ = some (.int .u64 y.q.c) ∧ w.cell? ⟨h, k * 25 + 9, none⟩ = some (.int .u64 y.q.ar) ∧ w.cell? ⟨h, k * 25 + 10, none⟩ = some (.slice y.q.so y.q.sn y.q.sc) ∧ w.cell? ⟨h, k * 25 + 11, none⟩ = some (.int .u64 y.r.ta) ∧ w.cell? ⟨h, k * 25 + 12, none⟩ = some (.int .u64 y.r.rp) ∧ w.cell? ⟨h, k * 25 + 13, none⟩ = some (.int .u32 y.r.id) ∧ w.cell? ⟨h, k * 25 + 14, none⟩ = some (.int .u16 y.r.op) ∧ w.cell? ⟨h, k * 25 + 15, none⟩ = some (.int .u16 y.r.st) ∧ w.cell? ⟨h, k * 25 + 16, none⟩ = some (.int .u64 y.r.p) ∧ w.cell? ⟨h, k * 25 + 17, none⟩ = some (.int .u32 y.r.o) ∧ w.cell? ⟨h, k * 25 + 18, none⟩ = some (.int .u8 y.r.r) ∧ w.cell? ⟨h, k * 25 + 19, none⟩ = some (.int .u64 y.r.c) ∧ w.cell? ⟨h, k * 25 + 20, none⟩ = some (.int .u64 y.r.ar) ∧ w.cell? ⟨h, k * 25 + 21, none⟩ = some (.slice y.r.so y.r.sn y.r.sc) ∧ w.cell? ⟨h, k * 25 + 22, none⟩ = some (.int .i64 y.s) ∧ w.cell? ⟨h, k * 25 + 23, none⟩ = some (.int .i64 y.a) ∧ w.cell? ⟨h, k * 25 + 24, none⟩ = some (.int .i64 y.n)) := by
  subst hy
  have e : ∀ f, f < 25 → w.cell? ⟨h, k * 25 + f, none⟩ = (mc K k).cells[f]? := fun f hf => x.cell k f hk hf
  exact ⟨e 0 (by omega), e 1 (by omega), e 2 (by omega), e 3 (by omega), e 4 (by omega), e 5 (by omega), e 6 (by omega), e 7 (by omega), e 8 (by omega), e 9 (by omega), e 10 (by omega), e 11 (by omega), e 12 (by omega), e 13 (by omega), e 14 (by omega), e 15 (by omega), e 16 (by omega), e 17 (by omega), e 18 (by omega), e 19 (by omega), e 20 (by omega), e 21 (by omega), e 22 (by omega), e 23 (by omega), e 24 (by omega)⟩
/- a cell of one of them is laid anew -/
theorem OwnR.put {h n ac : Nat} (x : OwnR w B (.slice (some ⟨h, 0, none⟩) n ac) K) (k f : Nat) (y : Mc) (u : Value) (hk : k < K.length) (hf : f < 25) (hy : y.cells = (mc K k).cells.set f u) : OwnR (w.setCell ⟨h, k * 25 + f, none⟩ u) B (.slice (some ⟨h, 0, none⟩) n ac) (K.set k y) := by
  rcases x.2 with ⟨_, e0⟩ | ⟨h', cap, cur, e', hb, hg, hl, hm, hs, ht⟩
  · omega
  · cases e'
    have h1 := heap_setCell_same w h (k * 25 + f) _ _ u hg
    refine ⟨by rw [cellsR_len], .inr ⟨h, ac, _, by rw [List.length_set], hb, h1, by rw [List.length_set]; exact hl, hm, by simp [hs], ?_⟩⟩
    rw [List.length_set, cellsR_set K k f y u hk hf hy, ← ht]
    simp [List.take_set]
theorem Tryd.infoR : (Tryd.prog.info? 46).map (fun i => (i.zero, i.size, i.bytes)) = some (some (.agg #[.int .u64 0, .int .u64 0, .int .u32 0, .int .u16 0, .int .u16 0, .int .u64 0, .int .u32 0, .int .u8 0, .int .u64 0, .int .u64 0, .slice none 0 0, .int .u64 0, .int .u64 0, .int .u32 0, .int .u16 0, .int .u16 0, .int .u64 0, .int .u32 0, .int .u8 0, .int .u64 0, .int .u64 0, .slice none 0 0, .int .i64 0, .int .i64 0, .int .i64 0]), 25, 184) := by kernel_rfl
end Go.Proofs.YtdodmnianhpjbaaDoor
