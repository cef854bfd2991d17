/-
  The statement's own entries: how they stand to the requests that are remembered; a row of them in memory, beside a Served.
-/
import Derived.Test.YtnkfdnmaocfjnaaDoorNAct
import Derived.Test.YtnkfdnmaocfjnaaDoorNAwake
import Derived.Test.YtnkfdnmaocfjnaaDoorJSame
namespace Go.Proofs.YtnkfdnmaocfjnaaDoor
open Go.RowKit
structure En where
  w : Nat
  d : Bool
  m : Ms
def En.zero : En := ⟨0, false, Ms.zero⟩
def En.cells (x : En) : List Value := [.int .u8 x.w, .bool x.d, .int .u64 x.m.ta, .int .u64 x.m.rp, .int .u32 x.m.id, .int .u16 x.m.op, .int .u16 x.m.st, .int .u64 x.m.p, .int .u32 x.m.o, .int .u8 x.m.r, .int .u64 x.m.c, .int .u64 x.m.ar, .slice x.m.so x.m.sn x.m.sc]
def en (K : List En) (j : Nat) : En := K.getD j En.zero
theorem en_mem (K : List En) (j : Nat) (h : j < K.length) : en K j ∈ K := by
  unfold en; rw [List.getD_eq_getElem?_getD, List.getElem?_eq_getElem h]; exact List.getElem_mem h
theorem en_set (K : List En) (x : En) (k j : Nat) (hk : k < K.length) : en (K.set k x) j = if j = k then x else en K j := by
  unfold en
  rw [List.getD_eq_getElem?_getD, List.getD_eq_getElem?_getD, List.getElem?_set]
  by_cases h : k = j
  · subst h; simp [hk]
  · rw [if_neg h, if_neg (fun e => h e.symm)]
/- an entry's request, as it is remembered; a request of a number -/
def toRq (y : En) : Rq := ⟨((y.w % 2 : Nat) : Int), ((y.w / 2 : Nat) : Int), y.d, y.m.nm⟩
def reqM (n : Nat) : Ms := ⟨0, ((n % 2 : Nat) : Int), ((n / 2 : Nat) : Int), 0, 0, 0, 0, 0, 0, (n : Int), none, 0, 0, []⟩
theorem isR_yes {n : Nat} {y : En} (h : y.w = n) : isR (reqM n).rp (reqM n).id (toRq y) = true := by
  subst h; simp [isR, toRq, reqM]
theorem isR_no {n : Nat} {y : En} (h : y.w ≠ n) : isR (reqM n).rp (reqM n).id (toRq y) = false := by
  unfold isR toRq reqM
  rw [Bool.and_eq_false_iff, beq_eq_false_iff_ne, beq_eq_false_iff_ne]
  dsimp only
  omega
theorem rq_of (K : List En) (j : Nat) : rq (K.map toRq) j = toRq (en K j) := by
  unfold rq en
  rw [List.getD_eq_getElem?_getD, List.getD_eq_getElem?_getD, List.getElem?_map]
  cases K[j]? <;> rfl
/- what holds of the statement's row -/
structure Inv (w0 : World) (K : List En) : Prop where
  nd : K.Pairwise fun a b => a.w ≠ b.w
  bl : ∀ y ∈ K, y.d = false → y.m = Ms.zero
  has : ∀ y ∈ K, y.m.has w0
theorem inv_nil (w0 : World) : Inv w0 [] := ⟨List.Pairwise.nil, (fun _ h => by cases h), fun _ h => by cases h⟩
theorem Inv.ne {w0 : World} {K : List En} (h : Inv w0 K) {i j : Nat} (hij : i < j) (hj : j < K.length) : (en K i).w ≠ (en K j).w := by
  have := List.pairwise_iff_getElem.1 h.nd i j (by omega) hj hij
  unfold en
  rw [List.getD_eq_getElem?_getD, List.getD_eq_getElem?_getD, List.getElem?_eq_getElem (by omega), List.getElem?_eq_getElem hj]
  exact this
theorem Inv.erase {w0 : World} {K : List En} (h : Inv w0 K) (i : Nat) : Inv w0 (K.eraseIdx i) :=
  ⟨h.nd.sublist (List.eraseIdx_sublist K i), fun y hy => h.bl y (List.mem_of_mem_eraseIdx hy), fun y hy => h.has y (List.mem_of_mem_eraseIdx hy)⟩
theorem en_get (K : List En) (j : Nat) (h : j < K.length) : K[j] = en K j := by
  unfold en; rw [List.getD_eq_getElem?_getD, List.getElem?_eq_getElem h]; rfl
theorem Inv.snoc {w0 : World} {K : List En} (h : Inv w0 K) (n : Nat) (hn : ∀ j, j < K.length → (en K j).w ≠ n) : Inv w0 (K ++ [⟨n, false, Ms.zero⟩]) := by
  refine ⟨?_, fun y hy => ?_, fun y hy => ?_⟩
  · rw [List.pairwise_append]
    refine ⟨h.nd, List.pairwise_singleton _ _, fun a ha b hb => ?_⟩
    rw [List.mem_singleton.1 hb]
    obtain ⟨j, hj, rfl⟩ := List.mem_iff_getElem.1 ha
    rw [en_get K j hj]
    exact hn j hj
  · rcases List.mem_append.1 hy with hy | hy
    · exact h.bl y hy
    · rw [List.mem_singleton.1 hy]; exact fun _ => rfl
  · rcases List.mem_append.1 hy with hy | hy
    · exact h.has y hy
    · rw [List.mem_singleton.1 hy]; exact has_zero w0
theorem none_erase {K : List En} {i n : Nat} (hn : ∀ j, j < K.length → (en K j).w ≠ n) : ∀ j, j < (K.eraseIdx i).length → (en (K.eraseIdx i) j).w ≠ n := fun j hj => by
  have hm := List.mem_of_mem_eraseIdx (en_mem _ j hj)
  obtain ⟨k, hk, e⟩ := List.mem_iff_getElem.1 hm
  rw [← e, en_get K k hk]
  exact hn k hk
theorem Inv.set {w0 : World} {K : List En} (h : Inv w0 K) {k : Nat} (hk : k < K.length) (p : Ms) (hp : p.has w0) : Inv w0 (K.set k ⟨(en K k).w, true, p⟩) := by
  refine ⟨List.pairwise_iff_getElem.2 fun i j hi hj hij => ?_, fun y hy => ?_, fun y hy => ?_⟩
  · rw [List.length_set] at hi hj
    rw [en_get _ i (by rw [List.length_set]; exact hi), en_get _ j (by rw [List.length_set]; exact hj), en_set K _ k i hk, en_set K _ k j hk]
    have := h.ne hij hj
    by_cases e1 : i = k
    · rw [if_pos e1, if_neg (by omega)]; rw [e1] at this; exact this
    · rw [if_neg e1]
      by_cases e2 : j = k
      · rw [if_pos e2]; rw [e2] at this; exact this
      · rw [if_neg e2]; exact this
  · rcases List.mem_or_eq_of_mem_set hy with hy | rfl
    · exact h.bl y hy
    · exact fun e => by cases e
  · rcases List.mem_or_eq_of_mem_set hy with hy | rfl
    · exact h.has y hy
    · exact hp
/- where a number is, among the first of them -/
def AtE (K : List En) (n i : Nat) (a : Int) : Prop := (a = -1 ∧ ∀ j, j < i → (en K j).w ≠ n) ∨ ∃ j : Nat, j < i ∧ a = (j : Int) ∧ (en K j).w = n
theorem AtE.yes {K : List En} {n i : Nat} (h : (en K i).w = n) : AtE K n (i + 1) (i : Int) := .inr ⟨i, by omega, rfl, h⟩
theorem AtE.no {K : List En} {n i : Nat} {a : Int} (x : AtE K n i a) (h : (en K i).w ≠ n) : AtE K n (i + 1) a := by
  rcases x with ⟨e, x⟩ | ⟨j, h1, h2, h3⟩
  · refine .inl ⟨e, fun j hj => ?_⟩
    by_cases e : j = i
    · rw [e]; exact h
    · exact x j (by omega)
  · exact .inr ⟨j, by omega, h2, h3⟩
/- which is the first, looked at from the back -/
def AtB (K : List En) (s : Nat) (a : Int) : Prop :=
  (a = -1 ∧ ∀ j, s ≤ j → j < K.length → (en K j).d = false) ∨ ∃ i : Nat, a = (i : Int) ∧ s ≤ i ∧ i < K.length ∧ (en K i).d = true ∧ ∀ j, s ≤ j → j < i → (en K j).d = false
theorem atB_nil (K : List En) : AtB K K.length (-1) := .inl ⟨rfl, fun j h1 h2 => by omega⟩
theorem atB_yes {K : List En} {s : Nat} (hs : s < K.length) (h : (en K s).d = true) : AtB K s (s : Int) := .inr ⟨s, rfl, Nat.le_refl _, hs, h, fun j h1 h2 => by omega⟩
theorem atB_no {K : List En} {s : Nat} {a : Int} (h : AtB K (s + 1) a) (hq : (en K s).d = false) : AtB K s a := by
  have key : ∀ j, s ≤ j → (s + 1 ≤ j → (en K j).d = false) → (en K j).d = false := fun j h1 h2 => by
    by_cases e : j = s
    · rw [e]; exact hq
    · exact h2 (by omega)
  rcases h with ⟨e, h⟩ | ⟨i, e, h1, h2, h3, h4⟩
  · exact .inl ⟨e, fun j h1 h2 => key j h1 (fun h3 => h j h3 h2)⟩
  · exact .inr ⟨i, e, by omega, h2, h3, fun j g1 g2 => key j g1 (fun g3 => h4 j g3 g2)⟩
/- a row of them -/
def cellsE (K : List En) : List Value := K.flatMap En.cells
theorem cellsE_len (K : List En) : (cellsE K).length = K.length * 13 := by
  induction K with
  | nil => rfl
  | cons x r ih => simp only [cellsE, List.flatMap_cons, List.length_append, List.length_cons] at ih ⊢; rw [ih]; simp only [En.cells, List.length_cons, List.length_nil]; omega
theorem cellsE_append (a b : List En) : cellsE (a ++ b) = cellsE a ++ cellsE b := by simp [cellsE]
theorem cellsE_one (K : List En) : ∀ u ∈ cellsE K, u.oneCell' = true := by
  intro u hu
  simp only [cellsE, List.mem_flatMap] at hu
  obtain ⟨x, _, hx⟩ := hu
  simp only [En.cells, List.mem_cons, List.not_mem_nil, or_false] at hx
  rcases hx with rfl | rfl | rfl | rfl | rfl | rfl | rfl | rfl | rfl | rfl | rfl | rfl | rfl <;> rfl
theorem cellsE_get (K : List En) (k f : Nat) (h : k < K.length) (hf : f < 13) : (cellsE K)[k * 13 + f]? = (en K k).cells[f]? := by
  induction K generalizing k with
  | nil => simp at h
  | cons x r ih =>
    simp only [cellsE, List.flatMap_cons] at ih ⊢
    have hl : x.cells.length = 13 := rfl
    cases k with
    | zero => rw [List.getElem?_append_left (by rw [hl]; omega), Nat.zero_mul, Nat.zero_add]; rfl
    | succ k =>
      rw [List.getElem?_append_right (by rw [hl]; omega), hl, show (k + 1) * 13 + f - 13 = k * 13 + f from by omega, ih k (by simpa using h)]
      rfl
theorem cellsE_take (K : List En) (k : Nat) : (cellsE K).take (k * 13) = cellsE (K.take k) := by
  induction K generalizing k with
  | nil => simp [cellsE]
  | cons x r ih =>
    cases k with
    | zero => simp [cellsE]
    | succ k =>
      show (x.cells ++ cellsE r).take ((k + 1) * 13) = x.cells ++ cellsE (r.take k)
      rw [List.take_append, List.take_of_length_le (by show 13 ≤ _; omega), show (k + 1) * 13 - x.cells.length = k * 13 from by show _ - 13 = _; omega, ih]
theorem cellsE_drop (K : List En) (k : Nat) : (cellsE K).drop (k * 13) = cellsE (K.drop k) := by
  induction K generalizing k with
  | nil => simp [cellsE]
  | cons x r ih =>
    cases k with
    | zero => simp
    | succ k =>
      show (x.cells ++ cellsE r).drop ((k + 1) * 13) = cellsE (r.drop k)
      rw [List.drop_append, List.drop_eq_nil_of_le (by show 13 ≤ _; omega), List.nil_append, show (k + 1) * 13 - x.cells.length = k * 13 from by show _ - 13 = _; omega, ih]
theorem cellsE_set (K : List En) (k f : Nat) (y : En) (u : Value) (h : k < K.length) (hf : f < 13) (hy : y.cells = (en K k).cells.set f u) : cellsE (K.set k y) = (cellsE K).set (k * 13 + f) u := by
  apply List.ext_getElem?
  intro j
  rw [List.getElem?_set]
  by_cases hj : j < K.length * 13
  · obtain ⟨a, b, hb, rfl⟩ : ∃ a b, b < 13 ∧ j = a * 13 + b := ⟨j / 13, j % 13, Nat.mod_lt _ (by omega), by omega⟩
    have ha : a < K.length := by omega
    rw [cellsE_get _ a b (by rw [List.length_set]; exact ha) hb, en_set K y k a h, cellsE_len]
    by_cases e : a = k
    · subst e
      rw [if_pos rfl, hy, List.getElem?_set]
      by_cases e2 : f = b
      · subst e2
        have hl : (en K a).cells.length = 13 := rfl
        rw [if_pos rfl, if_pos rfl, if_pos (by rw [hl]; exact hf), if_pos (by omega)]
      · rw [if_neg e2, if_neg (by omega), cellsE_get K a b ha hb]
    · rw [if_neg e, if_neg (by omega), cellsE_get K a b ha hb]
  · rw [List.getElem?_eq_none (by rw [cellsE_len, List.length_set]; omega), cellsE_len]
    split
    · rw [if_neg (by omega)]
    · rw [List.getElem?_eq_none (by rw [cellsE_len]; omega)]
abbrev OwnE (w : World) (B : Nat) (v : Value) (K : List En) : Prop := w.ownsRow B 42 13 v K.length (cellsE K)
variable {w w' : World} {B : Nat} {v : Value} {K : List En}
theorem OwnE.elem (x : OwnE w B v K) (hk : 0 < K.length) : ∃ h ac, v = .slice (some ⟨h, 0, none⟩) K.length ac ∧ K.length ≤ ac ∧ ac ≤ 9223372036854775807 := by
  rcases x.2 with ⟨_, e⟩ | ⟨h, cap, cur, e, hb, hg, hl, hm, hs, ht⟩
  · omega
  · exact ⟨h, cap, e, hl, hm⟩
theorem OwnE.cell {h n ac : Nat} (x : OwnE w B (.slice (some ⟨h, 0, none⟩) n ac) K) (k f : Nat) (hk : k < K.length) (hf : f < 13) : w.cell? ⟨h, k * 13 + f, none⟩ = (en K k).cells[f]? := by
  rcases x.2 with ⟨_, e⟩ | ⟨h', cap, cur, e, hb, hg, hl, hm, hs, ht⟩
  · omega
  · cases e
    have get : cur[k * 13 + f]? = (cellsE K)[k * 13 + f]? := by
      rw [← ht, List.getElem?_take, if_pos (by omega)]; simp
    rw [cell_of_row w h _ _ _ _ hg, get, cellsE_get K k f hk hf]
theorem OwnE.z {h n ac : Nat} (x : OwnE w B (.slice (some ⟨h, 0, none⟩) n ac) K) (hk : 0 < K.length) (j : Nat) : w.frozen? ⟨h, j, none⟩ = false := by
  rcases x.2 with ⟨_, e⟩ | ⟨h', cap, cur, e, hb, hg, hl, hm, hs, ht⟩
  · omega
  · cases e
    exact frozen_of_row w h j _ _ hg
theorem OwnE.all {h n ac : Nat} (x : OwnE w B (.slice (some ⟨h, 0, none⟩) n ac) K) (k : Nat) (hk : k < K.length) (y : En) (hy : en K k = y) : (w.cell? ⟨h, k * 13, none⟩ = some (.int .u8 y.w) ∧ w.cell? ⟨h, k * 13 + 1, none⟩ = some (.bool y.d) ∧ w.cell? ⟨h, k * 13 + 2, none⟩ = some (.int .u64 y.m.ta) ∧ w.cell? ⟨h, k * 13 + 3, none⟩ = some (.int .u64 y.m.rp) ∧ w.cell? ⟨h, k * 13 + 4, none⟩ = some (.int .u32 y.m.id) ∧ w.cell? ⟨h, k * 13 + 5, none⟩ = some (.int .u16 y.m.op) ∧ w.cell? ⟨h, k * 13 + 6, none⟩ = some (.int .u16 y.m.st) ∧ w.cell? ⟨h, k * 13 + 7, none⟩ = some (.int .u64 y.m.p) ∧ w.cell? ⟨h, k * 13 + 8, none⟩ = some (.int .u32 y.m.o) ∧ w.cell? ⟨h, k * 13 + 9, none⟩ = some (.int .u8 y.m.r) ∧ w.cell? ⟨h, k * 13 + 10, none⟩ = some (.int .u64 y.m.c) ∧ w.cell? ⟨h, k * 13 + 11, none⟩ = some (.int .u64 y.m.ar) ∧ w.cell? ⟨h, k * 13 + 12, none⟩ = some (.slice y.m.so y.m.sn y.m.sc)) := by
  subst hy
  have e : ∀ f, f < 13 → w.cell? ⟨h, k * 13 + f, none⟩ = (en K k).cells[f]? := fun f hf => x.cell k f hk hf
  exact ⟨e 0 (by omega), e 1 (by omega), e 2 (by omega), e 3 (by omega), e 4 (by omega), e 5 (by omega), e 6 (by omega), e 7 (by omega), e 8 (by omega), e 9 (by omega), e 10 (by omega), e 11 (by omega), e 12 (by omega)⟩
/- a cell of one of them is laid anew -/
theorem OwnE.put {h n ac : Nat} (x : OwnE w B (.slice (some ⟨h, 0, none⟩) n ac) K) (k f : Nat) (y : En) (u : Value) (hk : k < K.length) (hf : f < 13) (hy : y.cells = (en K k).cells.set f u) : OwnE (w.setCell ⟨h, k * 13 + f, none⟩ u) B (.slice (some ⟨h, 0, none⟩) n ac) (K.set k y) := by
  rcases x.2 with ⟨_, e0⟩ | ⟨h', cap, cur, e', hb, hg, hl, hm, hs, ht⟩
  · omega
  · cases e'
    have h1 := heap_setCell_same w h (k * 13 + f) _ _ u hg
    refine ⟨by rw [cellsE_len], .inr ⟨h, ac, _, by rw [List.length_set], hb, h1, by rw [List.length_set]; exact hl, hm, by simp [hs], ?_⟩⟩
    rw [List.length_set, cellsE_set K k f y u hk hf hy, ← ht]
    simp [List.take_set]
theorem set_set (K : List En) (k : Nat) (x y : En) : (K.set k x).set k y = K.set k y := by simp
theorem OwnE.on {B h n ac : Nat} {y0 : En} (k f : Nat) (hk : k < K.length) (x : OwnE w B (.slice (some ⟨h, 0, none⟩) n ac) (K.set k y0)) (y : En) (u : Value) (hf : f < 13) (hy : y.cells = y0.cells.set f u) : OwnE (w.setCell ⟨h, k * 13 + f, none⟩ u) B (.slice (some ⟨h, 0, none⟩) n ac) (K.set k y) := by
  have := x.put k f y u (by rw [List.length_set]; exact hk) hf (by rw [en_set K y0 k k hk, if_pos rfl]; exact hy)
  rw [set_set] at this
  exact this
theorem set_self (K : List En) (k : Nat) (hk : k < K.length) : K.set k (en K k) = K := by
  apply List.ext_getElem?
  intro j
  rw [List.getElem?_set]
  by_cases e : k = j
  · subst e
    rw [if_pos rfl, if_pos hk]
    unfold en
    rw [List.getD_eq_getElem?_getD, List.getElem?_eq_getElem hk]; rfl
  · rw [if_neg e]
theorem OwnE.at {B : Nat} (x : OwnE w B v K) (k : Nat) (hk : k < K.length) (y : En) (hy : en K k = y) : OwnE w B v (K.set k y) := by
  subst hy; rw [set_self K k hk]; exact x
/- an entry gets its reply -/
def layE (w : World) (h k : Nat) (p : Ms) : World := ((((((((((((w.setCell ⟨h, k * 13 + 1, none⟩ (.bool true)).setCell ⟨h, k * 13 + 2, none⟩ (.int .u64 p.ta)).setCell ⟨h, k * 13 + 3, none⟩ (.int .u64 p.rp)).setCell ⟨h, k * 13 + 4, none⟩ (.int .u32 p.id)).setCell ⟨h, k * 13 + 5, none⟩ (.int .u16 p.op)).setCell ⟨h, k * 13 + 6, none⟩ (.int .u16 p.st)).setCell ⟨h, k * 13 + 7, none⟩ (.int .u64 p.p)).setCell ⟨h, k * 13 + 8, none⟩ (.int .u32 p.o)).setCell ⟨h, k * 13 + 9, none⟩ (.int .u8 p.r)).setCell ⟨h, k * 13 + 10, none⟩ (.int .u64 p.c)).setCell ⟨h, k * 13 + 11, none⟩ (.int .u64 p.ar)).setCell ⟨h, k * 13 + 12, none⟩ (.slice p.so p.sn p.sc))
theorem foot_layE (w : World) (h k : Nat) (p : Ms) : Foot (fun j => j = h) w (layE w h k p) := by
  unfold layE
  exact ((((((((((((Foot.refl _ w).put _ _).put _ _).put _ _).put _ _).put _ _).put _ _).put _ _).put _ _).put _ _).put _ _).put _ _).put _ _
theorem OwnE.done {B h n ac q : Nat} {b : Bool} {r : Ms} (k : Nat) (hk : k < K.length) (hy : en K k = ⟨q, b, r⟩) (x : OwnE w B (.slice (some ⟨h, 0, none⟩) n ac) K) (p : Ms) : OwnE (layE w h k p) B (.slice (some ⟨h, 0, none⟩) n ac) (K.set k ⟨q, true, p⟩) := by
  have x0 := x.at k hk _ hy
  have x1 := OwnE.on k 1 hk x0 ⟨q, true, r⟩ (.bool true) (by omega) rfl
  have x2 := OwnE.on k 2 hk x1 ⟨q, true, ⟨p.ta, r.rp, r.id, r.op, r.st, r.p, r.o, r.r, r.c, r.ar, r.so, r.sn, r.sc, r.l⟩⟩ (.int .u64 p.ta) (by omega) rfl
  have x3 := OwnE.on k 3 hk x2 ⟨q, true, ⟨p.ta, p.rp, r.id, r.op, r.st, r.p, r.o, r.r, r.c, r.ar, r.so, r.sn, r.sc, r.l⟩⟩ (.int .u64 p.rp) (by omega) rfl
  have x4 := OwnE.on k 4 hk x3 ⟨q, true, ⟨p.ta, p.rp, p.id, r.op, r.st, r.p, r.o, r.r, r.c, r.ar, r.so, r.sn, r.sc, r.l⟩⟩ (.int .u32 p.id) (by omega) rfl
  have x5 := OwnE.on k 5 hk x4 ⟨q, true, ⟨p.ta, p.rp, p.id, p.op, r.st, r.p, r.o, r.r, r.c, r.ar, r.so, r.sn, r.sc, r.l⟩⟩ (.int .u16 p.op) (by omega) rfl
  have x6 := OwnE.on k 6 hk x5 ⟨q, true, ⟨p.ta, p.rp, p.id, p.op, p.st, r.p, r.o, r.r, r.c, r.ar, r.so, r.sn, r.sc, r.l⟩⟩ (.int .u16 p.st) (by omega) rfl
  have x7 := OwnE.on k 7 hk x6 ⟨q, true, ⟨p.ta, p.rp, p.id, p.op, p.st, p.p, r.o, r.r, r.c, r.ar, r.so, r.sn, r.sc, r.l⟩⟩ (.int .u64 p.p) (by omega) rfl
  have x8 := OwnE.on k 8 hk x7 ⟨q, true, ⟨p.ta, p.rp, p.id, p.op, p.st, p.p, p.o, r.r, r.c, r.ar, r.so, r.sn, r.sc, r.l⟩⟩ (.int .u32 p.o) (by omega) rfl
  have x9 := OwnE.on k 9 hk x8 ⟨q, true, ⟨p.ta, p.rp, p.id, p.op, p.st, p.p, p.o, p.r, r.c, r.ar, r.so, r.sn, r.sc, r.l⟩⟩ (.int .u8 p.r) (by omega) rfl
  have x10 := OwnE.on k 10 hk x9 ⟨q, true, ⟨p.ta, p.rp, p.id, p.op, p.st, p.p, p.o, p.r, p.c, r.ar, r.so, r.sn, r.sc, r.l⟩⟩ (.int .u64 p.c) (by omega) rfl
  have x11 := OwnE.on k 11 hk x10 ⟨q, true, ⟨p.ta, p.rp, p.id, p.op, p.st, p.p, p.o, p.r, p.c, p.ar, r.so, r.sn, r.sc, r.l⟩⟩ (.int .u64 p.ar) (by omega) rfl
  exact OwnE.on k 12 hk x11 ⟨q, true, ⟨p.ta, p.rp, p.id, p.op, p.st, p.p, p.o, p.r, p.c, p.ar, p.so, p.sn, p.sc, p.l⟩⟩ (.slice p.so p.sn p.sc) (by omega) rfl
theorem Tryd.infoE : (Tryd.prog.info? 42).map (fun i => (i.zero, i.size, i.bytes)) = some (some (.agg #[.int .u8 0, .bool false, .int .u64 0, .int .u64 0, .int .u32 0, .int .u16 0, .int .u16 0, .int .u64 0, .int .u32 0, .int .u8 0, .int .u64 0, .int .u64 0, .slice none 0 0]), 13, 88) := by kernel_rfl
theorem Tryd.sizeOfE (w : World) : (sizeOf 42).run Tryd.prog w = .ok 13 w := by kernel_rfl
theorem app_e {W : World} {B n sn sc : Nat} {v : Value} {xs ys : List Value} {so : Option Addr} (own : W.ownsRow B 42 13 v n xs) (hl : Lies 13 W so sn sc ys) (ho : ∀ u ∈ ys, u.oneCell' = true) (hn : n + sn ≤ 100000) (hB : B ≤ W.heap.size) :
    ∃ v' w', (Builtin.append_ #[38, 38] 38 #[v, .slice so sn sc]).run Tryd.prog W = .ok v' w' ∧ w'.ownsRow B 42 13 v' (n + sn) (xs ++ ys) ∧ W.grownBy w' v.ownBlock := by
  obtain ⟨i0, hi0, hz0, hz1, hz2⟩ := info_parts Tryd.infoE
  cases so with
  | none =>
    obtain rfl : sc = 0 := hl.2.2.2.1 rfl
    obtain rfl : sn = 0 := by have := hl.2.1; omega
    obtain rfl : ys = [] := List.eq_nil_of_length_eq_zero (by simpa using hl.1)
    obtain ⟨a, cap, rfl, h2⟩ := owns_lies own
    exact ⟨_, _, app_none W Tryd.underlying38 hi0 a n cap h2.2.1 h2.2.2.2.1, by rw [List.append_nil]; exact own, ⟨rfl, rfl, rfl, Nat.le_refl _, fun _ _ _ => rfl⟩⟩
  | some ad =>
    obtain ⟨v', w3, hr, hown3, hgr3, _, _⟩ := run_append_own_at (P := Tryd.prog) W B 38 38 42 i0 _ 13 88 Tryd.underlying38 hi0 hz0 hz1 hz2 rfl (by omega) v n _ own ad sn sc ys hl.1 (hl.2.2.2.2 ad rfl) ho (by unfold maxLen; omega) (by omega) hB
    exact ⟨v', w3, hr, hown3, hgr3⟩
/- a Served and the statement's row in one memory -/
structure Sc (w0 w : World) (g : Nat) (v : Value) (L : List Rq) (K : List En) : Prop where
  st : St w g L
  own : OwnE w w0.heap.size v K
  bel : Below w0.heap.size w0 w
  gl : w0.heap.size ≤ g
variable {w0 : World} {g : Nat} {L L' : List Rq}
theorem Sc.grow (x : Sc w0 w g v L K) (b : Below w.heap.size w w') : Sc w0 w' g v L K := ⟨x.st.grow b, owns_carry x.own b, below_one x.bel b, x.gl⟩
theorem Sc.deed (x : Sc w0 w g v L K) (E : StEnd w g L' w') : Sc w0 w' g v L' K := by
  obtain ⟨cur, hg⟩ := x.st.type
  refine ⟨E.1, owns_foot x.own E.2 (fun k hk e => ?_), foot_on x.bel x.gl E.2, x.gl⟩
  obtain ⟨c2, h2⟩ := owns_type x.own hk
  rw [e, hg] at h2; cases h2
/- what a deed leaves of a variable of another type -/
theorem Sc.varD {h : Nat} {C : Array Value} {t : TypeId} (x : Sc w0 w g v L K) (E : StEnd w g L' w') (ht : t ≠ 37) (b : w.heap[h]? = some (.cells C t (0, 0))) : w'.heap[h]? = some (.cells C t (0, 0)) := by
  obtain ⟨cur, hg⟩ := x.st.type
  exact (E.2.block h (lt_of_heap b) (fun e => by rw [e, hg] at b; cases b; exact ht rfl)).trans b
/- what a store into the row leaves of the rest -/
theorem Sc.row {h n ac : Nat} {K' : List En} (x : Sc w0 w g (.slice (some ⟨h, 0, none⟩) n ac) L K) (f : Foot (fun j => j = h) w w') (o : OwnE w' w0.heap.size (.slice (some ⟨h, 0, none⟩) n ac) K') : Sc w0 w' g (.slice (some ⟨h, 0, none⟩) n ac) L K' := by
  obtain ⟨c2, h2⟩ := owns_type x.own (k := h) rfl
  have hB := (owns_lt x.own (k := h) rfl).2
  refine ⟨x.st.foot f (fun k cur t e ht i => ?_), o, foot_on x.bel hB f, x.gl⟩
  rw [i, h2] at e
  cases e
  rcases ht with ht | ht <;> cases ht
/- the statement has one more -/
theorem Sc.app (x : Sc w0 w g v L K) (y : En) (hn : K.length ≤ 99998) :
    ∃ ao c w', (Builtin.append_ #[38, 38] 38 #[v, .slice (some ⟨w.heap.size, 0, none⟩) 1 1]).run Tryd.prog (w.alloc (.cells #[.int .u8 y.w, .bool y.d, .int .u64 y.m.ta, .int .u64 y.m.rp, .int .u32 y.m.id, .int .u16 y.m.op, .int .u16 y.m.st, .int .u64 y.m.p, .int .u32 y.m.o, .int .u8 y.m.r, .int .u64 y.m.c, .int .u64 y.m.ar, .slice y.m.so y.m.sn y.m.sc] 42)) = .ok (.slice ao (K.length + 1) c) w' ∧ Sc w0 w' g (.slice ao (K.length + 1) c) L (K ++ [y]) := by
  have b := below_alloc w (.cells #[.int .u8 y.w, .bool y.d, .int .u64 y.m.ta, .int .u64 y.m.rp, .int .u32 y.m.id, .int .u16 y.m.op, .int .u16 y.m.st, .int .u64 y.m.p, .int .u32 y.m.o, .int .u8 y.m.r, .int .u64 y.m.c, .int .u64 y.m.ar, .slice y.m.so y.m.sn y.m.sc] 42)
  have hl : Lies 13 (w.alloc (.cells #[.int .u8 y.w, .bool y.d, .int .u64 y.m.ta, .int .u64 y.m.rp, .int .u32 y.m.id, .int .u16 y.m.op, .int .u16 y.m.st, .int .u64 y.m.p, .int .u32 y.m.o, .int .u8 y.m.r, .int .u64 y.m.c, .int .u64 y.m.ar, .slice y.m.so y.m.sn y.m.sc] 42)) (some ⟨w.heap.size, 0, none⟩) 1 1 (cellsE [y]) := lies_alloc rfl rfl (by omega)
  obtain ⟨v', w2, hr, ho, hg⟩ := app_e (owns_carry x.own b) hl (cellsE_one _) (by omega) (Nat.le_trans x.bel.size b.size)
  have hf := (below_foot _ b).then (grown_foot hg)
  have nt : ∀ k cur t, w.heap[k]? = some (.cells cur t (0, 0)) → t ≠ 42 → ¬ v.ownBlock = some k := fun k cur t h ht e => by
    obtain ⟨c2, h2⟩ := owns_type x.own e
    rw [h2] at h
    cases h
    exact ht rfl
  obtain ⟨ao, c, e⟩ := owns_slice ho
  subst e
  refine ⟨ao, c, w2, hr, x.st.foot hf (fun k cur t h ht => nt k cur t h (by rcases ht with rfl | rfl <;> decide)), ?_, x.bel.trans (hf.below x.bel.size (fun k e => (owns_lt x.own e).2)), x.gl⟩
  show w2.ownsRow _ _ _ _ _ _
  rw [List.length_append, cellsE_append]; exact ho
/- row[:k] and row[k+1:] behind each other, in new memory -/
theorem Sc.cut {ad : Addr} {rc k n : Nat} (x : Sc w0 w g (.slice (some ad) n rc) L K) (hk : k < n) (hn : K.length = n) (hm : n ≤ 1024) :
    ∃ v1 w1 ro oc w2, (Builtin.append_ #[38, 38] 38 #[.slice none 0 0, .slice (some ad) k rc]).run Tryd.prog w = .ok v1 w1 ∧
      (Builtin.append_ #[38, 38] 38 #[v1, .slice (tailG 13 (some ad) (k + 1) rc) (n - (k + 1)) (rc - (k + 1))]).run Tryd.prog w1 = .ok (.slice ro (n - 1) oc) w2 ∧ Sc w0 w2 g (.slice ro (n - 1) oc) L (K.eraseIdx k) := by
  subst hn
  obtain ⟨_, _, e, hp⟩ := owns_lies x.own
  cases e
  have h1 := hp.head k (by omega)
  have h2 := hp.tail (k + 1) (by omega)
  rw [cellsE_take] at h1
  rw [cellsE_drop] at h2
  obtain ⟨v1, w1, r1, o1, g1⟩ := app_e (owns_nil w w.heap.size _ _) h1 (cellsE_one _) (by omega) (Nat.le_refl _)
  have b1 : Below w.heap.size w w1 := (grown_foot g1).below (Nat.le_refl _) (fun _ e => by cases e)
  rw [Nat.zero_add, List.nil_append] at o1
  obtain ⟨v2, w2, r2, o2, g2⟩ := app_e o1 (h2.carry b1 (Nat.le_refl _)) (cellsE_one _) (by omega) b1.size
  have b2 := below_grown b1 b1.size o1 g2
  rw [← cellsE_append, ← List.eraseIdx_eq_take_drop_succ, show k + (K.length - (k + 1)) = K.length - 1 by omega] at o2
  obtain ⟨ro, oc, rfl, _⟩ := owns_lies o2
  refine ⟨v1, w1, ro, oc, w2, r1, r2, x.st.grow b2, ?_, below_one x.bel b2, x.gl⟩
  have hl : (K.eraseIdx k).length = K.length - 1 := by rw [List.length_eraseIdx, if_pos hk]
  show w2.ownsRow _ _ _ _ _ _
  rw [hl]
  exact owns_base o2 x.bel.size
set_option maxRecDepth 20000 in
set_option maxHeartbeats 1600000 in
theorem request_any (n : Nat) (w : World) (hn : n < 48) :
    Calls Tryd.prog 7 #[.int .u8 (n : Int)] w fun e w' => e = .returned (.agg #[.int .u64 (reqM n).ta, .int .u64 (reqM n).rp, .int .u32 (reqM n).id, .int .u16 (reqM n).op, .int .u16 (reqM n).st, .int .u64 (reqM n).p, .int .u32 (reqM n).o, .int .u8 (reqM n).r, .int .u64 (reqM n).c, .int .u64 (reqM n).ar, .slice (reqM n).so (reqM n).sn (reqM n).sc]) ∧ Below w.heap.size w w' := by
  obtain ⟨a, ha⟩ : ∃ a, n % 2 = a := ⟨_, rfl⟩
  obtain ⟨b, hb⟩ : ∃ b, n / 2 = b := ⟨_, rfl⟩
  have e1 : (reqM n).rp = (a : Int) := by rw [← ha]; rfl
  have e2 : (reqM n).id = (b : Int) := by rw [← hb]; rfl
  rw [e1, e2]
  show Calls _ _ _ _ fun e w' => e = .returned (.agg #[.int .u64 0, .int .u64 (a : Int), .int .u32 (b : Int), .int .u16 0, .int .u16 0, .int .u64 0, .int .u32 0, .int .u8 0, .int .u64 0, .int .u64 (n : Int), .slice none 0 0]) ∧ _
  have h1 : (n : Int) % 2 = (a : Int) := by omega
  have h2 : (n : Int).tmod 2 = (a : Int) := by rw [Int.tmod_eq_emod_of_nonneg (by omega)]; exact h1
  have h3 : (n : Int) / 2 = (b : Int) := by omega
  have h4 : (n : Int).tdiv 2 = (b : Int) := by rw [Int.tdiv_eq_ediv_of_nonneg (by omega)]; exact h3
  have h5 : (b : Int) % 24 = (b : Int) := by omega
  have h6 : (b : Int).tmod 24 = (b : Int) := by rw [Int.tmod_eq_emod_of_nonneg (by omega)]; exact h5
  have h7 : (a : Int) % 18446744073709551616 = (a : Int) := by omega
  have h8 : (b : Int) % 4294967296 = (b : Int) := by omega
  have h9 : (n : Int) % 18446744073709551616 = (n : Int) := by omega
  have h10 : (b : Int) % 256 = (b : Int) := by omega
  clear ha hb e1 e2
  go_enter Tryd.func7, Tryd.ntmps7
  go_wp2
  go_returns
  exact ⟨rfl, by go_grown⟩
end Go.Proofs.YtnkfdnmaocfjnaaDoor
