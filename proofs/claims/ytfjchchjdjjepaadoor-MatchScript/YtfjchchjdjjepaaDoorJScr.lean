/-
  A match and the statement's own two rows in one memory: what stays of them when one of them turns.
-/
import Derived.Test.YtfjchchjdjjepaaDoorJAct
import Derived.Test.YtfjchchjdjjepaaDoorJSame
namespace Go.Proofs.YtfjchchjdjjepaaDoor
open Go.RowKit
theorem Tryd.infoL : (Tryd.prog.info? 41).map (fun i => (i.zero, i.size, i.bytes)) = some (some (.agg #[.int .u64 0, .int .i64 0]), 2, 16) := by kernel_rfl
theorem Tryd.sizeOfL (w : World) : (sizeOf 41).run Tryd.prog w = .ok 2 w := by kernel_rfl
/- no thread waits twice; threads of 0 to 7 -/
structure Inv (T : List Wt) : Prop where
  nd : T.Pairwise fun a b => a.t ≠ b.t
  lo : ∀ y ∈ T, 0 ≤ y.t ∧ y.t < 8
theorem inv_nil : Inv [] := ⟨List.Pairwise.nil, fun _ h => by cases h⟩
theorem Inv.sub {T U : List Wt} (h : Inv T) (s : U.Sublist T) : Inv U := ⟨h.nd.sublist s, fun y hy => h.lo y (s.subset hy)⟩
theorem Inv.erase {T : List Wt} (h : Inv T) (i : Nat) : Inv (T.eraseIdx i) := h.sub (List.eraseIdx_sublist T i)
theorem waits_no {T : List Wt} {t : Int} (h : waitsF T t = false) : ∀ y ∈ T, y.t ≠ t := fun y hy e => by
  unfold waitsF at h
  rw [List.any_eq_false] at h
  exact h y hy (by unfold isT; simp [e])
theorem Inv.snoc {T : List Wt} (h : Inv T) (p t : Int) (hw : waitsF T t = false) (ht : 0 ≤ t ∧ t < 8) : Inv (T ++ [⟨p, t⟩]) := by
  refine ⟨?_, fun y hy => ?_⟩
  · rw [List.pairwise_append]
    refine ⟨h.nd, List.pairwise_singleton _ _, fun a ha b hb => ?_⟩
    rw [List.mem_singleton.1 hb]
    exact waits_no hw a ha
  · rcases List.mem_append.1 hy with hy | hy
    · exact h.lo y hy
    · rw [List.mem_singleton.1 hy]; exact ht
/- those of other threads -/
def dropT (t : Int) (T : List Wt) : List Wt := T.filter fun y => !(isT t y)
theorem dropT_append (t : Int) (A B : List Wt) : dropT t (A ++ B) = dropT t A ++ dropT t B := by unfold dropT; simp
theorem takeW_snoc (T : List Wt) (k : Nat) (h : k < T.length) : T.take (k + 1) = T.take k ++ [T.getD k Wt.zero] := by
  rw [List.take_add_one, List.getElem?_eq_getElem h, List.getD_eq_getElem?_getD, List.getElem?_eq_getElem h]; rfl
theorem dropT_no {T : List Wt} {t : Int} (h : waitsF T t = false) : dropT t T = T := by
  unfold dropT
  rw [List.filter_eq_self]
  intro y hy
  unfold waitsF at h
  rw [List.any_eq_false] at h
  have := h y hy
  simpa using this
theorem first_or {α : Type} (q : α → Bool) (z : α) (T : List α) : (∃ i, First q z T i) ∨ T.any q = false := by
  induction T with
  | nil => exact .inr rfl
  | cons y T ih =>
    by_cases h : q y = true
    · exact .inl ⟨0, by simp, h, fun j hj => absurd hj (Nat.not_lt_zero _)⟩
    · have h' : q y = false := by simpa using h
      rcases ih with ⟨i, h1, h2, h3⟩ | h0
      · refine .inl ⟨i + 1, by simpa using h1, h2, fun j hj => ?_⟩
        cases j with
        | zero => exact h'
        | succ j => exact h3 j (by omega)
      · exact .inr (by rw [List.any_cons, h', h0]; rfl)
theorem First.any {q : Wt → Bool} {T : List Wt} {i : Nat} (h : First q Wt.zero T i) : T.any q = true := any_yes h.1 h.2.1
/- of threads that wait once each: the first of a thread is all of it -/
theorem dropT_erase {t : Int} : ∀ {T : List Wt} {i : Nat}, T.Pairwise (fun a b => a.t ≠ b.t) → First (isT t) Wt.zero T i → dropT t T = T.eraseIdx i := by
  intro T
  induction T with
  | nil => intro i _ h; exact absurd h.1 (Nat.not_lt_zero _)
  | cons y T ih =>
    intro i hn h
    rw [List.pairwise_cons] at hn
    cases i with
    | zero =>
      have hy : isT t y = true := h.2.1
      have ht : y.t = t := by unfold isT at hy; simpa using hy
      unfold dropT
      rw [List.filter_cons_of_neg (by rw [hy]; decide), List.eraseIdx_cons_zero, List.filter_eq_self]
      intro a ha
      have := hn.1 a ha
      unfold isT
      simp only [Bool.not_eq_eq_eq_not, Bool.not_true, beq_eq_false_iff_ne, ne_eq]
      omega
    | succ i =>
      have hy : isT t y = false := h.2.2 0 (by omega)
      unfold dropT
      rw [List.filter_cons_of_pos (by rw [hy]; decide), List.eraseIdx_cons_succ]
      exact congrArg _ (ih hn.2 ⟨by simpa using h.1, h.2.1, fun j hj => h.2.2 (j + 1) (by omega)⟩)
theorem few_waits (n : Nat) : ∀ T : List Wt, T.Pairwise (fun a b => a.t ≠ b.t) → (∀ y ∈ T, 0 ≤ y.t ∧ y.t < (n : Int)) → T.length ≤ n := by
  induction n with
  | zero =>
    intro T _ h
    cases T with
    | nil => exact Nat.le_refl _
    | cons y T => have := h y (List.mem_cons_self ..); omega
  | succ n ih =>
    intro T hn h
    have h1 := ih (dropT (n : Int) T) (hn.sublist List.filter_sublist) (fun y hy => by
      have hm := List.mem_filter.1 hy
      have := h y hm.1
      have hne : y.t ≠ (n : Int) := by
        have := hm.2
        unfold isT at this
        simpa using this
      omega)
    rcases first_or (isT (n : Int)) Wt.zero T with ⟨i, hi⟩ | h0
    · rw [dropT_erase hn hi, List.length_eraseIdx, if_pos hi.1] at h1
      have := hi.1
      omega
    · rw [dropT_no h0] at h1
      omega
theorem Inv.few {T : List Wt} (h : Inv T) : T.length ≤ 8 := few_waits 8 T h.nd h.lo
/- appends to an own row of the statement's waits -/
theorem app_w {W : World} {B n sn sc : Nat} {v : Value} {xs ys : List Value} {so : Option Addr} (own : W.ownsRow B 41 2 v n xs) (hl : Lies 2 W so sn sc ys) (ho : ∀ u ∈ ys, u.oneCell' = true) (hn : n + sn ≤ 100000) (hB : B ≤ W.heap.size) :
    ∃ v' w', (Builtin.append_ #[29, 29] 29 #[v, .slice so sn sc]).run Tryd.prog W = .ok v' w' ∧ w'.ownsRow B 41 2 v' (n + sn) (xs ++ ys) ∧ W.grownBy w' v.ownBlock ∧ ∀ k, v'.ownBlock = some k → v.ownBlock = some k ∨ W.heap.size ≤ k := by
  obtain ⟨i0, hi0, hz0, hz1, hz2⟩ := info_parts Tryd.infoL
  cases so with
  | none =>
    obtain rfl : sc = 0 := hl.2.2.2.1 rfl
    obtain rfl : sn = 0 := by have := hl.2.1; omega
    obtain rfl : ys = [] := List.eq_nil_of_length_eq_zero (by simpa using hl.1)
    obtain ⟨a, cap, rfl, h2⟩ := owns_lies own
    exact ⟨_, _, app_none W Tryd.underlying29 hi0 a n cap h2.2.1 h2.2.2.2.1, by rw [List.append_nil]; exact own, ⟨rfl, rfl, rfl, Nat.le_refl _, fun _ _ _ => rfl⟩, fun k e => .inl e⟩
  | some ad =>
    obtain ⟨v', w3, hr, hown3, hgr3, _, hbl⟩ := run_append_own_at (P := Tryd.prog) W B 29 29 41 i0 _ 2 16 Tryd.underlying29 hi0 hz0 hz1 hz2 rfl (by omega) v n _ own ad sn sc ys hl.1 (hl.2.2.2.2 ad rfl) ho (by unfold maxLen; omega) (by omega) hB
    refine ⟨v', w3, hr, hown3, hgr3, fun k hk => ?_⟩
    rcases hbl with h | h
    · exact .inl (by rw [← h]; exact hk)
    · rw [h] at hk
      have := Option.some.inj hk
      exact .inr (by omega)
/- one more in an own row of the statement's waits -/
theorem app_w1 {W : World} {B n : Nat} {v : Value} {xs : List Value} (y : Wt) (own : W.ownsRow B 41 2 v n xs) (hn : n ≤ 99999) (hB : B ≤ W.heap.size) :
    ∃ ao c w', (Builtin.append_ #[29, 29] 29 #[v, .slice (some ⟨W.heap.size, 0, none⟩) 1 1]).run Tryd.prog (W.alloc (.cells #[.int .u64 y.p, .int .i64 y.t] 41)) = .ok (.slice ao (n + 1) c) w' ∧ w'.ownsRow B 41 2 (.slice ao (n + 1) c) (n + 1) (xs ++ cellsW [y]) ∧ Foot (fun k => v.ownBlock = some k) W w' ∧ ∀ k, (Value.slice ao (n + 1) c).ownBlock = some k → v.ownBlock = some k ∨ W.heap.size ≤ k := by
  have b := below_alloc W (.cells #[.int .u64 y.p, .int .i64 y.t] 41)
  have hl : Lies 2 (W.alloc (.cells #[.int .u64 y.p, .int .i64 y.t] 41)) (some ⟨W.heap.size, 0, none⟩) 1 1 (cellsW [y]) := lies_alloc rfl rfl (by omega)
  obtain ⟨v', w3, hr, ho, hg, hb⟩ := app_w (owns_carry own b) hl (cellsW_one _) (by omega) (Nat.le_trans hB b.size)
  obtain ⟨ao, c, rfl⟩ := owns_slice ho
  exact ⟨ao, c, w3, hr, ho, (below_foot _ b).then (grown_foot hg), fun k e => (hb k e).imp id (fun h => Nat.le_trans b.size h)⟩
/- the rows' blocks -/
def Bl (va vb : Value) (k : Nat) : Prop := va.ownBlock = some k ∨ vb.ownBlock = some k
/- a match with U and L in it, the statement's rows T and R beside it -/
structure Sc (w0 wq : World) (g : Nat) (va vb : Value) (T : List Wt) (R : List Ms) (U : List Wt) (L : List Ms) : Prop where
  st : St wq g (Bl va vb) U L
  wt : wq.ownsRow w0.heap.size 41 2 va T.length (cellsW T)
  rq : wq.ownsRow w0.heap.size 37 11 vb R.length (cellsM R)
  low : ∀ p ∈ R, p.has w0 ∧ p.sn ≤ 140737488355328
  bel : Below w0.heap.size w0 wq
  gl : w0.heap.size ≤ g
variable {w0 w w' : World} {g : Nat} {va vb : Value} {T U U' : List Wt} {R L L' : List Ms}
theorem Sc.lt (x : Sc w0 w g va vb T R U L) (k : Nat) (h : Bl va vb k) : k < w.heap.size := by
  rcases h with h | h
  · exact (owns_lt x.wt h).1
  · exact (owns_lt x.rq h).1
theorem Sc.ge (x : Sc w0 w g va vb T R U L) (k : Nat) (h : Bl va vb k) : w0.heap.size ≤ k := by
  rcases h with h | h
  · exact (owns_lt x.wt h).2
  · exact (owns_lt x.rq h).2
theorem Sc.na (x : Sc w0 w g va vb T R U L) : ¬ va.ownBlock = some g := fun h => by
  obtain ⟨cur, hc⟩ := owns_type x.wt h
  obtain ⟨cur2, hc2⟩ := x.st.type
  exact two_types hc hc2 (by decide) rfl
theorem Sc.nb (x : Sc w0 w g va vb T R U L) : ¬ vb.ownBlock = some g := fun h => by
  obtain ⟨cur, hc⟩ := owns_type x.rq h
  obtain ⟨cur2, hc2⟩ := x.st.type
  exact two_types hc hc2 (by decide) rfl
/- the two rows lie apart -/
theorem Sc.ab (x : Sc w0 w g va vb T R U L) (k : Nat) (h : va.ownBlock = some k) : ¬ vb.ownBlock = some k := fun h2 => by
  obtain ⟨cur, hc⟩ := owns_type x.wt h
  obtain ⟨cur2, hc2⟩ := owns_type x.rq h2
  exact two_types hc hc2 (by decide) rfl
theorem Sc.has (x : Sc w0 w g va vb T R U L) {p : Ms} (hp : p ∈ R) : p.has w := Bts.carry (x.low p hp).1 x.bel
theorem Sc.grow (x : Sc w0 w g va vb T R U L) (b : Below w.heap.size w w') : Sc w0 w' g va vb T R U L :=
  ⟨x.st.grow b, owns_carry x.wt b, owns_carry x.rq b, x.low, below_one x.bel b, x.gl⟩
/- the match turns -/
theorem Sc.deed (x : Sc w0 w g va vb T R U L) (e : MtEnd w g (Bl va vb) U' L' w') : Sc w0 w' g va vb T R U' L' :=
  ⟨e.1, owns_foot x.wt e.2 (fun k h (e : k = g) => x.na (by rw [← e]; exact h)), owns_foot x.rq e.2 (fun k h (e : k = g) => x.nb (by rw [← e]; exact h)), x.low, foot_on x.bel x.gl e.2, x.gl⟩
/- one of the statement's waits more -/
theorem Sc.appT (x : Sc w0 w g va vb T R U L) (y : Wt) (hn : T.length ≤ 99999) :
    ∃ ao c w', (Builtin.append_ #[29, 29] 29 #[va, .slice (some ⟨w.heap.size, 0, none⟩) 1 1]).run Tryd.prog (w.alloc (.cells #[.int .u64 y.p, .int .i64 y.t] 41)) = .ok (.slice ao (T.length + 1) c) w' ∧ Sc w0 w' g (.slice ao (T.length + 1) c) vb (T ++ [y]) R U L := by
  obtain ⟨ao, c, w2, hr, ho, hf, hb⟩ := app_w1 y x.wt hn x.bel.size
  have e1 : (T ++ [y]).length = T.length + 1 := by simp
  rw [← cellsW_append] at ho
  refine ⟨ao, c, w2, hr, ?_, by rw [e1]; exact ho, owns_foot x.rq hf (fun k h e => x.ab k e h), x.low, x.bel.trans (hf.below x.bel.size (fun k h => (owns_lt x.wt h).2)), x.gl⟩
  have s0 := x.st.either (S' := fun k => va.ownBlock = some k ∨ Bl (.slice ao (T.length + 1) c) vb k) (fun k h => by
    rcases h with h | h | h
    · exact .inl (.inl h)
    · rcases hb k h with h | h
      · exact .inl (.inl h)
      · exact .inr h
    · exact .inl (.inr h))
  exact (s0.part hf (fun k h => .inl h) x.na).either (fun k h => .inl (.inr h))
/- one request more -/
theorem Sc.appR (x : Sc w0 w g va vb T R U L) (p : Ms) (hp : p.has w0 ∧ p.sn ≤ 140737488355328) (hn : R.length ≤ 99999) :
    ∃ ao c w', (Builtin.append_ #[26, 26] 26 #[vb, .slice (some ⟨w.heap.size, 0, none⟩) 1 1]).run Tryd.prog (w.alloc (.cells #[.int .u64 p.ta, .int .u64 p.rp, .int .u32 p.id, .int .u16 p.op, .int .u16 p.st, .int .u64 p.p, .int .u32 p.o, .int .u8 p.r, .int .u64 p.c, .int .u64 p.ar, .slice p.so p.sn p.sc] 37)) = .ok (.slice ao (R.length + 1) c) w' ∧ Sc w0 w' g va (.slice ao (R.length + 1) c) T (R ++ [p]) U L := by
  obtain ⟨v', w2, hr, ho, hf, hb⟩ := app_more p x.rq hn x.bel.size
  have e1 : (R ++ [p]).length = R.length + 1 := by simp
  rw [← cellsM_append] at ho
  obtain ⟨ao, c, rfl⟩ := owns_slice ho
  refine ⟨ao, c, w2, hr, ?_, owns_foot x.wt hf (fun k h e => x.ab k h e), by rw [e1]; exact ho, fun q hq => ?_, x.bel.trans (hf.below x.bel.size (fun k h => (owns_lt x.rq h).2)), x.gl⟩
  · have s0 := x.st.either (S' := fun k => vb.ownBlock = some k ∨ Bl va (.slice ao (R.length + 1) c) k) (fun k h => by
      rcases h with h | h | h
      · exact .inl (.inr h)
      · exact .inl (.inl h)
      · rcases hb k h with h | h
        · exact .inl (.inr h)
        · exact .inr h)
    exact (s0.part hf (fun k h => .inl h) x.nb).either (fun k h => .inl (.inr h))
  · rcases List.mem_append.1 hq with hq | hq
    · exact x.low q hq
    · rw [List.mem_singleton.1 hq]; exact hp
/- new rows -/
theorem Sc.freshT {v' : Value} {n : Nat} {T' : List Wt} (x : Sc w0 w g va vb T R U L) (b : Below w.heap.size w w') (h : w'.ownsRow w.heap.size 41 2 v' n (cellsW T')) : Sc w0 w' g v' vb T' R U L := by
  have hn : n = T'.length := by have := h.1; rw [cellsW_len] at this; omega
  subst hn
  exact ⟨(x.st.either (S' := Bl v' vb) (fun k e => e.elim (fun e => .inr (owns_lt h e).2) (fun e => .inl (.inr e)))).grow b, owns_base h x.bel.size, owns_carry x.rq b, x.low, below_one x.bel b, x.gl⟩
theorem Sc.freshR {v' : Value} {n : Nat} {R' : List Ms} (x : Sc w0 w g va vb T R U L) (b : Below w.heap.size w w') (h : w'.ownsRow w.heap.size 37 11 v' n (cellsM R')) (hR : ∀ p ∈ R', p ∈ R) : Sc w0 w' g va v' T R' U L := by
  have hn : n = R'.length := by have := h.1; rw [cellsM_len] at this; omega
  subst hn
  exact ⟨(x.st.either (S' := Bl va v') (fun k e => e.elim (fun e => .inl (.inl e)) (fun e => .inr (owns_lt h e).2))).grow b, owns_carry x.wt b, owns_base h x.bel.size, fun p hp => x.low p (hR p hp), below_one x.bel b, x.gl⟩
/- row[:k] and row[k+1:] behind each other, in new memory -/
theorem Sc.cutT {ad : Addr} {rc k n : Nat} (x : Sc w0 w g (.slice (some ad) n rc) vb T R U L) (hk : k < n) (hn : T.length = n) (hm : n ≤ 1024) :
    ∃ v1 w1 ro oc w2, (Builtin.append_ #[29, 29] 29 #[.slice none 0 0, .slice (some ad) k rc]).run Tryd.prog w = .ok v1 w1 ∧
      (Builtin.append_ #[29, 29] 29 #[v1, .slice (tailG 2 (some ad) (k + 1) rc) (n - (k + 1)) (rc - (k + 1))]).run Tryd.prog w1 = .ok (.slice ro (n - 1) oc) w2 ∧ Sc w0 w2 g (.slice ro (n - 1) oc) vb (T.eraseIdx k) R U L := by
  subst hn
  obtain ⟨_, _, e, hp⟩ := owns_lies x.wt
  cases e
  have h1 := hp.head k (by omega)
  have h2 := hp.tail (k + 1) (by omega)
  rw [← cellsW_take] at h1
  rw [← cellsW_drop] at h2
  obtain ⟨v1, w1, r1, o1, g1, _⟩ := app_w (owns_nil w w.heap.size _ _) h1 (cellsW_one _) (by omega) (Nat.le_refl _)
  have b1 : Below w.heap.size w w1 := (grown_foot g1).below (Nat.le_refl _) (fun _ e => by cases e)
  rw [Nat.zero_add, List.nil_append] at o1
  obtain ⟨v2, w2, r2, o2, g2, _⟩ := app_w o1 (h2.carry b1 (Nat.le_refl _)) (cellsW_one _) (by omega) b1.size
  have b2 := below_grown b1 b1.size o1 g2
  rw [← cellsW_append, ← List.eraseIdx_eq_take_drop_succ, show k + (T.length - (k + 1)) = T.length - 1 by omega] at o2
  obtain ⟨ro, oc, rfl, _⟩ := owns_lies o2
  exact ⟨v1, w1, ro, oc, w2, r1, r2, x.freshT b2 o2⟩
theorem Sc.cutR {ad : Addr} {rc k n : Nat} (x : Sc w0 w g va (.slice (some ad) n rc) T R U L) (hk : k < n) (hn : R.length = n) (hm : n ≤ 1024) :
    ∃ v1 w1 ro oc w2, (Builtin.append_ #[26, 26] 26 #[.slice none 0 0, .slice (some ad) k rc]).run Tryd.prog w = .ok v1 w1 ∧
      (Builtin.append_ #[26, 26] 26 #[v1, .slice (tailG 11 (some ad) (k + 1) rc) (n - (k + 1)) (rc - (k + 1))]).run Tryd.prog w1 = .ok (.slice ro (n - 1) oc) w2 ∧ Sc w0 w2 g va (.slice ro (n - 1) oc) T (R.eraseIdx k) U L := by
  subst hn
  obtain ⟨_, _, e, hp⟩ := owns_lies x.rq
  cases e
  have h1 := hp.head k (by omega)
  have h2 := hp.tail (k + 1) (by omega)
  rw [cellsM_take] at h1
  rw [cellsM_drop] at h2
  obtain ⟨v1, w1, r1, o1, g1⟩ := app_ms (owns_nil w w.heap.size _ _) h1 (cellsM_one _) (by omega) (Nat.le_refl _)
  have b1 : Below w.heap.size w w1 := (grown_foot g1).below (Nat.le_refl _) (fun _ e => by cases e)
  rw [Nat.zero_add, List.nil_append] at o1
  obtain ⟨v2, w2, r2, o2, g2⟩ := app_ms o1 (h2.carry b1 (Nat.le_refl _)) (cellsM_one _) (by omega) b1.size
  have b2 := below_grown b1 b1.size o1 g2
  rw [← cellsM_append, ← List.eraseIdx_eq_take_drop_succ, show k + (R.length - (k + 1)) = R.length - 1 by omega] at o2
  obtain ⟨ro, oc, rfl, _⟩ := owns_lies o2
  exact ⟨v1, w1, ro, oc, w2, r1, r2, x.freshR b2 o2 (fun p hp => List.mem_of_mem_eraseIdx hp)⟩
/- a message in a variable stays when a match turns -/
theorem Sc.boxM {b : Nat} {p : Ms} (y : Sc w0 w g va vb T R U L) (h : BoxM w b p) (f : Foot (· = g) w w') : BoxM w' b p := by
  refine h.foot f (fun e => ?_)
  obtain ⟨cur2, hc2⟩ := y.st.type
  exact two_types h hc2 (by decide) e
end Go.Proofs.YtfjchchjdjjepaaDoor
