/-
  The parts behind addresses, gone through address by address: what the parts so far are, and what the next address makes of them.
-/
import Derived.Test.YtigbicggcohcgaaDoorAMath2
namespace Go.Proofs.YtigbicggcohcgaaDoor
theorem goF_zero (wb : Bool) (L : List Ar) (x n : Int) (out : List Pc) (h : n < 1) : goF wb L x n out = (0, out) := by
  cases L with
  | nil => rw [goF, if_neg (by omega)]
  | cons a L => rw [goF, if_pos h]
theorem goF_skip (wb : Bool) (l1 l2 : List Ar) (x n : Int) (out : List Pc) (h : ∀ y ∈ l1, hasA y x = false) (hn : ¬ n < 1) : goF wb (l1 ++ l2) x n out = goF wb l2 x n out := by
  induction l1 with
  | nil => rfl
  | cons a l1 ih =>
    rw [List.cons_append, goF, if_neg hn, if_neg (by rw [h a (List.mem_cons_self)]; decide)]
    exact ih (fun y hy => h y (List.mem_cons_of_mem _ hy))
theorem mem_take_get {L : List Ar} {i : Nat} {y : Ar} (h : y ∈ L.take i) : ∃ j, j < i ∧ j < L.length ∧ L.getD j Ar.zero = y := by
  obtain ⟨j, hj, rfl⟩ := List.mem_iff_getElem.1 h
  rw [List.length_take] at hj
  exact ⟨j, by omega, by omega, by rw [getD_get (by omega), List.getElem_take]⟩
theorem goF_none {wb : Bool} {L : List Ar} {x n : Int} {out : List Pc} (h : ∀ j, j < L.length → hasA (L.getD j Ar.zero) x = false) (hn : ¬ n < 1) : goF wb L x n out = (13, []) := by
  have := goF_skip wb L [] x n out (fun y hy => by
    obtain ⟨j, hj, rfl⟩ := List.mem_iff_getElem.1 hy
    have := h j hj
    rwa [getD_get hj] at this) hn
  rw [List.append_nil] at this
  rw [this, goF, if_pos (by omega)]
theorem goF_at {wb : Bool} {L : List Ar} (hG : Good L) {x n : Int} {out : List Pc} (hx : I64 x) {i : Nat} (hi : i < L.length) (hh : hasA (L.getD i Ar.zero) x = true) (hn : ¬ n < 1) :
    goF wb L x n out = if wb && !(L.getD i Ar.zero).w then (2, []) else goF wb (L.drop (i + 1)) (x + min n ((L.getD i Ar.zero).s - (x - (L.getD i Ar.zero).b))) (n - min n ((L.getD i Ar.zero).s - (x - (L.getD i Ar.zero).b))) (out ++ [⟨(L.getD i Ar.zero).g, (L.getD i Ar.zero).o + (x - (L.getD i Ar.zero).b), min n ((L.getD i Ar.zero).s - (x - (L.getD i Ar.zero).b))⟩]) := by
  have e := goF_skip wb (L.take i) (L.getD i Ar.zero :: L.drop (i + 1)) x n out (fun y hy => by
    obtain ⟨j, h1, h2, rfl⟩ := mem_take_get hy
    exact hG.only hx hi h2 (by omega) hh) hn
  rw [split_at hi] at e
  rw [e, goF, if_neg hn, if_pos hh]
theorem goF_bad {wb : Bool} {L : List Ar} (hG : Good L) {x n : Int} {out : List Pc} (hx : I64 x) {i : Nat} (hi : i < L.length) (hh : hasA (L.getD i Ar.zero) x = true) (hn : ¬ n < 1) (hb : (wb && !(L.getD i Ar.zero).w) = true) : goF wb L x n out = (2, []) := by
  rw [goF_at hG hx hi hh hn, if_pos hb]
theorem goF_ok {wb : Bool} {L : List Ar} (hG : Good L) {x n : Int} {out : List Pc} (h0 : 0 ≤ x) (h1 : x ≤ 1073741824) {i : Nat} (hi : i < L.length) (hh : hasA (L.getD i Ar.zero) x = true) (hn : ¬ n < 1) (hb : (wb && !(L.getD i Ar.zero).w) = false) (z : Int) (hz : min n ((L.getD i Ar.zero).s - (x - (L.getD i Ar.zero).b)) = z) :
    goF wb L x n out = goF wb L (x + z) (n - z) (out ++ [⟨(L.getD i Ar.zero).g, (L.getD i Ar.zero).o + (x - (L.getD i Ar.zero).b), z⟩]) := by
  have hx : I64 x := ⟨by omega, by omega⟩
  rw [goF_at hG hx hi hh hn, if_neg (by rw [hb]; decide), hz]
  by_cases hz1 : n - z < 1
  · rw [goF_zero _ _ _ _ _ hz1, goF_zero _ _ _ _ _ hz1]
  · have oi := hG.get hi
    obtain ⟨g1, g2⟩ := (has_iff oi hx).1 hh
    have o3 := oi.2.2.1
    have e := goF_skip wb (L.take i ++ [L.getD i Ar.zero]) (L.drop (i + 1)) (x + z) (n - z) (out ++ [⟨(L.getD i Ar.zero).g, (L.getD i Ar.zero).o + (x - (L.getD i Ar.zero).b), z⟩]) (fun y hy => by
      rcases List.mem_append.1 hy with hy | hy
      · obtain ⟨j, h1, h2, rfl⟩ := mem_take_get hy
        have := hG.apart h1 hi
        exact (has_not (hG.get h2) ⟨by omega, by omega⟩).2 (by omega)
      · rw [List.mem_singleton.1 hy]
        exact (has_not oi ⟨by omega, by omega⟩).2 (by omega)) hz1
    rw [List.append_assoc, List.singleton_append, split_at hi] at e
    exact e.symm
/- the parts of the first k addresses from x0 on -/
def Inv (wb : Bool) (L : List Ar) (x0 size : Int) (F : Int × List Pc) (k : Int) (all : List Pc) : Prop :=
  (k = 0 ∧ all = []) ∨ ∃ (i : Nat) (outs : List Pc) (st : Int), 0 < k ∧ i < L.length ∧ hasA (L.getD i Ar.zero) (x0 + k - 1) = true ∧ x0 ≤ st ∧ st ≤ x0 + k - 1 ∧ (L.getD i Ar.zero).b ≤ st ∧ (wb && !(L.getD i Ar.zero).w) = false ∧
    all = outs ++ [⟨(L.getD i Ar.zero).g, (L.getD i Ar.zero).o + (st - (L.getD i Ar.zero).b), x0 + k - st⟩] ∧ goF wb L st (size - (st - x0)) outs = F
structure Near0 (x0 size : Int) : Prop where
  h0 : 0 ≤ x0
  h1 : x0 ≤ 299
  h2 : 0 ≤ size
  h3 : size ≤ 255
theorem Inv.mid {wb : Bool} {L : List Ar} {x0 size : Int} {F : Int × List Pc} {k : Int} {all : List Pc} (h : Inv wb L x0 size F k all) (hG : Good L) (hF : goF wb L x0 size [] = F) (hN : Near0 x0 size) (hk : 0 ≤ k) (hks : k < size) :
    (goF wb L (x0 + k) (size - k) all = F ∧ ∀ i, i < L.length → hasA (L.getD i Ar.zero) (x0 + k) = true → (k = 0 ∨ (L.getD i Ar.zero).b = x0 + k)) ∨
    ∃ (i : Nat) (outs : List Pc) (st : Int), 0 < k ∧ i < L.length ∧ hasA (L.getD i Ar.zero) (x0 + k) = true ∧ x0 ≤ st ∧ st ≤ x0 + k - 1 ∧ (L.getD i Ar.zero).b ≤ st ∧ (L.getD i Ar.zero).b ≠ x0 + k ∧ (wb && !(L.getD i Ar.zero).w) = false ∧
      all = outs ++ [⟨(L.getD i Ar.zero).g, (L.getD i Ar.zero).o + (st - (L.getD i Ar.zero).b), x0 + k - st⟩] ∧ goF wb L st (size - (st - x0)) outs = F := by
  obtain ⟨n0, n1, n2, n3⟩ := hN
  rcases h with ⟨rfl, rfl⟩ | ⟨i, outs, st, h1, hi, h2, h3, h4, h5, h6, h7, h8⟩
  · exact .inl ⟨by rw [show x0 + 0 = x0 by omega, show size - 0 = size by omega]; exact hF, fun _ _ _ => .inl rfl⟩
  · have oi := hG.get hi
    obtain ⟨g1, g2⟩ := (has_iff oi ⟨by omega, by omega⟩).1 h2
    by_cases c : x0 + k < (L.getD i Ar.zero).b + (L.getD i Ar.zero).s
    · exact .inr ⟨i, outs, st, h1, hi, (has_iff oi ⟨by omega, by omega⟩).2 (by omega), h3, h4, h5, by omega, h6, h7, h8⟩
    · refine .inl ⟨?_, fun j hj hh => .inr ?_⟩
      · have hs : hasA (L.getD i Ar.zero) st = true := (has_iff oi ⟨by omega, by omega⟩).2 (by omega)
        have e := goF_ok (out := outs) hG (by omega) (by omega) hi hs (n := size - (st - x0)) (by omega) h6 (x0 + k - st) (by omega)
        rw [show st + (x0 + k - st) = x0 + k by omega, show size - (st - x0) - (x0 + k - st) = size - k by omega, ← h7, h8] at e
        exact e.symm
      · have oj := hG.get hj
        obtain ⟨f1, f2⟩ := (has_iff oj ⟨by omega, by omega⟩).1 hh
        have hne : j ≠ i := by intro e; subst e; omega
        rcases Nat.lt_or_gt_of_ne hne with hlt | hlt
        · have := hG.apart hlt hi; omega
        · have := hG.apart hlt hj; omega
theorem Inv.none {wb : Bool} {L : List Ar} {x0 size : Int} {F : Int × List Pc} {k : Int} {all : List Pc} (h : Inv wb L x0 size F k all) (hG : Good L) (hF : goF wb L x0 size [] = F) (hN : Near0 x0 size) (hk : 0 ≤ k) (hks : k < size) (hno : ∀ j, j < L.length → hasA (L.getD j Ar.zero) (x0 + k) = false) : F = (13, []) := by
  rcases h.mid hG hF hN hk hks with ⟨h1, _⟩ | ⟨i, _, _, _, hi, h2, _⟩
  · rw [← h1]; exact goF_none hno (by omega)
  · rw [hno i hi] at h2; cases h2
theorem Inv.bad {wb : Bool} {L : List Ar} {x0 size : Int} {F : Int × List Pc} {k : Int} {all : List Pc} (h : Inv wb L x0 size F k all) (hG : Good L) (hF : goF wb L x0 size [] = F) (hN : Near0 x0 size) (hk : 0 ≤ k) (hks : k < size) {i : Nat} (hi : i < L.length) (hh : hasA (L.getD i Ar.zero) (x0 + k) = true) (hb : (wb && !(L.getD i Ar.zero).w) = true) : F = (2, []) := by
  have hx : I64 (x0 + k) := ⟨by have := hN.h0; omega, by have := hN.h1; have := hN.h3; omega⟩
  rcases h.mid hG hF hN hk hks with ⟨h1, _⟩ | ⟨j, _, _, _, hj, h2, _, _, _, _, h6, _⟩
  · rw [← h1]; exact goF_bad hG hx hi hh (by omega) hb
  · by_cases e : j = i
    · subst e; rw [hb] at h6; cases h6
    · rw [hG.only hx hi hj e hh] at h2; cases h2
theorem Inv.next {wb : Bool} {L : List Ar} {x0 size : Int} {F : Int × List Pc} {k : Int} {all : List Pc} (h : Inv wb L x0 size F k all) (hG : Good L) (hF : goF wb L x0 size [] = F) (hN : Near0 x0 size) (hk : 0 ≤ k) (hks : k < size) {i : Nat} (hi : i < L.length) (hh : hasA (L.getD i Ar.zero) (x0 + k) = true) (hb : (wb && !(L.getD i Ar.zero).w) = false) :
    ((k = 0 ∨ (L.getD i Ar.zero).b = x0 + k) ∧ Inv wb L x0 size F (k + 1) (all ++ [⟨(L.getD i Ar.zero).g, (L.getD i Ar.zero).o + (x0 + k - (L.getD i Ar.zero).b), 1⟩])) ∨
    (¬ (k = 0) ∧ (L.getD i Ar.zero).b ≠ x0 + k ∧ ∃ outs p, all = outs ++ [p] ∧ 0 ≤ p.z ∧ p.z ≤ 255 ∧ Inv wb L x0 size F (k + 1) (outs ++ [⟨p.g, p.t, p.z + 1⟩])) := by
  have hx : I64 (x0 + k) := ⟨by have := hN.h0; omega, by have := hN.h1; have := hN.h3; omega⟩
  obtain ⟨f1, f2⟩ := (has_iff (hG.get hi) hx).1 hh
  rcases h.mid hG hF hN hk hks with ⟨h1, h2⟩ | ⟨j, outs, st, h0, hj, h2, h3, h4, h5, hne, h6, h7, h8⟩
  · refine .inl ⟨h2 i hi hh, .inr ⟨i, all, x0 + k, by omega, hi, by rw [show x0 + (k + 1) - 1 = x0 + k by omega]; exact hh, by omega, by omega, f1, hb, ?_, ?_⟩⟩
    · rw [show x0 + (k + 1) - (x0 + k) = 1 by omega]
    · rw [show size - (x0 + k - x0) = size - k by omega]; exact h1
  · obtain rfl : j = i := by
      rcases Nat.decEq j i with e | e
      · rw [hG.only hx hi hj e hh] at h2; cases h2
      · exact e
    refine .inr ⟨by omega, hne, outs, _, h7, by simp only; omega, by simp only; have := hN.h3; omega, .inr ⟨j, outs, st, by omega, hi, by rw [show x0 + (k + 1) - 1 = x0 + k by omega]; exact hh, h3, by omega, h5, hb, ?_, h8⟩⟩
    rw [show x0 + k - st + 1 = x0 + (k + 1) - st by omega]
theorem Inv.done {wb : Bool} {L : List Ar} {x0 size : Int} {F : Int × List Pc} {all : List Pc} (h : Inv wb L x0 size F size all) (hG : Good L) (hF : goF wb L x0 size [] = F) (hN : Near0 x0 size) : F = (0, all) := by
  obtain ⟨n0, n1, n2, n3⟩ := hN
  rcases h with ⟨h1, rfl⟩ | ⟨i, outs, st, h1, hi, h2, h3, h4, h5, h6, h7, h8⟩
  · rw [← hF, goF_zero _ _ _ _ _ (by omega)]
  · have oi := hG.get hi
    obtain ⟨g1, g2⟩ := (has_iff oi ⟨by omega, by omega⟩).1 h2
    have hs : hasA (L.getD i Ar.zero) st = true := (has_iff oi ⟨by omega, by omega⟩).2 (by omega)
    have e := goF_ok (out := outs) hG (by omega) (by omega) hi hs (n := size - (st - x0)) (by omega) h6 (x0 + size - st) (by omega)
    rw [← h7, h8] at e
    rw [e, goF_zero _ _ _ _ _ (by omega)]
theorem Inv.len {wb : Bool} {L : List Ar} {x0 size : Int} {F : Int × List Pc} {k : Int} {all : List Pc} (h : Inv wb L x0 size F k all) (hk : ¬ (k = 0)) : all ≠ [] := by
  rcases h with ⟨h1, _⟩ | ⟨_, outs, _, _, _, _, _, _, _, _, h7, _⟩
  · exact absurd h1 hk
  · rw [h7]; simp
end Go.Proofs.YtigbicggcohcgaaDoor
