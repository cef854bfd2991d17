/-
  AmapBounds (P10.3): no addresses below 0, and none beyond the limit, have parts; none at all have none: its walk.
-/
import Derived.Test.YtigbicggcohcgaaDoorAAwake
import Derived.Test.YtigbicggcohcgaaDoorAOpen
namespace Go.Proofs.YtigbicggcohcgaaDoor
open Go.RowKit
def sumZ (ps : List Pc) : Int := (ps.map (·.z)).sum
theorem sumZ_snoc (ps : List Pc) (p : Pc) : sumZ (ps ++ [p]) = sumZ ps + p.z := by simp [sumZ]
theorem goF_sum (wb : Bool) (L : List Ar) (hL : ∀ a ∈ L, okA a) : ∀ (x n : Int) (out : List Pc) (k : Int) (ps : List Pc), 0 ≤ x → 0 ≤ n → x + n ≤ 1073741824 → (∀ p ∈ out, 0 ≤ p.z) → goF wb L x n out = (k, ps) →
    (k = 0 ∧ sumZ ps = sumZ out + n ∧ ∀ p ∈ ps, 0 ≤ p.z) ∨ (k ≠ 0 ∧ ps = []) := by
  induction L with
  | nil =>
    intro x n out k ps h1 h2 h3 h4 h
    rw [goF] at h
    split at h
    · obtain ⟨rfl, rfl⟩ := Prod.mk.inj h; exact .inr ⟨by decide, rfl⟩
    · obtain ⟨rfl, rfl⟩ := Prod.mk.inj h; exact .inl ⟨rfl, by omega, h4⟩
  | cons a L ih =>
    have ih := ih (fun y hy => hL y (List.mem_cons_of_mem _ hy))
    have oa := hL a (List.mem_cons_self)
    intro x n out k ps h1 h2 h3 h4 h
    rw [goF] at h
    split at h
    · obtain ⟨rfl, rfl⟩ := Prod.mk.inj h; exact .inl ⟨rfl, by omega, h4⟩
    · split at h
      · split at h
        · obtain ⟨rfl, rfl⟩ := Prod.mk.inj h; exact .inr ⟨by decide, rfl⟩
        · rename_i hn hh _
          obtain ⟨g1, g2⟩ := (has_iff oa ⟨by omega, by omega⟩).1 hh
          obtain ⟨z, hz⟩ : ∃ z, min n (a.s - (x - a.b)) = z := ⟨_, rfl⟩
          rw [hz] at h
          have hz1 : 0 ≤ z ∧ z ≤ n := by omega
          rcases ih _ _ _ _ _ (by omega) (by omega) (by omega) (fun p hp => by
            rcases List.mem_append.1 hp with hp | hp
            · exact h4 p hp
            · rw [List.mem_singleton.1 hp]; exact hz1.1) h with ⟨k1, k2, k3⟩ | k1
          · refine .inl ⟨k1, ?_, k3⟩
            rw [k2, sumZ_snoc]; simp only; omega
          · exact .inr k1
      · exact ih _ _ _ _ _ h1 h2 h3 h4 h
theorem takePc_snoc (xs : List Pc) (k : Nat) (h : k < xs.length) : xs.take (k + 1) = xs.take k ++ [xs.getD k Pc.zero] := by
  rw [List.take_add_one, List.getElem?_eq_getElem h, List.getD_eq_getElem?_getD, List.getElem?_eq_getElem h]; rfl
theorem sumZ_take (ps : List Pc) (h : ∀ p ∈ ps, 0 ≤ p.z) (i : Nat) : 0 ≤ sumZ (ps.take i) ∧ sumZ (ps.take i) ≤ sumZ ps := by
  have e : sumZ ps = sumZ (ps.take i) + sumZ (ps.drop i) := by
    rw [← Int.zero_add (sumZ (ps.take i) + sumZ (ps.drop i)), Int.zero_add]
    unfold sumZ
    rw [← List.sum_append, ← List.map_append, List.take_append_drop]
  have pos : ∀ l : List Pc, (∀ p ∈ l, 0 ≤ p.z) → 0 ≤ sumZ l := by
    intro l
    induction l with
    | nil => intro _; decide
    | cons p l ih =>
      intro hl
      have h1 := hl p (List.mem_cons_self)
      have h2 := ih (fun q hq => hl q (List.mem_cons_of_mem _ hq))
      have : sumZ (p :: l) = p.z + sumZ l := by simp [sumZ]
      omega
  have p1 := pos (ps.take i) (fun p hp => h p (List.mem_of_mem_take hp))
  have p2 := pos (ps.drop i) (fun p hp => h p (List.mem_of_mem_drop hp))
  omega
theorem near_ok {L : List Ar} (h : Good L) (hn : Near L) : ∀ a ∈ L, okA a ∧ a.o + a.s ≤ 9223372036854775807 := fun a ha => by
  have h1 := h.ok a ha
  have h2 := hn a ha
  have := h1.1
  exact ⟨h1, by omega⟩
theorem pcs_none (L : List Ar) (x : Int) (wb : Bool) (h0 : 0 ≤ x) (h1 : x ≤ 1073741824) : pcsF L x 0 wb = (0, []) := by
  unfold pcsF
  rw [if_neg (by unfold outA; simp; omega)]
  cases L with
  | nil => rw [goF, if_neg (by decide)]
  | cons a L => rw [goF, if_pos (by decide)]
def BndRel (w1 : World) (ps : List Pc) (n gk : Nat) (vs vi : Value) (wr : World) : Prop := ∃ i : Nat, i + gk = n ∧ vi = .int .i64 (i : Int) ∧ vs = .int .i64 (sumZ (ps.take i)) ∧ Below w1.heap.size w1 wr
set_option maxRecDepth 20000 in
set_option maxHeartbeats 3200000 in
theorem walk_bounds (ao : Option Addr) (N cap : Nat) (raw : List Ar) (x n : Int) (wb : Bool) (w : World) (hA : Ars w ao N cap raw) (hx : I64 x) (hn : I64 n) (hg : Glob w) :
    Calls Tryd.prog 6 #[.slice ao N cap, .int .i64 x, .int .i64 n, .bool wb] w fun e w' => e = .returned (.bool true) ∧ Below w.heap.size w w' := by
  have HA := hide hA
  have HG := hide hg
  have HX := hide hx
  have HNN := hide hn
  clear hA hg hx hn
  go_enter Tryd.func6, Tryd.ntmps6
  go_wp2_with fail
  refine (awake_any _ HG.out).mono ?_; rintro e w1 ⟨rfl, b1⟩
  have HB1 := hide b1
  have HA1 := hide (HA.out.carry b1)
  clear b1 HA
  go_wp2_with fail
  refine (make_any ao N cap raw _ HA1.out).mono ?_; rintro e w2 ⟨mo, mc, rfl, A2, b2⟩
  have HM2 := hide A2
  have HB2 := hide (below_one HB1.out b2)
  have hgood := make_good raw
  obtain ⟨L, hL⟩ : ∃ L, makeF raw = L := ⟨_, rfl⟩
  rw [hL] at hgood HM2 ⊢
  obtain ⟨m, hm⟩ : ∃ m, L.length = m := ⟨_, rfl⟩
  rw [hm] at HM2 ⊢
  have HGO := hide hgood
  have HL64 := hide (show L.length ≤ 1000 by have := hgood.1.len; omega)
  clear A2 b2 HA1 HB1 hgood hL hm
  go_wp2_with fail
  refine (rest_any x 1073741824 (by decide) (by decide) _).mono ?_; rintro e w2' ⟨rfl, rfl⟩
  have hr0 := Int.emod_nonneg x (show (1073741824 : Int) ≠ 0 by decide)
  have hr1 := Int.emod_lt_of_pos x (show (0 : Int) < 1073741824 by decide)
  obtain ⟨r, hr⟩ : ∃ r, x % 1073741824 = r := ⟨_, rfl⟩
  rw [hr] at hr0 hr1 ⊢
  have HR := hide (show I64 r from ⟨by omega, by omega⟩)
  have HPN := hide (pcs_none L r wb hr0 (by omega))
  clear hr hr0 hr1
  go_wp2_with fail
  refine (pieces_any r 0 wb mo m mc L _ HM2.out (near_ok HGO.out.1 HGO.out.2) HL64.out HR.out).mono ?_; rintro e w3 ⟨no, nc, rfl, A3, b3⟩
  rw [HPN.out] at A3 ⊢
  rw [erN_zero]
  have HB3 := hide (below_one HB2.out b3)
  have HM3 := hide (HM2.out.carry b3)
  clear A3 b3 HB2 HM2 HPN HR
  go_wp2_with fail
  refine (pieces_any x n wb mo m mc L _ HM3.out (near_ok HGO.out.1 HGO.out.2) HL64.out HX.out).mono ?_; rintro e w4 ⟨po, pc, rfl, A4, b4⟩
  have HB4 := hide (below_one HB3.out b4)
  have HG4 := hide (HG.out.grow HB4.out HG.out.lt)
  have HP4 := hide A4
  clear A4 b4 HB3 HM3
  cases hq : outA x n with
  | true =>
    have e0 : pcsF L x n wb = (13, []) := by unfold pcsF; rw [hq]; rfl
    have hx2 := HX.out.2
    have hn2 := HNN.out.2
    rw [e0, erN_not (by decide)]
    clear HP4 e0
    by_cases h1 : n < 0
    · clear hq hx2 hn2
      go_wp2_with fail
      refine (number_errno 13 _ HG4.out).mono ?_; rintro e w5 ⟨rfl, b5⟩
      have HB5 := hide (below_one HB4.out b5)
      clear b5
      go_wp2
      go_ret
      exact ⟨rfl, HB5.out⟩
    · by_cases h2 : x < 0
      · clear hq hx2 hn2
        go_wp2_with fail
        refine (number_errno 13 _ HG4.out).mono ?_; rintro e w5 ⟨rfl, b5⟩
        have HB5 := hide (below_one HB4.out b5)
        clear b5
        go_wp2
        go_ret
        exact ⟨rfl, HB5.out⟩
      · by_cases h3 : 1073741824 < x
        · clear hq hx2 hn2
          go_wp2_with fail
          refine (number_errno 13 _ HG4.out).mono ?_; rintro e w5 ⟨rfl, b5⟩
          have HB5 := hide (below_one HB4.out b5)
          clear b5
          go_wp2
          go_ret
          exact ⟨rfl, HB5.out⟩
        · have h4 : 1073741824 - x < n := by
            unfold outA at hq; simp at hq; omega
          have hw : IntKind.i64.wrap (1073741824 - x) = 1073741824 - x := wrap_in ⟨by omega, by omega⟩
          clear hq hx2 hn2
          go_wp2_with fail
          refine (number_errno 13 _ HG4.out).mono ?_; rintro e w5 ⟨rfl, b5⟩
          have HB5 := hide (below_one HB4.out b5)
          clear b5
          go_wp2
          go_ret
          exact ⟨rfl, HB5.out⟩
  | false =>
    obtain ⟨h1, h2, h3⟩ := outA_no hq
    obtain ⟨k, ps, hkp⟩ : ∃ k ps, pcsF L x n wb = (k, ps) := ⟨_, _, rfl⟩
    have hsum := goF_sum wb L HGO.out.1.ok x n [] k ps h1 h2 h3 (fun _ h => by simp at h) (by rw [← hkp]; unfold pcsF; rw [hq]; rfl)
    rw [hkp] at HP4 ⊢
    replace HP4 : Hid (Pcs w4 po ps.length pc ps) := HP4
    simp only
    obtain ⟨pn, hpn⟩ : ∃ pn, ps.length = pn := ⟨_, rfl⟩
    rw [hpn] at HP4 ⊢
    have HPN := hide hpn
    have c1 : ¬ (n < 0) := by omega
    have c2 : ¬ (x < 0) := by omega
    have c3 : ¬ (1073741824 < x) := by omega
    have c4 : ¬ (1073741824 - x < n) := by omega
    have hw : IntKind.i64.wrap (1073741824 - x) = 1073741824 - x := wrap_in ⟨by omega, by omega⟩
    have HNX := hide (show 0 ≤ n ∧ n ≤ 1073741824 by omega)
    have hpcap : pc ≤ 9223372036854775807 := HP4.out.2.2.1
    have hpnc : pn ≤ pc := HP4.out.2.1
    clear hkp hq hpn h1 h2 h3
    rcases hsum with ⟨rfl, hs, hpos⟩ | ⟨hk, rfl⟩
    · rw [erN_zero]
      have HS := hide (show sumZ ps = n by rw [hs]; simp [sumZ])
      have HPOS := hide hpos
      clear hs hpos
      go_wp2
      go_loopg [14, 72] pn (fun gk vs vi wr => BndRel w4 ps pn gk vs vi wr)
      case atStart => exact ⟨0, by omega, rfl, rfl, Below.refl _ _⟩
      case round =>
        clear c1 c2 c3 c4 hw
        obtain ⟨i, hi, rfl, rfl, b5⟩ := hrel
        have HB5 := hide b5
        clear b5
        cases gk with
        | zero =>
          obtain rfl : i = pn := by omega
          have hlt : ¬ ((i : Int) < (i : Int)) := by omega
          rw [List.take_of_length_le (by have := HPN.out; omega), HS.out]
          go_wp2
          go_ret
          exact ⟨rfl, HB4.out.trans (HB5.out.mono HB4.out.size)⟩
        | succ g1 =>
          have hlt : (i : Int) < (pn : Int) := by omega
          obtain ⟨ad, rfl⟩ := HP4.out.there (k := i) (by omega)
          obtain ⟨p0, p1, p2⟩ := (HP4.out.carry HB5.out).elem i (by omega)
          have e1 := takePc_snoc ps i (by have := HPN.out; omega)
          obtain ⟨y, hy⟩ : ∃ y, ps.getD i Pc.zero = y := ⟨_, rfl⟩
          rw [hy] at p0 p1 p2 e1
          have s1 := (sumZ_take ps HPOS.out (i + 1))
          rw [e1, sumZ_snoc, HS.out] at s1
          have HE1 := hide (show sumZ (ps.take (i + 1)) = sumZ (ps.take i) + y.z by rw [e1, sumZ_snoc])
          obtain ⟨s, hs⟩ : ∃ s, sumZ (ps.take i) = s := ⟨_, rfl⟩
          rw [hs] at s1 ⊢
          rw [hs] at HE1
          have hw : IntKind.i64.wrap (s + y.z) = s + y.z := wrap_in ⟨by omega, by have := HNX.out; omega⟩
          clear hy e1 s1 hs
          go_wp2
          go_roundg g1
          case measure => omega
          case rel => exact ⟨i + 1, by omega, by go_num, by rw [HE1.out], HB5.out.trans ((below_alloc _ _).mono HB5.out.size)⟩
    · rw [erN_not hk]
      obtain rfl : pn = 0 := HPN.out.symm
      go_wp2
      go_loopg [14, 72] 0 (fun gk vs vi wr => BndRel w4 [] 0 gk vs vi wr)
      case atStart => exact ⟨0, by omega, rfl, rfl, Below.refl _ _⟩
      case round =>
        clear c1 c2 c3 c4 hw
        obtain ⟨i, hi, rfl, rfl, b5⟩ := hrel
        have HB5 := hide b5
        clear b5
        obtain rfl : i = 0 := by omega
        obtain rfl : gk = 0 := by omega
        go_wp2
        go_ret
        exact ⟨rfl, HB4.out.trans (HB5.out.mono HB4.out.size)⟩
end Go.Proofs.YtigbicggcohcgaaDoor
