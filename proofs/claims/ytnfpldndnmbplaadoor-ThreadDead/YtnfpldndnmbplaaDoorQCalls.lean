/-
  The statements' Same, slices.Index, slices.Contains at ints, and runq's place, as contracts.
-/
import Derived.Test.YtnfpldndnmbplaaDoorQRow
namespace Go.Proofs.YtnfpldndnmbplaaDoor
open Go.RowKit
def SameRel (w : World) (L M : List Int) (n gk : Nat) (vi : Value) (wr : World) : Prop := ∃ i : Nat, i + gk = n ∧ vi = .int .i64 (i : Int) ∧ (∀ j, j < i → L.getD j 0 = M.getD j 0) ∧ Below w.heap.size w wr
def BackB (w : World) (q : Bool) (e : Ending) (w' : World) : Prop := e = .returned (.bool q) ∧ Below w.heap.size w w'
set_option maxHeartbeats 800000 in
theorem same_any (ao bo : Option Addr) (n m cap cbp : Nat) (L M : List Int) (w : World) (hA : Nums w ao n cap L) (hB : Nums w bo m cbp M) :
    Calls Tryd.prog 7 #[.slice ao n cap, .slice bo m cbp] w fun e w' => BackB w (decide (L = M)) e w' := by
  have hcap : cap ≤ 9223372036854775807 := hA.2.2.1
  have hcbp : cbp ≤ 9223372036854775807 := hB.2.2.1
  have hnc := hA.2.1
  have hmc := hB.2.1
  have HA := hide hA
  have HB := hide hB
  have HL := hide hA.len
  have HM := hide hB.len
  obtain ⟨q, hq⟩ : ∃ q, decide (L = M) = q := ⟨_, rfl⟩
  rw [hq]
  have HQ := hide hq
  clear hA hB hq
  by_cases hnm : n = m
  · subst hnm
    go_enter Tryd.func7, Tryd.ntmps7
    go_wp2
    go_loopg [13] n (fun gk vi wr => SameRel w L M n gk vi wr)
    case atStart => exact ⟨0, by omega, rfl, fun j hj => by omega, Below.refl _ _⟩
    case round =>
      obtain ⟨i, hi, rfl, hall, b⟩ := hrel
      have HALL := hide hall
      have HBW := hide b
      have HI := hide hi
      clear hall b
      cases gk with
      | zero =>
        obtain rfl : i = n := by omega
        have hlt : ¬ ((i : Int) < (i : Int)) := by omega
        clear hi
        go_wp2
        go_ret
        refine ⟨?_, HBW.out⟩
        rw [← HQ.out, decide_eq_true (listI_ext (by rw [← HL.out, HM.out]) (fun j hj => HALL.out j (by rw [HL.out]; exact hj)))]; rfl
      | succ g1 =>
        have hlt : (i : Int) < (n : Int) := by omega
        have hltn : i < n := by omega
        clear hi
        obtain ⟨ad, rfl⟩ := HA.out.there hltn
        obtain ⟨bd, rfl⟩ := HB.out.there hltn
        obtain ⟨x, hx⟩ : ∃ x, L.getD i 0 = x := ⟨_, rfl⟩
        obtain ⟨y, hy⟩ : ∃ y, M.getD i 0 = y := ⟨_, rfl⟩
        have c0 : ∀ q, (wr.drewN q).cell? (ad.add i) = some (.int .i64 x) := fun q => by rw [← hx]; exact (HA.out.carry (below_drewN HBW.out q)).elem i hltn
        have c1 : ∀ q, (wr.drewN q).cell? (bd.add i) = some (.int .i64 y) := fun q => by rw [← hy]; exact (HB.out.carry (below_drewN HBW.out q)).elem i hltn
        have HX := hide hx
        have HY := hide hy
        clear hx hy
        by_cases hxy : x = y
        · go_wp2_with fail
          go_quiet (fail)
          go_wp2
          go_roundg g1
          case measure => omega
          case rel =>
            refine ⟨i + 1, by have := HI.out; omega, by go_num, fun j hj => ?_, below_drewN HBW.out _⟩
            by_cases e : j = i
            · rw [e, HX.out, HY.out, hxy]
            · exact HALL.out j (by omega)
        · go_wp2_with fail
          go_quiet (fail)
          go_wp2
          go_ret
          refine ⟨?_, below_drewN HBW.out _⟩
          rw [← HQ.out, decide_eq_false (fun e => hxy (by rw [← HX.out, ← HY.out, e]))]; rfl
  · have hne : ¬ ((n : Int) = (m : Int)) := by omega
    go_enter Tryd.func7, Tryd.ntmps7
    go_wp2
    go_ret
    refine ⟨?_, Below.refl _ _⟩
    rw [← HQ.out, decide_eq_false (fun e => hnm (by rw [HL.out, HM.out, e]))]; rfl
def IdxRel (w : World) (L : List Int) (x : Int) (n gk : Nat) (vi : Value) (wr : World) : Prop := ∃ i : Nat, i + gk = n ∧ vi = .int .i64 (i : Int) ∧ (∀ j, j < i → L.getD j 0 ≠ x) ∧ wr = w
theorem not_mem_of {L : List Int} {x : Int} (h : ∀ j, j < L.length → L.getD j 0 ≠ x) : x ∉ L := fun hm => by
  obtain ⟨j, hj, e⟩ := List.mem_iff_getElem.1 hm
  refine h j hj ?_
  rw [List.getD_eq_getElem?_getD, List.getElem?_eq_getElem hj]; exact e
theorem mem_of {L : List Int} {x : Int} {j : Nat} (hj : j < L.length) (h : L.getD j 0 = x) : x ∈ L := by
  rw [← h, List.getD_eq_getElem?_getD, List.getElem?_eq_getElem hj]; exact List.getElem_mem hj
def IdxEnd (w : World) (x : Int) (L : List Int) (e : Ending) (w' : World) : Prop := ∃ z : Int, e = .returned (.int .i64 z) ∧ decide (0 ≤ z) = decide (x ∈ L) ∧ w' = w
set_option maxHeartbeats 800000 in
theorem index_any (x : Int) (ao : Option Addr) (n cap : Nat) (L : List Int) (w : World) (hA : Nums w ao n cap L) :
    Calls Tryd.prog 37 #[.slice ao n cap, .int .i64 x] w fun e w' => IdxEnd w x L e w' := by
  have hcap : cap ≤ 9223372036854775807 := hA.2.2.1
  have hnc := hA.2.1
  have HA := hide hA
  have HL := hide hA.len
  clear hA
  go_enter Tryd.func37, Tryd.ntmps37
  go_wp2
  go_loopg [8] n (fun gk vi wr => IdxRel w L x n gk vi wr)
  case atStart => exact ⟨0, by omega, rfl, fun j hj => by omega, rfl⟩
  case round =>
    obtain ⟨i, hi, rfl, hall, rfl⟩ := hrel
    have HALL := hide hall
    have HI := hide hi
    clear hall
    cases gk with
    | zero =>
      obtain rfl : i = n := by omega
      have hlt : ¬ ((i : Int) < (i : Int)) := by omega
      clear hi
      go_wp2
      go_ret
      refine ⟨-1, rfl, ?_, rfl⟩
      rw [decide_eq_false (not_mem_of (fun j hj => HALL.out j (by rw [HL.out]; exact hj)))]
      rfl
    | succ g1 =>
      have hlt : (i : Int) < (n : Int) := by omega
      have hltn : i < n := by omega
      clear hi
      obtain ⟨ad, rfl⟩ := HA.out.there hltn
      obtain ⟨y, hy⟩ : ∃ y, L.getD i 0 = y := ⟨_, rfl⟩
      have c0 : wr.cell? (ad.add i) = some (.int .i64 y) := by rw [← hy]; exact HA.out.elem i hltn
      have HY := hide hy
      clear hy
      by_cases hxy : x = y
      · go_wp2
        go_ret
        refine ⟨_, rfl, ?_, rfl⟩
        rw [decide_eq_true (mem_of (j := i) (by rw [← HL.out]; exact hltn) (by rw [HY.out, hxy]))]
        exact decide_eq_true (by omega)
      · go_wp2
        go_roundg g1
        case measure => omega
        case rel =>
          refine ⟨i + 1, by have := HI.out; omega, by go_num, fun j hj => ?_, rfl⟩
          by_cases e : j = i
          · rw [e, HY.out]; exact fun h => hxy h.symm
          · exact HALL.out j (by omega)
theorem contains_any (x : Int) (ao : Option Addr) (n cap : Nat) (L : List Int) (w : World) (hA : Nums w ao n cap L) :
    Calls Tryd.prog 32 #[.slice ao n cap, .int .i64 x] w fun e w' => e = .returned (.bool (decide (x ∈ L))) ∧ w' = w := by
  have HA := hide hA
  obtain ⟨q, hq⟩ : ∃ q, decide (x ∈ L) = q := ⟨_, rfl⟩
  rw [hq]
  have HQ := hide hq
  clear hA hq
  go_enter Tryd.func32, Tryd.ntmps32
  go_wp2_with fail
  refine (index_any x ao n cap L _ HA.out).mono ?_; rintro e w1 ⟨z, rfl, hz, rfl⟩
  have HZ := hide hz
  clear hz
  go_wp2
  go_ret
  refine ⟨?_, rfl⟩
  rw [← HQ.out, ← HZ.out]; rfl
theorem place_any (p : Int) (n : Nat) (w : World) (h0 : 0 < n) (hn : n ≤ 9223372036854775807) :
    Calls Tryd.prog 30 #[.int .i64 p, .int .i64 (n : Int)] w fun e w' => e = .returned (.int .i64 ((placeF p n : Nat) : Int)) ∧ w' = w := by
  have HP := hide (placeF_is p n h0)
  obtain ⟨k, hk⟩ : ∃ k, placeF p n = k := ⟨_, rfl⟩
  rw [hk]
  rw [hk] at HP
  have hz : ¬ ((n : Int) = 0) := by omega
  have h1 := Int.emod_nonneg p (show (n : Int) ≠ 0 by omega)
  have h2 := Int.emod_lt_of_pos p (show (0 : Int) < (n : Int) by omega)
  have h3 := Int.tmod_eq_emod (a := p) (b := (n : Int))
  obtain ⟨r, hr⟩ : ∃ r, p.tmod (n : Int) = r := ⟨_, rfl⟩
  rw [hr] at h3
  have hk2 : (k : Int) = p % (n : Int) := HP.out
  rw [← hk2] at h1 h2 h3
  have hneg : ¬ ((n : Int) < 0) := by omega
  have hdiv : ∀ a b : Int, a.natAbs = a.natAbs ∧ b = b := fun _ _ => ⟨rfl, rfl⟩
  clear hdiv hk HP
  by_cases hr0 : r < 0
  · have e : (k : Int) = r + (n : Int) := by
      split at h3 <;> omega
    have HE := hide e
    have hw : -9223372036854775808 ≤ r + (n : Int) ∧ r + (n : Int) ≤ 9223372036854775807 := by omega
    clear h3 hk2 e
    go_enter Tryd.func30, Tryd.ntmps30
    go_wp2
    go_ret
    exact ⟨by rw [HE.out]; rfl, rfl⟩
  · have e : (k : Int) = r := by
      split at h3 <;> omega
    have HE := hide e
    clear h3 hk2 e
    go_enter Tryd.func30, Tryd.ntmps30
    go_wp2
    go_ret
    exact ⟨by rw [HE.out]; rfl, rfl⟩
end Go.Proofs.YtnfpldndnmbplaaDoor
