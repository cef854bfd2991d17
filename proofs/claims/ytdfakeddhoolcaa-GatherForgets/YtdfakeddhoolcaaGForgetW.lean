/-
  The walk of GatherForgets.
-/
import Derived.Test.YtdfakeddhoolcaaGAwake
import Derived.Test.YtdfakeddhoolcaaFRead
namespace Go.Proofs.Ytdfakeddhoolcaa
open Go.RowKit
/- all but the first one have come: so many of them -/
def behind (j : Nat) : Nat → Bool := fun k => decide (1 ≤ k) && decide (k ≤ j)
theorem behind_upd (j k : Nat) : upd (behind j) (j + 1) k = behind (j + 1) k := by
  unfold upd behind
  by_cases h : k = j + 1
  · rw [if_pos h]; subst h; simp
  · rw [if_neg h, Bool.eq_iff_iff]; simp; omega
def FgRel (w : World) (g gp c : Nat) (L : List Pa) (P : Nat → Pa) (gk : Nat) (vi : Value) (wq : World) : Prop :=
  ∃ (j : Nat) (G : List (List Pa)), j + gk + 1 = c ∧ vi = .int .i64 (j : Int) ∧ St wq g NoS G ∧ Inv G ∧ One P c (behind j) (c - j) G ∧ Pks wq (some ⟨gp, 0, none⟩) c c L ∧ Foot (· = g) w wq
set_option maxRecDepth 20000 in
set_option maxHeartbeats 3200000 in
theorem walk_forgets (ao : Option Addr) (n cap : Nat) (zs : List Int) (z : Nat) (w : World) (hr : RowOf .u8 w ao n cap zs) (hz : z ≤ 255) :
    Calls Try.prog 6 #[.slice ao n cap, .int .u8 (z : Int)] w fun e w' => e = .returned (.bool true) ∧ Below w.heap.size w w' := by
  obtain ⟨l, hb⟩ := hr.bytes
  have HB := hide hb
  have HL := hide hb.1
  have hnc := hb.2.1
  have hcap : cap ≤ 9223372036854775807 := hb.2.2.1
  clear hr hb
  obtain ⟨s, hs⟩ : ∃ s, 1 + z % 40 = s := ⟨_, rfl⟩
  have h3 : 1 + (z : Int) % 40 = (s : Int) := by omega
  have hs1 : 1 ≤ s := by omega
  have hs2 : s ≤ 40 := by omega
  clear hs
  go_enter Try.func6, Try.ntmps6
  go_wp2_with fail
  refine (awake_any _).mono ?_; rintro e w1 ⟨rfl, b1⟩
  have HB1 := hide b1
  clear b1
  by_cases hn : s * 256 < n
  · go_wp2_with fail
    refine (split_bounds ao n cap 0 1 5 s _ hs1 (by omega) hn).mono ?_; rintro e w2 ⟨rfl, rfl⟩
    have hn2 : 256 < (n : Int) := by omega
    go_wp2
    go_ret
    exact ⟨rfl, HB1.out⟩
  · go_wp2_with fail
    refine (split_yes ao n cap l 0 1 5 s _ (HB.out.carry HB1.out) hs1 (by omega) (by omega)).mono ?_; rintro e W ⟨L, rfl, P2, S2, _, b2⟩
    have HB2 := hide (below_one HB1.out b2)
    have hc := cnt_le n s hs1 (by omega)
    have hc0 := cnt_pos n s
    obtain ⟨c, hcc⟩ : ∃ c, cntF n s = c := ⟨_, rfl⟩
    rw [hcc] at P2 S2 hc hc0 ⊢
    obtain ⟨gp, hgp⟩ : ∃ g, w1.heap.size = g := ⟨_, rfl⟩
    rw [hgp] at P2
    simp only [hgp]
    have HP2 := hide P2
    have HS2 := hide S2
    clear P2 S2 b2 hgp HB1 hcc
    by_cases h2 : c < 2
    · have h2i : (c : Int) < 2 := by omega
      go_wp2
      go_ret
      exact ⟨rfl, HB2.out⟩
    · have h2i : ¬ ((c : Int) < 2) := by omega
      obtain ⟨P, hP⟩ : ∃ P, pkF 0 1 5 l s c = P := ⟨_, rfl⟩
      have HSQ : Hid (Sq P c) := by show Sq _ _; rw [← hP]; exact sq_pk 0 1 5 l s c (by omega) hc (by omega)
      have HNM : Hid (∀ k, k < c → (L.getD k Pa.zero).nm = P k) := fun k hk => by rw [← hP]; exact spl_nm HS2.out k hk
      clear hP
      obtain ⟨g, hgg⟩ : ∃ g, W.heap.size = g := ⟨_, rfl⟩
      obtain ⟨X, hX⟩ : ∃ X, W.alloc (.cells #[.slice none 0 0] 27) = X := ⟨_, rfl⟩
      have bX : Below W.heap.size W X := hX ▸ below_alloc W _
      have HST : Hid (St X g NoS []) := by show St _ _ _ _; rw [← hX, ← hgg]; exact st_new W NoS
      have HFG : Hid (FarK (· = g) (some ⟨gp, 0, none⟩) c L) := HP2.out.far (fun k h => by rw [h, hgg]; exact Nat.le_refl _)
      have HPX := hide (HP2.out.carry bX)
      have HFX : Hid (Foot (· = g) w X) := below_foot _ (below_one HB2.out bX)
      have HWG : Hid (w.heap.size ≤ g) := by show _ ≤ _; rw [← hgg]; exact HB2.out.size
      have HLL : Hid (L.length = c) := HS2.out.1
      have hcut := fun (w : World) => cut_pks w (some ⟨gp, 0, none⟩) c c 1 (by omega)
      simp only [Option.map_some, add0, Nat.one_mul, show ¬ (c = 1) from by omega, if_false, Int.natCast_one] at hcut
      obtain ⟨d, hd⟩ : ∃ d, c - 1 = d := ⟨_, rfl⟩
      rw [hd] at hcut
      have hdc : d + 1 = c := by omega
      have hd256 : d ≤ 256 := by omega
      clear bX hd
      go_wp2_with fail
      go_loopg [44] d (fun gk vi wq => FgRel w g gp c L P gk vi wq)
      case atStart => exact ⟨0, [], by omega, rfl, HST.out, inv_nil, (one_nil (P := P) (by omega)).ext (by omega) (fun k _ => by unfold behind; simp; omega), HPX.out, HFX.out⟩
      case round =>
        obtain ⟨j, G, hj, rfl, st, inv, one, pk, ft⟩ := hrel
        have HS := hide st
        have HI := hide inv
        have HO := hide one
        have HP := hide pk
        have HF := hide ft
        clear st inv one pk ft hcut hX hgg
        cases gk with
        | zero =>
          obtain rfl : j = d := by omega
          have hlt : ¬ ((j : Int) < (j : Int)) := by omega
          go_wp2_with fail
          refine (forget_any _ HS.out).mono ?_; rintro e w3 ⟨rfl, st3, ft3⟩
          have HS3 := hide st3
          have HF3 := hide (HF.out.then ft3)
          have HP3 := hide (HP.out.foot ft3 HFG.out)
          have hm0 := getK_mem L 0 (by rw [HLL.out]; omega)
          have hnm := HNM.out 0 (by omega)
          have e0 := HP3.out.elem 0 (by omega)
          obtain ⟨y, hy⟩ : ∃ y, L.getD 0 Pa.zero = y := ⟨_, rfl⟩
          rw [hy] at hm0 hnm e0
          obtain ⟨c0, c1, c2, c3, c4, c5⟩ := e0
          simp only [add0, Nat.zero_mul, Nat.zero_add] at c0 c1 c2 c3 c4 c5
          have HM := hide hm0
          have HY := hide hnm
          obtain ⟨n3, o3⟩ := one_next HSQ.out (one_nil (P := P) (show 0 < c by omega)) (show 0 < c by omega) rfl (by omega)
          have HE3 := hide n3
          have HL3 : Hid ((addF [] (P 0)).2.length = 1) := by show _ = _; rw [o3.len, if_pos (by omega)]
          clear st3 ft3 n3 o3 hm0 hnm hy
          go_wp2_with fail
          refine (step_any _ y HS3.out inv_nil noS (HP3.out.2 _ HM.out) (HFG.out.2 _ HM.out)).mono ?_; rintro e w4 ⟨st4, ft4, hno4, _⟩
          rw [HY.out] at st4 hno4
          obtain rfl := hno4 HE3.out
          have HST4 := hide st4
          have HB4 := hide (foot_below (HF3.out.then ft4) HWG.out)
          clear st4 ft4 hno4
          go_wp2_with fail
          refine (waiting_any _ HST4.out).mono ?_; rintro e w5 ⟨rfl, rfl⟩
          rw [HL3.out]
          go_wp2
          go_ret
          exact ⟨rfl, HB4.out⟩
        | succ g1 =>
          have hjd : j < d := by omega
          have hlt : (j : Int) < (d : Int) := by omega
          have ht := HP.out.tail 1 (by omega)
          simp only [Option.map_some, add0, Nat.one_mul, show ¬ (c = 1) from by omega, if_false] at ht
          have e0 := ht.elem j (by omega)
          have hget : (L.drop 1).getD j Pa.zero = L.getD (j + 1) Pa.zero := by simp [List.getD_eq_getElem?_getD]
          rw [hget] at e0
          have hm0 := getK_mem L (j + 1) (by rw [HLL.out]; omega)
          have hnm := HNM.out (j + 1) (by omega)
          obtain ⟨y, hy⟩ : ∃ y, L.getD (j + 1) Pa.zero = y := ⟨_, rfl⟩
          rw [hy] at hm0 hnm e0
          obtain ⟨c0, c1, c2, c3, c4, c5⟩ := e0
          simp only [addN] at c0 c1 c2 c3 c4 c5
          obtain ⟨Y, hY⟩ : ∃ Y, wr.alloc (.cells #[.int .i64 y.f, .int .i64 y.t, .int .u64 y.i, .int .i64 y.x, .int .i64 y.c, .slice y.so y.sn y.sc] 35) = Y := ⟨_, rfl⟩
          have hbx : BoxK Y wr.heap.size y := hY ▸ boxK_new wr y
          have bY : Below wr.heap.size wr Y := hY ▸ below_alloc wr _
          obtain ⟨d0, d1, d2, d3, d4, d5⟩ := hbx.six (Below.refl _ _)
          have HM := hide hm0
          have HY := hide hnm
          have HBY := hide bY
          obtain ⟨n3, o3⟩ := one_next (k := j + 1) HSQ.out HO.out (by omega) (by unfold behind; simp) (by omega)
          have HE3 := hide n3
          have HO3 := hide o3
          clear hm0 hnm hy hget hbx bY n3 o3 ht
          go_wp2_with fail
          refine (step_any _ y (HS.out.grow HBY.out) HI.out noS (Bts.carry (HP.out.2 _ HM.out) HBY.out) (HFG.out.2 _ HM.out)).mono ?_; rintro e w4 ⟨st4, ft4, hno4, _⟩
          rw [HY.out] at st4 hno4
          obtain rfl := hno4 HE3.out
          have HST4 := hide st4
          have HF4 := hide ((HF.out.then (below_foot _ HBY.out)).then ft4)
          have HP4 := hide ((HP.out.carry HBY.out).foot ft4 HFG.out)
          clear st4 ft4 hno4
          go_wp2
          go_roundg g1
          case measure => omega
          case rel => exact ⟨j + 1, _, by omega, by go_num, HST4.out, HI.out.add _, HO3.out.ext (by omega) (fun k _ => behind_upd j k), HP4.out, HF4.out⟩
end Go.Proofs.Ytdfakeddhoolcaa
