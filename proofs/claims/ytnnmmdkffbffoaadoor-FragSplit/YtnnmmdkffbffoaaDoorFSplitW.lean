/-
  The walk of FragSplit.
-/
import Derived.Test.YtnnmmdkffbffoaaDoorQNum
import Derived.Lib.MinMax
namespace Go.Proofs.YtnnmmdkffbffoaaDoor
open Go.RowKit
def SwRel (w : World) (c gk : Nat) (vi : Value) (wq : World) : Prop := ∃ k : Nat, k + gk = c ∧ vi = .int .i64 (k : Int) ∧ Below w.heap.size w wq
set_option maxRecDepth 20000 in
set_option maxHeartbeats 3200000 in
theorem walk_split (ao : Option Addr) (n cap : Nat) (zs : List Int) (f t i z : Int) (w : World) (hr : RowOf .u8 w ao n cap zs) (hcp : cap ≤ 140737488351232) (hg : Glob w) :
    Calls Tryd.prog 3 #[.slice ao n cap, .int .i64 f, .int .i64 t, .int .u64 i, .int .i64 z] w fun e w' => e = .returned (.bool true) ∧ Below w.heap.size w w' := by
  obtain ⟨l, hb⟩ := hr.bytes
  have HB := hide hb
  have HG := hide hg
  have HL := hide hb.1
  have hnc := hb.2.1
  clear hr hb hg
  by_cases hz : z < 1 ∨ 32768 < z
  · have HZ := hide hz
    by_cases hz1 : z < 1
    · clear hz
      go_enter Tryd.func3, Tryd.ntmps3
      go_wp2_with fail
      refine (awake_any _).mono ?_; rintro e w1 ⟨rfl, b1⟩
      have HB1 := hide b1
      clear b1
      go_wp2_with fail
      refine (split_arg ao n cap f t i z _ HZ.out).mono ?_; rintro e w2 ⟨rfl, rfl⟩
      go_wp2_with fail
      refine (number_errno 4 _ (HG.out.carry HB1.out)).mono ?_; rintro e w3 ⟨rfl, b3⟩
      have HB3 := hide (below_one HB1.out b3)
      clear b3
      go_wp2
      go_ret
      exact ⟨rfl, HB3.out⟩
    · have hz2 : 32768 < z := by omega
      clear hz
      go_enter Tryd.func3, Tryd.ntmps3
      go_wp2_with fail
      refine (awake_any _).mono ?_; rintro e w1 ⟨rfl, b1⟩
      have HB1 := hide b1
      clear b1
      go_wp2_with fail
      refine (split_arg ao n cap f t i z _ HZ.out).mono ?_; rintro e w2 ⟨rfl, rfl⟩
      go_wp2_with fail
      refine (number_errno 4 _ (HG.out.carry HB1.out)).mono ?_; rintro e w3 ⟨rfl, b3⟩
      have HB3 := hide (below_one HB1.out b3)
      clear b3
      go_wp2
      go_ret
      exact ⟨rfl, HB3.out⟩
  · obtain ⟨s, rfl⟩ : ∃ s : Nat, z = (s : Int) := ⟨z.toNat, by omega⟩
    have hs1 : 1 ≤ s := by omega
    have hs2 : s ≤ 32768 := by omega
    have h1 : ¬ ((s : Int) < 1) := by omega
    have h2 : ¬ (32768 < (s : Int)) := by omega
    have hs0 : ¬ ((s : Int) = 0) := by omega
    obtain ⟨q, hq⟩ : ∃ q, n / s = q := ⟨_, rfl⟩
    obtain ⟨r, hr⟩ : ∃ r, n % s = r := ⟨_, rfl⟩
    obtain ⟨c, hc⟩ : ∃ c, cntF n s = c := ⟨_, rfl⟩
    have hq1 : (n : Int) / (s : Int) = (q : Int) := by rw [← hq, Int.natCast_ediv]
    have hq2 : (n : Int).tdiv (s : Int) = (q : Int) := by rw [Int.tdiv_eq_ediv_of_nonneg (by omega)]; exact hq1
    have hr1 : (n : Int) % (s : Int) = (r : Int) := by rw [← hr, Int.natCast_emod]
    have hr2 : (n : Int).tmod (s : Int) = (r : Int) := by rw [Int.tmod_eq_emod_of_nonneg (by omega)]; exact hr1
    have HT : Hid (((0 < r ∨ q = 0) → q + 1 = c) ∧ (¬ (0 < r ∨ q = 0) → q = c)) := by
      refine ⟨fun h => ?_, fun h => ?_⟩
      · rw [← hc, ← hq]; exact cnt_law1 n s hs1 (by rw [hr, hq]; exact h)
      · rw [← hc, ← hq]; exact cnt_law2 n s hs1 (by rw [hr]; omega) (by rw [hq]; omega)
    have HC := hide hc
    have hqn : q ≤ 140737488351232 := by rw [← hq]; exact Nat.le_trans (Nat.div_le_self _ _) (by omega)
    clear hz hq hr hc
    obtain ⟨tt, htt⟩ : ∃ tt, decide (0 < r ∨ q = 0) = tt := ⟨_, rfl⟩
    have HTT := hide htt
    clear htt
    by_cases hn : s * 256 < n
    · have hc256 : (256 : Int) < (c : Int) := by have := cnt_gt n s hs1 hn; rw [HC.out] at this; omega
      go_enter Tryd.func3, Tryd.ntmps3
      go_wp2_with fail
      refine (awake_any _).mono ?_; rintro e w1 ⟨rfl, b1⟩
      have HB1 := hide b1
      clear b1
      go_wp2_with fail
      refine (split_bounds ao n cap f t i s _ hs1 hs2 hn).mono ?_; rintro e W ⟨rfl, rfl⟩
      go_upto_region 7 with fail
      go_cut [54] from 46 to 54 (fun v wx => v = .bool tt ∧ W = wx)
      case first =>
        by_cases hr0 : 0 < r
        · obtain rfl : tt = true := by rw [← HTT.out]; exact decide_eq_true (.inl hr0)
          have hri : (0 : Int) < (r : Int) := by omega
          go_wp2_with fail
          go_meet
          case rel => exact ⟨rfl, rfl⟩
        · have hri : ¬ ((0 : Int) < (r : Int)) := by omega
          have hqi : ((q : Int) == 0) = tt := by
            rw [← HTT.out]
            by_cases h : q = 0
            · subst h; simp
            · rw [decide_eq_false (by omega)]; simp; omega
          go_wp2_with fail
          go_meet
          case rel => exact ⟨rfl, rfl⟩
      case rest =>
        obtain ⟨rfl, rfl⟩ := hcut
        go_upto_if 54 with fail
        go_cut [13] from 55 to 56 (fun v wx => v = .int .i64 (c : Int) ∧ W = wx)
        case first =>
          cases tt with
          | true =>
            have hqc : (q : Int) + 1 = (c : Int) := by have := HT.out.1 (of_decide_eq_true HTT.out); omega
            go_wp2_with fail
            go_meet
            case rel => exact ⟨rfl, rfl⟩
          | false =>
            have hqc : (q : Int) = (c : Int) := by have := HT.out.2 (of_decide_eq_false HTT.out); omega
            go_wp2_with fail
            go_meet
            case rel => exact ⟨by rw [hqc], rfl⟩
        case rest =>
          obtain ⟨rfl, rfl⟩ := hcut
          go_wp2_with fail
          refine (number_errno 13 _ (HG.out.carry HB1.out)).mono ?_; rintro e w3 ⟨rfl, b3⟩
          have HB3 := hide (below_one HB1.out b3)
          clear b3
          go_wp2
          go_ret
          exact ⟨rfl, HB3.out⟩
    · have hc256 : ¬ ((256 : Int) < (c : Int)) := by have := cnt_le n s hs1 (by omega); rw [HC.out] at this; omega
      go_enter Tryd.func3, Tryd.ntmps3
      go_wp2_with fail
      refine (awake_any _).mono ?_; rintro e w1 ⟨rfl, b1⟩
      have HB1 := hide b1
      clear b1
      go_wp2_with fail
      refine (split_yes ao n cap l f t i s _ (HB.out.carry HB1.out) hs1 hs2 (by omega)).mono ?_; rintro e W ⟨L, rfl, P2, S2, _, b2⟩
      have HB2 := hide (below_one HB1.out b2)
      rw [HC.out] at P2 S2 ⊢
      have HP2 := hide P2
      have HS2 := hide S2
      obtain ⟨g, hgg⟩ : ∃ g, w1.heap.size = g := ⟨_, rfl⟩
      rw [hgg] at HP2
      simp only [hgg]
      clear P2 S2 b2 hgg HB1
      go_upto_region 7 with fail
      go_cut [54] from 46 to 54 (fun v wx => v = .bool tt ∧ W = wx)
      case first =>
        by_cases hr0 : 0 < r
        · obtain rfl : tt = true := by rw [← HTT.out]; exact decide_eq_true (.inl hr0)
          have hri : (0 : Int) < (r : Int) := by omega
          go_wp2_with fail
          go_meet
          case rel => exact ⟨rfl, rfl⟩
        · have hri : ¬ ((0 : Int) < (r : Int)) := by omega
          have hqi : ((q : Int) == 0) = tt := by
            rw [← HTT.out]
            by_cases h : q = 0
            · subst h; simp
            · rw [decide_eq_false (by omega)]; simp; omega
          go_wp2_with fail
          go_meet
          case rel => exact ⟨rfl, rfl⟩
      case rest =>
        obtain ⟨rfl, rfl⟩ := hcut
        go_upto_if 54 with fail
        go_cut [13] from 55 to 56 (fun v wx => v = .int .i64 (c : Int) ∧ W = wx)
        case first =>
          cases tt with
          | true =>
            have hqc : (q : Int) + 1 = (c : Int) := by have := HT.out.1 (of_decide_eq_true HTT.out); omega
            go_wp2_with fail
            go_meet
            case rel => exact ⟨rfl, rfl⟩
          | false =>
            have hqc : (q : Int) = (c : Int) := by have := HT.out.2 (of_decide_eq_false HTT.out); omega
            go_wp2_with fail
            go_meet
            case rel => exact ⟨by rw [hqc], rfl⟩
        case rest =>
          obtain ⟨rfl, rfl⟩ := hcut
          clear HT HTT hq1 hq2 hr1 hr2
          go_wp2_with fail
          go_loopg [77] c (fun gk vi wq => SwRel W c gk vi wq)
          case atStart => exact ⟨0, by omega, rfl, Below.refl _ _⟩
          case round =>
            obtain ⟨k, hk, rfl, b⟩ := hrel
            have HBK := hide b
            clear b
            cases gk with
            | zero =>
              obtain rfl : k = c := by omega
              have hlt : ¬ ((k : Int) < (k : Int)) := by omega
              go_wp2
              go_ret
              exact ⟨rfl, below_one HB2.out HBK.out⟩
            | succ g1 =>
              have hkc : k < c := by omega
              have hlt : (k : Int) < (c : Int) := by omega
              obtain ⟨c0, c1, c2, c3, c4, c5⟩ := (HP2.out.carry HBK.out).elem k hkc
              have hbt := (HP2.out.carry HBK.out).bts k hkc
              have hmay := spl_may HS2.out HP2.out (by omega) (by omega) k hkc
              have hsp := HS2.out.2 k hkc
              obtain ⟨y, hy⟩ : ∃ y, L.getD k Pa.zero = y := ⟨_, rfl⟩
              rw [hy] at c0 c1 c2 c3 c4 c5 hbt hmay hsp
              simp only [add0] at c0 c1 c2 c3 c4 c5
              obtain ⟨y1, y2, y3, y4, y5, y6⟩ := hsp
              have HYB := hide hbt
              have HY := hide (And.intro y1 (And.intro y2 (And.intro y3 (And.intro y4 (And.intro y5 y6)))))
              have HMAY := hide hmay
              have hyn : y.sn ≤ 9223372036854775807 := Nat.le_trans hbt.2.1 hbt.2.2.1
              clear hy hbt hmay y1 y2 y3 y4 y5 y6
              obtain ⟨X, hX⟩ : ∃ X, wr.alloc (.cells #[.int .i64 y.f, .int .i64 y.t, .int .u64 y.i, .int .i64 y.x, .int .i64 y.c, .slice y.so y.sn y.sc] 33) = X := ⟨_, rfl⟩
              have HBX : Hid (BoxK X wr.heap.size y) := hX ▸ boxK_new wr y
              have HWX : Hid (Below wr.heap.size wr X) := hX ▸ below_alloc wr _
              have HB4 := hide (below_one HB2.out (below_one HBK.out HWX.out))
              obtain ⟨p, hp⟩ : ∃ p, k * s = p := ⟨_, rfl⟩
              have hpn : p ≤ n := hp ▸ cnt_in n s k hs1 (by rw [HC.out]; exact hkc)
              have hpi : (k : Int) * (s : Int) = (p : Int) := by rw [← hp, Int.natCast_mul]
              obtain ⟨v, hv⟩ : ∃ v, (k + 1) * s = v := ⟨_, rfl⟩
              have hvp : v = p + s := by rw [← hv, ← hp, Nat.add_mul, Nat.one_mul]
              have hvi : ((k : Int) + 1) * (s : Int) = (v : Int) := by rw [← hv, Int.natCast_mul]; rfl
              obtain ⟨m, hm⟩ : ∃ m, min n v = m := ⟨_, rfl⟩
              have hmi : min (n : Int) (v : Int) = (m : Int) := by omega
              have hpm : p ≤ m := by omega
              have hmn : m ≤ n := by omega
              have hcut := fun (w : World) => cut_lh8 w ao n cap p m hpm (by omega)
              have hpart := HB.out.part p m hpm hmn
              rw [← hp, pc_part l s k m (by rw [← hm, hvp, ← HL.out, hp]; exact Nat.min_comm _ _) (by rw [hp, ← HL.out]; exact hpn), hp] at hpart
              have HPART := hide hpart
              obtain ⟨ta, hta⟩ : ∃ ta, tailA ao p cap = ta := ⟨_, rfl⟩
              obtain ⟨d, hd⟩ : ∃ d, m - p = d := ⟨_, rfl⟩
              obtain ⟨cd, hcd⟩ : ∃ cd, cap - p = cd := ⟨_, rfl⟩
              rw [hta, hd, hcd] at HPART
              simp only [hta, hd, hcd] at hcut
              obtain ⟨d0, d1, d2, d3, d4, d5⟩ := HBX.out.six (Below.refl _ _)
              have hv9 : v ≤ 8421376 := by omega
              clear hpart hp hm hta hd hcd hv hvp
              go_wp2_with fail
              refine (same_yes y ⟨f, t, i, (k : Int), (c : Int), ta, d, cd, pcF l s k⟩ _ (Bts.carry HYB.out HWX.out) (HPART.out.carry HB4.out) HY.out.1 HY.out.2.1 HY.out.2.2.1 HY.out.2.2.2.1 HY.out.2.2.2.2.1 HY.out.2.2.2.2.2).mono ?_; rintro e w4 ⟨rfl, b4⟩
              obtain ⟨d0, d1, d2, d3, d4, d5⟩ := HBX.out.six b4
              have HB5 := hide (below_one HBK.out (below_one HWX.out b4))
              clear b4
              go_wp2_with fail
              refine (may_any y _ hyn).mono ?_; rintro e w5 ⟨rfl, b5⟩
              rw [HMAY.out]
              have HB6 := hide (below_one HB5.out b5)
              clear b5
              go_wp2
              go_roundg g1
              case measure => omega
              case rel => exact ⟨k + 1, by omega, by go_num, HB6.out⟩
end Go.Proofs.YtnnmmdkffbffoaaDoor
