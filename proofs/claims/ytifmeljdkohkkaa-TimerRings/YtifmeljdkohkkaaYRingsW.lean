/-
  The walk of TimerRings.
-/
import Derived.Test.YtifmeljdkohkkaaYOn
namespace Go.Proofs.Ytifmeljdkohkkaa
open Go.RowKit
def RingRel (w : World) (g : Nat) (x : Int) (n m gk : Nat) (vi : Value) (wr : World) : Prop := ∃ (k : Nat) (t : Int) (v : Value), 1 ≤ k ∧ k + gk = m + 1 ∧ vi = .int .i64 (k : Int) ∧ t = (k : Int) - 1 ∧ Tm wr g g t v (onL x (n : Int) t) ∧ Below w.heap.size w wr
set_option maxRecDepth 20000 in
set_option maxHeartbeats 3200000 in
theorem walk_rings (x : Int) (p q : Nat) (w : World) (hp : p ≤ 255) (hq : q ≤ 255) :
    Calls Try.prog 3 #[.int .i64 x, .int .u8 (p : Int), .int .u8 (q : Int)] w fun e w' => e = .returned (.bool true) ∧ Below w.heap.size w w' := by
  obtain ⟨n, hn⟩ : ∃ n, 1 + p = n := ⟨_, rfl⟩
  have hn1 : 1 + (p : Int) = (n : Int) := by omega
  obtain ⟨r, hr⟩ : ∃ r, q % 20 = r := ⟨_, rfl⟩
  have hr1 : (q : Int) % 20 = (r : Int) := by omega
  obtain ⟨m, hm⟩ : ∃ m, n + r = m := ⟨_, rfl⟩
  have hm1 : (n : Int) + (r : Int) = (m : Int) := by omega
  have HNM : Hid (n ≤ m ∧ 1 ≤ n ∧ m ≤ 1000) := ⟨by omega, by omega, by omega⟩
  obtain ⟨hS1, hS2⟩ := on_set x 0 0 (n : Int) (by omega) (by omega)
  rw [on_nil x 0 0 (by decide), Int.zero_add] at hS2
  rw [on_nil x 0 0 (by decide)] at hS1
  have HS1 := hide hS1
  have HS2 := hide hS2
  clear hn hr hm hS1 hS2
  go_enter Try.func3, Try.ntmps3
  go_wp2_with fail
  refine (awake_any _).mono ?_; rintro e w1 ⟨rfl, b1⟩
  have HB1 := hide (below_one b1 (below_alloc w1 (.cells #[.int .i64 0, .slice none 0 0] 26)))
  have HG := hide b1.size
  have H1 := hide (tm_new w1)
  clear b1
  go_wp2_with fail
  obtain ⟨g, hg⟩ : ∃ g, w1.heap.size = g := ⟨_, rfl⟩
  rw [hg] at HG H1
  simp only [hg]
  clear hg
  refine (set_any x (n : Int) _ H1.out (by decide) (by decide)).mono ?_; rintro e w2 ⟨rfl, h2⟩
  obtain ⟨v2, x2, b2⟩ := h2.below HB1.out HG.out
  rw [HS2.out] at x2
  rw [HS1.out, erN_zero]
  have H2 := hide x2
  have HB2 := hide b2
  clear h2 x2 b2 H1 HB1
  go_wp2
  go_loopg [9] m (fun gk vi wr => RingRel w g x n m gk vi wr)
  case atStart => exact ⟨1, 0, v2, by omega, by omega, rfl, by omega, H2.out, HB2.out⟩
  case round =>
    clear H2 HB2
    obtain ⟨k, t, v, hk0, hk, rfl, ht, h1, b1⟩ := hrel
    have H1 := hide h1
    have HB := hide b1
    have HK := hide hk
    have HT := hide ht
    clear h1 b1
    cases gk with
    | succ g1 =>
      have hle : (k : Int) ≤ (m : Int) := by omega
      have htk : t + 1 = (k : Int) := by omega
      have HRI := hide (on_ring x (n : Int) t)
      have HRE := hide (on_rest x (n : Int) t)
      rw [htk] at HRI HRE
      clear hk ht
      go_wp2_with fail
      refine (tick_any _ H1.out (by have := on_len x (n : Int) t; omega) (by have := HT.out; have := HNM.out; omega)).mono ?_; rintro e w3 h3
      rw [htk] at h3
      obtain ⟨ro, rc, v3, rfl, n3, x3, b3⟩ := h3.below HB.out HG.out
      rw [HRE.out] at x3
      rw [HRI.out] at n3 ⊢
      have HB3 := hide b3
      have H3 := hide x3
      have HLI := hide (on_leftI x (n : Int) (k : Int))
      have HLB := hide (on_leftB x (n : Int) (k : Int))
      have HLR := hide (on_rng (x := x) (n := (n : Int)) (t := (k : Int)) (by have := HNM.out; omega))
      have HLL := hide (on_len x (n : Int) (k : Int))
      clear h3 b3 x3 htk
      by_cases hkn : k = n
      · subst hkn
        rw [if_pos rfl] at n3 ⊢
        have HN3 := hide (show Nums w3 ro 1 rc [x] from n3)
        rw [if_neg (by omega)] at HLI
        rw [decide_eq_false (by omega)] at HLB
        clear n3
        go_wp2_with fail
        refine (same_any _ _ _ _ _ _ [x] [x] _ (HN3.out.carry (below_alloc w3 _)) (nums_alloc w3 [x] _ _ 1 rfl rfl (by omega))).mono ?_; rintro e w4 ⟨rfl, b4⟩
        have HB4 := hide (below_one HB3.out (below_one (below_alloc w3 _) b4))
        have H4 := hide (H3.out.grow (below_one (below_alloc w3 _) b4))
        rw [decide_eq_true (rfl : [x] = [x])]
        clear b4
        go_wp2_with fail
        refine (left_any x _ H4.out (by have := HLL.out; omega) HLR.out).mono ?_; rintro e w5 ⟨rfl, b5⟩
        rw [HLI.out, HLB.out]
        have HB5 := hide (below_one HB4.out b5)
        have H5 := hide (H4.out.grow b5)
        have hlt : ¬ ((k : Int) < (k : Int)) := by omega
        clear b5
        go_wp2
        go_roundg g1
        case measure => omega
        case rel => exact ⟨k + 1, (k : Int), v3, by omega, by have := HK.out; omega, by go_num, by omega, H5.out, HB5.out⟩
      · have hkn2 : ¬ ((k : Int) = (n : Int)) := by omega
        rw [if_neg hkn2] at n3 ⊢
        clear n3
        by_cases hlt : (k : Int) < (n : Int)
        · rw [if_pos hlt] at HLI
          rw [decide_eq_true hlt] at HLB
          have hw : IntKind.i64.wrap ((n : Int) - (k : Int)) = (n : Int) - (k : Int) := by rw [IntKind.wrap_i64]; omega
          go_wp2_with fail
          refine (left_any x _ H3.out (by have := HLL.out; omega) HLR.out).mono ?_; rintro e w5 ⟨rfl, b5⟩
          rw [HLI.out, HLB.out]
          have HB5 := hide (below_one HB3.out b5)
          have H5 := hide (H3.out.grow b5)
          clear b5
          go_wp2
          go_roundg g1
          case measure => omega
          case rel => exact ⟨k + 1, (k : Int), v3, by omega, by have := HK.out; omega, by go_num, by omega, H5.out, HB5.out⟩
        · rw [if_neg hlt] at HLI
          rw [decide_eq_false hlt] at HLB
          go_wp2_with fail
          refine (left_any x _ H3.out (by have := HLL.out; omega) HLR.out).mono ?_; rintro e w5 ⟨rfl, b5⟩
          rw [HLI.out, HLB.out]
          have HB5 := hide (below_one HB3.out b5)
          have H5 := hide (H3.out.grow b5)
          clear b5
          go_wp2
          go_roundg g1
          case measure => omega
          case rel => exact ⟨k + 1, (k : Int), v3, by omega, by have := HK.out; omega, by go_num, by omega, H5.out, HB5.out⟩
    | zero =>
      have hle : ¬ ((k : Int) ≤ (m : Int)) := by omega
      have HN : Hid (onL x (n : Int) t = []) := on_nil x (n : Int) t (by have := HNM.out; omega)
      rw [HN.out] at H1
      clear hk ht
      go_wp2_with fail
      refine (cancel_any x _ H1.out (by decide)).mono ?_; rintro e w3 ⟨rfl, h3⟩
      obtain ⟨v3, x3, b3⟩ := h3.below HB.out HG.out
      rw [show decide ((dropA [] x).length < ([] : List Al).length) = false from rfl]
      have HB3 := hide b3
      clear h3 x3 b3
      go_wp2
      go_ret
      exact ⟨rfl, HB3.out⟩
end Go.Proofs.Ytifmeljdkohkkaa
