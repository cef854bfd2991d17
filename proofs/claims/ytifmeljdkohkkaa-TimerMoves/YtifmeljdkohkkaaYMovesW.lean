/-
  The walk of TimerMoves.
-/
import Derived.Test.YtifmeljdkohkkaaYOn
namespace Go.Proofs.Ytifmeljdkohkkaa
open Go.RowKit
def WaitRel (w : World) (g : Nat) (a c gk : Nat) (vi : Value) (wr : World) : Prop := ∃ (i : Nat) (v : Value), i + gk = c ∧ vi = .int .i64 (i : Int) ∧ Tm wr g g (i : Int) v (onL 3 (a : Int) (i : Int)) ∧ Below w.heap.size w wr
def MoveRel (w : World) (g : Nat) (b c m gk : Nat) (vi : Value) (wr : World) : Prop := ∃ (k : Nat) (t : Int) (v : Value), 1 ≤ k ∧ k + gk = m + 1 ∧ vi = .int .i64 (k : Int) ∧ t = (c : Int) + (k : Int) - 1 ∧ Tm wr g g t v (onL 3 ((c : Int) + (b : Int)) t) ∧ Below w.heap.size w wr
set_option maxRecDepth 20000 in
set_option maxHeartbeats 3200000 in
theorem walk_moves (p q r : Nat) (w : World) (hp : p ≤ 255) (hq : q ≤ 255) (hr : r ≤ 255) :
    Calls Try.prog 5 #[.int .u8 (p : Int), .int .u8 (q : Int), .int .u8 (r : Int)] w fun e w' => e = .returned (.bool true) ∧ Below w.heap.size w w' := by
  obtain ⟨a, ha⟩ : ∃ a, 2 + p = a := ⟨_, rfl⟩
  have ha1 : 2 + (p : Int) = (a : Int) := by omega
  obtain ⟨d, hd⟩ : ∃ d, a - 1 = d := ⟨_, rfl⟩
  have hd1 : (a : Int) - 1 = (d : Int) := by omega
  have hd0 : 0 < d := by omega
  have hd2 : ¬ ((d : Int) = 0) := by omega
  obtain ⟨c, hc⟩ : ∃ c, q % d = c := ⟨_, rfl⟩
  have hcd : c < d := by rw [← hc]; exact Nat.mod_lt _ hd0
  have hc1 : (q : Int) % (d : Int) = (c : Int) := by rw [← hc]; exact (Int.natCast_emod q d).symm
  have hc2 : (q : Int).tmod (d : Int) = (c : Int) := by rw [Int.tmod_eq_emod_of_nonneg (by omega)]; exact hc1
  obtain ⟨b, hb⟩ : ∃ b, 1 + r = b := ⟨_, rfl⟩
  have hb1 : 1 + (r : Int) = (b : Int) := by omega
  obtain ⟨m, hm⟩ : ∃ m, a + b = m := ⟨_, rfl⟩
  have hm1 : (a : Int) + (b : Int) = (m : Int) := by omega
  have HNM : Hid (2 ≤ a ∧ a ≤ 257 ∧ 1 ≤ b ∧ b ≤ 256 ∧ c + 1 < a ∧ a + b = m) := ⟨by omega, by omega, by omega, by omega, by omega, hm⟩
  obtain ⟨hS1, hS2⟩ := on_set 3 0 0 (a : Int) (by omega) (by omega)
  rw [on_nil 3 0 0 (by decide), Int.zero_add] at hS2
  rw [on_nil 3 0 0 (by decide)] at hS1
  have HS1 := hide hS1
  have HS2 := hide hS2
  have HT := hide (on_set 3 (a : Int) (c : Int) (b : Int) (by omega) (by omega))
  clear ha hd hc hb hm hS1 hS2 hcd
  go_enter Try.func5, Try.ntmps5
  go_wp2_with fail
  refine (awake_any _).mono ?_; rintro e w1 ⟨rfl, b1⟩
  have HB1 := hide (below_one b1 (below_alloc w1 (.cells #[.int .i64 0, .slice none 0 0] 26)))
  have HG := hide b1.size
  have H1 := hide (tm_new w1)
  clear b1
  go_wp2_with fail
  obtain ⟨g, hg⟩ : ∃ g, w1.heap.size = g := ⟨_, rfl⟩
  rw [hg] at HG H1
  simp only [hg]
  clear hg
  refine (set_any 3 (a : Int) _ H1.out (by decide) (by decide)).mono ?_; rintro e w2 ⟨rfl, h2⟩
  obtain ⟨v2, x2, b2⟩ := h2.below HB1.out HG.out
  rw [HS2.out] at x2
  rw [HS1.out, erN_zero]
  have H2 := hide x2
  have HB2 := hide b2
  clear h2 x2 b2 H1 HB1
  go_wp2
  go_loopg [32] c (fun gk vi wr => WaitRel w g a c gk vi wr)
  case atStart => exact ⟨0, v2, by omega, rfl, H2.out, HB2.out⟩
  case round =>
    clear H2 HB2
    obtain ⟨i, v, hi, rfl, h1, b1⟩ := hrel
    have H1 := hide h1
    have HB := hide b1
    have HI := hide hi
    clear h1 b1
    cases gk with
    | succ g1 =>
      have hle : (i : Int) < (c : Int) := by omega
      have hib : (i : Int) ≤ 1000 := by have := HNM.out; omega
      have HRI := hide (on_ring 3 (a : Int) (i : Int))
      have HRE := hide (on_rest 3 (a : Int) (i : Int))
      rw [if_neg (by have := HNM.out; omega)] at HRI
      clear hi
      go_wp2_with fail
      refine (tick_any _ H1.out (by have := on_len 3 (a : Int) (i : Int); omega) (by have := HNM.out; omega)).mono ?_; rintro e w3 h3
      obtain ⟨ro, rc, v3, rfl, n3, x3, b3⟩ := h3.below HB.out HG.out
      rw [HRE.out] at x3
      rw [HRI.out] at n3 ⊢
      have HB3 := hide b3
      have H3 := hide x3
      clear h3 b3 x3 n3
      go_wp2
      go_roundg g1
      case measure => omega
      case rel => exact ⟨i + 1, v3, by have := HI.out; omega, by go_num, H3.out, HB3.out⟩
    | zero =>
      obtain rfl : i = c := by omega
      have hle : ¬ ((i : Int) < (i : Int)) := by omega
      clear hi
      go_wp2_with fail
      refine (set_any 3 (b : Int) _ H1.out (by have := on_len 3 (a : Int) (i : Int); omega) (by have := HNM.out; omega)).mono ?_; rintro e w3 ⟨rfl, h3⟩
      obtain ⟨v3, x3, b3⟩ := h3.below HB.out HG.out
      rw [HT.out.2] at x3
      rw [HT.out.1, erN_zero]
      have H3 := hide x3
      have HB3 := hide b3
      clear h3 x3 b3 H1 HB
      go_wp2
      go_loopg [11] m (fun gk vi wr => MoveRel w g b i m gk vi wr)
      case atStart => exact ⟨1, (i : Int), v3, by omega, by omega, rfl, by omega, H3.out, HB3.out⟩
      case round =>
        rename World => wq
        clear H3 HB3
        obtain ⟨k, t, v, hk0, hk, rfl, ht, h1, b1⟩ := hrel
        have H1 := hide h1
        have HB := hide b1
        have HK := hide hk
        have HTT := hide ht
        clear h1 b1
        cases gk with
        | succ g1 =>
          have hlm : (k : Int) ≤ (m : Int) := by omega
          have HRI := hide (on_ring 3 ((i : Int) + (b : Int)) t)
          have HRE := hide (on_rest 3 ((i : Int) + (b : Int)) t)
          clear hk ht
          go_wp2_with fail
          refine (tick_any _ H1.out (by have := on_len 3 ((i : Int) + (b : Int)) t; omega) (by have := HTT.out; have := HNM.out; omega)).mono ?_; rintro e w5 h5
          obtain ⟨ro, rc, v5, rfl, n5, x5, b5⟩ := h5.below HB.out HG.out
          rw [HRE.out] at x5
          rw [HRI.out] at n5 ⊢
          have HB5 := hide b5
          have H5 := hide x5
          clear h5 b5 x5 n5
          by_cases hkb : k = b
          · subst hkb
            rw [if_pos (by have := HTT.out; omega)]
            go_wp2
            go_roundg g1
            case measure => omega
            case rel => exact ⟨k + 1, t + 1, v5, by omega, by have := HK.out; omega, by go_num, by have := HTT.out; omega, H5.out, HB5.out⟩
          · have hkb2 : ¬ ((k : Int) = (b : Int)) := by omega
            rw [if_neg (by have := HTT.out; omega)]
            go_wp2
            go_roundg g1
            case measure => omega
            case rel => exact ⟨k + 1, t + 1, v5, by omega, by have := HK.out; omega, by go_num, by have := HTT.out; omega, H5.out, HB5.out⟩
        | zero =>
          have hlm : ¬ ((k : Int) ≤ (m : Int)) := by omega
          clear hk ht
          go_wp2
          go_ret
          exact ⟨rfl, HB.out⟩
end Go.Proofs.Ytifmeljdkohkkaa
