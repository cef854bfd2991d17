/-
  The walk of ClientTimes.
-/
import Derived.Test.YtdodmnianhpjbaaDoorLAwake
namespace Go.Proofs.YtdodmnianhpjbaaDoor
open Go.RowKit
/- a call that nobody answers, behind so many ticks: it was sent q times more, r ticks ago; or it has failed -/
def loneL (m : Ms) (W N k : Nat) : List Cl := if k < W * N then [⟨1, m, ((k / W : Nat) : Int) + 1, ((k % W : Nat) : Int)⟩] else [⟨3, Ms.zero, 0, 0⟩]
def sentN (W N k : Nat) : Nat := 1 + min (k / W) (N - 1)
theorem lone_step (m : Ms) (W N k : Nat) (hW : 1 ≤ W) (hN : 1 ≤ N) : tickL W N (loneL m W N k) = loneL m W N (k + 1) ∧ sentN W N k + (tickM W N (loneL m W N k)).length = sentN W N (k + 1) := by
  have hd := Nat.div_add_mod k W
  have hm := Nat.mod_lt k (show 0 < W by omega)
  obtain ⟨q, hq⟩ : ∃ q, k / W = q := ⟨_, rfl⟩
  obtain ⟨r, hr⟩ : ∃ r, k % W = r := ⟨_, rfl⟩
  rw [hq, hr] at hd
  rw [hr] at hm
  have hdiv : ∀ a b, b < W → (W * a + b) / W = a ∧ (W * a + b) % W = b := fun a b hb => by
    constructor
    · rw [Nat.mul_add_div (by omega), Nat.div_eq_of_lt hb]; omega
    · rw [Nat.mul_add_mod, Nat.mod_eq_of_lt hb]
  unfold loneL sentN
  rw [hq, hr]
  by_cases hk : k < W * N
  · rw [if_pos hk]
    have hqN : q < N := by
      rcases Nat.lt_or_ge q N with h | h
      · exact h
      · have := Nat.mul_le_mul_left W h; omega
    by_cases h2 : r + 1 < W
    · have hk1 := hdiv q (r + 1) h2
      rw [show W * q + (r + 1) = k + 1 by omega] at hk1
      have hlt : k + 1 < W * N := by
        have := Nat.mul_le_mul_left W (show q + 1 ≤ N by omega)
        rw [Nat.mul_add] at this; omega
      rw [if_pos hlt, hk1.1, hk1.2]
      have h2i : (r : Int) + 1 < (W : Int) := by omega
      constructor
      · simp [tickL, olderF, h2i]
      · simp [tickM, olderF, h2i]
    · have hk1 := hdiv (q + 1) 0 (by omega)
      rw [show W * (q + 1) + 0 = k + 1 by rw [Nat.mul_add]; omega] at hk1
      have h2i : ¬ ((r : Int) + 1 < (W : Int)) := by omega
      by_cases h3 : q + 1 = N
      · have hge : ¬ (k + 1 < W * N) := by rw [← h3, Nat.mul_add]; omega
        have h3i : (N : Int) ≤ (q : Int) + 1 := by omega
        rw [if_neg hge, hk1.1]
        constructor
        · simp [tickL, olderF, h2i, h3i]
        · simp [tickM, olderF, h2i, h3i]; omega
      · have hlt : k + 1 < W * N := by
          have := Nat.mul_le_mul_left W (show q + 2 ≤ N by omega)
          rw [Nat.mul_add] at this; omega
        have h3i : ¬ ((N : Int) ≤ (q : Int) + 1) := by omega
        rw [if_pos hlt, hk1.1, hk1.2]
        constructor
        · simp [tickL, olderF, h2i, h3i]
        · simp [tickM, olderF, h2i, h3i]; omega
  · rw [if_neg hk, if_neg (by omega)]
    constructor
    · simp [tickL, olderF]
    · have hNq : N ≤ q := by
        rcases Nat.lt_or_ge q N with h | h
        · have := Nat.mul_le_mul_left W (show q + 1 ≤ N by omega)
          rw [Nat.mul_add] at this; omega
        · exact h
      have hq2 : q ≤ (k + 1) / W := hq ▸ Nat.div_le_div_right (by omega)
      simp [tickM, olderF]; omega
theorem pos1_of (n : Int) (h : 1 ≤ n) : pos1 n = n := by unfold pos1; omega
def TimesRel (w : World) (g : Nat) (m : Ms) (W N gk : Nat) (vs vk : Value) (wr : World) : Prop := ∃ k : Nat, k + gk = W * N + 5 ∧ vk = .int .i64 ((k : Int) + 1) ∧ vs = .int .i64 (sentN W N k : Nat) ∧ St wr g 1 W N (loneL m W N k) ∧ Below w.heap.size w wr
set_option maxRecDepth 20000 in
set_option maxHeartbeats 6400000 in
theorem walk_times (wa tr : Nat) (w : World) (hg : Glob w) :
    Calls Tryd.prog 5 #[.int .u8 (wa : Int), .int .u8 (tr : Int)] w fun e w' => e = .returned (.bool true) ∧ Below w.heap.size w w' := by
  have HG := hide hg
  obtain ⟨W, hW⟩ : ∃ W, 1 + wa % 10 = W := ⟨_, rfl⟩
  obtain ⟨N, hN⟩ : ∃ N, 1 + tr % 10 = N := ⟨_, rfl⟩
  have hWi : 1 + (wa : Int) % 10 = (W : Int) := by omega
  have hNi : 1 + (tr : Int) % 10 = (N : Int) := by omega
  have hW1 : 1 ≤ W ∧ W ≤ 10 := by omega
  have hN1 : 1 ≤ N ∧ N ≤ 10 := by omega
  obtain ⟨M, hM⟩ : ∃ M, W * N = M := ⟨_, rfl⟩
  have hM1 : 1 ≤ M ∧ M ≤ 100 := by
    have h1 := Nat.mul_le_mul hW1.1 hN1.1
    have h2 := Nat.mul_le_mul hW1.2 hN1.2
    omega
  have hMi : (W : Int) * (N : Int) = (M : Int) := by rw [← hM, Int.natCast_mul]
  have HW1 := hide hW1
  have HN1 := hide hN1
  have HM := hide hM
  clear hg hW hN hW1 hN1 hM
  go_enter Tryd.func5, Tryd.ntmps5
  go_wp2_with fail
  refine (awake_any _ HG.out).mono ?_; rintro e w0 ⟨rfl, b0⟩
  have HB0 := hide b0
  clear b0
  go_wp2_with fail
  refine (of_any 1 W N _ (by omega) (by omega)).mono ?_; rintro e w1 ⟨g, rfl, hgl, s1, b1⟩
  rw [pos1_of W (by have := HW1.out; omega), pos1_of N (by have := HN1.out; omega)] at s1
  have HS1 := hide s1
  have HB1 := hide (below_one HB0.out b1)
  have HGL := hide (Nat.le_trans HB0.out.size hgl)
  clear s1 b1 hgl
  go_wp2_with fail
  refine (start_yes (msgT 2) _ HS1.out (msgT_has _ _) (msgT_off _ _) (msgT_sn _) (by decide)).mono ?_; rintro e w2 ⟨q, rfl, hq, hsn, hqh, E2⟩
  obtain ⟨s2, b2⟩ := E2.below HB1.out HGL.out
  obtain ⟨m, hm⟩ : ∃ m : Ms, (reqF 1 (([] : List Cl).length + 1) (msgT 2)).nm = m := ⟨_, rfl⟩
  have HR : Hid (TimesRel w g m W N (M + 5) (.int .i64 1) (.int .i64 1) w2) := by
    refine ⟨0, by have := HM.out; omega, rfl, ?_, ?_, b2⟩
    · unfold sentN; rw [Nat.zero_div, Nat.zero_min]; rfl
    · rw [hm] at s2
      unfold loneL
      rw [if_pos (by have := HM.out; omega), Nat.zero_div, Nat.zero_mod]
      exact s2
  clear E2 s2 b2 hq hsn hqh hm
  go_wp2
  go_loopg [8, 9] (M + 5) (fun gk vs vk wr => TimesRel w g m W N gk vs vk wr)
  case atStart => exact HR.out
  case round =>
    obtain ⟨k, hk, rfl, rfl, st, bl⟩ := hrel
    have HS := hide st
    have HB := hide bl
    have HK := hide hk
    clear st bl hk
    cases gk with
    | zero =>
      obtain rfl : k = M + 5 := by have := HK.out; have := HM.out; omega
      have hle : ¬ (((M + 5 : Nat) : Int) + 1 ≤ (M : Int) + 5) := by omega
      have hsn : sentN W N (M + 5) = N := by
        unfold sentN
        have h1 : N ≤ (M + 5) / W := by
          rw [Nat.le_div_iff_mul_le (by have := HW1.out; omega), Nat.mul_comm, HM.out]; omega
        have := HN1.out
        omega
      rw [hsn]
      go_wp2
      go_ret
      exact ⟨rfl, HB.out⟩
    | succ g1 =>
      have hkM : k + 1 ≤ M + 5 := by have := HK.out; have := HM.out; omega
      have hle : (k : Int) + 1 ≤ (M : Int) + 5 := by omega
      obtain ⟨hl, hn⟩ := lone_step m W N k HW1.out.1 HN1.out.1
      obtain ⟨c, hc⟩ : ∃ c, sentN W N k = c := ⟨_, rfl⟩
      obtain ⟨d, hd⟩ : ∃ d, sentN W N (k + 1) = d := ⟨_, rfl⟩
      have hd10 : d ≤ 10 := by rw [← hd]; unfold sentN; have := HN1.out; omega
      obtain ⟨n, hnn⟩ : ∃ n, (tickM W N (loneL m W N k)).length = n := ⟨_, rfl⟩
      rw [hc, hd, hnn] at hn
      have hsum : (c : Int) + (n : Int) = (d : Int) := by omega
      rw [hc]
      have HL := hide hl
      have HD := hide hd
      have HNN := hide hnn
      clear hl hn hc hd hnn
      go_wp2_with fail
      refine (tick_any _ HS.out).mono ?_; rintro e w3 E
      obtain ⟨ao3, c3, rfl, E3⟩ := tick_len E
      rw [HNN.out]
      obtain ⟨s3, b3⟩ := E3.below HB.out HGL.out
      rw [HL.out] at s3
      have HS3 := hide s3
      have HB3 := hide b3
      clear E E3 s3 b3
      by_cases hkm : k + 1 < M
      · have hfi : (findC (loneL m W N (k + 1)) 1).s = 1 := by
          unfold loneL; rw [if_pos (by have := HM.out; omega)]; rfl
        have hge : ¬ ((M : Int) ≤ (k : Int) + 1) := by omega
        have HFI := hide hfi
        clear hfi
        go_wp2_with fail
        refine (get_wait 1 _ HS3.out HFI.out).mono ?_; rintro e w4 ⟨rfl, b4⟩
        rw [erN_zero]
        have HB4 : Hid (∀ o, Below w.heap.size w (w4.alloc o)) := fun o => below_one (below_one HB3.out b4) (below_alloc w4 o)
        have HS4 : Hid (∀ o, St (w4.alloc o) g 1 W N (loneL m W N (k + 1))) := fun o => (HS3.out.grow b4).grow (below_alloc w4 o)
        clear b4
        go_wp2
        go_roundg g1
        case measure => omega
        case rel => exact ⟨k + 1, by have := HK.out; omega, by go_num, by rw [HD.out], HS4.out _, HB4.out _⟩
      · have hfi : (findC (loneL m W N (k + 1)) 1).s = 3 := by
          unfold loneL; rw [if_neg (by have := HM.out; omega)]; rfl
        have hge : (M : Int) ≤ (k : Int) + 1 := by omega
        have HFI := hide hfi
        clear hfi
        go_wp2_with fail
        refine (get_fail 1 _ HS3.out HFI.out).mono ?_; rintro e w4 ⟨rfl, b4⟩
        rw [erN_not (by decide)]
        have HB4 : Hid (∀ o, Below w.heap.size w (w4.alloc o)) := fun o => below_one (below_one HB3.out b4) (below_alloc w4 o)
        have HS4 : Hid (∀ o, St (w4.alloc o) g 1 W N (loneL m W N (k + 1))) := fun o => (HS3.out.grow b4).grow (below_alloc w4 o)
        clear b4
        go_wp2
        go_roundg g1
        case measure => omega
        case rel => exact ⟨k + 1, by have := HK.out; omega, by go_num, by rw [HD.out], HS4.out _, HB4.out _⟩
end Go.Proofs.YtdodmnianhpjbaaDoor
