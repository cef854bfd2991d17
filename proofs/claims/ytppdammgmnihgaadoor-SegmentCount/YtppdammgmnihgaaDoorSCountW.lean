/-
  SegmentCount (P9.1): there are 64 segments at most, each of another number; a number that is free again is given to the next one: its walk.
-/
import Derived.Test.YtppdammgmnihgaaDoorSAwake
namespace Go.Proofs.YtppdammgmnihgaaDoor
open Go.RowKit
/- the first k segments are there, without bytes -/
def Lk (k : Nat) : Nat → Option (List UInt8) := fun i => if i < k then some [] else none
theorem Lk_lens (k i : Nat) : lens (Lk k i) = 0 := by unfold Lk; split <;> rfl
theorem Lk_low (k : Nat) (h : k ≤ 64) : lowS (Lk k) = k := by
  refine lowS_is _ k h (fun i hi => ?_) (fun _ => ?_)
  · unfold Lk; rw [if_pos hi]; rfl
  · unfold Lk; rw [if_neg (by omega)]; rfl
theorem Lk_left (n k : Nat) : leftL n (Lk k) = n := by unfold leftL; rw [sumF_zero 64 _ fun i _ => Lk_lens k i]; omega
theorem Lk_next (k : Nat) : upd (Lk k) k (some (zeros 0)) = Lk (k + 1) := by
  funext i
  by_cases e : i = k
  · subst e; rw [upd_same]; unfold Lk; rw [if_pos (by omega)]; rfl
  · rw [upd_other _ _ _ _ e]; unfold Lk
    by_cases h : i < k
    · rw [if_pos h, if_pos (by omega)]
    · rw [if_neg h, if_neg (by omega)]
theorem Lk_zero : Lk 0 = fun _ => none := by funext i; unfold Lk; rw [if_neg (by omega)]
theorem Lk_create (n k : Nat) (h : k < 64) : createE n (Lk k) 0 = 0 := by
  unfold createE; rw [if_neg (by omega), if_neg (by rw [Lk_low k (by omega)]; omega), if_neg (by rw [show need (0 : Int).toNat = 0 from rfl]; omega)]
theorem Lk_full (n : Nat) : createE n (Lk 64) 0 = 5 := by
  unfold createE; rw [if_neg (by omega), if_pos (Lk_low 64 (by omega))]
/- one of 64 is no more -/
def Lq (q : Nat) : Nat → Option (List UInt8) := upd (Lk 64) q none
theorem Lq_low (q : Nat) (h : q < 64) : lowS (Lq q) = q := by
  refine lowS_is _ q (by omega) (fun i hi => ?_) (fun _ => ?_)
  · unfold Lq Lk; rw [upd_other _ _ _ _ (by omega), if_pos (by omega)]; rfl
  · unfold Lq; rw [upd_same]; rfl
theorem Lq_lens (q i : Nat) : lens (Lq q i) = 0 := by
  unfold Lq
  by_cases e : i = q
  · subst e; rw [upd_same]; rfl
  · rw [upd_other _ _ _ _ e]; exact Lk_lens _ _
theorem Lq_left (n q : Nat) : leftL n (Lq q) = n := by unfold leftL; rw [sumF_zero 64 _ fun i _ => Lq_lens q i]; omega
theorem Lq_create (q s : Nat) (h : q < 64) (hs : s ≤ 255) : createE 4 (Lq q) (s : Int) = 0 := by
  unfold createE; rw [if_neg (by omega), if_neg (by rw [Lq_low q h]; omega), if_neg (by rw [Lq_left, Int.toNat_natCast]; unfold need; omega)]
theorem Lq_last (q s : Nat) (h : q < 64) : leftL 4 (upd (Lq q) q (some (zeros s))) = 4 - need s := by
  unfold leftL
  have h1 := sumF_upd (fun i => lens (Lq q i)) (fun i => lens (upd (Lq q) q (some (zeros s)) i)) 64 q h (fun j hj => by simp only [upd_other _ _ _ _ hj])
  rw [sumF_zero 64 (fun i => lens (Lq q i)) fun i _ => Lq_lens q i] at h1
  have e1 : lens (upd (Lq q) q (some (zeros s)) q) = need s := by rw [upd_same]; show need (zeros s).length = need s; rw [zeros_len]
  simp only [e1, Lq_lens] at h1
  rw [show sumF (fun i => lens (upd (Lq q) q (some (zeros s)) i)) 64 = need s by omega]
def CntRel (w1 : World) (st gk : Nat) (v : Value) (wr : World) : Prop :=
  ∃ k : Nat, k + gk = 64 ∧ v = .int .i64 k ∧ Hid (St wr w1.heap.size st 4 (Lk k)) ∧ Hid (Below w1.heap.size w1 wr)
set_option maxRecDepth 20000 in
set_option maxHeartbeats 1600000 in
theorem walk_count (a s : Nat) (w : World) (_ha : a ≤ 255) (hs : s ≤ 255) (hg : Glob w) :
    Calls Tryd.prog 6 #[.int .u8 (a : Int), .int .u8 (s : Int)] w fun e w' => e = .returned (.bool true) ∧ Below w.heap.size w w' := by
  have HG := hide hg
  clear hg
  obtain ⟨q, hq⟩ : ∃ q, a % 64 = q := ⟨_, rfl⟩
  have hqm : (a : Int) % 64 = (q : Int) := by omega
  have hqt : (a : Int).tmod 64 = (q : Int) := by rw [← hq]; rfl
  have hq64 : q < 64 := by omega
  have hnd : ((s : Int) + 63) / 64 = (need s : Int) := by unfold need; omega
  have hnt : ((s : Int) + 63).tdiv 64 = (need s : Int) := by rw [Int.tdiv_eq_ediv_of_nonneg (by omega)]; exact hnd
  obtain ⟨d, hd⟩ : ∃ d, need s = d := ⟨_, rfl⟩
  rw [hd] at hnd hnt
  have hd4 : d ≤ 4 := by rw [← hd]; unfold need; omega
  have HD := hide hd
  have hsub : (4 : Int) - (d : Int) = ((4 - d : Nat) : Int) := by omega
  clear hq hd
  go_enter Tryd.func6, Tryd.ntmps6
  go_wp2_with fail
  refine (awake_any _ HG.out).mono ?_; rintro e w1 ⟨rfl, b1⟩
  have HB1 := hide b1
  have HG1 := hide (HG.out.grow b1 HG.out.lt)
  clear b1
  go_wp2_with fail
  refine (sof_any 4 w1 4 (by decide) (by omega)).mono ?_; rintro e w2 ⟨st, rfl, S2, b2⟩
  have H2 := hide S2
  have HB2 := hide b2
  clear S2 b2
  go_wp2_with fail
  go_loopg [6] 64 (fun gk v wr => CntRel w1 st gk v wr)
  case atStart => exact ⟨0, by omega, rfl, by show St _ _ _ _ _; rw [Lk_zero]; exact H2.out, HB2⟩
  case round =>
    obtain ⟨k, hk, rfl, HS, HB⟩ := hrel
    cases gk with
    | succ g1 =>
      have hlt : ((k : Int) < 64) := by omega
      have hk64 : k < 64 := by omega
      go_wp2_with fail
      refine (screate_ok 0 k _ HS.out HB.out.size (Lk_create 4 k hk64) (Lk_low k (by omega))).mono ?_; rintro e w3 ⟨rfl, S3, k3⟩
      rw [show ((0 : Int).toNat) = 0 from rfl, Lk_next] at S3
      have H3 := hide S3
      have HB3 := hide (HB.out.trans (k3.low HB.out.size (StP.low _)))
      clear S3 k3
      go_wp2
      go_roundg g1
      case measure => omega
      case rel => exact ⟨k + 1, by omega, by go_num, H3, HB3⟩
    | zero =>
      obtain rfl : k = 64 := by omega
      clear hk
      go_wp2_with fail
      refine (screate_err 0 5 _ HS.out HB.out.size (Lk_full 4) (by decide)).mono ?_; rintro e w3 ⟨rfl, S3, k3⟩
      have H3 := hide S3
      have HB3 := hide (HB.out.trans (k3.low HB.out.size (StP.low _)))
      clear S3 k3 HS HB
      unfold errV
      go_wp2_with fail
      refine (sdelete_yes q [] _ H3.out (by unfold Lk; rw [if_pos hq64])).mono ?_; rintro e w4 ⟨rfl, S4, k4⟩
      have H4 : Hid (St w4 w1.heap.size st 4 (Lq q)) := S4
      have HB4 := hide (HB3.out.trans (k4.low HB3.out.size (StP.low _)))
      clear S4 k4 H3 HB3
      go_wp2_with fail
      refine (screate_ok (s : Int) q _ H4.out HB4.out.size (Lq_create q s hq64 hs) (Lq_low q hq64)).mono ?_; rintro e w5 ⟨rfl, S5, k5⟩
      rw [Int.toNat_natCast] at S5
      have H5 := hide S5
      have HB5 := hide (HB4.out.trans (k5.low HB4.out.size (StP.low _)))
      clear S5 k5 H4 HB4
      go_wp2_with fail
      refine (ssize_yes q (zeros s) _ H5.out (upd_same _ _ _)).mono ?_; rintro e w6 ⟨rfl, rfl⟩
      rw [zeros_len]
      go_wp2_with fail
      refine (number_errno 5 _ (HG1.out.grow HB5.out HG1.out.lt)).mono ?_; rintro e w7 ⟨rfl, b7⟩
      have H7 := hide (H5.out.grow b7)
      have HB7 := hide (HB5.out.trans (b7.mono HB5.out.size))
      clear b7
      go_wp2_with fail
      refine (sleft_any _ H7.out).mono ?_; rintro e w8 ⟨rfl, rfl⟩
      rw [Lq_last q s hq64, HD.out]
      go_wp2
      go_ret
      exact ⟨rfl, HB1.out.trans (HB7.out.mono HB1.out.size)⟩
end Go.Proofs.YtppdammgmnihgaaDoor
