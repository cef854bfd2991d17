/-
  SegmentApart (P9.1, P9.3): what is written into one segment shows in no other one, and not in one that is made of its pages behind it: its walk.
-/
import Derived.Test.YtppdammgmnihgaaDoorSAwake
namespace Go.Proofs.YtppdammgmnihgaaDoor
open Go.RowKit
/- a new row of bytes that are 0, its length told by a byte -/
set_option maxRecDepth 100000 in
theorem make_bytes8 (n : Nat) (hn : n ≤ 255) (w : World) :
    (Instr.makeSlice 28 (.int .u8 (n : Int)) (.int .u8 (n : Int))).run Tryd.prog w = .ok (.slice (some ⟨w.heap.size, 0, none⟩) n n) (w.alloc (.cells (cellsB (zeros n)).toArray 5)) := by
  rw [run_make_row' (P := Tryd.prog) 28 5 (.int .u8 0) 1 Tryd.underlying28 Tryd.info5 rfl .u8 .u8 n (by omega) (by omega) w]
  congr 2
  apply congrArg (fun x => Obj.cells x 5 (0, 0))
  apply Array.ext'
  rw [toList_madeCells_one, cellsB_zeros]
theorem zeros_whole (n : Nat) : pieceF (zeros n) 0 n = zeros n := by
  unfold pieceF; rw [List.drop_zero, List.take_of_length_le (by rw [zeros_len]; omega)]
def A1 (a : Nat) : Nat → Option (List UInt8) := upd L0 0 (some (zeros a))
def A2 (a b : Nat) : Nat → Option (List UInt8) := upd (A1 a) 1 (some (zeros b))
def A3 (a b : Nat) (l : List UInt8) : Nat → Option (List UInt8) := upd (A2 a b) 0 (some l)
def A4 (a b : Nat) (l : List UInt8) : Nat → Option (List UInt8) := upd (A3 a b l) 0 none
theorem L0_lens (i : Nat) : lens (L0 i) = 0 := rfl
theorem sum1 (f : Nat → Option (List UInt8)) (i : Nat) (o : Option (List UInt8)) (h : i < 64) : sumF (fun j => lens (upd f i o j)) 64 + lens (f i) = sumF (fun j => lens (f j)) 64 + lens o := by
  have h1 := sumF_upd (fun j => lens (f j)) (fun j => lens (upd f i o j)) 64 i h (fun j hj => by simp only [upd_other _ _ _ _ hj])
  simp only [upd_same] at h1; exact h1
theorem lens_zeros (a : Nat) : lens (some (zeros a)) = need a := by show need (zeros a).length = need a; rw [zeros_len]
theorem L0_sum : sumF (fun j => lens (L0 j)) 64 = 0 := sumF_zero 64 _ fun _ _ => rfl
theorem A0_e (a : Nat) (ha : a ≤ 255) : createE 20 L0 (a : Int) = 0 := by
  unfold createE; rw [if_neg (by omega), if_neg (by rw [awake_l0]; omega), if_neg (by unfold leftL; rw [L0_sum, Int.toNat_natCast]; unfold need; omega)]
theorem A1_sum (a : Nat) : sumF (fun j => lens (A1 a j)) 64 = need a := by
  have := sum1 L0 0 (some (zeros a)) (by omega); rw [L0_sum, lens_zeros, L0_lens] at this; unfold A1; omega
theorem A1_low (a : Nat) : lowS (A1 a) = 1 := by
  refine lowS_is _ 1 (by omega) (fun i hi => ?_) (fun _ => ?_)
  · obtain rfl : i = 0 := by omega
    rfl
  · rfl
theorem A1_e (a b : Nat) (ha : a ≤ 255) (hb : b ≤ 255) : createE 20 (A1 a) (b : Int) = 0 := by
  unfold createE; rw [if_neg (by omega), if_neg (by rw [A1_low]; omega), if_neg (by unfold leftL; rw [A1_sum, Int.toNat_natCast]; unfold need; omega)]
theorem A4_low (a b : Nat) (l : List UInt8) : lowS (A4 a b l) = 0 := lowS_is _ 0 (by omega) (fun i hi => by omega) (fun _ => rfl)
theorem A4_sum (a b : Nat) (l : List UInt8) : sumF (fun j => lens (A4 a b l j)) 64 = need b := by
  have h1 := sum1 (A1 a) 1 (some (zeros b)) (by omega)
  have h2 := sum1 (A2 a b) 0 (some l) (by omega)
  have h3 := sum1 (A3 a b l) 0 none (by omega)
  rw [show A1 a 1 = none from rfl, lens_zeros, A1_sum, show lens none = 0 from rfl] at h1
  rw [show A2 a b 0 = some (zeros a) from rfl, lens_zeros, show sumF (fun j => lens (A2 a b j)) 64 = need a + need b from h1] at h2
  rw [show A3 a b l 0 = some l from rfl, show lens none = 0 from rfl] at h3
  have h4 : sumF (fun j => lens (upd (A2 a b) 0 (some l) j)) 64 = sumF (fun j => lens (A3 a b l j)) 64 := rfl
  have h5 : sumF (fun j => lens (upd (A3 a b l) 0 none j)) 64 = sumF (fun j => lens (A4 a b l j)) 64 := rfl
  omega
theorem A4_e (a b : Nat) (l : List UInt8) (ha : a ≤ 255) (hb : b ≤ 255) : createE 20 (A4 a b l) (a : Int) = 0 := by
  unfold createE; rw [if_neg (by omega), if_neg (by rw [A4_low]; omega), if_neg (by unfold leftL; rw [A4_sum, Int.toNat_natCast]; unfold need; omega)]
theorem row5_keep {w w' : World} {B base n : Nat} {v : Value} {xs : List Value} (r : w.ownsRow base 5 1 v n xs) (k : Keep (StP B) w w') : w'.ownsRow base 5 1 v n xs :=
  ownsRow_keep k r fun _ _ _ _ => .inr (no_store5 _ _)
theorem row5_grow {w w' : World} {base n : Nat} {v : Value} {xs : List Value} (r : w.ownsRow base 5 1 v n xs) (k : Below w.heap.size w w') : w'.ownsRow base 5 1 v n xs :=
  ownsRow_keep (keep_below (fun _ _ => True) k) r fun _ _ _ _ => trivial
theorem row5_bts {w : World} {base n cc : Nat} {co : Option Addr} {l : List UInt8} (r : w.ownsRow base 5 1 (.slice co n cc) n (cellsB l)) : Bts w co n cc l := by
  obtain ⟨ao, cap, e, h⟩ := owns_bts r; cases e; exact h
set_option maxRecDepth 20000 in
set_option maxHeartbeats 1600000 in
theorem walk_apart (a b : Nat) (ao : Option Addr) (N cap : Nat) (l : List UInt8) (w : World) (ha : a ≤ 255) (hb : b ≤ 255) (hd : Bts w ao N cap l) (hN : N ≤ 140737488351232) (hg : Glob w) :
    Calls Tryd.prog 4 #[.int .u8 (a : Int), .int .u8 (b : Int), .slice ao N cap] w fun e w' => e = .returned (.bool true) ∧ Below w.heap.size w w' := by
  have HG := hide hg
  have HD := hide hd
  have hcap : cap ≤ 9223372036854775807 := hd.2.2.1
  have hnc : N ≤ cap := hd.2.1
  obtain ⟨k, hk⟩ : ∃ k, min N a = k := ⟨_, rfl⟩
  have hka : k ≤ a := by omega
  have hkN : k ≤ N := by omega
  have HK := hide hk
  have hsub : (a : Int) - (k : Int) = ((a - k : Nat) : Int) := by omega
  have hcut := fun W : World => cut_head W ao N cap k (by omega)
  have mk1 := make_bytes8 b hb
  have mk2 := make_bytes8 a ha
  obtain ⟨CA, hCA⟩ : ∃ C, (cellsB (zeros a)).toArray = C := ⟨_, rfl⟩
  obtain ⟨CB, hCB⟩ : ∃ C, (cellsB (zeros b)).toArray = C := ⟨_, rfl⟩
  rw [hCA] at mk2
  rw [hCB] at mk1
  have HCA := hide hCA
  have HCB := hide hCB
  obtain ⟨ZA, hZA⟩ : ∃ Z, str (zeros a) = Z := ⟨_, rfl⟩
  obtain ⟨ZB, hZB⟩ : ∃ Z, str (zeros b) = Z := ⟨_, rfl⟩
  have HZA := hide hZA
  have HZB := hide hZB
  clear hg hd hk hCA hCB hZA hZB
  go_enter Tryd.func4, Tryd.ntmps4
  go_wp2_with fail
  refine (awake_any _ HG.out).mono ?_; rintro e w1 ⟨rfl, b1⟩
  have HB1 := hide b1
  have HD1 := hide (HD.out.carry b1)
  clear b1
  go_wp2_with fail
  refine (sof_any 20 w1 20 (by decide) (by omega)).mono ?_; rintro e w2 ⟨st, rfl, S2, b2⟩
  have H2 : Hid (St w2 w1.heap.size st 20 L0) := S2
  have HB2 := hide b2
  clear S2 b2
  go_wp2_with fail
  refine (screate_ok (a : Int) 0 _ H2.out HB2.out.size (A0_e a ha) awake_l0).mono ?_; rintro e w3 ⟨rfl, S3, k3⟩
  have H3 : Hid (St w3 w1.heap.size st 20 (A1 a)) := S3
  have HB3 := hide (HB2.out.trans (k3.low HB2.out.size (StP.low _)))
  clear S3 k3 H2 HB2
  go_wp2_with fail
  refine (screate_ok (b : Int) 1 _ H3.out HB3.out.size (A1_e a b ha hb) (A1_low a)).mono ?_; rintro e w4 ⟨rfl, S4, k4⟩
  have H4 : Hid (St w4 w1.heap.size st 20 (A2 a b)) := S4
  have HB4 := hide (HB3.out.trans (k4.low HB3.out.size (StP.low _)))
  clear S4 k4 H3 HB3
  have HD4 := hide (HD1.out.carry HB4.out)
  have HOF : Hid (0 < k → Off w1.heap.size w4 ao) := fun _ => off_low fun ad e => by
    have := lt_of_cell (HD1.out.2.2.2.2 ad e 0 (by rw [← HD1.out.1]; omega)); rw [add_block] at this; exact this
  go_upto_region 6 with fail
  go_cut [2] from 37 to 43 (fun x wx => x = .slice ao k cap ∧ wx = w4)
  case first =>
    have hk2 := HK.out
    rcases Nat.lt_trichotomy N a with h | h | h
    · obtain rfl : k = N := by omega
      have h1 : (k : Int) < (a : Int) := by omega
      have h2 : ¬ ((a : Int) < (k : Int)) := by omega
      clear hk2
      go_wp2_with fail
      go_meet
      case rel => exact ⟨rfl, rfl⟩
    · obtain rfl : k = N := by omega
      subst h
      clear hk2
      go_wp2_with fail
      go_meet
      case rel => exact ⟨rfl, rfl⟩
    · obtain rfl : k = a := by omega
      have h1 : ¬ ((N : Int) < (k : Int)) := by omega
      have h2 : ((k : Int) < (N : Int)) := by omega
      clear hk2
      go_wp2_with fail
      go_meet
      case rel => exact ⟨rfl, rfl⟩
  case rest =>
    obtain ⟨rfl, rfl⟩ := hcut
    go_wp2_with fail
    refine (twrite_yes 0 (a - k) (zeros a) ao k cap (l.take k) _ H4.out rfl (HD4.out.head k hkN) HOF.out (by rw [zeros_len]; omega)).mono ?_; rintro e w5 ⟨rfl, S5, k5⟩
    obtain ⟨W, hW⟩ : ∃ W, splice (zeros a) (a - k) (l.take k) = W := ⟨_, rfl⟩
    rw [hW] at S5
    have H5 : Hid (St w5 w1.heap.size st 20 (A3 a b W)) := S5
    have HB5 := hide (HB4.out.trans (k5.low HB4.out.size (StP.low _)))
    clear S5 k5 H4 HB4 hW
    go_wp2_with fail
    refine (tread_yes 1 0 b (zeros b) _ H5.out rfl (by rw [zeros_len]; omega)).mono ?_; rintro e w6 ⟨c6, cc6, rfl, R6, b6⟩
    rw [zeros_whole] at R6
    have HR6 := hide R6
    have H6 := hide (H5.out.grow b6)
    have HB6 := hide (HB5.out.trans (b6.mono HB5.out.size))
    clear R6 b6 H5 HB5
    go_wp2_with fail
    refine (sdelete_yes 0 W _ H6.out rfl).mono ?_; rintro e w7 ⟨rfl, S7, k7⟩
    have H7 : Hid (St w7 w1.heap.size st 20 (A4 a b W)) := S7
    have HB7 := hide (HB6.out.trans (k7.low HB6.out.size (StP.low _)))
    have HR7 := hide (row5_keep HR6.out k7)
    clear S7 k7 H6 HB6 HR6
    go_wp2_with fail
    refine (screate_ok (a : Int) 0 _ H7.out HB7.out.size (A4_e a b W ha hb) (A4_low a b W)).mono ?_; rintro e w8 ⟨rfl, S8, k8⟩
    have H8 := hide S8
    have HB8 := hide (HB7.out.trans (k8.low HB7.out.size (StP.low _)))
    have HR8 := hide (row5_keep HR7.out k8)
    clear S8 k8 H7 HB7 HR7
    go_wp2_with fail
    refine (tread_yes 0 0 a (zeros a) _ H8.out rfl (by rw [zeros_len]; omega)).mono ?_; rintro e w9 ⟨c9, cc9, rfl, R9, b9⟩
    rw [zeros_whole] at R9
    have HB9 := hide (HB1.out.trans ((HB8.out.trans (b9.mono HB8.out.size)).mono HB1.out.size))
    have HX := hide (row5_bts (row5_grow HR8.out b9))
    have HY := hide (row5_bts R9)
    clear R9 b9 H8 HB8 HR8
    have cv1 : (convert 28 9 (.slice c6 b cc6)).run Tryd.prog w9.drew = .ok (.string ZB) w9.drew := by rw [← HZB.out]; exact conv_bts (HX.out.drewN 1)
    have cv2 : (convert 28 9 (.slice c6 b cc6)).run Tryd.prog (w9.alloc (.cells CB 5)).drew = .ok (.string ZB) (w9.alloc (.cells CB 5)).drew := by rw [← HZB.out]; exact conv_bts ((HX.out.carry (below_alloc w9 _)).drewN 1)
    have cv3 : (convert 28 9 (.slice (some ⟨w9.heap.size, 0, none⟩) b b)).run Tryd.prog (w9.alloc (.cells CB 5)).drew = .ok (.string ZB) (w9.alloc (.cells CB 5)).drew := by rw [← HZB.out]; exact conv_bts ((bts_zeros w9 b (by omega) CB HCB.out).drewN 1)
    have cv4 : (convert 28 9 (.slice c9 a cc9)).run Tryd.prog (w9.alloc (.cells CB 5)).drew = .ok (.string ZA) (w9.alloc (.cells CB 5)).drew := by rw [← HZA.out]; exact conv_bts ((HY.out.carry (below_alloc w9 _)).drewN 1)
    have bab : Below w9.heap.size w9 ((w9.alloc (.cells CB 5)).alloc (.cells CA 5)) := below_one (below_alloc _ _) (below_alloc _ _)
    have cv5 : (convert 28 9 (.slice c9 a cc9)).run Tryd.prog ((w9.alloc (.cells CB 5)).alloc (.cells CA 5)).drew = .ok (.string ZA) ((w9.alloc (.cells CB 5)).alloc (.cells CA 5)).drew := by rw [← HZA.out]; exact conv_bts ((HY.out.carry bab).drewN 1)
    have cv6 : (convert 28 9 (.slice (some ⟨w9.heap.size + 1, 0, none⟩) a a)).run Tryd.prog ((w9.alloc (.cells CB 5)).alloc (.cells CA 5)).drew = .ok (.string ZA) ((w9.alloc (.cells CB 5)).alloc (.cells CA 5)).drew := by
      rw [← HZA.out]
      have := bts_zeros (w9.alloc (.cells CB 5)) a (by omega) CA HCA.out
      rw [size_alloc] at this
      exact conv_bts (this.drewN 1)
    have HE := hide bab
    clear bab
    go_wp2_with fail
    go_region_held (fun _ => True) (trivial) (fail)
    all_goals (go_wp2; go_ret; exact ⟨rfl, HB9.out.trans (Below.mono (by go_grown) HB9.out.size)⟩)
end Go.Proofs.YtppdammgmnihgaaDoor
