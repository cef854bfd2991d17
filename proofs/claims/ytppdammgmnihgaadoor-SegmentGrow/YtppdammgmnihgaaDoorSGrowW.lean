/-
  SegmentGrow (P9.2): a segment that grows step by step is as one that was made so great, with what was written into it: its walk.
-/
import Derived.Test.YtppdammgmnihgaaDoorSCopy
import Derived.Lib.MinMax
namespace Go.Proofs.YtppdammgmnihgaaDoor
open Go.RowKit
theorem grow_left (W : List UInt8) : leftL 100 (upd L0 0 (some W)) = 100 - need W.length := by
  unfold leftL
  have h1 := sumF_upd (fun j => lens (L0 j)) (fun j => lens (upd L0 0 (some W) j)) 64 0 (by omega) (fun j hj => by simp only [upd_other _ _ _ _ hj])
  rw [sumF_zero 64 (fun j => lens (L0 j)) fun _ _ => rfl] at h1
  have e1 : lens (upd L0 0 (some W) 0) = need W.length := by rw [upd_same]; rfl
  have e2 : lens (L0 0) = 0 := rfl
  simp only [e1, e2] at h1
  rw [show sumF (fun j => lens (upd L0 0 (some W) j)) 64 = need W.length by omega]
theorem grow_e (W : List UInt8) (n x : Nat) (hW : W.length = n) (h : n + x ≤ 3000) : growE 100 (upd L0 0 (some W)) W ((n + x : Nat) : Int) = 0 := by
  unfold growE; rw [if_neg (by omega), if_neg (by rw [grow_left, Int.toNat_natCast, hW]; unfold need; omega)]
theorem grow_l (W : List UInt8) (n x : Nat) (hW : W.length = n) (h : n + x ≤ 3000) : growL 100 (upd L0 0 (some W)) 0 W ((n + x : Nat) : Int) = upd L0 0 (some (W ++ zeros x)) := by
  unfold growL; rw [if_pos (grow_e W n x hW h), upd_upd, Int.toNat_natCast, hW, Nat.add_sub_cancel_left]
theorem create0_e : createE 100 L0 0 = 0 := by decide
def GroRel (w1 : World) (st N0 gk : Nat) (vn vw vi : Value) (wr : World) : Prop :=
  ∃ (j n : Nat) (co : Option Addr) (cc : Nat) (W : List UInt8), j + gk = N0 ∧ vi = .int .i64 j ∧ vn = .int .i64 n ∧ vw = .slice co n cc ∧ n ≤ 3000 ∧ Hid (W.length = n) ∧ Hid (wr.ownsRow w1.heap.size 5 1 (.slice co n cc) n (cellsB W)) ∧ Hid (St wr w1.heap.size st 100 (upd L0 0 (some W))) ∧ Hid (Below w1.heap.size w1 wr)
set_option maxRecDepth 20000 in
set_option maxHeartbeats 1600000 in
theorem walk_grow (so : Option Addr) (N0 scap : Nat) (sl : List UInt8) (ao : Option Addr) (N cap : Nat) (l : List UInt8) (w : World) (hs : Bts w so N0 scap sl) (hd : Bts w ao N cap l) (hN0 : N0 ≤ 140737488351232) (hN : N ≤ 140737488351232) (hg : Glob w) :
    Calls Tryd.prog 5 #[.slice so N0 scap, .slice ao N cap] w fun e w' => e = .returned (.bool true) ∧ Below w.heap.size w w' := by
  have HG := hide hg
  have HD := hide hd
  have HSL := hide hs
  have hscap : scap ≤ 9223372036854775807 := hs.2.2.1
  have hsnc : N0 ≤ scap := hs.2.1
  have hcap : cap ≤ 9223372036854775807 := hd.2.2.1
  have hnc : N ≤ cap := hd.2.1
  clear hg hd hs
  obtain ⟨i0, KZ, hKb⟩ := Tryd.byteCell
  go_enter Tryd.func5, Tryd.ntmps5
  go_wp2_with fail
  refine (awake_any _ HG.out).mono ?_; rintro e w1 ⟨rfl, b1⟩
  have HB1 := hide b1
  have HD1 := hide (HD.out.carry b1)
  have HSL1 := hide (HSL.out.carry b1)
  clear b1 HD HSL
  go_wp2_with fail
  refine (sof_any 100 w1 100 (by decide) (by omega)).mono ?_; rintro e w2 ⟨st, rfl, S2, b2⟩
  have H2 : Hid (St w2 w1.heap.size st 100 L0) := S2
  have HB2 := hide b2
  clear S2 b2
  go_wp2_with fail
  refine (screate_ok 0 0 _ H2.out HB2.out.size create0_e awake_l0).mono ?_; rintro e w3 ⟨rfl, S3, k3⟩
  have H3 : Hid (St w3 w1.heap.size st 100 (upd L0 0 (some []))) := S3
  have HB3 := hide (HB2.out.trans (k3.low HB2.out.size (StP.low _)))
  clear S3 k3 H2 HB2
  go_wp2_with fail
  go_loopg [8, 9, 25] N0 (fun gk vn vw vi wr => GroRel w1 st N0 gk vn vw vi wr)
  case atStart => exact ⟨0, 0, none, 0, [], by omega, rfl, rfl, rfl, by omega, rfl, World.ownsRow_nil _ _ _ _, H3, HB3⟩
  case round =>
    clear H3 HB3
    obtain ⟨j, n, co, cc, W, hj, rfl, rfl, rfl, hn3, HW, HR, HS, HB⟩ := hrel
    have hcc : cc ≤ 9223372036854775807 := (row5_bts HR.out).2.2.1
    cases gk with
    | zero =>
      have hlt : ¬ ((j : Int) < (N0 : Int)) := by omega
      go_wp2_with fail
      refine (tread_yes 0 0 n W _ HS.out (upd_same _ _ _) (by rw [HW.out]; omega)).mono ?_; rintro e w9 ⟨c9, cc9, rfl, R9, b9⟩
      rw [show pieceF W 0 n = W by unfold pieceF; rw [List.drop_zero, List.take_of_length_le (by rw [HW.out]; omega)]] at R9
      have HB9 := hide (HB.out.trans (b9.mono HB.out.size))
      have H9 := hide (HS.out.grow b9)
      obtain ⟨Z, hZ⟩ : ∃ Z, str W = Z := ⟨_, rfl⟩
      have cv1 : (convert 28 9 (.slice c9 n cc9)).run Tryd.prog w9 = .ok (.string Z) w9 := by rw [← hZ]; exact conv_bts (row5_bts R9)
      have cv2 : (convert 28 9 (.slice co n cc)).run Tryd.prog w9 = .ok (.string Z) w9 := by rw [← hZ]; exact conv_bts (row5_bts (row5_grow HR.out b9))
      have hnd : ((n : Int) + 63) / 64 = (need n : Int) := by unfold need; omega
      have hnt : ((n : Int) + 63).tdiv 64 = (need n : Int) := by rw [Int.tdiv_eq_ediv_of_nonneg (by omega)]; exact hnd
      obtain ⟨d, hd⟩ : ∃ d, need n = d := ⟨_, rfl⟩
      rw [hd] at hnd hnt
      have hd4 : d ≤ 100 := by rw [← hd]; unfold need; omega
      have HD : Hid (leftL 100 (upd L0 0 (some W)) = 100 - d) := by show _ = _; rw [grow_left, HW.out, hd]
      have hsub : (100 : Int) - (d : Int) = ((100 - d : Nat) : Int) := by omega
      clear R9 b9 hZ hd
      go_wp2_with fail
      refine (sleft_any _ H9.out).mono ?_; rintro e w10 ⟨rfl, rfl⟩
      rw [HD.out]
      go_wp2
      go_ret
      exact ⟨rfl, HB1.out.trans (HB9.out.mono HB1.out.size)⟩
    | succ g1 =>
      have hlt : ((j : Int) < (N0 : Int)) := by omega
      have hjN : j < N0 := by omega
      obtain ⟨sd, rfl⟩ := HSL1.out.addr (by omega)
      have hc := (HSL1.out.carry HB.out).2.2.2.2 sd rfl j (by rw [← HSL1.out.1]; exact hjN)
      obtain ⟨x, hx, hx255⟩ : ∃ x : Nat, bt sl j = (x : Int) ∧ x ≤ 255 := ⟨(bt sl j).toNat, by have := bt_lo sl j; omega, by have := bt_hi sl j; omega⟩
      rw [hx] at hc
      clear hx
      by_cases hbig : 3000 < n + x
      · have hgt : 3000 < (n : Int) + (x : Int) := by omega
        go_wp2_with fail
        refine (tread_yes 0 0 n W _ HS.out (upd_same _ _ _) (by rw [HW.out]; omega)).mono ?_; rintro e w9 ⟨c9, cc9, rfl, R9, b9⟩
        rw [show pieceF W 0 n = W by unfold pieceF; rw [List.drop_zero, List.take_of_length_le (by rw [HW.out]; omega)]] at R9
        have HB9 := hide (HB.out.trans (b9.mono HB.out.size))
        have H9 := hide (HS.out.grow b9)
        obtain ⟨Z, hZ⟩ : ∃ Z, str W = Z := ⟨_, rfl⟩
        have cv1 : (convert 28 9 (.slice c9 n cc9)).run Tryd.prog w9 = .ok (.string Z) w9 := by rw [← hZ]; exact conv_bts (row5_bts R9)
        have cv2 : (convert 28 9 (.slice co n cc)).run Tryd.prog w9 = .ok (.string Z) w9 := by rw [← hZ]; exact conv_bts (row5_bts (row5_grow HR.out b9))
        have hnd : ((n : Int) + 63) / 64 = (need n : Int) := by unfold need; omega
        have hnt : ((n : Int) + 63).tdiv 64 = (need n : Int) := by rw [Int.tdiv_eq_ediv_of_nonneg (by omega)]; exact hnd
        obtain ⟨d, hd⟩ : ∃ d, need n = d := ⟨_, rfl⟩
        rw [hd] at hnd hnt
        have hd4 : d ≤ 100 := by rw [← hd]; unfold need; omega
        have HD : Hid (leftL 100 (upd L0 0 (some W)) = 100 - d) := by show _ = _; rw [grow_left, HW.out, hd]
        have hsub : (100 : Int) - (d : Int) = ((100 - d : Nat) : Int) := by omega
        clear R9 b9 hZ hd
        go_wp2_with fail
        refine (sleft_any _ H9.out).mono ?_; rintro e w10 ⟨rfl, rfl⟩
        rw [HD.out]
        go_wp2
        go_ret
        exact ⟨rfl, HB1.out.trans (HB9.out.mono HB1.out.size)⟩
      · have hgt : ¬ (3000 < (n : Int) + (x : Int)) := by omega
        obtain ⟨q, hq⟩ : ∃ q, n + x = q := ⟨_, rfl⟩
        have hqi : (n : Int) + (x : Int) = (q : Int) := by omega
        have hq3 : q ≤ 3000 := by omega
        have HQ := hide hq
        have hqn : (q : Int) - (n : Int) = (x : Int) := by omega
        obtain ⟨k, hk⟩ : ∃ k, min N q = k := ⟨_, rfl⟩
        have hkq : k ≤ q := by omega
        have hkN : k ≤ N := by omega
        have hmin : min (N : Int) (q : Int) = (k : Int) := by omega
        have hqk : (q : Int) - (k : Int) = ((q - k : Nat) : Int) := by omega
        have hcut := fun X : World => cut_head X ao N cap k (by omega)
        clear hq hk hbig
        go_wp2_with fail
        refine (sgrow_any 0 W (q : Int) _ HS.out HB.out.size (upd_same _ _ _)).mono ?_; rintro e w4 ⟨rfl, S4, k4⟩
        rw [← HQ.out, grow_l W n x HW.out (by rw [HQ.out]; exact hq3)] at S4
        rw [← HQ.out, grow_e W n x HW.out (by rw [HQ.out]; exact hq3), erS_zero, HQ.out]
        have H4 := hide S4
        have HR4 := hide (row5_keep HR.out k4)
        have HB4 := hide (HB.out.trans (k4.low HB.out.size (StP.low _)))
        clear S4 k4
        have hs4 : w1.heap.size ≤ w4.heap.size := HB4.out.size
        go_wp2_with (at_builtin; refine wpList_append_zeros _ rfl _ _ rfl w1.heap.size KZ (.slice co n cc) n (cellsB W) rfl HR4.out x rfl (by omega) (by rw [hKb]; omega) hs4 ?_)
        intro v' w5 hown hgrow _
        rw [cellsB_more, HQ.out] at hown
        obtain ⟨co5, cc5, rfl, bt5⟩ := owns_bts hown
        have hcc5 : cc5 ≤ 9223372036854775807 := bt5.2.2.1
        have hqc5 : q ≤ cc5 := bt5.2.1
        have HR5 := hide hown
        have F5 := foot_grown hgrow
        have H5 := hide (H4.out.row HR4.out F5)
        have HB5 := hide (HB4.out.trans (foot_low HR4.out F5 hs4))
        have HW5 : Hid ((W ++ zeros x).length = q) := by show _ = _; rw [List.length_append, zeros_len, HW.out, HQ.out]
        clear hown hgrow F5 bt5
        obtain ⟨W2, hW2⟩ : ∃ Y, W ++ zeros x = Y := ⟨_, rfl⟩
        rw [hW2] at HR5 H5 HW5
        have HD5 := hide ((HD1.out.carry HB5.out).head k hkN)
        have HOF : Hid (0 < k → Off w1.heap.size w5 ao) := fun _ => off_low fun ad e => by
          have := lt_of_cell (HD1.out.2.2.2.2 ad e 0 (by rw [← HD1.out.1]; omega)); rw [add_block] at this; exact this
        go_wp2_with fail
        refine (twrite_yes 0 (q - k) W2 ao k cap (l.take k) _ H5.out (upd_same _ _ _) HD5.out HOF.out (by rw [HW5.out]; omega)).mono ?_; rintro e w6 ⟨rfl, S6, k6⟩
        rw [upd_upd] at S6
        have H6 := hide S6
        have HR6 := hide (row5_keep HR5.out k6)
        have HB6 := hide (HB5.out.trans (k6.low HB5.out.size (StP.low _)))
        clear S6 k6
        have hcut2 := fun X : World => cut_tail X co5 q cc5 (q - k) (by omega)
        obtain ⟨w7, hcopy, R7, F7⟩ := copy_own HR6.out ((HD1.out.carry HB6.out).head k hkN) (show (q - k) + k ≤ q by omega)
        obtain ⟨ta, hta⟩ : ∃ X, tailA co5 (q - k) cc5 = X := ⟨_, rfl⟩
        have hqq : q - (q - k) = k := by omega
        rw [hta] at hcut2 hcopy
        rw [hqq] at hcut2 hcopy
        have hcq : cc5 - (q - k) ≤ 9223372036854775807 := by omega
        have H7 := hide (H6.out.row HR6.out F7)
        have HR7 := hide R7
        have HB7 := hide (HB6.out.trans (foot_low HR6.out F7 HB6.out.size))
        have HW7 : Hid ((splice W2 (q - k) (l.take k)).length = q) := by
          have := HD5.out.1
          show _ = _; rw [length_splice _ _ _ (by rw [HW5.out]; omega)]; exact HW5.out
        clear R7 F7 hta
        go_wp2
        go_roundg g1
        case measure => omega
        case rel => exact ⟨j + 1, q, co5, cc5, _, by omega, by go_num, rfl, rfl, hq3, HW7, HR7, H7, HB7⟩
end Go.Proofs.YtppdammgmnihgaaDoor
