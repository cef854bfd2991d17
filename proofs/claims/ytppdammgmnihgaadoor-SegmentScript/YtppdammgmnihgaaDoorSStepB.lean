/-
  A deed of a script on a segment that is not there.
-/
import Derived.Test.YtppdammgmnihgaaDoorSStep0
namespace Go.Proofs.YtppdammgmnihgaaDoor
open Go.RowKit
variable {w w' : World} {B st mo n g : Nat} {L : Nat → Option (List UInt8)} {sl : Nat → Value} {op id x y : Int} {d : Value} {w0 : World} {so : Option Addr} {sn sc : Nat} {l : List UInt8}
set_option maxRecDepth 20000 in
set_option maxHeartbeats 1600000 in
theorem step_none (o : Nat) (r : Nat) (w : World) (p : In w B st mo n L sl so sn sc l) (hN : Nums id x y) (h0 : o % 7 = r) (hr : r ≠ 0) (hno : pickF L id = none) :
    Calls Tryd.prog 9 #[.pointer (some ⟨mo, 0, none⟩), .pointer (some ⟨st, 0, none⟩), actV (o : Int) id x y so sn sc] w fun e w' => e = .returned (.bool true) ∧ Both w B st mo n w' := by
  have HP := hide p
  obtain ⟨i0, i1, x0, x1, y0, y1⟩ := hN
  have hw1 := wrap_small (z := id) (by omega) (by omega)
  have hw2 := wrap_small x0 x1
  have hw3 := wrap_small y0 y1
  have ho : (o : Int) % 7 = (r : Int) := by omega
  have hr0 : ¬ ((r : Int) = 0) := by omega
  have hrb : ((r : Int) == 0) = false := by simpa using hr0
  have ho2 : (o : Int).tmod 7 = (r : Int) := by rw [Int.tmod_eq_emod_of_nonneg (by omega)]; exact ho
  have HB0 := hide (p.box (o : Int) id x y 0)
  have c0 := HB0.out.act.c0
  have c1 := HB0.out.act.c1
  have c2 := HB0.out.act.c2
  have c3 := HB0.out.act.c3
  have hn4 := p.st.sum.2
  have hs63 : sc ≤ 9223372036854775807 := p.dat.1.2.2.1
  have hs64 : sn ≤ sc := p.dat.1.2.1
  have hmx : sn ≤ maxLen := by unfold maxLen; omega
  have HNO := hide hno
  clear p h0 hno hr
  unfold actV
  go_enter Tryd.func9, Tryd.ntmps9
  go_wp2_with fail
  go_quiet (fail)
  have HK := hide (HP.out.box (o : Int) id x y nq)
  obtain ⟨W, hW⟩ : ∃ W, (w.alloc (.cells #[.int .u8 (o : Int), .int .i8 id, .int .i16 x, .int .i16 y, .slice so sn sc] 35)).drewN nq = W := ⟨_, rfl⟩
  rw [hW] at HK
  rw [hW]
  obtain ⟨gg, hgg⟩ : ∃ gg, w.heap.size = gg := ⟨_, rfl⟩
  rw [hgg] at HK
  rw [hgg]
  have c0 := HK.out.act.c0
  clear hW hgg HB0 c1 c2 c3
  by_cases hi0 : id < 0
  · as_aux_lemma =>
    go_wp2_with fail
    refine (ssize_no id _ HK.out.st HNO.out).mono ?_; rintro e w2 ⟨rfl, rfl⟩
    unfold errV
    go_wp2_with fail
    refine (tread_none id x y _ HK.out.st HNO.out).mono ?_; rintro e w3 ⟨rfl, rfl⟩
    unfold errV
    go_wp2_with fail
    refine (number_errno 12 _ HK.out.glob).mono ?_; rintro e w4 ⟨rfl, b4⟩
    have H4 := hide (HK.out.grow b4)
    clear b4
    go_wp2_with fail
    refine (number_errno 12 _ H4.out.glob).mono ?_; rintro e w5 ⟨rfl, b5⟩
    have H5 := hide (H4.out.grow b5)
    clear b5
    go_wp2_with fail
    refine (sdelete_none id _ H5.out.st HNO.out).mono ?_; rintro e w6 ⟨rfl, rfl⟩
    unfold errV
    go_wp2_with fail
    refine (number_errno 12 _ H5.out.glob).mono ?_; rintro e w7 ⟨rfl, b7⟩
    have H7 := hide (H5.out.grow b7)
    clear b7
    go_wp2_with fail
    refine (sgrow_none id x _ H7.out.st HNO.out).mono ?_; rintro e w8 ⟨rfl, rfl⟩
    unfold errV
    go_wp2_with fail
    refine (number_errno 12 _ H7.out.glob).mono ?_; rintro e w9 ⟨rfl, b9⟩
    have H9 := hide (H7.out.grow b9)
    have c4 := H9.out.act.c4
    clear b9
    go_wp2_with fail
    refine (twrite_none id x so sn sc _ H9.out.st hmx HNO.out).mono ?_; rintro e w10 ⟨rfl, rfl⟩
    unfold errV
    go_wp2_with fail
    refine (number_errno 12 _ H9.out.glob).mono ?_; rintro e w11 ⟨rfl, b11⟩
    have H11 := hide (H9.out.grow b11)
    clear b11
    go_wp2
    go_ret
    exact ⟨rfl, H11.out.end⟩
  · by_cases hi64 : 64 ≤ id
    · as_aux_lemma =>
      go_wp2_with fail
      refine (ssize_no id _ HK.out.st HNO.out).mono ?_; rintro e w2 ⟨rfl, rfl⟩
      unfold errV
      go_wp2_with fail
      refine (tread_none id x y _ HK.out.st HNO.out).mono ?_; rintro e w3 ⟨rfl, rfl⟩
      unfold errV
      go_wp2_with fail
      refine (number_errno 12 _ HK.out.glob).mono ?_; rintro e w4 ⟨rfl, b4⟩
      have H4 := hide (HK.out.grow b4)
      clear b4
      go_wp2_with fail
      refine (number_errno 12 _ H4.out.glob).mono ?_; rintro e w5 ⟨rfl, b5⟩
      have H5 := hide (H4.out.grow b5)
      clear b5
      go_wp2_with fail
      refine (sdelete_none id _ H5.out.st HNO.out).mono ?_; rintro e w6 ⟨rfl, rfl⟩
      unfold errV
      go_wp2_with fail
      refine (number_errno 12 _ H5.out.glob).mono ?_; rintro e w7 ⟨rfl, b7⟩
      have H7 := hide (H5.out.grow b7)
      clear b7
      go_wp2_with fail
      refine (sgrow_none id x _ H7.out.st HNO.out).mono ?_; rintro e w8 ⟨rfl, rfl⟩
      unfold errV
      go_wp2_with fail
      refine (number_errno 12 _ H7.out.glob).mono ?_; rintro e w9 ⟨rfl, b9⟩
      have H9 := hide (H7.out.grow b9)
      have c4 := H9.out.act.c4
      clear b9
      go_wp2_with fail
      refine (twrite_none id x so sn sc _ H9.out.st hmx HNO.out).mono ?_; rintro e w10 ⟨rfl, rfl⟩
      unfold errV
      go_wp2_with fail
      refine (number_errno 12 _ H9.out.glob).mono ?_; rintro e w11 ⟨rfl, b11⟩
      have H11 := hide (H9.out.grow b11)
      clear b11
      go_wp2
      go_ret
      exact ⟨rfl, H11.out.end⟩
    · obtain ⟨j, rfl⟩ := Int.eq_ofNat_of_zero_le (show 0 ≤ id by omega)
      have hj : j < 64 := by omega
      have hlj : (j : Int) < 64 := by omega
      have ct := HK.out.mod.ct j hj
      have hLj := HNO.out
      rw [pickF_nat L j hj] at hLj
      rw [hLj] at ct
      replace ct : W.cell? ⟨mo, j, none⟩ = some (.bool false) := ct
      clear hLj
      go_wp2_with fail
      refine (ssize_no (j : Int) _ HK.out.st HNO.out).mono ?_; rintro e w2 ⟨rfl, rfl⟩
      unfold errV
      go_wp2_with fail
      refine (tread_none (j : Int) x y _ HK.out.st HNO.out).mono ?_; rintro e w3 ⟨rfl, rfl⟩
      unfold errV
      go_wp2_with fail
      refine (number_errno 12 _ HK.out.glob).mono ?_; rintro e w4 ⟨rfl, b4⟩
      have H4 := hide (HK.out.grow b4)
      clear b4
      go_wp2_with fail
      refine (number_errno 12 _ H4.out.glob).mono ?_; rintro e w5 ⟨rfl, b5⟩
      have H5 := hide (H4.out.grow b5)
      clear b5
      go_wp2_with fail
      refine (sdelete_none (j : Int) _ H5.out.st HNO.out).mono ?_; rintro e w6 ⟨rfl, rfl⟩
      unfold errV
      go_wp2_with fail
      refine (number_errno 12 _ H5.out.glob).mono ?_; rintro e w7 ⟨rfl, b7⟩
      have H7 := hide (H5.out.grow b7)
      clear b7
      go_wp2_with fail
      refine (sgrow_none (j : Int) x _ H7.out.st HNO.out).mono ?_; rintro e w8 ⟨rfl, rfl⟩
      unfold errV
      go_wp2_with fail
      refine (number_errno 12 _ H7.out.glob).mono ?_; rintro e w9 ⟨rfl, b9⟩
      have H9 := hide (H7.out.grow b9)
      have c4 := H9.out.act.c4
      clear b9
      go_wp2_with fail
      refine (twrite_none (j : Int) x so sn sc _ H9.out.st hmx HNO.out).mono ?_; rintro e w10 ⟨rfl, rfl⟩
      unfold errV
      go_wp2_with fail
      refine (number_errno 12 _ H9.out.glob).mono ?_; rintro e w11 ⟨rfl, b11⟩
      have H11 := hide (H9.out.grow b11)
      clear b11
      go_wp2
      go_ret
      exact ⟨rfl, H11.out.end⟩
end Go.Proofs.YtppdammgmnihgaaDoor
