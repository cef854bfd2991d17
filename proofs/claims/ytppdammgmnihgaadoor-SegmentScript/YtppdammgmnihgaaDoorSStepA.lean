/-
  A deed of a script: Create.
-/
import Derived.Test.YtppdammgmnihgaaDoorSStep0
namespace Go.Proofs.YtppdammgmnihgaaDoor
open Go.RowKit
variable {w w' : World} {B st mo n g : Nat} {L : Nat → Option (List UInt8)} {sl : Nat → Value} {op id x y : Int} {d : Value} {w0 : World} {so : Option Addr} {sn sc : Nat} {l : List UInt8}
set_option maxRecDepth 20000 in
set_option maxHeartbeats 1600000 in
theorem step_create (o : Nat) (w : World) (p : In w B st mo n L sl so sn sc l) (hN : Nums id x y) (h0 : o % 7 = 0) :
    Calls Tryd.prog 9 #[.pointer (some ⟨mo, 0, none⟩), .pointer (some ⟨st, 0, none⟩), actV (o : Int) id x y so sn sc] w fun e w' => e = .returned (.bool true) ∧ Both w B st mo n w' := by
  have HP := hide p
  obtain ⟨i0, i1, x0, x1, y0, y1⟩ := hN
  have hw1 := wrap_small (z := id) (by omega) (by omega)
  have hw2 := wrap_small x0 x1
  have hw3 := wrap_small y0 y1
  have ho : (o : Int) % 7 = 0 := by omega
  have ho2 : (o : Int).tmod 7 = 0 := by rw [Int.tmod_eq_emod_of_nonneg (by omega)]; exact ho
  have HB0 := hide (p.box (o : Int) id x y 0)
  have c0 := HB0.out.act.c0
  have c1 := HB0.out.act.c1
  have c2 := HB0.out.act.c2
  have c3 := HB0.out.act.c3
  have hn4 := p.st.sum.2
  have hs63 : sc ≤ 9223372036854775807 := p.dat.1.2.2.1
  have hs64 : sn ≤ sc := p.dat.1.2.1
  have hmx : sn ≤ maxLen := by unfold maxLen; omega
  clear p h0
  unfold actV
  go_enter Tryd.func9, Tryd.ntmps9
  go_wp2_with fail
  go_quiet (fail)
  have HK := hide (HP.out.box (o : Int) id x y nq)
  obtain ⟨W, hW⟩ : ∃ W, (w.alloc (.cells #[.int .u8 (o : Int), .int .i8 id, .int .i16 x, .int .i16 y, .slice so sn sc] 35)).drewN nq = W := ⟨_, rfl⟩
  rw [hW] at HK
  rw [hW]
  obtain ⟨gg, hgg⟩ : ∃ gg, w.heap.size = gg := ⟨_, rfl⟩
  rw [hgg] at HK
  rw [hgg]
  have c0 := HK.out.act.c0
  clear hW hgg HB0 c1 c2 c3
  obtain ⟨N, hNN⟩ : ∃ N, createN n L x = N := ⟨_, rfl⟩
  obtain ⟨E, hE⟩ : ∃ E, createE n L x = E := ⟨_, rfl⟩
  obtain ⟨L2, hL2⟩ : ∃ L2, createL n L x = L2 := ⟨_, rfl⟩
  have HNN := hide hNN
  have HE := hide hE
  have HL2 := hide hL2
  clear hNN hE hL2
  go_wp2_with fail
  refine (mcreate_any x _ HK.out.mod HK.out.size hn4 HK.out.st.sum.1).mono ?_; rintro e w2 ⟨rfl, ⟨sl2, M2⟩, F2⟩
  rw [HL2.out] at M2
  rw [HNN.out, HE.out]
  have HM := hide (HK.out.model F2 M2)
  clear M2 F2 HK
  go_wp2_with fail
  refine (screate_any x _ HM.out.st HM.out.size).mono ?_; rintro e w3 ⟨rfl, S3, k3⟩
  rw [HL2.out] at S3
  rw [HNN.out, HE.out]
  have H3 := hide (HM.out.store k3 S3)
  clear S3 k3 HM
  by_cases hE0 : E = 0
  · subst hE0
    rw [erS_zero]
    go_wp2_with fail
    refine (number_nil _).mono ?_; rintro e w4 ⟨rfl, b4⟩
    have H4 := hide (H3.out.grow b4)
    clear b4
    go_wp2
    go_ret
    exact ⟨rfl, H4.out.end⟩
  · rw [show erS E = errV E from if_neg hE0]
    unfold errV
    have hEb : (E == 0) = false := by simpa using hE0
    go_wp2_with fail
    refine (number_errno E _ H3.out.glob).mono ?_; rintro e w4 ⟨rfl, b4⟩
    have H4 := hide (H3.out.grow b4)
    clear b4
    go_wp2
    go_ret
    exact ⟨rfl, H4.out.end⟩
end Go.Proofs.YtppdammgmnihgaaDoor
