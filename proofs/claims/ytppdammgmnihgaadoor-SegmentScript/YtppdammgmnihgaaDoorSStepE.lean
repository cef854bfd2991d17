/-
  Deeds of a script on a segment that is there: Read.
-/
import Derived.Test.YtppdammgmnihgaaDoorSStepD
namespace Go.Proofs.YtppdammgmnihgaaDoor
open Go.RowKit
variable {w w' : World} {B st mo n g : Nat} {L : Nat → Option (List UInt8)} {sl : Nat → Value} {op id x y : Int} {d : Value} {w0 : World} {so : Option Addr} {sn sc : Nat} {l : List UInt8}
set_option maxRecDepth 20000 in
set_option maxHeartbeats 1600000 in
theorem step_read (o : Nat) (i : Nat) (l' : List UInt8) (w : World) (p : In w B st mo n L sl so sn sc l) (hN : Nums (i : Int) x y) (h0 : o % 7 = 5) (hi : i < 64) (hli : L i = some l') :
    Calls Tryd.prog 9 #[.pointer (some ⟨mo, 0, none⟩), .pointer (some ⟨st, 0, none⟩), actV (o : Int) (i : Int) x y so sn sc] w fun e w' => e = .returned (.bool true) ∧ Both w B st mo n w' := by
  have HP := hide p
  obtain ⟨i0, i1, x0, x1, y0, y1⟩ := hN
  have hw1 := wrap_small (z := (i : Int)) (by omega) (by omega)
  have hw2 := wrap_small x0 x1
  have hw3 := wrap_small y0 y1
  have ho : (o : Int) % 7 = 5 := by omega
  have ho2 : (o : Int).tmod 7 = 5 := by rw [Int.tmod_eq_emod_of_nonneg (by omega)]; exact ho
  have HB0 := hide (p.box (o : Int) (i : Int) x y 0)
  have c0 := HB0.out.act.c0
  have c1 := HB0.out.act.c1
  have c2 := HB0.out.act.c2
  have c3 := HB0.out.act.c3
  have hn4 := p.st.sum.2
  have hs63 : sc ≤ 9223372036854775807 := p.dat.1.2.2.1
  have hs64 : sn ≤ sc := p.dat.1.2.1
  have hmx : sn ≤ maxLen := by unfold maxLen; omega
  have HLI := hide hli
  have hi64 : (i : Int) < 64 := by omega
  have hi0' : (0 : Int) ≤ (i : Int) := by omega
  obtain ⟨co, cc, hform, hcc, hlc⟩ := p.mod.form i l' hli
  have hmost := (p.st.most i l' hli).1
  obtain ⟨m, hm⟩ : ∃ m, l'.length = m := ⟨_, rfl⟩
  have HLEN := hide hm
  have HFORM := hide hform
  rw [hm] at hlc hmost HFORM
  clear hm hform
  clear p h0 hli
  unfold actV
  go_enter Tryd.func9, Tryd.ntmps9
  go_wp2_with fail
  go_quiet (fail)
  have HK := hide (HP.out.box (o : Int) (i : Int) x y nq)
  obtain ⟨W, hW⟩ : ∃ W, (w.alloc (.cells #[.int .u8 (o : Int), .int .i8 (i : Int), .int .i16 x, .int .i16 y, .slice so sn sc] 35)).drewN nq = W := ⟨_, rfl⟩
  rw [hW] at HK
  rw [hW]
  obtain ⟨gg, hgg⟩ : ∃ gg, w.heap.size = gg := ⟨_, rfl⟩
  rw [hgg] at HK
  rw [hgg]
  have c0 := HK.out.act.c0
  clear hW hgg HB0 c1 c2 c3
  have ct := HK.out.mod.ct i hi
  have cs := HK.out.mod.cs i hi
  rw [HLI.out] at ct
  replace ct : W.cell? ⟨mo, i, none⟩ = some (.bool true) := ct
  rw [HFORM.out] at cs
  cases hin : inS m x y with
  | false =>
    have HNO : Hid (inS l'.length x y = false) := by show _ = _; rw [HLEN.out]; exact hin
    have hin := of_decide_eq_false hin
    by_cases h1 : x < 0
    · as_aux_lemma =>
      clear hin
      go_wp2_with fail
      refine (tread_no i l' x y _ HK.out.st HLI.out (by omega) HNO.out).mono ?_; rintro e w2 ⟨rfl, rfl⟩
      unfold errV
      go_wp2_with fail
      refine (number_errno 13 _ HK.out.glob).mono ?_; rintro e w3 ⟨rfl, b3⟩
      have H3 := hide (HK.out.grow b3)
      clear b3
      go_wp2
      go_ret
      exact ⟨rfl, H3.out.end⟩
    · by_cases h2 : y < 0
      · as_aux_lemma =>
        clear hin
        go_wp2_with fail
        refine (tread_no i l' x y _ HK.out.st HLI.out (by omega) HNO.out).mono ?_; rintro e w2 ⟨rfl, rfl⟩
        unfold errV
        go_wp2_with fail
        refine (number_errno 13 _ HK.out.glob).mono ?_; rintro e w3 ⟨rfl, b3⟩
        have H3 := hide (HK.out.grow b3)
        clear b3
        go_wp2
        go_ret
        exact ⟨rfl, H3.out.end⟩
      · by_cases h3 : (m : Int) < x
        · as_aux_lemma =>
          clear hin
          go_wp2_with fail
          refine (tread_no i l' x y _ HK.out.st HLI.out (by omega) HNO.out).mono ?_; rintro e w2 ⟨rfl, rfl⟩
          unfold errV
          go_wp2_with fail
          refine (number_errno 13 _ HK.out.glob).mono ?_; rintro e w3 ⟨rfl, b3⟩
          have H3 := hide (HK.out.grow b3)
          clear b3
          go_wp2
          go_ret
          exact ⟨rfl, H3.out.end⟩
        · have h4 : (m : Int) - x < y := by omega
          clear hin
          go_wp2_with fail
          refine (tread_no i l' x y _ HK.out.st HLI.out (by omega) HNO.out).mono ?_; rintro e w2 ⟨rfl, rfl⟩
          unfold errV
          go_wp2_with fail
          refine (number_errno 13 _ HK.out.glob).mono ?_; rintro e w3 ⟨rfl, b3⟩
          have H3 := hide (HK.out.grow b3)
          clear b3
          go_wp2
          go_ret
          exact ⟨rfl, H3.out.end⟩
  | true =>
    have hin := of_decide_eq_true hin
    obtain ⟨k, rfl⟩ := Int.eq_ofNat_of_zero_le hin.1
    obtain ⟨q, rfl⟩ := Int.eq_ofNat_of_zero_le hin.2.1
    have hks : k + q ≤ m := by omega
    have h1 : ¬ ((m : Int) < (k : Int)) := by omega
    have h2 : ¬ ((m : Int) - (k : Int) < (q : Int)) := by omega
    have hwk : IntKind.i64.wrap ((k : Int) + (q : Int)) = (k : Int) + (q : Int) := by rw [IntKind.wrap_i64]; omega
    have hcut := fun Z : World => cut_lh8 Z co m cc k q (by omega)
    have hccq : cc - k ≤ 9223372036854775807 := by omega
    clear hin
    go_wp2_with fail
    refine (tread_yes i k q l' _ HK.out.st HLI.out (by rw [HLEN.out]; exact hks)).mono ?_; rintro e w2 ⟨c2, cc2, rfl, R2, b2⟩
    have H2 := hide (HK.out.grow b2)
    have cs2 := H2.out.mod.cs i hi
    rw [HFORM.out] at cs2
    have B2 : Bts w2 co m cc l' := by
      have := H2.out.mod.row i l' HLI.out
      rw [HFORM.out, HLEN.out] at this; exact row5_bts this
    obtain ⟨Z, hZ⟩ : ∃ Z, str (pieceF l' k q) = Z := ⟨_, rfl⟩
    have cv1 : ∀ j, (convert 28 9 (.slice c2 q cc2)).run Tryd.prog (w2.drewN j) = .ok (.string Z) (w2.drewN j) := fun j => by rw [← hZ]; exact conv_bts ((row5_bts R2).drewN j)
    have cv2 : ∀ j, (convert 28 9 (.slice (tailA co k cc) q (cc - k))).run Tryd.prog (w2.drewN j) = .ok (.string Z) (w2.drewN j) := fun j => by
      have := ((B2.tail k (by omega)).head q (by omega)).drewN j
      rw [← hZ]; exact conv_bts this
    obtain ⟨ta, hta⟩ : ∃ Z, tailA co k cc = Z := ⟨_, rfl⟩
    rw [hta] at hcut cv2
    clear R2 b2 B2 hta hZ cs HK
    go_wp2_with fail
    go_quiet (fail)
    go_wp2
    go_ret
    exact ⟨rfl, (H2.out.grow (below_drewN (Below.refl _ _) _)).end⟩
end Go.Proofs.YtppdammgmnihgaaDoor
