/-
  Deeds of a script on a segment that is there: Write.
-/
import Derived.Test.YtppdammgmnihgaaDoorSStep0
namespace Go.Proofs.YtppdammgmnihgaaDoor
open Go.RowKit
variable {w w' : World} {B st mo n g : Nat} {L : Nat → Option (List UInt8)} {sl : Nat → Value} {op id x y : Int} {d : Value} {w0 : World} {so : Option Addr} {sn sc : Nat} {l : List UInt8}
theorem ModAt.recopy {i : Nat} {l0 l2 : List UInt8} (p : ModAt w B mo n L sl) (hi : L i = some l0) (F : Foot (fun j => (sl i).ownBlock = some j) w w') (R : w'.ownsRow B 5 1 (sl i) l2.length (cellsB l2)) : ModAt w' B mo n (upd L i (some l2)) sl := by
  have ne : ¬ ((sl i).ownBlock = some mo) := fun e => by
    obtain ⟨_, cur, hg⟩ := row5_is (p.row i l0 hi) e; exact tyne hg p.box (by decide) rfl
  have look : ∀ j l, upd L i (some l2) j = some l → ∃ l3, L j = some l3 := by
    intro j l h
    by_cases e : j = i
    · subst e; exact ⟨l0, hi⟩
    · rw [upd_other _ _ _ _ e] at h; exact ⟨l, h⟩
  refine ⟨?_, p.low, fun j h => ?_, fun j l h => ?_, fun j l j' l' r h h' e e' => ?_⟩
  · rw [boxM_same n L sl i l0 l2 hi]; exact (F.block mo (lt_of_heap p.box) ne).trans p.box
  · by_cases e : j = i
    · subst e; rw [upd_same] at h; cases h
    · rw [upd_other _ _ _ _ e] at h; exact p.nil j h
  · by_cases e : j = i
    · subst e; rw [upd_same] at h; cases h; exact R
    · rw [upd_other _ _ _ _ e] at h
      exact ownsRow_keep (foot_keep F) (p.row j l h) fun g c _ e1 e2 => e (p.apart j l i l0 g h hi e1 e2)
  · obtain ⟨a, ha⟩ := look j l h
    obtain ⟨b, hb⟩ := look j' l' h'
    exact p.apart j a j' b r ha hb e e'
theorem cut_lh8 (w : World) (ao : Option Addr) (n cap k m : Nat) (h : k + m ≤ cap) : (Instr.slice 28 (.slice ao n cap) (some (.int .i64 (k : Int))) (some (.int .i64 ((k : Int) + (m : Int)))) none).run Tryd.prog w = .ok (.slice (tailA ao k cap) m (cap - k)) w := by
  have ht : Tryd.prog.underlying 28 = some (.slice (Tryd.prog.elem 28)) := by simp [Program.elem, Tryd.underlying28]
  have he : Tryd.prog.elem 28 = 5 := by simp [Program.elem, Tryd.underlying28]
  rw [run_slice_lh (P := Tryd.prog) w 28 ao n cap ht .i64 .i64 (k : Int) ((k : Int) + (m : Int)) (by omega) (by omega) (by omega), he, Tryd.sizeByte]
  have e1 : ((k : Int) + (m : Int)).toNat - k = m := by omega
  simp [Result.andThen, sliced, tailA, e1]
set_option maxRecDepth 20000 in
set_option maxHeartbeats 1600000 in
theorem step_write3 (o : Nat) (i : Nat) (l' : List UInt8) (w : World) (p : In w B st mo n L sl so sn sc l) (hN : Nums (i : Int) x y) (h0 : o % 7 = 3) (hi : i < 64) (hli : L i = some l') :
    Calls Tryd.prog 9 #[.pointer (some ⟨mo, 0, none⟩), .pointer (some ⟨st, 0, none⟩), actV (o : Int) (i : Int) x y so sn sc] w fun e w' => e = .returned (.bool true) ∧ Both w B st mo n w' := by
  have HP := hide p
  obtain ⟨i0, i1, x0, x1, y0, y1⟩ := hN
  have hw1 := wrap_small (z := (i : Int)) (by omega) (by omega)
  have hw2 := wrap_small x0 x1
  have hw3 := wrap_small y0 y1
  have ho : (o : Int) % 7 = 3 := by omega
  have ho2 : (o : Int).tmod 7 = 3 := by rw [Int.tmod_eq_emod_of_nonneg (by omega)]; exact ho
  have HB0 := hide (p.box (o : Int) (i : Int) x y 0)
  have c0 := HB0.out.act.c0
  have c1 := HB0.out.act.c1
  have c2 := HB0.out.act.c2
  have c3 := HB0.out.act.c3
  have hn4 := p.st.sum.2
  have hs63 : sc ≤ 9223372036854775807 := p.dat.1.2.2.1
  have hs64 : sn ≤ sc := p.dat.1.2.1
  have hmx : sn ≤ maxLen := by unfold maxLen; omega
  have HLI := hide hli
  have hi64 : (i : Int) < 64 := by omega
  have hi0' : (0 : Int) ≤ (i : Int) := by omega
  obtain ⟨co, cc, hform, hcc, hlc⟩ := p.mod.form i l' hli
  have hmost := (p.st.most i l' hli).1
  obtain ⟨m, hm⟩ : ∃ m, l'.length = m := ⟨_, rfl⟩
  have HLEN := hide hm
  have HFORM := hide hform
  rw [hm] at hlc hmost HFORM
  clear hm hform
  clear p h0 hli
  unfold actV
  go_enter Tryd.func9, Tryd.ntmps9
  go_wp2_with fail
  go_quiet (fail)
  have HK := hide (HP.out.box (o : Int) (i : Int) x y nq)
  obtain ⟨W, hW⟩ : ∃ W, (w.alloc (.cells #[.int .u8 (o : Int), .int .i8 (i : Int), .int .i16 x, .int .i16 y, .slice so sn sc] 35)).drewN nq = W := ⟨_, rfl⟩
  rw [hW] at HK
  rw [hW]
  obtain ⟨gg, hgg⟩ : ∃ gg, w.heap.size = gg := ⟨_, rfl⟩
  rw [hgg] at HK
  rw [hgg]
  have c0 := HK.out.act.c0
  clear hW hgg HB0 c1 c2 c3
  have ct := HK.out.mod.ct i hi
  have cs := HK.out.mod.cs i hi
  rw [HLI.out] at ct
  replace ct : W.cell? ⟨mo, i, none⟩ = some (.bool true) := ct
  rw [HFORM.out] at cs
  have c4 := HK.out.act.c4
  cases hin : inS m x sn with
  | false =>
    have HNO : Hid (inS l'.length x sn = false) := by show _ = _; rw [HLEN.out]; exact hin
    have hin := of_decide_eq_false hin
    by_cases h1 : x < 0
    · as_aux_lemma =>
      clear hin
      go_wp2_with fail
      refine (twrite_no i l' x so sn sc _ HK.out.st hmx HLI.out (by omega) HNO.out).mono ?_; rintro e w2 ⟨rfl, rfl⟩
      unfold errV
      have c4 := HK.out.act.c4
      go_wp2_with fail
      refine (number_errno 13 _ HK.out.glob).mono ?_; rintro e w3 ⟨rfl, b3⟩
      have H3 := hide (HK.out.grow b3)
      clear b3
      go_wp2
      go_ret
      exact ⟨rfl, H3.out.end⟩
    · by_cases h2 : (m : Int) < x
      · as_aux_lemma =>
        clear hin
        go_wp2_with fail
        refine (twrite_no i l' x so sn sc _ HK.out.st hmx HLI.out (by omega) HNO.out).mono ?_; rintro e w2 ⟨rfl, rfl⟩
        unfold errV
        have c4 := HK.out.act.c4
        go_wp2_with fail
        refine (number_errno 13 _ HK.out.glob).mono ?_; rintro e w3 ⟨rfl, b3⟩
        have H3 := hide (HK.out.grow b3)
        clear b3
        go_wp2
        go_ret
        exact ⟨rfl, H3.out.end⟩
      · have h3 : (m : Int) - x < (sn : Int) := by omega
        clear hin
        go_wp2_with fail
        refine (twrite_no i l' x so sn sc _ HK.out.st hmx HLI.out (by omega) HNO.out).mono ?_; rintro e w2 ⟨rfl, rfl⟩
        unfold errV
        have c4 := HK.out.act.c4
        go_wp2_with fail
        refine (number_errno 13 _ HK.out.glob).mono ?_; rintro e w3 ⟨rfl, b3⟩
        have H3 := hide (HK.out.grow b3)
        clear b3
        go_wp2
        go_ret
        exact ⟨rfl, H3.out.end⟩
  | true =>
    have hin := of_decide_eq_true hin
    obtain ⟨k, rfl⟩ := Int.eq_ofNat_of_zero_le hin.1
    have hks : k + sn ≤ m := by omega
    have h1 : ¬ ((m : Int) < (k : Int)) := by omega
    have h2 : ¬ ((m : Int) - (k : Int) < (sn : Int)) := by omega
    clear hin
    go_wp2_with fail
    refine (twrite_yes i k l' so sn sc l _ HK.out.st HLI.out HK.out.dat.1 HK.out.dat.off (by rw [HLEN.out]; exact hks)).mono ?_; rintro e w2 ⟨rfl, S2, k2⟩
    have b2 : Below B W w2 := k2.low HK.out.size (StP.low _)
    have M2 := HK.out.mod.store k2
    have c4 := (HK.out.act.store k2).c4
    have cs2 := M2.cs i hi
    rw [HFORM.out] at cs2
    have D2 := HK.out.dat.carry b2
    have R2 : w2.drew.ownsRow B 5 1 (.slice co m cc) m (cellsB l') := by
      have := M2.row i l' HLI.out
      rw [HFORM.out, HLEN.out] at this; exact this
    obtain ⟨w5, hcopy, R5, F5⟩ := copy_own R2 (D2.1.drewN 1) hks
    have hcut2 := fun Z : World => cut_tail Z co m cc k (by omega)
    obtain ⟨ta, hta⟩ : ∃ Z, tailA co k cc = Z := ⟨_, rfl⟩
    rw [hta] at hcut2 hcopy
    have hl2 : (splice l' k l).length = m := by rw [length_splice _ _ _ (by rw [HLEN.out, ← HK.out.dat.1.1]; exact hks)]; exact HLEN.out
    have HE : Hid (Both w B st mo n w5) := by
      have F6 : Foot (fun j => (sl i).ownBlock = some j) w2 w5 := by
        rw [HFORM.out]; exact ((Foot.refl _ w2).drewN 1).then F5
      have R3 : w2.ownsRow B 5 1 (sl i) m (cellsB l') := by rw [HFORM.out]; exact R2
      have hB2 : B ≤ w2.heap.size := Nat.le_trans HK.out.size b2.size
      refine ⟨upd L i (some (splice l' k l)), sl, S2.row R3 F6, M2.recopy HLI.out F6 ?_, HK.out.bel.trans (b2.trans (foot_low R3 F6 hB2))⟩
      rw [hl2, HFORM.out]; exact R5
    clear S2 k2 b2 M2 D2 R2 R5 F5 hta hl2 cs HK
    go_wp2_with fail
    go_region
    go_wp2
    go_ret
    exact ⟨rfl, HE.out⟩
set_option maxRecDepth 20000 in
set_option maxHeartbeats 1600000 in
theorem step_write4 (o : Nat) (i : Nat) (l' : List UInt8) (w : World) (p : In w B st mo n L sl so sn sc l) (hN : Nums (i : Int) x y) (h0 : o % 7 = 4) (hi : i < 64) (hli : L i = some l') :
    Calls Tryd.prog 9 #[.pointer (some ⟨mo, 0, none⟩), .pointer (some ⟨st, 0, none⟩), actV (o : Int) (i : Int) x y so sn sc] w fun e w' => e = .returned (.bool true) ∧ Both w B st mo n w' := by
  have HP := hide p
  obtain ⟨i0, i1, x0, x1, y0, y1⟩ := hN
  have hw1 := wrap_small (z := (i : Int)) (by omega) (by omega)
  have hw2 := wrap_small x0 x1
  have hw3 := wrap_small y0 y1
  have ho : (o : Int) % 7 = 4 := by omega
  have ho2 : (o : Int).tmod 7 = 4 := by rw [Int.tmod_eq_emod_of_nonneg (by omega)]; exact ho
  have HB0 := hide (p.box (o : Int) (i : Int) x y 0)
  have c0 := HB0.out.act.c0
  have c1 := HB0.out.act.c1
  have c2 := HB0.out.act.c2
  have c3 := HB0.out.act.c3
  have hn4 := p.st.sum.2
  have hs63 : sc ≤ 9223372036854775807 := p.dat.1.2.2.1
  have hs64 : sn ≤ sc := p.dat.1.2.1
  have hmx : sn ≤ maxLen := by unfold maxLen; omega
  have HLI := hide hli
  have hi64 : (i : Int) < 64 := by omega
  have hi0' : (0 : Int) ≤ (i : Int) := by omega
  obtain ⟨co, cc, hform, hcc, hlc⟩ := p.mod.form i l' hli
  have hmost := (p.st.most i l' hli).1
  obtain ⟨m, hm⟩ : ∃ m, l'.length = m := ⟨_, rfl⟩
  have HLEN := hide hm
  have HFORM := hide hform
  rw [hm] at hlc hmost HFORM
  clear hm hform
  clear p h0 hli
  unfold actV
  go_enter Tryd.func9, Tryd.ntmps9
  go_wp2_with fail
  go_quiet (fail)
  have HK := hide (HP.out.box (o : Int) (i : Int) x y nq)
  obtain ⟨W, hW⟩ : ∃ W, (w.alloc (.cells #[.int .u8 (o : Int), .int .i8 (i : Int), .int .i16 x, .int .i16 y, .slice so sn sc] 35)).drewN nq = W := ⟨_, rfl⟩
  rw [hW] at HK
  rw [hW]
  obtain ⟨gg, hgg⟩ : ∃ gg, w.heap.size = gg := ⟨_, rfl⟩
  rw [hgg] at HK
  rw [hgg]
  have c0 := HK.out.act.c0
  clear hW hgg HB0 c1 c2 c3
  have ct := HK.out.mod.ct i hi
  have cs := HK.out.mod.cs i hi
  rw [HLI.out] at ct
  replace ct : W.cell? ⟨mo, i, none⟩ = some (.bool true) := ct
  rw [HFORM.out] at cs
  have c4 := HK.out.act.c4
  cases hin : inS m x sn with
  | false =>
    have HNO : Hid (inS l'.length x sn = false) := by show _ = _; rw [HLEN.out]; exact hin
    have hin := of_decide_eq_false hin
    by_cases h1 : x < 0
    · as_aux_lemma =>
      clear hin
      go_wp2_with fail
      refine (twrite_no i l' x so sn sc _ HK.out.st hmx HLI.out (by omega) HNO.out).mono ?_; rintro e w2 ⟨rfl, rfl⟩
      unfold errV
      have c4 := HK.out.act.c4
      go_wp2_with fail
      refine (number_errno 13 _ HK.out.glob).mono ?_; rintro e w3 ⟨rfl, b3⟩
      have H3 := hide (HK.out.grow b3)
      clear b3
      go_wp2
      go_ret
      exact ⟨rfl, H3.out.end⟩
    · by_cases h2 : (m : Int) < x
      · as_aux_lemma =>
        clear hin
        go_wp2_with fail
        refine (twrite_no i l' x so sn sc _ HK.out.st hmx HLI.out (by omega) HNO.out).mono ?_; rintro e w2 ⟨rfl, rfl⟩
        unfold errV
        have c4 := HK.out.act.c4
        go_wp2_with fail
        refine (number_errno 13 _ HK.out.glob).mono ?_; rintro e w3 ⟨rfl, b3⟩
        have H3 := hide (HK.out.grow b3)
        clear b3
        go_wp2
        go_ret
        exact ⟨rfl, H3.out.end⟩
      · have h3 : (m : Int) - x < (sn : Int) := by omega
        clear hin
        go_wp2_with fail
        refine (twrite_no i l' x so sn sc _ HK.out.st hmx HLI.out (by omega) HNO.out).mono ?_; rintro e w2 ⟨rfl, rfl⟩
        unfold errV
        have c4 := HK.out.act.c4
        go_wp2_with fail
        refine (number_errno 13 _ HK.out.glob).mono ?_; rintro e w3 ⟨rfl, b3⟩
        have H3 := hide (HK.out.grow b3)
        clear b3
        go_wp2
        go_ret
        exact ⟨rfl, H3.out.end⟩
  | true =>
    have hin := of_decide_eq_true hin
    obtain ⟨k, rfl⟩ := Int.eq_ofNat_of_zero_le hin.1
    have hks : k + sn ≤ m := by omega
    have h1 : ¬ ((m : Int) < (k : Int)) := by omega
    have h2 : ¬ ((m : Int) - (k : Int) < (sn : Int)) := by omega
    clear hin
    go_wp2_with fail
    refine (twrite_yes i k l' so sn sc l _ HK.out.st HLI.out HK.out.dat.1 HK.out.dat.off (by rw [HLEN.out]; exact hks)).mono ?_; rintro e w2 ⟨rfl, S2, k2⟩
    have b2 : Below B W w2 := k2.low HK.out.size (StP.low _)
    have M2 := HK.out.mod.store k2
    have c4 := (HK.out.act.store k2).c4
    have cs2 := M2.cs i hi
    rw [HFORM.out] at cs2
    have D2 := HK.out.dat.carry b2
    have R2 : w2.drew.ownsRow B 5 1 (.slice co m cc) m (cellsB l') := by
      have := M2.row i l' HLI.out
      rw [HFORM.out, HLEN.out] at this; exact this
    obtain ⟨w5, hcopy, R5, F5⟩ := copy_own R2 (D2.1.drewN 1) hks
    have hcut2 := fun Z : World => cut_tail Z co m cc k (by omega)
    obtain ⟨ta, hta⟩ : ∃ Z, tailA co k cc = Z := ⟨_, rfl⟩
    rw [hta] at hcut2 hcopy
    have hl2 : (splice l' k l).length = m := by rw [length_splice _ _ _ (by rw [HLEN.out, ← HK.out.dat.1.1]; exact hks)]; exact HLEN.out
    have HE : Hid (Both w B st mo n w5) := by
      have F6 : Foot (fun j => (sl i).ownBlock = some j) w2 w5 := by
        rw [HFORM.out]; exact ((Foot.refl _ w2).drewN 1).then F5
      have R3 : w2.ownsRow B 5 1 (sl i) m (cellsB l') := by rw [HFORM.out]; exact R2
      have hB2 : B ≤ w2.heap.size := Nat.le_trans HK.out.size b2.size
      refine ⟨upd L i (some (splice l' k l)), sl, S2.row R3 F6, M2.recopy HLI.out F6 ?_, HK.out.bel.trans (b2.trans (foot_low R3 F6 hB2))⟩
      rw [hl2, HFORM.out]; exact R5
    clear S2 k2 b2 M2 D2 R2 R5 F5 hta hl2 cs HK
    go_wp2_with fail
    go_region
    go_wp2
    go_ret
    exact ⟨rfl, HE.out⟩
end Go.Proofs.YtppdammgmnihgaaDoor
