/-
  Deeds of a script on a segment that is there: Delete, Grow, Size.
-/
import Derived.Test.YtppdammgmnihgaaDoorSStep0
namespace Go.Proofs.YtppdammgmnihgaaDoor
open Go.RowKit
variable {w w' : World} {B st mo n g : Nat} {L : Nat → Option (List UInt8)} {sl : Nat → Value} {op id x y : Int} {d : Value} {w0 : World} {so : Option Addr} {sn sc : Nat} {l : List UInt8}
set_option maxRecDepth 20000 in
set_option maxHeartbeats 1600000 in
theorem step_delete (o : Nat) (i : Nat) (l' : List UInt8) (w : World) (p : In w B st mo n L sl so sn sc l) (hN : Nums (i : Int) x y) (h0 : o % 7 = 1) (hi : i < 64) (hli : L i = some l') :
    Calls Tryd.prog 9 #[.pointer (some ⟨mo, 0, none⟩), .pointer (some ⟨st, 0, none⟩), actV (o : Int) (i : Int) x y so sn sc] w fun e w' => e = .returned (.bool true) ∧ Both w B st mo n w' := by
  have HP := hide p
  obtain ⟨i0, i1, x0, x1, y0, y1⟩ := hN
  have hw1 := wrap_small (z := (i : Int)) (by omega) (by omega)
  have hw2 := wrap_small x0 x1
  have hw3 := wrap_small y0 y1
  have ho : (o : Int) % 7 = 1 := by omega
  have ho2 : (o : Int).tmod 7 = 1 := by rw [Int.tmod_eq_emod_of_nonneg (by omega)]; exact ho
  have HB0 := hide (p.box (o : Int) (i : Int) x y 0)
  have c0 := HB0.out.act.c0
  have c1 := HB0.out.act.c1
  have c2 := HB0.out.act.c2
  have c3 := HB0.out.act.c3
  have hn4 := p.st.sum.2
  have hs63 : sc ≤ 9223372036854775807 := p.dat.1.2.2.1
  have hs64 : sn ≤ sc := p.dat.1.2.1
  have hmx : sn ≤ maxLen := by unfold maxLen; omega
  have HLI := hide hli
  have hi64 : (i : Int) < 64 := by omega
  have hi0' : (0 : Int) ≤ (i : Int) := by omega
  obtain ⟨co, cc, hform, hcc, hlc⟩ := p.mod.form i l' hli
  have hmost := (p.st.most i l' hli).1
  obtain ⟨m, hm⟩ : ∃ m, l'.length = m := ⟨_, rfl⟩
  have HLEN := hide hm
  have HFORM := hide hform
  rw [hm] at hlc hmost HFORM
  clear hm hform
  clear p h0 hli
  unfold actV
  go_enter Tryd.func9, Tryd.ntmps9
  go_wp2_with fail
  go_quiet (fail)
  have HK := hide (HP.out.box (o : Int) (i : Int) x y nq)
  obtain ⟨W, hW⟩ : ∃ W, (w.alloc (.cells #[.int .u8 (o : Int), .int .i8 (i : Int), .int .i16 x, .int .i16 y, .slice so sn sc] 35)).drewN nq = W := ⟨_, rfl⟩
  rw [hW] at HK
  rw [hW]
  obtain ⟨gg, hgg⟩ : ∃ gg, w.heap.size = gg := ⟨_, rfl⟩
  rw [hgg] at HK
  rw [hgg]
  have c0 := HK.out.act.c0
  clear hW hgg HB0 c1 c2 c3
  have ct := HK.out.mod.ct i hi
  have cs := HK.out.mod.cs i hi
  rw [HLI.out] at ct
  replace ct : W.cell? ⟨mo, i, none⟩ = some (.bool true) := ct
  rw [HFORM.out] at cs
  have z1 := HK.out.mod.z i
  have z2 := HK.out.mod.z (64 + i)
  have bS := mbox_there HK.out.mod.box i hi none
  have bV := mbox_slot HK.out.mod.box i hi (.slice none 0 0)
  have bSV := mbox_slot bS i hi (.slice none 0 0)
  have a1 := mbox_cs bS i hi
  have a2 := mbox_z bS (64 + i)
  have a3 := mbox_ct bV i hi
  have a4 := mbox_z bV i
  rw [HFORM.out] at a1
  rw [HLI.out] at a3
  simp only [Option.isSome_none] at a1 a2
  simp only [Option.isSome_some] at a3
  have HX : Hid (Mid w ((W.setCell ⟨mo, i, none⟩ (.bool false)).setCell ⟨mo, 64 + i, none⟩ (.slice none 0 0)).drew B st mo n gg L (upd L i none) (upd sl i (.slice none 0 0)) (o : Int) (i : Int) x y so sn sc l) := by
    have F : Foot (fun k => k = mo) W ((W.setCell ⟨mo, i, none⟩ (.bool false)).setCell ⟨mo, 64 + i, none⟩ (.slice none 0 0)).drew := (foot_two W mo i (64 + i) _ _).drewN 1
    exact HK.out.model F (HK.out.mod.put i none _ bSV (keep_foot F fun _ _ _ h => h) (fun _ => rfl) (fun _ e => by cases e) (fun _ e => by cases e))
  obtain ⟨Y, hY⟩ : ∃ Y, ((W.setCell ⟨mo, i, none⟩ (.bool false)).setCell ⟨mo, 64 + i, none⟩ (.slice none 0 0)).drew = Y := ⟨_, rfl⟩
  rw [hY] at HX
  have HY := hide hY
  clear bS bV bSV hY
  go_wp2_with fail
  go_region
  rw [HY.out]
  go_wp2_with fail
  refine (sdelete_yes i l' _ HX.out.st HLI.out).mono ?_; rintro e w3 ⟨rfl, S3, k3⟩
  have H3 := hide (HX.out.store k3 S3)
  clear S3 k3
  go_wp2
  go_ret
  exact ⟨rfl, H3.out.end⟩
set_option maxRecDepth 20000 in
set_option maxHeartbeats 1600000 in
theorem step_grow (o : Nat) (i : Nat) (l' : List UInt8) (w : World) (p : In w B st mo n L sl so sn sc l) (hN : Nums (i : Int) x y) (h0 : o % 7 = 2) (hi : i < 64) (hli : L i = some l') :
    Calls Tryd.prog 9 #[.pointer (some ⟨mo, 0, none⟩), .pointer (some ⟨st, 0, none⟩), actV (o : Int) (i : Int) x y so sn sc] w fun e w' => e = .returned (.bool true) ∧ Both w B st mo n w' := by
  have HP := hide p
  obtain ⟨i0, i1, x0, x1, y0, y1⟩ := hN
  have hw1 := wrap_small (z := (i : Int)) (by omega) (by omega)
  have hw2 := wrap_small x0 x1
  have hw3 := wrap_small y0 y1
  have ho : (o : Int) % 7 = 2 := by omega
  have ho2 : (o : Int).tmod 7 = 2 := by rw [Int.tmod_eq_emod_of_nonneg (by omega)]; exact ho
  have HB0 := hide (p.box (o : Int) (i : Int) x y 0)
  have c0 := HB0.out.act.c0
  have c1 := HB0.out.act.c1
  have c2 := HB0.out.act.c2
  have c3 := HB0.out.act.c3
  have hn4 := p.st.sum.2
  have hs63 : sc ≤ 9223372036854775807 := p.dat.1.2.2.1
  have hs64 : sn ≤ sc := p.dat.1.2.1
  have hmx : sn ≤ maxLen := by unfold maxLen; omega
  have HLI := hide hli
  have hi64 : (i : Int) < 64 := by omega
  have hi0' : (0 : Int) ≤ (i : Int) := by omega
  obtain ⟨co, cc, hform, hcc, hlc⟩ := p.mod.form i l' hli
  have hmost := (p.st.most i l' hli).1
  obtain ⟨m, hm⟩ : ∃ m, l'.length = m := ⟨_, rfl⟩
  have HLEN := hide hm
  have HFORM := hide hform
  rw [hm] at hlc hmost HFORM
  clear hm hform
  clear p h0 hli
  unfold actV
  go_enter Tryd.func9, Tryd.ntmps9
  go_wp2_with fail
  go_quiet (fail)
  have HK := hide (HP.out.box (o : Int) (i : Int) x y nq)
  obtain ⟨W, hW⟩ : ∃ W, (w.alloc (.cells #[.int .u8 (o : Int), .int .i8 (i : Int), .int .i16 x, .int .i16 y, .slice so sn sc] 35)).drewN nq = W := ⟨_, rfl⟩
  rw [hW] at HK
  rw [hW]
  obtain ⟨gg, hgg⟩ : ∃ gg, w.heap.size = gg := ⟨_, rfl⟩
  rw [hgg] at HK
  rw [hgg]
  have c0 := HK.out.act.c0
  clear hW hgg HB0 c1 c2 c3
  have ct := HK.out.mod.ct i hi
  have cs := HK.out.mod.cs i hi
  rw [HLI.out] at ct
  replace ct : W.cell? ⟨mo, i, none⟩ = some (.bool true) := ct
  rw [HFORM.out] at cs
  obtain ⟨E, hE⟩ : ∃ E, growE n L l' x = E := ⟨_, rfl⟩
  obtain ⟨L2, hL2⟩ : ∃ L2, growL n L i l' x = L2 := ⟨_, rfl⟩
  have HE := hide hE
  have HL2 := hide hL2
  clear hE hL2
  go_wp2_with fail
  refine (mgrow_any i l' x _ HK.out.mod HK.out.size hn4 HK.out.st.sum.1 hi HLI.out (by rw [HLEN.out]; exact hmost)).mono ?_; rintro e w2 ⟨rfl, ⟨sl2, M2⟩, F2⟩
  rw [HL2.out] at M2
  rw [HE.out]
  have HM := hide (HK.out.model F2 M2)
  clear M2 F2 HK
  go_wp2_with fail
  refine (sgrow_any i l' x _ HM.out.st HM.out.size HLI.out).mono ?_; rintro e w3 ⟨rfl, S3, k3⟩
  rw [HL2.out] at S3
  rw [HE.out]
  have H3 := hide (HM.out.store k3 S3)
  clear S3 k3 HM
  by_cases hE0 : E = 0
  · subst hE0
    rw [erS_zero]
    go_wp2_with fail
    refine (number_nil _).mono ?_; rintro e w4 ⟨rfl, b4⟩
    have H4 := hide (H3.out.grow b4)
    clear b4
    go_wp2
    go_ret
    exact ⟨rfl, H4.out.end⟩
  · rw [show erS E = errV E from if_neg hE0]
    unfold errV
    have hEb : (E == 0) = false := by simpa using hE0
    go_wp2_with fail
    refine (number_errno E _ H3.out.glob).mono ?_; rintro e w4 ⟨rfl, b4⟩
    have H4 := hide (H3.out.grow b4)
    clear b4
    go_wp2
    go_ret
    exact ⟨rfl, H4.out.end⟩
set_option maxRecDepth 20000 in
set_option maxHeartbeats 1600000 in
theorem step_size (o : Nat) (i : Nat) (l' : List UInt8) (w : World) (p : In w B st mo n L sl so sn sc l) (hN : Nums (i : Int) x y) (h0 : o % 7 = 6) (hi : i < 64) (hli : L i = some l') :
    Calls Tryd.prog 9 #[.pointer (some ⟨mo, 0, none⟩), .pointer (some ⟨st, 0, none⟩), actV (o : Int) (i : Int) x y so sn sc] w fun e w' => e = .returned (.bool true) ∧ Both w B st mo n w' := by
  have HP := hide p
  obtain ⟨i0, i1, x0, x1, y0, y1⟩ := hN
  have hw1 := wrap_small (z := (i : Int)) (by omega) (by omega)
  have hw2 := wrap_small x0 x1
  have hw3 := wrap_small y0 y1
  have ho : (o : Int) % 7 = 6 := by omega
  have ho2 : (o : Int).tmod 7 = 6 := by rw [Int.tmod_eq_emod_of_nonneg (by omega)]; exact ho
  have HB0 := hide (p.box (o : Int) (i : Int) x y 0)
  have c0 := HB0.out.act.c0
  have c1 := HB0.out.act.c1
  have c2 := HB0.out.act.c2
  have c3 := HB0.out.act.c3
  have hn4 := p.st.sum.2
  have hs63 : sc ≤ 9223372036854775807 := p.dat.1.2.2.1
  have hs64 : sn ≤ sc := p.dat.1.2.1
  have hmx : sn ≤ maxLen := by unfold maxLen; omega
  have HLI := hide hli
  have hi64 : (i : Int) < 64 := by omega
  have hi0' : (0 : Int) ≤ (i : Int) := by omega
  obtain ⟨co, cc, hform, hcc, hlc⟩ := p.mod.form i l' hli
  have hmost := (p.st.most i l' hli).1
  obtain ⟨m, hm⟩ : ∃ m, l'.length = m := ⟨_, rfl⟩
  have HLEN := hide hm
  have HFORM := hide hform
  rw [hm] at hlc hmost HFORM
  clear hm hform
  clear p h0 hli
  unfold actV
  go_enter Tryd.func9, Tryd.ntmps9
  go_wp2_with fail
  go_quiet (fail)
  have HK := hide (HP.out.box (o : Int) (i : Int) x y nq)
  obtain ⟨W, hW⟩ : ∃ W, (w.alloc (.cells #[.int .u8 (o : Int), .int .i8 (i : Int), .int .i16 x, .int .i16 y, .slice so sn sc] 35)).drewN nq = W := ⟨_, rfl⟩
  rw [hW] at HK
  rw [hW]
  obtain ⟨gg, hgg⟩ : ∃ gg, w.heap.size = gg := ⟨_, rfl⟩
  rw [hgg] at HK
  rw [hgg]
  have c0 := HK.out.act.c0
  clear hW hgg HB0 c1 c2 c3
  have ct := HK.out.mod.ct i hi
  have cs := HK.out.mod.cs i hi
  rw [HLI.out] at ct
  replace ct : W.cell? ⟨mo, i, none⟩ = some (.bool true) := ct
  rw [HFORM.out] at cs
  go_wp2_with fail
  refine (ssize_yes i l' _ HK.out.st HLI.out).mono ?_; rintro e w2 ⟨rfl, rfl⟩
  rw [HLEN.out]
  go_wp2
  go_ret
  exact ⟨rfl, HK.out.end⟩
end Go.Proofs.YtppdammgmnihgaaDoor
