/-
  What the statements' awake answers, as a contract.
-/
import Derived.Test.YtdfakeddhoolcaaGAdd
import Derived.Test.YtdfakeddhoolcaaGSeq
import Derived.Lib.SlBytesConst
namespace Go.Proofs.Ytdfakeddhoolcaa
open Go.RowKit
theorem step_any {g : Nat} {S : Nat → Prop} {G : List (List Pa)} (w : World) (y : Pa) (x : St w g S G) (inv : Inv G) (hS : ∀ k, S k → k < w.heap.size) (hy : y.has w) (ho : OffO (· = g) y.sn y.so) :
    Calls Try.prog 9 #[.pointer (some ⟨g, 0, none⟩), .agg #[.int .i64 y.f, .int .i64 y.t, .int .u64 y.i, .int .i64 y.x, .int .i64 y.c, .slice y.so y.sn y.sc]] w fun e w' => AddEnd w g S G y.nm e w' := add_any S G y w x hS hy ho inv.few inv.small
theorem FarK.mono {S T : Nat → Prop} {ao : Option Addr} {n : Nat} {L : List Pa} (h : FarK S ao n L) (hT : ∀ k, T k → S k) : FarK T ao n L := ⟨fun hn ad e x => h.1 hn ad e (hT _ x), fun y hy hn ad e x => h.2 y hy hn ad e (hT _ x)⟩
theorem inv_next {P : Pa} {G : List (List Pa)} (h : Inv G) : Inv (addF G P).2 := h.add P
theorem foot_below {w w' : World} {g : Nat} (f : Foot (· = g) w w') (hg : w.heap.size ≤ g) : Below w.heap.size w w' := f.below (Nat.le_refl _) (fun k e => by omega)
def NoS : Nat → Prop := fun _ => False
theorem noS {n : Nat} : ∀ k, NoS k → k < n := fun _ h => h.elim
def P7 : Nat → Pa := pkF 0 1 7 abc 2 2
theorem sq7 : Sq P7 2 := sq_pk 0 1 7 abc 2 2 (by omega) (by omega) (by omega)
theorem all7 : allL P7 2 = abc := all_pk 0 1 7 abc 2 (by omega)
set_option maxRecDepth 20000 in
set_option maxHeartbeats 3200000 in
theorem awake_any (w : World) :
    Calls Try.prog 7 #[] w fun e w' => e = .returned (.bool true) ∧ Below w.heap.size w w' := by
  obtain ⟨C, hC⟩ : ∃ C : Array Value, #[.int .u8 97, .int .u8 98, .int .u8 99] = C := ⟨_, rfl⟩
  have kc := fun (w : World) => Go.Lib.run_convert_bytes_const (P := Try.prog) w 30 5 C 3 3 Try.underlying30 Try.underlying5
  have HC : Hid ((cellsB abc).toArray = C) := hC
  go_enter Try.func7, Try.ntmps7
  go_wp2_with fail
  refine (split_yes _ 3 3 abc 0 1 7 2 _ (bts_cells w abc C _ HC.out (by decide)) (by omega) (by omega) (by omega)).mono ?_; rintro e w1 ⟨L, rfl, P1, S1, N1, b1⟩
  rw [show cntF 3 2 = 2 from by decide] at P1 S1 ⊢
  obtain ⟨gp, hg⟩ : ∃ g, (w.alloc (Obj.cells C 5 (C.size, C.size + 1))).heap.size = g := ⟨_, rfl⟩
  rw [hg] at P1 ⊢
  have HB1 := hide (below_one (below_alloc w _) b1)
  obtain ⟨g, hgg⟩ : ∃ g, w1.heap.size = g := ⟨_, rfl⟩
  obtain ⟨X, hX⟩ : ∃ X, w1.alloc (.cells #[.slice none 0 0] 27) = X := ⟨_, rfl⟩
  have bX : Below w1.heap.size w1 X := hX ▸ below_alloc w1 _
  have HST : Hid (St X g NoS []) := by show St _ _ _ _; rw [← hX, ← hgg]; exact st_new w1 NoS
  have HFAR : Hid (FarK (fun k => g ≤ k) (some ⟨gp, 0, none⟩) 2 L) := P1.far (fun k h => by rw [hgg]; exact h)
  have HFG : Hid (FarK (· = g) (some ⟨gp, 0, none⟩) 2 L) := HFAR.out.mono (fun k h => by omega)
  have PX := P1.carry bX
  have HPX := hide PX
  have HFX : Hid (Foot (· = g) w X) := below_foot _ (below_one HB1.out bX)
  have HWG : Hid (w.heap.size ≤ g) := by show _ ≤ _; rw [← hgg]; exact HB1.out.size
  have hl2 := S1.1
  have HN0 : Hid ((L.getD 0 Pa.zero).nm = P7 0) := spl_nm S1 0 (by omega)
  have HN1 : Hid ((L.getD 1 Pa.zero).nm = P7 1) := spl_nm S1 1 (by omega)
  have HM0 : Hid (L.getD 0 Pa.zero ∈ L) := getK_mem L 0 (by omega)
  have HM1 : Hid (L.getD 1 Pa.zero ∈ L) := getK_mem L 1 (by omega)
  obtain ⟨y0, hy0⟩ : ∃ y, L.getD 0 Pa.zero = y := ⟨_, rfl⟩
  obtain ⟨y1, hy1⟩ : ∃ y, L.getD 1 Pa.zero = y := ⟨_, rfl⟩
  have HY0 := hide hy0
  have HY1 := hide hy1
  rw [hy0] at HN0 HM0
  rw [hy1] at HN1 HM1
  have e1 := PX.elem 1 (by omega)
  rw [hy1] at e1
  obtain ⟨c0, c1, c2, c3, c4, c5⟩ := e1
  simp only [add0, Nat.one_mul, Nat.reduceAdd] at c0 c1 c2 c3 c4 c5
  obtain ⟨n1, o1⟩ := one_next sq7 (one_nil (P := P7) (show 0 < 2 by omega)) (show 1 < 2 by omega) rfl (by omega)
  obtain ⟨G1, hG1⟩ : ∃ G, (addF [] (P7 1)).2 = G := ⟨_, rfl⟩
  rw [hG1] at o1
  have HI1 : Hid (Inv G1) := hG1 ▸ inv_nil.add _
  have HG1 := hide hG1
  have HO1 := hide o1
  have HE1 := hide n1
  have HE2 : Hid (addF G1 (P7 0) = (some abc, [])) := by show _ = _; rw [one_last sq7 o1 (show 0 < 2 by omega) rfl (by omega), all7]
  obtain ⟨n3, o3⟩ := one_next sq7 (one_nil (P := P7) (show 0 < 2 by omega)) (show 0 < 2 by omega) rfl (by omega)
  have HE3 := hide n3
  have HL3 : Hid ((addF [] (P7 0)).2.length = 1) := o3.len
  clear n1 o1 n3 o3 hG1 P1 S1 N1 b1 hg hl2 hy0 hy1 PX bX kc
  have HGG := hide hgg
  go_wp2_with fail
  refine (step_any _ y1 HST.out inv_nil noS (HPX.out.2 _ HM1.out) (HFG.out.2 _ HM1.out)).mono ?_; rintro e w2 ⟨st2, ft2, hno2, _⟩
  rw [HN1.out] at st2 hno2
  obtain rfl := hno2 HE1.out
  rw [HG1.out] at st2
  have HST2 := hide st2
  have HP2 := hide (HPX.out.foot ft2 HFG.out)
  have HF2 := hide (HFX.out.then ft2)
  have e0 := HP2.out.elem 0 (by omega)
  rw [HY0.out] at e0
  obtain ⟨c0, c1, c2, c3, c4, c5⟩ := e0
  simp only [add0, Nat.zero_mul, Nat.zero_add] at c0 c1 c2 c3 c4 c5
  clear st2 ft2 hno2 hgg hX
  go_wp2_with fail
  refine (step_any _ y0 HST2.out HI1.out noS (HP2.out.2 _ HM0.out) (HFG.out.2 _ HM0.out)).mono ?_; rintro e w3 ⟨st3, ft3, _, hys3⟩
  rw [HN0.out, HE2.out] at st3 hys3
  obtain ⟨ro, rc, rfl, B3, N3⟩ := hys3 abc rfl
  have HST3 := hide st3
  have HP3 := hide (HP2.out.foot ft3 HFG.out)
  have HF3 := hide (HF2.out.then ft3)
  have HB3 := hide B3
  have HO3 : Hid (OffO (· = g) abc.length ro) := by
    have h1 := N3
    have h2 := HST2.out.lt
    exact OffO.new h1 (fun k e => by rw [e]; exact h2)
  have e0 := HP3.out.elem 0 (by omega)
  rw [HY0.out] at e0
  obtain ⟨c0, c1, c2, c3, c4, c5⟩ := e0
  simp only [add0, Nat.zero_mul, Nat.zero_add] at c0 c1 c2 c3 c4 c5
  clear st3 ft3 hys3 B3 N3
  go_wp2_with fail
  refine (step_any _ y0 HST3.out inv_nil noS (HP3.out.2 _ HM0.out) (HFG.out.2 _ HM0.out)).mono ?_; rintro e w4 ⟨st4, ft4, hno4, _⟩
  rw [HN0.out] at st4 hno4
  obtain rfl := hno4 HE3.out
  have HST4 := hide st4
  have HB4 := hide (foot_below (HF3.out.then ft4) HWG.out)
  have k0 := conv_bts (Bts.footN HB3.out ft4 HO3.out)
  rw [show str abc = ⟨#[97, 98, 99]⟩ from rfl] at k0
  clear st4 ft4 hno4
  go_wp2_with fail
  refine (waiting_any _ HST4.out).mono ?_; rintro e w5 ⟨rfl, rfl⟩
  rw [HL3.out]
  go_wp2
  go_ret
  exact ⟨rfl, HB4.out⟩
end Go.Proofs.Ytdfakeddhoolcaa
