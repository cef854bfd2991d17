/-
  The statements' own step, of one kind of deed: a contract.
-/
import Derived.Test.YtgcmompldcnhlaaDoorIJb
import Derived.Deep.CutBlock
import Derived.Deep.RegionHeldLaw
namespace Go.Proofs.YtgcmompldcnhlaaDoor
open Go.RowKit
variable {w0 w w1 w2 w' : World} {g mg p N : Nat} {ws : List Nat} {t : Nat} {es : List Ent} {T : Nat → Ob} {v : Value} {L : List Cp}
set_option maxRecDepth 20000 in
set_option maxHeartbeats 6400000 in
theorem step_create1 (o wh ch wi : Nat) (w : World) (S : St N w0 w g mg p ws t es T v L) (hN : N < 2000000) (ho : o ≤ 255) (hwh : wh ≤ 255) (hch : ch ≤ 255) (hwi : wi ≤ 255) (hd : o % 9 = 1) :
    Calls Tryd.prog 12 #[.pointer (some ⟨mg, 0, none⟩), .pointer (some ⟨g, 0, none⟩), .agg #[.int .u8 (o : Int), .int .u8 (wh : Int), .int .u8 (ch : Int), .int .u8 (wi : Int)], v] w fun e w' => StepEnd N w0 g mg p ws e w' := by
  obtain ⟨ao, cap, rfl, hcap, hcm0⟩ := owns_form S.row
  have hcm : cap ≤ 9223372036854775807 := hcm0
  obtain ⟨n, hn⟩ : ∃ n, L.length = n := ⟨_, rfl⟩
  have HNL := hide hn
  have hrow := S.row
  rw [hn] at hcap
  have HSS := hide S.ss
  have HGL := hide S.gl
  have HPW := hide S.pw
  have HNN := hide hN
  have HWI := hide hwi
  have HCH := hide hch
  have hb0 := S.bo.bel.size
  obtain ⟨V1, hV1⟩ : ∃ V, w.alloc (.cells #[.int .u8 (o : Int), .int .u8 (wh : Int), .int .u8 (ch : Int), .int .u8 (wi : Int)] 40) = V := ⟨_, rfl⟩
  have bV1 : Below w.heap.size w V1 := hV1 ▸ below_alloc _ _
  have hA1 : ABox V1 w.heap.size o wh ch wi := hV1 ▸ heap_alloc_new _ _
  have hs1 : V1.heap.size = w.heap.size + 1 := by rw [← hV1]; simp
  obtain ⟨V2, hV2⟩ : ∃ V, V1.alloc (.cells #[.int .u64 0, .int .u32 0, .int .u8 0, .int .u64 0] 49) = V := ⟨_, rfl⟩
  have bV2 : Below V1.heap.size V1 V2 := hV2 ▸ below_alloc _ _
  obtain ⟨ab, hab⟩ : ∃ b, w.heap.size = b := ⟨_, rfl⟩
  obtain ⟨cb, hcb⟩ : ∃ b, V1.heap.size = b := ⟨_, rfl⟩
  have hHd : Hd w0 V2 g mg p ws t es T t es T (.slice ao L.length cap) L ab cb o wh ch wi Cp.zero := by
    refine ⟨(S.bo.grow bV1).grow bV2, owns_grow (owns_grow S.row bV1) bV2, by rw [← hab]; exact hA1.grow bV2, by rw [← hcb, ← hV2]; exact CBox.new V1 0 0 0 0, fun e => ?_⟩
    obtain ⟨cur, h1, _⟩ := owns_block S.row e
    have := lt_of_heap h1
    omega
  rw [hn] at hHd ⊢
  have HD := hide hHd
  have HCB : Hid (w0.heap.size ≤ cb) := by show _ ≤ _; omega
  have HABS : Hid (w.heap.size = ab ∧ V1.heap.size = cb) := ⟨hab, hcb⟩
  have k0 : V2.cell? ⟨ab, 1, none⟩ = some (.int .u8 (wh : Int)) := hHd.act.c1
  have hcb2 : w.heap.size + 1 = cb := by omega
  clear S hn hrow hN hwi hch hb0 bV1 hA1 bV2 hHd hs1
  go_enter Tryd.func12, Tryd.ntmps12
  go_upto_if 50 with fail
  clear hcb2 hab hcb hV1 hV2
  go_cut [] from 48 to 62 (fun wx => ∃ c : Cp, c.ok ∧ Hd w0 wx g mg p ws t es T t es T (.slice ao n cap) L ab cb o wh ch wi c)
  case first =>
    by_cases h0 : 0 < n
    · have h1 : (0 : Int) < (n : Int) := by omega
      obtain ⟨r, hr⟩ : ∃ r, wh % n = r := ⟨_, rfl⟩
      have hrn : r < n := by rw [← hr]; exact Nat.mod_lt _ h0
      have hrn1 : (r : Int) < (n : Int) := by omega
      have hmod : (wh : Int) % (n : Int) = (r : Int) := by omega
      have htm : (wh : Int).tmod (n : Int) = (r : Int) := by rw [Int.tmod_eq_emod_of_nonneg (by omega)]; exact hmod
      have hwr : IntKind.i64.wrap (wh : Int) = (wh : Int) := by rw [IntKind.wrap_i64]; omega
      rcases hx : L.getD r Cp.zero with ⟨xp, xo, xr, xc⟩
      have hrl : r < L.length := by have := HNL.out; omega
      have hok := HSS.out.ok _ (cap_mem hrl)
      rw [hx] at hok
      obtain ⟨b, hao, x0, x1, x2, x3⟩ := owns_cap3 HD.out.row r hrl xp xo xr xc hx
      have HXX := hide hx
      have HAO := hide hao
      have HRL := hide hrl
      have HOK := hide hok
      have HD1 := hide (HD.out.drewN 1)
      clear hx hrl hok hr h0 x0 x1 x2 x3 k0
      go_upto_region 3 with fail
      go_region_held (fun W => W.cell? ⟨b, r * 4, none⟩ = some (.int .u64 (xp : Int)) ∧ W.cell? ⟨b, r * 4 + 1, none⟩ = some (.int .u32 (xo : Int)) ∧ W.cell? ⟨b, r * 4 + 2, none⟩ = some (.int .u8 (xr : Int)) ∧ W.cell? ⟨b, r * 4 + 3, none⟩ = some (.int .u64 (xc : Int)) ∧ W.cell? ⟨ab, 1, none⟩ = some (.int .u8 (wh : Int)) ∧ W.cell? ⟨ab, 2, none⟩ = some (.int .u8 (ch : Int))) (first | exact (by obtain ⟨b', e, y0, y1, y2, y3⟩ := owns_cap3 HP.out.row r HRL.out xp xo xr xc HXX.out; cases (HAO.out.symm.trans e); exact ⟨y0, y1, y2, y3, HP.out.act.c1, HP.out.act.c2⟩) | exact (by obtain ⟨b', e, y0, y1, y2, y3⟩ := owns_cap3 HD1.out.row r HRL.out xp xo xr xc HXX.out; cases (HAO.out.symm.trans e); exact ⟨y0, y1, y2, y3, HD1.out.act.c1, HD1.out.act.c2⟩)) (first
        | (go_at_call 19; refine (change_any ⟨xp, xo, xr, xc⟩ ch _ HOK.out HCH.out).mono ?_; rintro e wx ⟨⟨⟨zp, zo, zr, zc⟩, rfl, zok⟩, bx⟩; have HZ := hide zok; clear zok; have HD1 := hide (HD1.out.grow bx); have HP := hide (HD1.out.put HCB.out ⟨zp, zo, zr, zc⟩); have v0 := HD1.out.box.c0; have v1 := HD1.out.box.c1; have v2 := HD1.out.box.c2; have v3 := HD1.out.box.c3; have z := HD1.out.box.z; simp only [Cp.val]))
      rw [← HAO.out]
      clear hao v0 v1 v2 v3 z
      go_wp2_with fail
      go_meet
      exact ⟨_, HZ.out, HP.out⟩
    · have h1 : ¬ ((0 : Int) < (n : Int)) := by omega
      clear h0
      go_wp2_with fail
      go_meet
      exact ⟨_, cp_ok (by decide) (by decide) (by decide) (by decide), HD.out⟩
  case rest =>
    obtain ⟨c, hc, hD⟩ := hcut
    have HD := hide hD
    have HC := hide hc
    clear hD hc
    obtain ⟨R, hR⟩ : ∃ R, creF ws t es p T (wi : Int) = R := ⟨_, rfl⟩
    have HR := hide hR
    have HSR : Hid (Ss (N + 1) ws R.t R.es R.T (if R.e = 0 then L ++ [R.c] else L)) := by rw [← hR]; exact HSS.out.cre HNN.out (fun j => HD.out.bo.word j) HPW.out _
    clear hR
    have hwi9 : (wi : Int) ≤ 255 := by have := HWI.out; omega
    have hd1 : (o : Int) % 9 = 1 := by omega
    have HEL : Hid (es.length ≤ 2000000) := HSS.out.less
    obtain ⟨cp, co, cr, cc⟩ := c
    have a0 : wc.cell? ⟨ab, 0, none⟩ = some (.int .u8 (o : Int)) := HD.out.act.c0
    have a3 : wc.cell? ⟨ab, 3, none⟩ = some (.int .u8 (wi : Int)) := HD.out.act.c3
    go_wp2_with fail
    refine (bo_mcreate (wi : Int) _ HD.out.bo R HR.out).mono ?_; rintro e w3 ⟨rfl, B3, k3⟩
    have HD3 := hide (HD.out.kq k3 B3)
    obtain ⟨⟨rp, ro, rr, rc⟩, re, rt, res, rT⟩ := R
    simp only [Cp.val]
    obtain ⟨V3, hV3⟩ : ∃ V, w3.alloc (.cells #[.int .u64 (rp : Int), .int .u32 (ro : Int), .int .u8 (rr : Int), .int .u64 (rc : Int)] 49) = V := ⟨_, rfl⟩
    have bV3 : Below w3.heap.size w3 V3 := hV3 ▸ below_alloc _ _
    have HW3 : Hid (CBox V3 w3.heap.size rp ro rr rc) := hV3 ▸ CBox.new w3 rp ro rr rc
    have HDV := hide (HD3.out.grow bV3)
    clear B3 k3 a0 a3 bV3
    have a3 : V3.cell? ⟨ab, 3, none⟩ = some (.int .u8 (wi : Int)) := HDV.out.act.c3
    go_wp2_with fail
    refine (bo_create (wi : Int) _ HDV.out.bo (by have := HEL.out; omega) _ HR.out).mono ?_; rintro e w4 ⟨rfl, B4, k4⟩
    have HD4 := hide (HDV.out.kq k4 B4)
    have HW4 := hide (HW3.out.kq k4)
    simp only [Cp.val]
    obtain ⟨V4, hV4⟩ : ∃ V, w4.alloc (.cells #[.int .u64 (rp : Int), .int .u32 (ro : Int), .int .u8 (rr : Int), .int .u64 (rc : Int)] 49) = V := ⟨_, rfl⟩
    have bV4 : Below w4.heap.size w4 V4 := hV4 ▸ below_alloc _ _
    have HG4 : Hid (CBox V4 w4.heap.size rp ro rr rc) := hV4 ▸ CBox.new w4 rp ro rr rc
    have HDX := hide (HD4.out.grow bV4)
    have HWX := hide (HW4.out.grow bV4)
    have HNE : Hid (w3.heap.size < w4.heap.size) := lt_of_heap HW4.out
    have HOFF : Hid (∀ r, (Value.slice ao n cap).ownBlock = some r → r < w3.heap.size) := fun r e => by obtain ⟨cur, h1, _⟩ := owns_block HD3.out.row e; exact lt_of_heap h1
    clear B4 k4 a3 bV4 hV3
    have hE := eql_cap rp ro rr rc rp ro rr rc
    simp only [and_self, decide_true] at hE
    by_cases h0 : re = 0
    · subst h0
      simp only [show erN ((0 : Nat) : Int) = .nilIface from rfl]
      simp only [if_true] at HSR
      have x0 : V4.cell? ⟨w3.heap.size, 0, none⟩ = some (.int .u64 (rp : Int)) := HWX.out.c0
      have x1 : V4.cell? ⟨w3.heap.size, 1, none⟩ = some (.int .u32 (ro : Int)) := HWX.out.c1
      have x2 : V4.cell? ⟨w3.heap.size, 2, none⟩ = some (.int .u8 (rr : Int)) := HWX.out.c2
      have x3 : V4.cell? ⟨w3.heap.size, 3, none⟩ = some (.int .u64 (rc : Int)) := HWX.out.c3
      obtain ⟨v', w', hr, ho', hf, hmv⟩ := app_cap rp ro rr rc HDX.out.row (by have := HSS.out.len; have := HSS.out.few; omega) HDX.out.bo.bel.size
      have HRUN := hide hr
      have HDA := hide (HDX.out.app ho' hf hmv)
      have HWA : Hid (CBox w' w3.heap.size rp ro rr rc) := HWX.out.foot hf (fun e => by have := HOFF.out _ e; omega)
      have HGA : Hid (CBox w' w4.heap.size rp ro rr rc) := HG4.out.foot hf (fun e => by have := HOFF.out _ e; have := HNE.out; omega)
      clear hr ho' hf hmv
      have y0 : w'.cell? ⟨w3.heap.size, 0, none⟩ = some (.int .u64 (rp : Int)) := HWA.out.c0
      have y1 : w'.cell? ⟨w3.heap.size, 1, none⟩ = some (.int .u32 (ro : Int)) := HWA.out.c1
      have y2 : w'.cell? ⟨w3.heap.size, 2, none⟩ = some (.int .u8 (rr : Int)) := HWA.out.c2
      have y3 : w'.cell? ⟨w3.heap.size, 3, none⟩ = some (.int .u64 (rc : Int)) := HWA.out.c3
      have z0 : w'.cell? ⟨w4.heap.size, 0, none⟩ = some (.int .u64 (rp : Int)) := HGA.out.c0
      have z1 : w'.cell? ⟨w4.heap.size, 1, none⟩ = some (.int .u32 (ro : Int)) := HGA.out.c1
      have z2 : w'.cell? ⟨w4.heap.size, 2, none⟩ = some (.int .u8 (rr : Int)) := HGA.out.c2
      have z3 : w'.cell? ⟨w4.heap.size, 3, none⟩ = some (.int .u64 (rc : Int)) := HGA.out.c3
      go_wp2_with (at_builtin; refine wpList_append_run rfl _ _ _ rfl _ _ _ _ rfl rfl HRUN.out ?_)
      refine (number_any 0 _ (HDA.out.bo.glob HGL.out)).mono ?_; rintro e w6 ⟨rfl, b6⟩
      have HD6 := hide (HDA.out.grow b6)
      clear b6
      go_wp2
      go_ret2
      exact ⟨rt, res, rT, v', L ++ [⟨rp, ro, rr, rc⟩], rfl, HD6.out.bo, HD6.out.row, HSR.out, HGL.out, HPW.out⟩
    · have hkb : ((re : Int) == 0) = false := by rw [beq_eq_false_iff_ne]; omega
      rw [if_neg h0] at HSR
      have HN0 := hide h0
      clear h0
      have y0 : V4.cell? ⟨w3.heap.size, 0, none⟩ = some (.int .u64 (rp : Int)) := HWX.out.c0
      have y1 : V4.cell? ⟨w3.heap.size, 1, none⟩ = some (.int .u32 (ro : Int)) := HWX.out.c1
      have y2 : V4.cell? ⟨w3.heap.size, 2, none⟩ = some (.int .u8 (rr : Int)) := HWX.out.c2
      have y3 : V4.cell? ⟨w3.heap.size, 3, none⟩ = some (.int .u64 (rc : Int)) := HWX.out.c3
      have z0 : V4.cell? ⟨w4.heap.size, 0, none⟩ = some (.int .u64 (rp : Int)) := HG4.out.c0
      have z1 : V4.cell? ⟨w4.heap.size, 1, none⟩ = some (.int .u32 (ro : Int)) := HG4.out.c1
      have z2 : V4.cell? ⟨w4.heap.size, 2, none⟩ = some (.int .u8 (rr : Int)) := HG4.out.c2
      have z3 : V4.cell? ⟨w4.heap.size, 3, none⟩ = some (.int .u64 (rc : Int)) := HG4.out.c3
      go_wp2_with fail
      refine (number_any _ _ (HDX.out.bo.glob HGL.out)).mono ?_; rintro e w6 ⟨rfl, b6⟩
      have HD6 := hide (HDX.out.grow b6)
      clear b6
      go_wp2
      go_ret2
      exact ⟨rt, res, rT, .slice ao n cap, L, rfl, HD6.out.bo, HD6.out.row, HSR.out, HGL.out, HPW.out⟩
end Go.Proofs.YtgcmompldcnhlaaDoor
