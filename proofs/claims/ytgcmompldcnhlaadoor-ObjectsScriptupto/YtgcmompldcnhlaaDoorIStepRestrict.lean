/-
  The statements' own step, of one kind of deed: a contract.
-/
import Derived.Test.YtgcmompldcnhlaaDoorIJb
import Derived.Deep.CutBlock
import Derived.Deep.RegionHeldLaw
namespace Go.Proofs.YtgcmompldcnhlaaDoor
open Go.RowKit
variable {w0 w w1 w2 w' : World} {g mg p N : Nat} {ws : List Nat} {t : Nat} {es : List Ent} {T : Nat → Ob} {v : Value} {L : List Cp}
set_option maxRecDepth 20000 in
set_option maxHeartbeats 6400000 in
theorem step_restrict (o wh ch wi : Nat) (w : World) (S : St N w0 w g mg p ws t es T v L) (hN : N < 2000000) (ho : o ≤ 255) (hwh : wh ≤ 255) (hch : ch ≤ 255) (hwi : wi ≤ 255) (hd : o % 9 = 3) :
    Calls Tryd.prog 12 #[.pointer (some ⟨mg, 0, none⟩), .pointer (some ⟨g, 0, none⟩), .agg #[.int .u8 (o : Int), .int .u8 (wh : Int), .int .u8 (ch : Int), .int .u8 (wi : Int)], v] w fun e w' => StepEnd N w0 g mg p ws e w' := by
  obtain ⟨ao, cap, rfl, hcap, hcm0⟩ := owns_form S.row
  have hcm : cap ≤ 9223372036854775807 := hcm0
  obtain ⟨n, hn⟩ : ∃ n, L.length = n := ⟨_, rfl⟩
  have HNL := hide hn
  have hrow := S.row
  rw [hn] at hcap
  have HSS := hide S.ss
  have HGL := hide S.gl
  have HPW := hide S.pw
  have HNN := hide hN
  have HWI := hide hwi
  have HCH := hide hch
  have hb0 := S.bo.bel.size
  obtain ⟨V1, hV1⟩ : ∃ V, w.alloc (.cells #[.int .u8 (o : Int), .int .u8 (wh : Int), .int .u8 (ch : Int), .int .u8 (wi : Int)] 40) = V := ⟨_, rfl⟩
  have bV1 : Below w.heap.size w V1 := hV1 ▸ below_alloc _ _
  have hA1 : ABox V1 w.heap.size o wh ch wi := hV1 ▸ heap_alloc_new _ _
  have hs1 : V1.heap.size = w.heap.size + 1 := by rw [← hV1]; simp
  obtain ⟨V2, hV2⟩ : ∃ V, V1.alloc (.cells #[.int .u64 0, .int .u32 0, .int .u8 0, .int .u64 0] 49) = V := ⟨_, rfl⟩
  have bV2 : Below V1.heap.size V1 V2 := hV2 ▸ below_alloc _ _
  obtain ⟨ab, hab⟩ : ∃ b, w.heap.size = b := ⟨_, rfl⟩
  obtain ⟨cb, hcb⟩ : ∃ b, V1.heap.size = b := ⟨_, rfl⟩
  have hHd : Hd w0 V2 g mg p ws t es T t es T (.slice ao L.length cap) L ab cb o wh ch wi Cp.zero := by
    refine ⟨(S.bo.grow bV1).grow bV2, owns_grow (owns_grow S.row bV1) bV2, by rw [← hab]; exact hA1.grow bV2, by rw [← hcb, ← hV2]; exact CBox.new V1 0 0 0 0, fun e => ?_⟩
    obtain ⟨cur, h1, _⟩ := owns_block S.row e
    have := lt_of_heap h1
    omega
  rw [hn] at hHd ⊢
  have HD := hide hHd
  have HCB : Hid (w0.heap.size ≤ cb) := by show _ ≤ _; omega
  have HABS : Hid (w.heap.size = ab ∧ V1.heap.size = cb) := ⟨hab, hcb⟩
  have k0 : V2.cell? ⟨ab, 1, none⟩ = some (.int .u8 (wh : Int)) := hHd.act.c1
  have hcb2 : w.heap.size + 1 = cb := by omega
  clear S hn hrow hN hwi hch hb0 bV1 hA1 bV2 hHd hs1
  go_enter Tryd.func12, Tryd.ntmps12
  go_upto_if 50 with fail
  clear hcb2 hab hcb hV1 hV2
  go_cut [] from 48 to 62 (fun wx => ∃ c : Cp, c.ok ∧ Hd w0 wx g mg p ws t es T t es T (.slice ao n cap) L ab cb o wh ch wi c)
  case first =>
    by_cases h0 : 0 < n
    · have h1 : (0 : Int) < (n : Int) := by omega
      obtain ⟨r, hr⟩ : ∃ r, wh % n = r := ⟨_, rfl⟩
      have hrn : r < n := by rw [← hr]; exact Nat.mod_lt _ h0
      have hrn1 : (r : Int) < (n : Int) := by omega
      have hmod : (wh : Int) % (n : Int) = (r : Int) := by omega
      have htm : (wh : Int).tmod (n : Int) = (r : Int) := by rw [Int.tmod_eq_emod_of_nonneg (by omega)]; exact hmod
      have hwr : IntKind.i64.wrap (wh : Int) = (wh : Int) := by rw [IntKind.wrap_i64]; omega
      rcases hx : L.getD r Cp.zero with ⟨xp, xo, xr, xc⟩
      have hrl : r < L.length := by have := HNL.out; omega
      have hok := HSS.out.ok _ (cap_mem hrl)
      rw [hx] at hok
      obtain ⟨b, hao, x0, x1, x2, x3⟩ := owns_cap3 HD.out.row r hrl xp xo xr xc hx
      have HXX := hide hx
      have HAO := hide hao
      have HRL := hide hrl
      have HOK := hide hok
      have HD1 := hide (HD.out.drewN 1)
      clear hx hrl hok hr h0 x0 x1 x2 x3 k0
      go_upto_region 3 with fail
      go_region_held (fun W => W.cell? ⟨b, r * 4, none⟩ = some (.int .u64 (xp : Int)) ∧ W.cell? ⟨b, r * 4 + 1, none⟩ = some (.int .u32 (xo : Int)) ∧ W.cell? ⟨b, r * 4 + 2, none⟩ = some (.int .u8 (xr : Int)) ∧ W.cell? ⟨b, r * 4 + 3, none⟩ = some (.int .u64 (xc : Int)) ∧ W.cell? ⟨ab, 1, none⟩ = some (.int .u8 (wh : Int)) ∧ W.cell? ⟨ab, 2, none⟩ = some (.int .u8 (ch : Int))) (first | exact (by obtain ⟨b', e, y0, y1, y2, y3⟩ := owns_cap3 HP.out.row r HRL.out xp xo xr xc HXX.out; cases (HAO.out.symm.trans e); exact ⟨y0, y1, y2, y3, HP.out.act.c1, HP.out.act.c2⟩) | exact (by obtain ⟨b', e, y0, y1, y2, y3⟩ := owns_cap3 HD1.out.row r HRL.out xp xo xr xc HXX.out; cases (HAO.out.symm.trans e); exact ⟨y0, y1, y2, y3, HD1.out.act.c1, HD1.out.act.c2⟩)) (first
        | (go_at_call 19; refine (change_any ⟨xp, xo, xr, xc⟩ ch _ HOK.out HCH.out).mono ?_; rintro e wx ⟨⟨⟨zp, zo, zr, zc⟩, rfl, zok⟩, bx⟩; have HZ := hide zok; clear zok; have HD1 := hide (HD1.out.grow bx); have HP := hide (HD1.out.put HCB.out ⟨zp, zo, zr, zc⟩); have v0 := HD1.out.box.c0; have v1 := HD1.out.box.c1; have v2 := HD1.out.box.c2; have v3 := HD1.out.box.c3; have z := HD1.out.box.z; simp only [Cp.val]))
      rw [← HAO.out]
      clear hao v0 v1 v2 v3 z
      go_wp2_with fail
      go_meet
      exact ⟨_, HZ.out, HP.out⟩
    · have h1 : ¬ ((0 : Int) < (n : Int)) := by omega
      clear h0
      go_wp2_with fail
      go_meet
      exact ⟨_, cp_ok (by decide) (by decide) (by decide) (by decide), HD.out⟩
  case rest =>
    obtain ⟨c, hc, hD⟩ := hcut
    have HD := hide hD
    have HC := hide hc
    clear hD hc
    obtain ⟨K, hK⟩ : ∃ K, chkF ws t es p T c 0 = K := ⟨_, rfl⟩
    have HK := hide hK
    have HSK : Hid (Ss (N + 1) ws K.t K.es T L) := HSS.out.chk HNN.out hK
    clear hK
    have hd1 : (o : Int) % 9 = 3 := by omega
    have HEL : Hid (es.length ≤ 2000000) := HSS.out.less
    obtain ⟨cp, co, cr, cc⟩ := c
    have a0 : wc.cell? ⟨ab, 0, none⟩ = some (.int .u8 (o : Int)) := HD.out.act.c0
    have v0 : wc.cell? ⟨cb, 0, none⟩ = some (.int .u64 (cp : Int)) := HD.out.box.c0
    have v1 : wc.cell? ⟨cb, 1, none⟩ = some (.int .u32 (co : Int)) := HD.out.box.c1
    have v2 : wc.cell? ⟨cb, 2, none⟩ = some (.int .u8 (cr : Int)) := HD.out.box.c2
    have v3 : wc.cell? ⟨cb, 3, none⟩ = some (.int .u64 (cc : Int)) := HD.out.box.c3
    go_wp2_with fail
    refine (bo_mCheck ⟨cp, co, cr, cc⟩ 0 _ HD.out.bo HC.out (by decide) (by have := HEL.out; omega) HGL.out K HK.out).mono ?_; rintro e w3 ⟨rfl, B3, k3⟩
    have HD3 := hide (HD.out.kq k3 B3)
    clear B3 k3 a0 v0 v1 v2 v3
    have hbz := below_alloc w3 (.cells #[.int .u64 0, .int .u32 0, .int .u8 0, .int .u64 0] 49)
    have HDZ := hide (HD3.out.grow hbz)
    have HWZ : Hid (CBox (w3.alloc (.cells #[.int .u64 0, .int .u32 0, .int .u8 0, .int .u64 0] 49)) w3.heap.size 0 0 0 0) := CBox.new w3 0 0 0 0
    have HOFF : Hid (∀ r, (Value.slice ao n cap).ownBlock = some r → r < w3.heap.size) := fun r e => by obtain ⟨cur, h1, _⟩ := owns_block HD3.out.row e; exact lt_of_heap h1
    have HZB : Hid (w0.heap.size ≤ w3.heap.size) := HD3.out.bo.bel.size
    have HCZ : Hid (cb < w3.heap.size) := lt_of_heap HD3.out.box
    clear hbz
    by_cases h0 : K.e = 0
    · have hke : ((K.e : Nat) : Int) = 0 := by omega
      have hkl : K.k < 64 := by have := HK.out; rw [← this] at h0 ⊢; exact chk_lt h0
      have hk1 : ((K.k : Nat) : Int) < 64 := by omega
      rcases hT : T K.k with ⟨s, ep, vl, l⟩
      have hand := and_nat cr wi HC.out.2.2.1 HWI.out
      obtain ⟨rm, hrm⟩ : ∃ rm, cr &&& wi = rm := ⟨_, rfl⟩
      rw [hrm] at hand
      have hrm2 : rm ≤ 255 := by rw [← hrm]; exact and_le HC.out.2.2.1
      obtain ⟨X, hX⟩ : ∃ X, ofF ws K.t K.es s rm = X := ⟨_, rfl⟩
      have hres : resF ws t es p T ⟨cp, co, cr, cc⟩ wi = ⟨cabF p K.k rm X, if X.ok then 0 else 7, X.t, X.es, T⟩ := by
        unfold resF
        rw [HK.out, if_pos h0, hT]
        simp only [hrm, hX]
      have HSX : Hid (X.es.length ≤ X.t ∧ X.t ≤ ws.length ∧ X.x ≤ 281474976710655 ∧ K.es.length ≤ 2000000) := by
        have q := of_tl HSK.out.el HSK.out.tl s rm
        rw [hX] at q
        obtain ⟨_, y, _⟩ := HD3.out.bo.om
        refine ⟨q.1, q.2, ?_, HSK.out.less⟩
        rw [← hX]; exact y s rm
      have hsw : s ≤ 281474976710655 := by
        obtain ⟨mg2, hmd⟩ := HD3.out.bo.md
        have := (hmd.ok K.k).1
        rw [hT] at this; exact this
      have HT := hide hT
      have HKL := hide hkl
      have HRES := hide hres
      have HXX := hide hX
      have HRM := hide hrm2
      have HSW := hide hsw
      clear hT hkl hres hX hrm2 hrm hsw h0
      go_upto_region 21 with fail
      obtain ⟨Z, hZ⟩ : ∃ Z, w3.alloc (.cells #[.int .u64 0, .int .u32 0, .int .u8 0, .int .u64 0] 49) = Z := ⟨_, rfl⟩
      obtain ⟨zb, hzb⟩ : ∃ b, w3.heap.size = b := ⟨_, rfl⟩
      rw [hZ] at HDZ HWZ ⊢
      rw [hzb] at HWZ HOFF HZB HCZ ⊢
      have HD4 := hide (HDZ.out.drewN 1)
      have HW4 := hide (HWZ.out.drewN 1)
      clear hZ hzb HDZ HWZ
      go_region_held (fun W => W.cell? ⟨mg, 2 + K.k * 5 + 1, none⟩ = some (.int .u64 (s : Int)) ∧ W.cell? ⟨cb, 2, none⟩ = some (.int .u8 (cr : Int)) ∧ W.cell? ⟨ab, 3, none⟩ = some (.int .u8 (wi : Int))) (exact ⟨(HD4.out.bo.md.choose_spec.at K.k HKL.out s ep vl l HT.out).2.1, HD4.out.box.c2, HD4.out.act.c3⟩) (first
        | (go_at_call 29; refine (bo_mcheck s rm _ HD4.out.bo HSW.out HRM.out (by have := HSX.out.2.2.2; omega) HGL.out X HXX.out).mono ?_; rintro e wx ⟨rfl, BX, kx⟩; have HW4 := hide (HW4.out.kq kx); have HD4 := hide (HD4.out.kq kx BX)))
      obtain ⟨y, ok, t', es'⟩ := X
      cases ok with
      | false =>
        simp only [erI]
        simp only [cabF, Bool.false_eq_true, if_false] at HRES
        have HSS2 : Hid (Ss (N + 1) ws t' es' T L) := ⟨HSK.out.ok, HSK.out.zero, HSK.out.ep, HSK.out.len, HSK.out.few, HSX.out.1, HSX.out.2.1, HSK.out.wl⟩
        have a3 := HD4.out.act.c3
        have v0 : wx.cell? ⟨cb, 0, none⟩ = some (.int .u64 (cp : Int)) := HD4.out.box.c0
        have v1 : wx.cell? ⟨cb, 1, none⟩ = some (.int .u32 (co : Int)) := HD4.out.box.c1
        have v2 : wx.cell? ⟨cb, 2, none⟩ = some (.int .u8 (cr : Int)) := HD4.out.box.c2
        have v3 : wx.cell? ⟨cb, 3, none⟩ = some (.int .u64 (cc : Int)) := HD4.out.box.c3
        clear hke
        go_wp2_with fail
        refine (bo_restrict ⟨cp, co, cr, cc⟩ wi _ HD4.out.bo HC.out HWI.out (by have := HEL.out; omega) _ HRES.out).mono ?_; rintro e w5 ⟨rfl, B5, k5⟩
        have HD5 := hide (HD4.out.kq k5 B5)
        have HW5 := hide (HW4.out.kq k5)
        clear B5 k5 v0 v1 v2 v3
        simp only [Cp.val, Cp.zero, Int.cast_ofNat_Int]
        have hbz := below_alloc w5 (.cells #[.int .u64 0, .int .u32 0, .int .u8 0, .int .u64 0] 49)
        have HD6 := hide (HD5.out.grow hbz)
        have HW6 := hide (HW5.out.grow hbz)
        have HG6 : Hid (CBox (w5.alloc (.cells #[.int .u64 0, .int .u32 0, .int .u8 0, .int .u64 0] 49)) w5.heap.size 0 0 0 0) := CBox.new w5 0 0 0 0
        clear hbz
        have y0 : (w5.alloc (.cells #[.int .u64 0, .int .u32 0, .int .u8 0, .int .u64 0] 49)).cell? ⟨zb, 0, none⟩ = some (.int .u64 0) := HW6.out.c0
        have y1 : (w5.alloc (.cells #[.int .u64 0, .int .u32 0, .int .u8 0, .int .u64 0] 49)).cell? ⟨zb, 1, none⟩ = some (.int .u32 0) := HW6.out.c1
        have y2 : (w5.alloc (.cells #[.int .u64 0, .int .u32 0, .int .u8 0, .int .u64 0] 49)).cell? ⟨zb, 2, none⟩ = some (.int .u8 0) := HW6.out.c2
        have y3 : (w5.alloc (.cells #[.int .u64 0, .int .u32 0, .int .u8 0, .int .u64 0] 49)).cell? ⟨zb, 3, none⟩ = some (.int .u64 0) := HW6.out.c3
        have z0 : (w5.alloc (.cells #[.int .u64 0, .int .u32 0, .int .u8 0, .int .u64 0] 49)).cell? ⟨w5.heap.size, 0, none⟩ = some (.int .u64 0) := HG6.out.c0
        have z1 : (w5.alloc (.cells #[.int .u64 0, .int .u32 0, .int .u8 0, .int .u64 0] 49)).cell? ⟨w5.heap.size, 1, none⟩ = some (.int .u32 0) := HG6.out.c1
        have z2 : (w5.alloc (.cells #[.int .u64 0, .int .u32 0, .int .u8 0, .int .u64 0] 49)).cell? ⟨w5.heap.size, 2, none⟩ = some (.int .u8 0) := HG6.out.c2
        have z3 : (w5.alloc (.cells #[.int .u64 0, .int .u32 0, .int .u8 0, .int .u64 0] 49)).cell? ⟨w5.heap.size, 3, none⟩ = some (.int .u64 0) := HG6.out.c3
        have hE := eql_cap 0 0 0 0 0 0 0 0
        simp only [and_self, decide_true] at hE
        go_wp2_with fail
        refine (number_any _ _ (HD6.out.bo.glob HGL.out)).mono ?_; rintro e w7 ⟨rfl, b7⟩
        have HD7 := hide (HD6.out.grow b7)
        clear b7
        go_wp2
        go_ret2
        exact ⟨t', es', T, .slice ao n cap, L, rfl, HD7.out.bo, HD7.out.row, HSS2.out, HGL.out, HPW.out⟩
      | true =>
        simp only [erI]
        simp only [cabF, if_true] at HRES
        go_upto_region 23 with fail
        have p0 : wx.cell? ⟨mg, 0, none⟩ = some (.int .u64 (p : Int)) := HD4.out.bo.md.choose_spec.c0
        have v2 : wx.cell? ⟨cb, 2, none⟩ = some (.int .u8 (cr : Int)) := HD4.out.box.c2
        have a3 : wx.cell? ⟨ab, 3, none⟩ = some (.int .u8 (wi : Int)) := HD4.out.act.c3
        have hw32 : IntKind.u32.wrap (K.k : Int) = (K.k : Int) := by rw [IntKind.wrap_u32]; omega
        have y0 : wx.cell? ⟨zb, 0, none⟩ = some (.int .u64 0) := HW4.out.c0
        have y1 : wx.cell? ⟨zb, 1, none⟩ = some (.int .u32 0) := HW4.out.c1
        have y2 : wx.cell? ⟨zb, 2, none⟩ = some (.int .u8 0) := HW4.out.c2
        have y3 : wx.cell? ⟨zb, 3, none⟩ = some (.int .u64 0) := HW4.out.c3
        have z := HW4.out.z
        go_region
        obtain ⟨W5, hW5⟩ : ∃ W, ((((wx.setCell ⟨zb, 0, none⟩ (.int .u64 (p : Int))).setCell ⟨zb, 1, none⟩ (.int .u32 (K.k : Int))).setCell ⟨zb, 2, none⟩ (.int .u8 (rm : Int))).setCell ⟨zb, 3, none⟩ (.int .u64 (y : Int))).drew = W := ⟨_, rfl⟩
        rw [hW5]
        have HD5 : Hid (Hd w0 W5 g mg p ws t es T t' es' T (.slice ao n cap) L ab cb o wh ch wi ⟨cp, co, cr, cc⟩) := hW5 ▸ (HD4.out.other HW4.out.capB HZB.out (by have := HCZ.out; omega) (fun e => by have := HOFF.out _ e; omega) (foot4 wx zb _ _ _ _)).drewN 1
        have HW5 : Hid (CBox W5 zb p K.k rm y) := hW5 ▸ (put_box HW4.out p K.k rm y).drewN 1
        clear p0 v2 a3 y0 y1 y2 y3 z hW5 HD4 HW4 hw32
        have x0 : W5.cell? ⟨zb, 0, none⟩ = some (.int .u64 (p : Int)) := HW5.out.c0
        have x1 : W5.cell? ⟨zb, 1, none⟩ = some (.int .u32 (K.k : Int)) := HW5.out.c1
        have x2 : W5.cell? ⟨zb, 2, none⟩ = some (.int .u8 (rm : Int)) := HW5.out.c2
        have x3 : W5.cell? ⟨zb, 3, none⟩ = some (.int .u64 (y : Int)) := HW5.out.c3
        obtain ⟨v', w', hr, ho', hf, hmv⟩ := app_cap p K.k rm y HD5.out.row (by have := HSS.out.len; have := HSS.out.few; omega) HD5.out.bo.bel.size
        have HRUN := hide hr
        have HDA := hide (HD5.out.app ho' hf hmv)
        have HWA : Hid (CBox w' zb p K.k rm y) := HW5.out.foot hf (fun e => by have := HOFF.out _ e; omega)
        clear hr ho' hf hmv
        have a3 : w'.cell? ⟨ab, 3, none⟩ = some (.int .u8 (wi : Int)) := HDA.out.act.c3
        have v0 : w'.cell? ⟨cb, 0, none⟩ = some (.int .u64 (cp : Int)) := HDA.out.box.c0
        have v1 : w'.cell? ⟨cb, 1, none⟩ = some (.int .u32 (co : Int)) := HDA.out.box.c1
        have v2 : w'.cell? ⟨cb, 2, none⟩ = some (.int .u8 (cr : Int)) := HDA.out.box.c2
        have v3 : w'.cell? ⟨cb, 3, none⟩ = some (.int .u64 (cc : Int)) := HDA.out.box.c3
        go_wp2_with (at_builtin; refine wpList_append_run rfl _ _ _ rfl _ _ _ _ rfl rfl HRUN.out ?_)
        refine (bo_restrict ⟨cp, co, cr, cc⟩ wi _ HDA.out.bo HC.out HWI.out (by have := HEL.out; omega) _ HRES.out).mono ?_; rintro e w6 ⟨rfl, B6, k6⟩
        have HD6 := hide (HDA.out.kq k6 B6)
        have HW6 := hide (HWA.out.kq k6)
        clear B6 k6 v0 v1 v2 v3 x0 x1 x2 x3 a3
        simp only [Cp.val, Int.cast_ofNat_Int, show erN 0 = .nilIface from rfl]
        obtain ⟨V6, hV6⟩ : ∃ V, w6.alloc (.cells #[.int .u64 (p : Int), .int .u32 (K.k : Int), .int .u8 (rm : Int), .int .u64 (y : Int)] 49) = V := ⟨_, rfl⟩
        have bV6 : Below w6.heap.size w6 V6 := hV6 ▸ below_alloc _ _
        have HG7 : Hid (CBox V6 w6.heap.size p K.k rm y) := hV6 ▸ CBox.new w6 p K.k rm y
        have HD7 := hide (HD6.out.grow bV6)
        have HW7 := hide (HW6.out.grow bV6)
        clear bV6
        have y0 : V6.cell? ⟨zb, 0, none⟩ = some (.int .u64 (p : Int)) := HW7.out.c0
        have y1 : V6.cell? ⟨zb, 1, none⟩ = some (.int .u32 (K.k : Int)) := HW7.out.c1
        have y2 : V6.cell? ⟨zb, 2, none⟩ = some (.int .u8 (rm : Int)) := HW7.out.c2
        have y3 : V6.cell? ⟨zb, 3, none⟩ = some (.int .u64 (y : Int)) := HW7.out.c3
        have z0 : V6.cell? ⟨w6.heap.size, 0, none⟩ = some (.int .u64 (p : Int)) := HG7.out.c0
        have z1 : V6.cell? ⟨w6.heap.size, 1, none⟩ = some (.int .u32 (K.k : Int)) := HG7.out.c1
        have z2 : V6.cell? ⟨w6.heap.size, 2, none⟩ = some (.int .u8 (rm : Int)) := HG7.out.c2
        have z3 : V6.cell? ⟨w6.heap.size, 3, none⟩ = some (.int .u64 (y : Int)) := HG7.out.c3
        have hE := eql_cap p K.k rm y p K.k rm y
        simp only [and_self, decide_true] at hE
        go_wp2_with fail
        refine (number_nil _).mono ?_; rintro e w8 ⟨rfl, b8⟩
        have HD8 := hide (HD7.out.grow b8)
        clear b8
        go_wp2
        go_ret2
        exact ⟨t', es', T, v', L ++ [⟨p, K.k, rm, y⟩], rfl, HD8.out.bo, HD8.out.row, (HSS.out.tell HNN.out (cp_ok HPW.out (by omega) HRM.out HSX.out.2.2.1) HSS.out.zero (fun j => by have := HSS.out.ep j; omega) HSX.out.1 HSX.out.2.1), HGL.out, HPW.out⟩
    · have hke : ((K.e : Nat) : Int) ≠ 0 := by omega
      have hkb : (((K.e : Nat) : Int) == 0) = false := by rw [beq_eq_false_iff_ne]; exact hke
      have hres : resF ws t es p T ⟨cp, co, cr, cc⟩ wi = ⟨Cp.zero, K.e, K.t, K.es, T⟩ := by
        unfold resF
        rw [HK.out, if_neg h0]
      have HRES := hide hres
      clear h0 hres
      obtain ⟨zb, hzb⟩ : ∃ b, w3.heap.size = b := ⟨_, rfl⟩
      rw [hzb] at HWZ
      have a3 := HDZ.out.act.c3
      have v0 : (w3.alloc (.cells #[.int .u64 0, .int .u32 0, .int .u8 0, .int .u64 0] 49)).cell? ⟨cb, 0, none⟩ = some (.int .u64 (cp : Int)) := HDZ.out.box.c0
      have v1 : (w3.alloc (.cells #[.int .u64 0, .int .u32 0, .int .u8 0, .int .u64 0] 49)).cell? ⟨cb, 1, none⟩ = some (.int .u32 (co : Int)) := HDZ.out.box.c1
      have v2 : (w3.alloc (.cells #[.int .u64 0, .int .u32 0, .int .u8 0, .int .u64 0] 49)).cell? ⟨cb, 2, none⟩ = some (.int .u8 (cr : Int)) := HDZ.out.box.c2
      have v3 : (w3.alloc (.cells #[.int .u64 0, .int .u32 0, .int .u8 0, .int .u64 0] 49)).cell? ⟨cb, 3, none⟩ = some (.int .u64 (cc : Int)) := HDZ.out.box.c3
      go_wp2_with fail
      refine (bo_restrict ⟨cp, co, cr, cc⟩ wi _ HDZ.out.bo HC.out HWI.out (by have := HEL.out; omega) _ HRES.out).mono ?_; rintro e w5 ⟨rfl, B5, k5⟩
      have HD5 := hide (HDZ.out.kq k5 B5)
      have HW5 := hide (HWZ.out.kq k5)
      clear B5 k5 v0 v1 v2 v3
      simp only [Cp.val, Cp.zero, Int.cast_ofNat_Int]
      have hbz := below_alloc w5 (.cells #[.int .u64 0, .int .u32 0, .int .u8 0, .int .u64 0] 49)
      have HD6 := hide (HD5.out.grow hbz)
      have HW6 := hide (HW5.out.grow hbz)
      have HG6 : Hid (CBox (w5.alloc (.cells #[.int .u64 0, .int .u32 0, .int .u8 0, .int .u64 0] 49)) w5.heap.size 0 0 0 0) := CBox.new w5 0 0 0 0
      clear hbz
      have y0 : (w5.alloc (.cells #[.int .u64 0, .int .u32 0, .int .u8 0, .int .u64 0] 49)).cell? ⟨zb, 0, none⟩ = some (.int .u64 0) := HW6.out.c0
      have y1 : (w5.alloc (.cells #[.int .u64 0, .int .u32 0, .int .u8 0, .int .u64 0] 49)).cell? ⟨zb, 1, none⟩ = some (.int .u32 0) := HW6.out.c1
      have y2 : (w5.alloc (.cells #[.int .u64 0, .int .u32 0, .int .u8 0, .int .u64 0] 49)).cell? ⟨zb, 2, none⟩ = some (.int .u8 0) := HW6.out.c2
      have y3 : (w5.alloc (.cells #[.int .u64 0, .int .u32 0, .int .u8 0, .int .u64 0] 49)).cell? ⟨zb, 3, none⟩ = some (.int .u64 0) := HW6.out.c3
      have z0 : (w5.alloc (.cells #[.int .u64 0, .int .u32 0, .int .u8 0, .int .u64 0] 49)).cell? ⟨w5.heap.size, 0, none⟩ = some (.int .u64 0) := HG6.out.c0
      have z1 : (w5.alloc (.cells #[.int .u64 0, .int .u32 0, .int .u8 0, .int .u64 0] 49)).cell? ⟨w5.heap.size, 1, none⟩ = some (.int .u32 0) := HG6.out.c1
      have z2 : (w5.alloc (.cells #[.int .u64 0, .int .u32 0, .int .u8 0, .int .u64 0] 49)).cell? ⟨w5.heap.size, 2, none⟩ = some (.int .u8 0) := HG6.out.c2
      have z3 : (w5.alloc (.cells #[.int .u64 0, .int .u32 0, .int .u8 0, .int .u64 0] 49)).cell? ⟨w5.heap.size, 3, none⟩ = some (.int .u64 0) := HG6.out.c3
      have hE := eql_cap 0 0 0 0 0 0 0 0
      simp only [and_self, decide_true] at hE
      go_wp2_with fail
      refine (number_any _ _ (HD6.out.bo.glob HGL.out)).mono ?_; rintro e w7 ⟨rfl, b7⟩
      have HD7 := hide (HD6.out.grow b7)
      clear b7
      go_wp2
      go_ret2
      exact ⟨K.t, K.es, T, .slice ao n cap, L, rfl, HD7.out.bo, HD7.out.row, HSK.out, HGL.out, HPW.out⟩

end Go.Proofs.YtgcmompldcnhlaaDoor
