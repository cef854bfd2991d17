/-
  The statements' own step, of one kind of deed: a contract.
-/
import Derived.Test.YtgcmompldcnhlaaDoorIJb
import Derived.Deep.CutBlock
import Derived.Deep.RegionHeldLaw
namespace Go.Proofs.YtgcmompldcnhlaaDoor
open Go.RowKit
variable {w0 w w1 w2 w' : World} {g mg p N : Nat} {ws : List Nat} {t : Nat} {es : List Ent} {T : Nat → Ob} {v : Value} {L : List Cp}
set_option maxRecDepth 20000 in
set_option maxHeartbeats 6400000 in
theorem step_revoke (o wh ch wi : Nat) (w : World) (S : St N w0 w g mg p ws t es T v L) (hN : N < 2000000) (ho : o ≤ 255) (hwh : wh ≤ 255) (hch : ch ≤ 255) (hwi : wi ≤ 255) (hd : o % 9 = 4) :
    Calls Tryd.prog 12 #[.pointer (some ⟨mg, 0, none⟩), .pointer (some ⟨g, 0, none⟩), .agg #[.int .u8 (o : Int), .int .u8 (wh : Int), .int .u8 (ch : Int), .int .u8 (wi : Int)], v] w fun e w' => StepEnd N w0 g mg p ws e w' := by
  obtain ⟨ao, cap, rfl, hcap, hcm0⟩ := owns_form S.row
  have hcm : cap ≤ 9223372036854775807 := hcm0
  obtain ⟨n, hn⟩ : ∃ n, L.length = n := ⟨_, rfl⟩
  have HNL := hide hn
  have hrow := S.row
  rw [hn] at hcap
  have HSS := hide S.ss
  have HGL := hide S.gl
  have HPW := hide S.pw
  have HNN := hide hN
  have HWI := hide hwi
  have HCH := hide hch
  have hb0 := S.bo.bel.size
  obtain ⟨V1, hV1⟩ : ∃ V, w.alloc (.cells #[.int .u8 (o : Int), .int .u8 (wh : Int), .int .u8 (ch : Int), .int .u8 (wi : Int)] 40) = V := ⟨_, rfl⟩
  have bV1 : Below w.heap.size w V1 := hV1 ▸ below_alloc _ _
  have hA1 : ABox V1 w.heap.size o wh ch wi := hV1 ▸ heap_alloc_new _ _
  have hs1 : V1.heap.size = w.heap.size + 1 := by rw [← hV1]; simp
  obtain ⟨V2, hV2⟩ : ∃ V, V1.alloc (.cells #[.int .u64 0, .int .u32 0, .int .u8 0, .int .u64 0] 49) = V := ⟨_, rfl⟩
  have bV2 : Below V1.heap.size V1 V2 := hV2 ▸ below_alloc _ _
  obtain ⟨ab, hab⟩ : ∃ b, w.heap.size = b := ⟨_, rfl⟩
  obtain ⟨cb, hcb⟩ : ∃ b, V1.heap.size = b := ⟨_, rfl⟩
  have hHd : Hd w0 V2 g mg p ws t es T t es T (.slice ao L.length cap) L ab cb o wh ch wi Cp.zero := by
    refine ⟨(S.bo.grow bV1).grow bV2, owns_grow (owns_grow S.row bV1) bV2, by rw [← hab]; exact hA1.grow bV2, by rw [← hcb, ← hV2]; exact CBox.new V1 0 0 0 0, fun e => ?_⟩
    obtain ⟨cur, h1, _⟩ := owns_block S.row e
    have := lt_of_heap h1
    omega
  rw [hn] at hHd ⊢
  have HD := hide hHd
  have HCB : Hid (w0.heap.size ≤ cb) := by show _ ≤ _; omega
  have HABS : Hid (w.heap.size = ab ∧ V1.heap.size = cb) := ⟨hab, hcb⟩
  have k0 : V2.cell? ⟨ab, 1, none⟩ = some (.int .u8 (wh : Int)) := hHd.act.c1
  have hcb2 : w.heap.size + 1 = cb := by omega
  clear S hn hrow hN hwi hch hb0 bV1 hA1 bV2 hHd hs1
  go_enter Tryd.func12, Tryd.ntmps12
  go_upto_if 50 with fail
  clear hcb2 hab hcb hV1 hV2
  go_cut [] from 48 to 62 (fun wx => ∃ c : Cp, c.ok ∧ Hd w0 wx g mg p ws t es T t es T (.slice ao n cap) L ab cb o wh ch wi c)
  case first =>
    by_cases h0 : 0 < n
    · have h1 : (0 : Int) < (n : Int) := by omega
      obtain ⟨r, hr⟩ : ∃ r, wh % n = r := ⟨_, rfl⟩
      have hrn : r < n := by rw [← hr]; exact Nat.mod_lt _ h0
      have hrn1 : (r : Int) < (n : Int) := by omega
      have hmod : (wh : Int) % (n : Int) = (r : Int) := by omega
      have htm : (wh : Int).tmod (n : Int) = (r : Int) := by rw [Int.tmod_eq_emod_of_nonneg (by omega)]; exact hmod
      have hwr : IntKind.i64.wrap (wh : Int) = (wh : Int) := by rw [IntKind.wrap_i64]; omega
      rcases hx : L.getD r Cp.zero with ⟨xp, xo, xr, xc⟩
      have hrl : r < L.length := by have := HNL.out; omega
      have hok := HSS.out.ok _ (cap_mem hrl)
      rw [hx] at hok
      obtain ⟨b, hao, x0, x1, x2, x3⟩ := owns_cap3 HD.out.row r hrl xp xo xr xc hx
      have HXX := hide hx
      have HAO := hide hao
      have HRL := hide hrl
      have HOK := hide hok
      have HD1 := hide (HD.out.drewN 1)
      clear hx hrl hok hr h0 x0 x1 x2 x3 k0
      go_upto_region 3 with fail
      go_region_held (fun W => W.cell? ⟨b, r * 4, none⟩ = some (.int .u64 (xp : Int)) ∧ W.cell? ⟨b, r * 4 + 1, none⟩ = some (.int .u32 (xo : Int)) ∧ W.cell? ⟨b, r * 4 + 2, none⟩ = some (.int .u8 (xr : Int)) ∧ W.cell? ⟨b, r * 4 + 3, none⟩ = some (.int .u64 (xc : Int)) ∧ W.cell? ⟨ab, 1, none⟩ = some (.int .u8 (wh : Int)) ∧ W.cell? ⟨ab, 2, none⟩ = some (.int .u8 (ch : Int))) (first | exact (by obtain ⟨b', e, y0, y1, y2, y3⟩ := owns_cap3 HP.out.row r HRL.out xp xo xr xc HXX.out; cases (HAO.out.symm.trans e); exact ⟨y0, y1, y2, y3, HP.out.act.c1, HP.out.act.c2⟩) | exact (by obtain ⟨b', e, y0, y1, y2, y3⟩ := owns_cap3 HD1.out.row r HRL.out xp xo xr xc HXX.out; cases (HAO.out.symm.trans e); exact ⟨y0, y1, y2, y3, HD1.out.act.c1, HD1.out.act.c2⟩)) (first
        | (go_at_call 19; refine (change_any ⟨xp, xo, xr, xc⟩ ch _ HOK.out HCH.out).mono ?_; rintro e wx ⟨⟨⟨zp, zo, zr, zc⟩, rfl, zok⟩, bx⟩; have HZ := hide zok; clear zok; have HD1 := hide (HD1.out.grow bx); have HP := hide (HD1.out.put HCB.out ⟨zp, zo, zr, zc⟩); have v0 := HD1.out.box.c0; have v1 := HD1.out.box.c1; have v2 := HD1.out.box.c2; have v3 := HD1.out.box.c3; have z := HD1.out.box.z; simp only [Cp.val]))
      rw [← HAO.out]
      clear hao v0 v1 v2 v3 z
      go_wp2_with fail
      go_meet
      exact ⟨_, HZ.out, HP.out⟩
    · have h1 : ¬ ((0 : Int) < (n : Int)) := by omega
      clear h0
      go_wp2_with fail
      go_meet
      exact ⟨_, cp_ok (by decide) (by decide) (by decide) (by decide), HD.out⟩
  case rest =>
    obtain ⟨c, hc, hD⟩ := hcut
    have HD := hide hD
    have HC := hide hc
    clear hD hc
    obtain ⟨K, hK⟩ : ∃ K, chkF ws t es p T c 255 = K := ⟨_, rfl⟩
    have HK := hide hK
    have HSK : Hid (Ss (N + 1) ws K.t K.es T L) := HSS.out.chk HNN.out hK
    clear hK
    have hd1 : (o : Int) % 9 = 4 := by omega
    have HEL : Hid (es.length ≤ 2000000) := HSS.out.less
    obtain ⟨cp, co, cr, cc⟩ := c
    have a0 : wc.cell? ⟨ab, 0, none⟩ = some (.int .u8 (o : Int)) := HD.out.act.c0
    have v0 : wc.cell? ⟨cb, 0, none⟩ = some (.int .u64 (cp : Int)) := HD.out.box.c0
    have v1 : wc.cell? ⟨cb, 1, none⟩ = some (.int .u32 (co : Int)) := HD.out.box.c1
    have v2 : wc.cell? ⟨cb, 2, none⟩ = some (.int .u8 (cr : Int)) := HD.out.box.c2
    have v3 : wc.cell? ⟨cb, 3, none⟩ = some (.int .u64 (cc : Int)) := HD.out.box.c3
    go_wp2_with fail
    refine (bo_mCheck ⟨cp, co, cr, cc⟩ 255 _ HD.out.bo HC.out (by decide) (by have := HEL.out; omega) HGL.out K HK.out).mono ?_; rintro e w3 ⟨rfl, B3, k3⟩
    have HD3 := hide (HD.out.kq k3 B3)
    clear B3 k3 a0 v0 v1 v2 v3
    have hbz := below_alloc w3 (.cells #[.int .u64 0, .int .u32 0, .int .u8 0, .int .u64 0] 49)
    have HDZ := hide (HD3.out.grow hbz)
    have HWZ : Hid (CBox (w3.alloc (.cells #[.int .u64 0, .int .u32 0, .int .u8 0, .int .u64 0] 49)) w3.heap.size 0 0 0 0) := CBox.new w3 0 0 0 0
    have HOFF : Hid (∀ r, (Value.slice ao n cap).ownBlock = some r → r < w3.heap.size) := fun r e => by obtain ⟨cur, h1, _⟩ := owns_block HD3.out.row e; exact lt_of_heap h1
    have HZB : Hid (w0.heap.size ≤ w3.heap.size) := HD3.out.bo.bel.size
    have HCZ : Hid (cb < w3.heap.size) := lt_of_heap HD3.out.box
    have HEP : Hid (∀ j, (T j).e ≤ 9223372036854775806) := fun j => by have := HSS.out.ep j; have := HSS.out.few; omega
    clear hbz
    by_cases h0 : K.e = 0
    · have hke : ((K.e : Nat) : Int) = 0 := by omega
      have hkl : K.k < 64 := by have := HK.out; rw [← this] at h0 ⊢; exact chk_lt h0
      have hk1 : ((K.k : Nat) : Int) < 64 := by omega
      have hka : K.k = co := by
        have q2 := (chk_has (ws := ws) (t := t) (es := es) (p := p) (T := T) (c := ⟨cp, co, cr, cc⟩) (need := 255) (by rw [HK.out]; exact h0)).2.2
        rw [HK.out] at q2; exact q2
      have hlp : 0 < (T K.k).l := by
        have q := (chk_has (ws := ws) (t := t) (es := es) (p := p) (T := T) (c := ⟨cp, co, cr, cc⟩) (need := 255) (by rw [HK.out]; exact h0)).1
        rw [hka]; exact (hasO_yes q).2
      rcases hT : T K.k with ⟨s, ep, vl, l⟩
      rw [hT] at hlp
      have hep : ep ≤ 2000000 := by have q := HSS.out.ep K.k; rw [hT] at q; have := HSS.out.few; have h : ep ≤ N := q; omega
      have HT := hide hT
      have HKL := hide hkl
      have HEPP := hide hep
      have HLP := hide hlp
      clear hka hlp hep hkl
      go_upto_region 31 with fail
      obtain ⟨Z, hZ⟩ : ∃ Z, w3.alloc (.cells #[.int .u64 0, .int .u32 0, .int .u8 0, .int .u64 0] 49) = Z := ⟨_, rfl⟩
      obtain ⟨zb, hzb⟩ : ∃ b, w3.heap.size = b := ⟨_, rfl⟩
      rw [hZ] at HDZ HWZ ⊢
      rw [hzb] at HWZ HOFF HZB HCZ ⊢
      clear hZ hzb
      by_cases ht : K.t < ws.length
      · have hX : drwF ws K.t K.es = ⟨ws.getD K.t 0, true, K.t + 1, K.es⟩ := if_pos ht
        obtain ⟨sw, hsw⟩ : ∃ s, ws.getD K.t 0 = s := ⟨_, rfl⟩
        have hsw2 : sw ≤ 281474976710655 := hsw ▸ HD3.out.bo.word K.t
        have hres : revF ws t es p T ⟨cp, co, cr, cc⟩ = ⟨⟨p, K.k, 255, sw⟩, 0, K.t + 1, K.es, updO T K.k ⟨sw, ep + 1, vl, l⟩⟩ := by
          unfold revF
          rw [HK.out, if_pos h0, if_pos ht, hsw, hT]; rfl
        rw [hsw] at hX
        have HX := hide hX
        have HRES := hide hres
        have HSW := hide hsw2
        have HTL := hide ht
        clear hX hres hsw hsw2 ht hT h0
        obtain ⟨go2, hptr, hcall⟩ := bo_mdraw _ HDZ.out.bo _ HX.out
        have HCALL := hide hcall
        clear hcall
        go_wp2_with fail
        refine HCALL.out.mono ?_; rintro e w4 ⟨rfl, B4, k4⟩
        have HD4 := hide (HDZ.out.kq k4 B4)
        have HW4 := hide (HWZ.out.kq k4)
        clear B4 k4 hptr HCALL HDZ HWZ HD3
        simp only [erV]
        go_wp2_with fail
        refine (number_nil _).mono ?_; rintro e w5 ⟨rfl, b5⟩
        have HD5 := hide (HD4.out.grow b5)
        have HW5 := hide (HW4.out.grow b5)
        clear b5 HD4 HW4
        obtain ⟨m0, m1, m2, m3, m4⟩ := HD5.out.bo.md.choose_spec.at K.k HKL.out s ep vl l HT.out
        have z := HD5.out.bo.md.choose_spec.z
        have hok := HD5.out.bo.md.choose_spec.ok K.k
        rw [HT.out] at hok
        obtain ⟨W6, hW6⟩ : ∃ W, w5.setCell ⟨mg, 2 + K.k * 5 + 1, none⟩ (.int .u64 (sw : Int)) = W := ⟨_, rfl⟩
        obtain ⟨T1, hT1⟩ : ∃ T1, updO T K.k ⟨sw, ep, vl, l⟩ = T1 := ⟨_, rfl⟩
        have hT1k : T1 K.k = ⟨sw, ep, vl, l⟩ := by rw [← hT1, updO_same]
        have hB := HD5.out.bo.turn (w' := W6) (U1 := T1) (fun go y => by
          rw [← hT1, ← hW6]
          exact y.set K.k 1 HKL.out (by omega) (.int .u64 (sw : Int)) ⟨sw, ep, vl, l⟩ ⟨HSW.out, hok.2⟩ (by rw [HT.out]; rfl)) (by rw [← hW6]; exact foot_set w5 ⟨mg, 2 + K.k * 5 + 1, none⟩ (.int .u64 (sw : Int)))
        have HD6 := hide (HD5.out.kq hB.2 hB.1)
        have HW6 := hide (HW5.out.kq hB.2)
        clear hB
        go_upto_region 35 with fail
        clear m0 m1 m2 m3 m4 z hW6
        obtain ⟨m0, m1, m2, m3, m4⟩ := HD6.out.bo.md.choose_spec.at K.k HKL.out sw ep vl l hT1k
        have z := HD6.out.bo.md.choose_spec.z
        have hep1 : IntKind.i64.wrap ((ep : Int) + 1) = ((ep + 1 : Nat) : Int) := by have := HEPP.out; rw [IntKind.wrap_i64]; omega
        obtain ⟨ep1, hepe⟩ : ∃ e, ep + 1 = e := ⟨_, rfl⟩
        rw [hepe] at hep1 HRES
        go_region
        obtain ⟨W7, hW7⟩ : ∃ W, (W6.setCell ⟨mg, 2 + K.k * 5 + 2, none⟩ (.int .i64 (ep1 : Int))).drew = W := ⟨_, rfl⟩
        rw [hW7]
        obtain ⟨T2, hT2⟩ : ∃ T2, updO T K.k ⟨sw, ep1, vl, l⟩ = T2 := ⟨_, rfl⟩
        rw [hT2] at HRES
        have hB := HD6.out.bo.turn (w' := W6.setCell ⟨mg, 2 + K.k * 5 + 2, none⟩ (.int .i64 (ep1 : Int))) (U1 := T2) (fun go y => by
          rw [← hT2, ← updO_updO T K.k ⟨sw, ep, vl, l⟩, hT1]
          exact y.set K.k 2 HKL.out (by omega) (.int .i64 (ep1 : Int)) ⟨sw, ep1, vl, l⟩ ⟨HSW.out, hok.2⟩ (by rw [hT1k]; rfl)) (foot_set W6 ⟨mg, 2 + K.k * 5 + 2, none⟩ (.int .i64 (ep1 : Int)))
        have HD7 : Hid (Hd w0 W7 g mg p ws t es T (K.t + 1) K.es T2 (.slice ao n cap) L ab cb o wh ch wi ⟨cp, co, cr, cc⟩) := hW7 ▸ (HD6.out.kq hB.2 hB.1).drewN 1
        have HW7 : Hid (CBox W7 zb 0 0 0 0) := hW7 ▸ (HW6.out.kq hB.2).drewN 1
        have HS2 : Hid ((∀ j, (T2 j).l = 0 → T2 j = Ob.zero) ∧ ∀ j, (T2 j).e ≤ N + 1) := by
          refine ⟨fun j hj => ?_, fun j => ?_⟩
          · rw [← hT2] at hj ⊢
            by_cases e : j = K.k
            · rw [e, updO_same] at hj; have := HLP.out; simp only at hj this; omega
            · rw [updO_other _ _ e] at hj ⊢; exact HSS.out.zero j hj
          · rw [← hT2]
            by_cases e : j = K.k
            · rw [e, updO_same]; have := HSS.out.ep K.k; rw [HT.out] at this; show ep1 ≤ _; have h : ep ≤ N := this; omega
            · rw [updO_other _ _ e]; have := HSS.out.ep j; omega
        clear hB m0 m1 m2 m3 m4 z hep1 hW7 HD6 HW6 HD5 HW5
        have p0 : W7.cell? ⟨mg, 0, none⟩ = some (.int .u64 (p : Int)) := HD7.out.bo.md.choose_spec.c0
        have y0 : W7.cell? ⟨zb, 0, none⟩ = some (.int .u64 0) := HW7.out.c0
        have y1 : W7.cell? ⟨zb, 1, none⟩ = some (.int .u32 0) := HW7.out.c1
        have y2 : W7.cell? ⟨zb, 2, none⟩ = some (.int .u8 0) := HW7.out.c2
        have y3 : W7.cell? ⟨zb, 3, none⟩ = some (.int .u64 0) := HW7.out.c3
        have z := HW7.out.z
        obtain ⟨W5, hW5⟩ : ∃ W, (((W7.setCell ⟨zb, 0, none⟩ (.int .u64 (p : Int))).setCell ⟨zb, 1, none⟩ (.int .u32 (K.k : Int))).setCell ⟨zb, 2, none⟩ (.int .u8 255)).setCell ⟨zb, 3, none⟩ (.int .u64 (sw : Int)) = W := ⟨_, rfl⟩
        have HD5 : Hid (Hd w0 W5 g mg p ws t es T (K.t + 1) K.es T2 (.slice ao n cap) L ab cb o wh ch wi ⟨cp, co, cr, cc⟩) := hW5 ▸ HD7.out.other HW7.out.capB HZB.out (by have := HCZ.out; omega) (fun e => by have := HOFF.out _ e; omega) (foot4 W7 zb _ _ _ _)
        have HW5 : Hid (CBox W5 zb p K.k 255 sw) := hW5 ▸ put_box HW7.out p K.k 255 sw
        have hk0 : (0 : Int) ≤ (K.k : Int) := by omega
        have hk2 : (K.k : Int) ≤ 4294967295 := by omega
        have x0 : W5.cell? ⟨zb, 0, none⟩ = some (.int .u64 (p : Int)) := HW5.out.c0
        have x1 : W5.cell? ⟨zb, 1, none⟩ = some (.int .u32 (K.k : Int)) := HW5.out.c1
        have x2 : W5.cell? ⟨zb, 2, none⟩ = some (.int .u8 255) := HW5.out.c2
        have x3 : W5.cell? ⟨zb, 3, none⟩ = some (.int .u64 (sw : Int)) := HW5.out.c3
        obtain ⟨v', w', hr, ho', hf, hmv⟩ := app_cap p K.k 255 sw HD5.out.row (by have := HSS.out.len; have := HSS.out.few; omega) HD5.out.bo.bel.size
        have HRUN := hide hr
        have HDA := hide (HD5.out.app ho' hf hmv)
        have HWA : Hid (CBox w' zb p K.k 255 sw) := HW5.out.foot hf (fun e => by have := HOFF.out _ e; omega)
        clear hr ho' hf hmv
        have v0 : w'.cell? ⟨cb, 0, none⟩ = some (.int .u64 (cp : Int)) := HDA.out.box.c0
        have v1 : w'.cell? ⟨cb, 1, none⟩ = some (.int .u32 (co : Int)) := HDA.out.box.c1
        have v2 : w'.cell? ⟨cb, 2, none⟩ = some (.int .u8 (cr : Int)) := HDA.out.box.c2
        have v3 : w'.cell? ⟨cb, 3, none⟩ = some (.int .u64 (cc : Int)) := HDA.out.box.c3
        go_wp2_with (at_builtin; refine wpList_append_run rfl _ _ _ rfl _ _ _ _ rfl rfl HRUN.out ?_)
        refine (bo_revoke ⟨cp, co, cr, cc⟩ _ HDA.out.bo HC.out (by have := HEL.out; omega) HEP.out _ HRES.out).mono ?_; rintro e w6 ⟨rfl, B6, k6⟩
        have HD6 := hide (HDA.out.kq k6 B6)
        have HW6 := hide (HWA.out.kq k6)
        clear B6 k6 v0 v1 v2 v3 x0 x1 x2 x3 
        simp only [Cp.val, Int.cast_ofNat_Int, show erN 0 = .nilIface from rfl]
        obtain ⟨V6, hV6⟩ : ∃ V, w6.alloc (.cells #[.int .u64 (p : Int), .int .u32 (K.k : Int), .int .u8 255, .int .u64 (sw : Int)] 49) = V := ⟨_, rfl⟩
        have bV6 : Below w6.heap.size w6 V6 := hV6 ▸ below_alloc _ _
        have HG7 : Hid (CBox V6 w6.heap.size p K.k 255 sw) := hV6 ▸ CBox.new w6 p K.k 255 sw
        have HD7 := hide (HD6.out.grow bV6)
        have HW7 := hide (HW6.out.grow bV6)
        clear bV6
        have y0 : V6.cell? ⟨zb, 0, none⟩ = some (.int .u64 (p : Int)) := HW7.out.c0
        have y1 : V6.cell? ⟨zb, 1, none⟩ = some (.int .u32 (K.k : Int)) := HW7.out.c1
        have y2 : V6.cell? ⟨zb, 2, none⟩ = some (.int .u8 255) := HW7.out.c2
        have y3 : V6.cell? ⟨zb, 3, none⟩ = some (.int .u64 (sw : Int)) := HW7.out.c3
        have z0 : V6.cell? ⟨w6.heap.size, 0, none⟩ = some (.int .u64 (p : Int)) := HG7.out.c0
        have z1 : V6.cell? ⟨w6.heap.size, 1, none⟩ = some (.int .u32 (K.k : Int)) := HG7.out.c1
        have z2 : V6.cell? ⟨w6.heap.size, 2, none⟩ = some (.int .u8 255) := HG7.out.c2
        have z3 : V6.cell? ⟨w6.heap.size, 3, none⟩ = some (.int .u64 (sw : Int)) := HG7.out.c3
        have hE := eql_cap p K.k 255 sw p K.k 255 sw
        simp only [and_self, decide_true] at hE
        go_wp2_with fail
        refine (number_nil _).mono ?_; rintro e w8 ⟨rfl, b8⟩
        have HD8 := hide (HD7.out.grow b8)
        clear b8
        go_wp2
        go_ret2
        exact ⟨K.t + 1, K.es, T2, v', L ++ [⟨p, K.k, 255, sw⟩], rfl, HD8.out.bo, HD8.out.row, (HSS.out.tell HNN.out (cp_ok HPW.out (by omega) (by decide) HSW.out) HS2.out.1 HS2.out.2 (by have := HSK.out.el; omega) HTL.out), HGL.out, HPW.out⟩
      · have hX : drwF ws K.t K.es = ⟨0, false, K.t, K.es⟩ := if_neg ht
        have hres : revF ws t es p T ⟨cp, co, cr, cc⟩ = ⟨Cp.zero, 7, K.t, K.es, T⟩ := by
          unfold revF
          rw [HK.out, if_pos h0, if_neg ht]
        have HX := hide hX
        have HRES := hide hres
        clear hX hres ht hT h0
        obtain ⟨go2, hptr, hcall⟩ := bo_mdraw _ HDZ.out.bo _ HX.out
        have HCALL := hide hcall
        clear hcall
        go_wp2_with fail
        refine HCALL.out.mono ?_; rintro e w4 ⟨rfl, B4, k4⟩
        have HD4 := hide (HDZ.out.kq k4 B4)
        have HW4 := hide (HWZ.out.kq k4)
        clear B4 k4 hptr HCALL HDZ HWZ HD3
        simp only [erV]
        go_wp2_with fail
        refine (number_errno 7 _ (HD4.out.bo.glob HGL.out)).mono ?_; rintro e w6 ⟨rfl, b6⟩
        have HD7 := hide (HD4.out.grow b6)
        have HW7 := hide (HW4.out.grow b6)
        clear b6 hke
        have v0 : w6.cell? ⟨cb, 0, none⟩ = some (.int .u64 (cp : Int)) := HD7.out.box.c0
        have v1 : w6.cell? ⟨cb, 1, none⟩ = some (.int .u32 (co : Int)) := HD7.out.box.c1
        have v2 : w6.cell? ⟨cb, 2, none⟩ = some (.int .u8 (cr : Int)) := HD7.out.box.c2
        have v3 : w6.cell? ⟨cb, 3, none⟩ = some (.int .u64 (cc : Int)) := HD7.out.box.c3
        go_wp2_with fail
        refine (bo_revoke ⟨cp, co, cr, cc⟩ _ HD7.out.bo HC.out (by have := HEL.out; omega) HEP.out _ HRES.out).mono ?_; rintro e w5 ⟨rfl, B5, k5⟩
        have HD5 := hide (HD7.out.kq k5 B5)
        have HW5 := hide (HW7.out.kq k5)
        clear B5 k5 v0 v1 v2 v3
        simp only [Cp.val, Cp.zero, Int.cast_ofNat_Int]
        have hbz := below_alloc w5 (.cells #[.int .u64 0, .int .u32 0, .int .u8 0, .int .u64 0] 49)
        have HD6 := hide (HD5.out.grow hbz)
        have HW6 := hide (HW5.out.grow hbz)
        have HG6 : Hid (CBox (w5.alloc (.cells #[.int .u64 0, .int .u32 0, .int .u8 0, .int .u64 0] 49)) w5.heap.size 0 0 0 0) := CBox.new w5 0 0 0 0
        clear hbz
        have y0 : (w5.alloc (.cells #[.int .u64 0, .int .u32 0, .int .u8 0, .int .u64 0] 49)).cell? ⟨zb, 0, none⟩ = some (.int .u64 0) := HW6.out.c0
        have y1 : (w5.alloc (.cells #[.int .u64 0, .int .u32 0, .int .u8 0, .int .u64 0] 49)).cell? ⟨zb, 1, none⟩ = some (.int .u32 0) := HW6.out.c1
        have y2 : (w5.alloc (.cells #[.int .u64 0, .int .u32 0, .int .u8 0, .int .u64 0] 49)).cell? ⟨zb, 2, none⟩ = some (.int .u8 0) := HW6.out.c2
        have y3 : (w5.alloc (.cells #[.int .u64 0, .int .u32 0, .int .u8 0, .int .u64 0] 49)).cell? ⟨zb, 3, none⟩ = some (.int .u64 0) := HW6.out.c3
        have z0 : (w5.alloc (.cells #[.int .u64 0, .int .u32 0, .int .u8 0, .int .u64 0] 49)).cell? ⟨w5.heap.size, 0, none⟩ = some (.int .u64 0) := HG6.out.c0
        have z1 : (w5.alloc (.cells #[.int .u64 0, .int .u32 0, .int .u8 0, .int .u64 0] 49)).cell? ⟨w5.heap.size, 1, none⟩ = some (.int .u32 0) := HG6.out.c1
        have z2 : (w5.alloc (.cells #[.int .u64 0, .int .u32 0, .int .u8 0, .int .u64 0] 49)).cell? ⟨w5.heap.size, 2, none⟩ = some (.int .u8 0) := HG6.out.c2
        have z3 : (w5.alloc (.cells #[.int .u64 0, .int .u32 0, .int .u8 0, .int .u64 0] 49)).cell? ⟨w5.heap.size, 3, none⟩ = some (.int .u64 0) := HG6.out.c3
        have hE := eql_cap 0 0 0 0 0 0 0 0
        simp only [and_self, decide_true] at hE
        go_wp2_with fail
        refine (number_any _ _ (HD6.out.bo.glob HGL.out)).mono ?_; rintro e w7 ⟨rfl, b7⟩
        have HD7 := hide (HD6.out.grow b7)
        clear b7
        go_wp2
        go_ret2
        exact ⟨K.t, K.es, T, .slice ao n cap, L, rfl, HD7.out.bo, HD7.out.row, HSK.out, HGL.out, HPW.out⟩
    · have hke : ((K.e : Nat) : Int) ≠ 0 := by omega
      have hkb : (((K.e : Nat) : Int) == 0) = false := by rw [beq_eq_false_iff_ne]; exact hke
      have hres : revF ws t es p T ⟨cp, co, cr, cc⟩ = ⟨Cp.zero, K.e, K.t, K.es, T⟩ := by
        unfold revF
        rw [HK.out, if_neg h0]
      have HRES := hide hres
      clear h0 hres
      obtain ⟨zb, hzb⟩ : ∃ b, w3.heap.size = b := ⟨_, rfl⟩
      rw [hzb] at HWZ
      have v0 : (w3.alloc (.cells #[.int .u64 0, .int .u32 0, .int .u8 0, .int .u64 0] 49)).cell? ⟨cb, 0, none⟩ = some (.int .u64 (cp : Int)) := HDZ.out.box.c0
      have v1 : (w3.alloc (.cells #[.int .u64 0, .int .u32 0, .int .u8 0, .int .u64 0] 49)).cell? ⟨cb, 1, none⟩ = some (.int .u32 (co : Int)) := HDZ.out.box.c1
      have v2 : (w3.alloc (.cells #[.int .u64 0, .int .u32 0, .int .u8 0, .int .u64 0] 49)).cell? ⟨cb, 2, none⟩ = some (.int .u8 (cr : Int)) := HDZ.out.box.c2
      have v3 : (w3.alloc (.cells #[.int .u64 0, .int .u32 0, .int .u8 0, .int .u64 0] 49)).cell? ⟨cb, 3, none⟩ = some (.int .u64 (cc : Int)) := HDZ.out.box.c3
      go_wp2_with fail
      refine (bo_revoke ⟨cp, co, cr, cc⟩ _ HDZ.out.bo HC.out (by have := HEL.out; omega) HEP.out _ HRES.out).mono ?_; rintro e w5 ⟨rfl, B5, k5⟩
      have HD5 := hide (HDZ.out.kq k5 B5)
      have HW5 := hide (HWZ.out.kq k5)
      clear B5 k5 v0 v1 v2 v3
      simp only [Cp.val, Cp.zero, Int.cast_ofNat_Int]
      have hbz := below_alloc w5 (.cells #[.int .u64 0, .int .u32 0, .int .u8 0, .int .u64 0] 49)
      have HD6 := hide (HD5.out.grow hbz)
      have HW6 := hide (HW5.out.grow hbz)
      have HG6 : Hid (CBox (w5.alloc (.cells #[.int .u64 0, .int .u32 0, .int .u8 0, .int .u64 0] 49)) w5.heap.size 0 0 0 0) := CBox.new w5 0 0 0 0
      clear hbz
      have y0 : (w5.alloc (.cells #[.int .u64 0, .int .u32 0, .int .u8 0, .int .u64 0] 49)).cell? ⟨zb, 0, none⟩ = some (.int .u64 0) := HW6.out.c0
      have y1 : (w5.alloc (.cells #[.int .u64 0, .int .u32 0, .int .u8 0, .int .u64 0] 49)).cell? ⟨zb, 1, none⟩ = some (.int .u32 0) := HW6.out.c1
      have y2 : (w5.alloc (.cells #[.int .u64 0, .int .u32 0, .int .u8 0, .int .u64 0] 49)).cell? ⟨zb, 2, none⟩ = some (.int .u8 0) := HW6.out.c2
      have y3 : (w5.alloc (.cells #[.int .u64 0, .int .u32 0, .int .u8 0, .int .u64 0] 49)).cell? ⟨zb, 3, none⟩ = some (.int .u64 0) := HW6.out.c3
      have z0 : (w5.alloc (.cells #[.int .u64 0, .int .u32 0, .int .u8 0, .int .u64 0] 49)).cell? ⟨w5.heap.size, 0, none⟩ = some (.int .u64 0) := HG6.out.c0
      have z1 : (w5.alloc (.cells #[.int .u64 0, .int .u32 0, .int .u8 0, .int .u64 0] 49)).cell? ⟨w5.heap.size, 1, none⟩ = some (.int .u32 0) := HG6.out.c1
      have z2 : (w5.alloc (.cells #[.int .u64 0, .int .u32 0, .int .u8 0, .int .u64 0] 49)).cell? ⟨w5.heap.size, 2, none⟩ = some (.int .u8 0) := HG6.out.c2
      have z3 : (w5.alloc (.cells #[.int .u64 0, .int .u32 0, .int .u8 0, .int .u64 0] 49)).cell? ⟨w5.heap.size, 3, none⟩ = some (.int .u64 0) := HG6.out.c3
      have hE := eql_cap 0 0 0 0 0 0 0 0
      simp only [and_self, decide_true] at hE
      go_wp2_with fail
      refine (number_any _ _ (HD6.out.bo.glob HGL.out)).mono ?_; rintro e w7 ⟨rfl, b7⟩
      have HD7 := hide (HD6.out.grow b7)
      clear b7
      go_wp2
      go_ret2
      exact ⟨K.t, K.es, T, .slice ao n cap, L, rfl, HD7.out.bo, HD7.out.row, HSK.out, HGL.out, HPW.out⟩

end Go.Proofs.YtgcmompldcnhlaaDoor
