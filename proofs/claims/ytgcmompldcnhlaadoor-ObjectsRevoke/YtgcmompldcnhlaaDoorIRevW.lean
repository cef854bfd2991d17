/-
  The walk of ObjectsRevoke.
-/
import Derived.Test.YtgcmompldcnhlaaDoorIRevM
import Derived.Deep.CutRange
namespace Go.Proofs.YtgcmompldcnhlaaDoor
open Go.RowKit
def RvO (w : World) (g bo ba : Nat) (ws : List Nat) (m gk : Nat) (vo vi : Value) (wr : World) : Prop :=
  ∃ (i t jc so : Nat) (es : List Ent) (L : List Cp), i + gk = m ∧ vi = .int .i64 (i : Int) ∧ RevS w wr g bo ba ws t es jc i (jc + 1) so vo L ∧ so = ws.getD jc 0 ∧ L.length ≤ 9 * i ∧ t ≤ tbF i
def RvI (w : World) (g bo ba : Nat) (ws : List Nat) (i jc so t0 n0 nm gk : Nat) (vo vk : Value) (wr : World) : Prop :=
  ∃ (k t q : Nat) (es : List Ent) (L : List Cp), k + gk = nm ∧ vk = .int .i64 (k : Int) ∧ RevS w wr g bo ba ws t es jc i (jc + 1) so vo L ∧ q ≤ k ∧ q ≤ 8 ∧ L.length ≤ n0 + q ∧ t ≤ t0 + q
def RvC (w : World) (g bo ba : Nat) (ws : List Nat) (i jc so t0 n gk : Nat) (vo : Value) (L : List Cp) (vk : Value) (wr : World) : Prop :=
  ∃ (k t : Nat) (es : List Ent), k + gk = n ∧ vk = .int .i64 (k : Int) ∧ RevS w wr g bo ba ws t es jc i jc so vo L ∧ t ≤ t0 + k
set_option maxRecDepth 20000 in
set_option maxHeartbeats 6400000 in
theorem walk_revoke (ao : Option Addr) (n cap : Nat) (times : Nat) (w : World) (hms : U8s w ao n cap) (hg : Glob w) :
    Calls Tryd.prog 5 #[.slice ao n cap, .int .u8 (times : Int)] w fun e w' => e = .returned (.bool true) ∧ Below w.heap.size w w' := by
  have HG := hide hg
  have HMS := hide hms
  have hcn : n ≤ cap := hms.1
  have hcm : cap ≤ 9223372036854775807 := hms.2.1
  have hu := spr_unlike 200
  have hlen := sprL_len 200
  have hwd : ∀ j, (sprL 200).getD j 0 ≤ 281474976710655 := fun j => sprL_word 200 j (by omega)
  have hcut := sprL_cut 200 (by omega)
  have hspr := spread_any 200
  obtain ⟨ws, hws⟩ : ∃ ws, sprL 200 = ws := ⟨_, rfl⟩
  rw [hws] at hu hlen hwd hcut hspr
  clear hws hms hg
  obtain ⟨md, hmd⟩ : ∃ md, times % 5 = md := ⟨_, rfl⟩
  have hmd1 : (times : Int) % 5 = (md : Int) := by omega
  obtain ⟨m, hmm⟩ : ∃ m, md + 1 = m := ⟨_, rfl⟩
  have hm5 : m ≤ 5 := by omega
  obtain ⟨s0, hs0⟩ : ∃ s, ws.getD 0 0 = s := ⟨_, rfl⟩
  obtain ⟨s1, hs1⟩ : ∃ s, ws.getD 1 0 = s := ⟨_, rfl⟩
  obtain ⟨T1, hT1⟩ : ∃ T1, updO noneO 0 ⟨s0, 0, 5, 24⟩ = T1 := ⟨_, rfl⟩
  have hT10 : T1 0 = ⟨s0, 0, 5, 24⟩ := by rw [← hT1, updO_same]
  have hT1j : ∀ j, j ≠ 0 → T1 j = Ob.zero := fun j hj => by rw [← hT1, updO_other _ _ hj]; rfl
  have hT2 : updO T1 1 ⟨s1, 0, 6, 24⟩ = TR ws 1 0 := by
    funext k
    unfold updO TR
    by_cases h : k = 1
    · subst h; rw [if_pos rfl, hs1]; rfl
    · rw [if_neg h]
      by_cases h0 : k = 0
      · subst h0; rw [if_pos rfl, hT10, hs0]
      · rw [if_neg h0, if_neg h, hT1j k h0]
  have r1 : creF ws 0 [] 7 noneO 5 = ⟨⟨7, 0, 255, s0⟩, 0, 1, [], T1⟩ := by
    rw [cre_at 5 free_none (by omega) (by omega), hs0, hT1]
  have r2 : creF ws 1 [] 7 T1 6 = ⟨⟨7, 1, 255, s1⟩, 0, 2, [], TR ws 1 0⟩ := by
    have hf : freeO T1 = 1 := freeO_eq (by omega) (by rw [hT1j 1 (by omega)]; rfl) (fun j hj => by
      obtain rfl : j = 0 := by omega
      rw [hT10]; show (24 : Nat) ≠ 0; omega)
    rw [cre_at 6 hf (by omega) (by omega), hs1, hT2]
  have HR1 := hide r1
  have HR2 := hide r2
  have HUN := hide hu
  have HWL := hide hlen
  have HWD := hide hwd
  have HSP := hide hspr
  have HCUT := hide hcut
  have HS0 := hide hs0
  have HS1 := hide hs1
  have HMM := hide hmm
  have HM5 := hide hm5
  clear r1 r2 hu hlen hwd hspr hcut hs0 hs1 hmm hm5 hmd hT1 hT10 hT1j hT2
  go_enter Tryd.func5, Tryd.ntmps5
  go_wp2_with fail
  refine (awake_any _ HG.out).mono ?_; rintro e w1 ⟨rfl, b1⟩
  have HB1 := hide b1
  clear b1
  go_wp2_with fail
  refine (HSP.out _ (by omega)).mono ?_; rintro e w2 ⟨so, scap, rfl, hu, b2⟩
  have HU := hide hu
  have HB2 := hide (below_one HB1.out b2)
  clear hu b2
  go_wp2_with fail
  refine (of_any _ _ _ ws _ HU.out (by omega)).mono ?_; rintro e w3 ⟨ta, th, tk, rfl, T, _, ha, hh, bel⟩
  rw [HCUT.out] at T
  have HT := hide T
  have HTA := hide ha
  have HTH := hide hh
  have HB3 := hide bel
  clear T bel ha hh
  go_wp2_with fail
  refine (oof_any _ ⟨_, rfl⟩ _).mono ?_; rintro e w4 ⟨go, gm, rfl, O2, bel2⟩
  have HS4 := hide (Tk.made HB2.out HT.out HTA.out HTH.out HB3.out O2 bel2)
  clear O2 bel2 HT HB3 HTA HTH HU
  go_wp2_with fail
  refine (tof_new 7 _).mono ?_; rintro e w5 ⟨rfl, T3', b3⟩
  have HS5 := hide (Sd.made HS4.out T3' b3)
  obtain ⟨g, hgg⟩ : ∃ g, w4.heap.size = g := ⟨_, rfl⟩
  rw [hgg] at HS5 ⊢
  clear T3' b3 HS4 hgg
  go_wp2_with fail
  refine (sd_create 5 _ HS5.out (by decide) _ HR1.out).mono ?_; rintro e w6 ⟨rfl, S6, k6⟩
  simp only [Cp.val, show erN ((0 : Nat) : Int) = .nilIface from rfl]
  obtain ⟨V1, hV1⟩ : ∃ V, w6.alloc (.cells #[.int .u64 7, .int .u32 0, .int .u8 255, .int .u64 (s0 : Int)] 49) = V := ⟨_, rfl⟩
  have bV : Below w6.heap.size w6 V1 := hV1 ▸ below_alloc _ _
  have HA1 : Hid (CBox V1 w6.heap.size 7 0 255 s0) := hV1 ▸ CBox.new w6 7 0 255 s0
  have HS6 := hide (S6.grow bV)
  clear S6 k6 bV
  go_wp2_with fail
  refine (sd_create 6 _ HS6.out (by decide) _ HR2.out).mono ?_; rintro e w7 ⟨rfl, S7, k7⟩
  simp only [Cp.val, show erN ((0 : Nat) : Int) = .nilIface from rfl]
  obtain ⟨V2, hV2⟩ : ∃ V, w7.alloc (.cells #[.int .u64 7, .int .u32 1, .int .u8 255, .int .u64 (s1 : Int)] 49) = V := ⟨_, rfl⟩
  have bV : Below w7.heap.size w7 V2 := hV2 ▸ below_alloc _ _
  have HRS : Hid (RevS w V2 g w7.heap.size w6.heap.size ws 2 [] 1 0 (1 + 1) s1 (.slice none 0 0) []) :=
    ⟨S7.grow bV, hV2 ▸ CBox.new w7 7 1 255 s1, by rw [HS0.out]; exact (HA1.out.kp k7).grow bV, owns_nil _ _ _ _, ⟨(by intro e; cases e), (by intro e; cases e)⟩, (by intro c hc; cases hc), outs_nil ws (by have := HWL.out; omega), by simp, by omega, by omega,
      S7.bel.size, by have := lt_of_heap (HA1.out.kp k7); omega⟩
  clear S7 k7 bV HA1 HS6 HS5
  go_wp2_with fail
  obtain ⟨bo, hbo⟩ : ∃ b, w7.heap.size = b := ⟨_, rfl⟩
  obtain ⟨ba, hba⟩ : ∃ b, w6.heap.size = b := ⟨_, rfl⟩
  rw [hbo, hba] at HRS ⊢
  clear hbo hba hV2 hV1 HB1 HB2
  go_loopg [10, 11] m (fun gk vo vi wr => RvO w g bo ba ws m gk vo vi wr)
  case atStart => exact ⟨0, 2, 1, s1, [], [], by omega, rfl, HRS.out, HS1.out.symm, by simp, by decide⟩
  case round =>
    obtain ⟨i, t, jc, so1, es, L, hi, rfl, hS, hso, hL, hT⟩ := hrel
    have HS := hide hS
    have HSO := hide hso
    have HLL := hide hL
    have HTT := hide hT
    clear hS hso hL hT
    cases gk with
    | zero =>
      obtain rfl : i = m := by omega
      have hlt : ¬ ((i : Int) ≤ (md : Int)) := by have := HMM.out; omega
      have c0 : wr.cell? ⟨ba, 0, none⟩ = some (.int .u64 7) := HS.out.oth.c0
      have c1 : wr.cell? ⟨ba, 1, none⟩ = some (.int .u32 0) := HS.out.oth.c1
      have c2 : wr.cell? ⟨ba, 2, none⟩ = some (.int .u8 255) := HS.out.oth.c2
      have c3 : wr.cell? ⟨ba, 3, none⟩ = some (.int .u64 ((ws.getD 0 0 : Nat) : Int)) := HS.out.oth.c3
      have HEND := hide (rs_last _ HS.out HWD.out (by have := HS.out.outs.le; have := HWL.out; omega))
      clear hi
      go_wp2_with fail
      refine HEND.out.mono ?_; rintro e w11 ⟨rfl, b11⟩
      have HB := hide b11
      clear b11
      go_wp2
      go_ret
      exact ⟨rfl, HB.out⟩
    | succ g1 =>
      have hlt : (i : Int) ≤ (md : Int) := by have := HMM.out; omega
      have hi4 : i ≤ 4 := by have := HM5.out; omega
      have HI := hide hi
      have HI4 := hide hi4
      clear hi hi4
      rename World => wq
      go_wp2_with fail
      clear hmd1 hlt
      go_loopg [10, 52] n (fun gk vo vk wr => RvI w g bo ba ws i jc so1 t L.length n gk vo vk wr)
      case atStart => exact ⟨0, t, 0, es, L, by omega, rfl, HS.out, Nat.le_refl _, by omega, by omega, by omega⟩
      case round =>
        obtain ⟨k, t2, q, es2, L2, hk, rfl, hS2, hqk, hq8, hL2, hT2⟩ := hrel
        have HS2 := hide hS2
        have HQK := hide hqk
        have HQ8 := hide hq8
        have HL2 := hide hL2
        have HT2 := hide hT2
        clear hS2 hqk hq8 hL2 hT2
        have hbd := tbF_le HI4.out
        have HTL : Hid (t2 + 1 + 9 * (i + 1) ≤ 182) := by
          show _ ≤ _
          have := HT2.out; have := HTT.out; have := HQ8.out; omega
        have HLB : Hid (L2.length ≤ 9 * i + 8) := by
          show _ ≤ _
          have := HL2.out; have := HLL.out; have := HQ8.out; omega
        clear hbd
        cases gk with
        | zero =>
          obtain rfl : k = n := by omega
          have hlk : ¬ ((k : Int) < (k : Int)) := by omega
          clear hk HQK
          have c0 : wr.cell? ⟨bo, 0, none⟩ = some (.int .u64 7) := HS2.out.own.c0
          have c1 : wr.cell? ⟨bo, 1, none⟩ = some (.int .u32 1) := HS2.out.own.c1
          have c2 : wr.cell? ⟨bo, 2, none⟩ = some (.int .u8 255) := HS2.out.own.c2
          have c3 : wr.cell? ⟨bo, 3, none⟩ = some (.int .u64 (so1 : Int)) := HS2.out.own.c3
          obtain ⟨v', w', hr, ho', hf, hmv⟩ := app_cap 7 1 255 so1 HS2.out.row (by have := HLB.out; have := HI4.out; omega) HS2.out.sd.bel.size
          have HR := hide hr
          have HO2 : Hid (OldC ws es2 (jc + 1) ⟨7, 1, 255, so1⟩) := ⟨cp_ok (by decide) (by decide) (by decide) (by rw [HSO.out]; exact HWD.out jc), rfl, rfl, jc, by omega, by rw [HSO.out]; exact has_owner (HWD.out jc)⟩
          have HS3 := hide (HS2.out.app HO2.out ho' hf hmv)
          clear hr hf hmv ho'
          obtain ⟨so2, hso2⟩ : ∃ s, ws.getD t2 0 = s := ⟨_, rfl⟩
          have hrow := HS3.out.row
          obtain ⟨nl, hnl⟩ : ∃ nl, (L2 ++ [Cp.mk 7 1 255 so1]).length = nl := ⟨_, rfl⟩
          rw [hnl] at hrow
          obtain ⟨ro, rc, rfl, hrc1, hrc2⟩ := owns_form hrow
          have HRV := hide (rs_revoke _ HS3.out HWD.out (by have := HTL.out; have := HWL.out; omega) (by have := HWL.out; omega) (by have := HI4.out; omega) HSO.out)
          rw [hso2] at HRV
          have HSO2 := hide hso2
          have HL3 : Hid ((L2 ++ [Cp.mk 7 1 255 so1]).length ≤ 9 * (i + 1)) := by
            show _ ≤ _
            have := HLB.out
            simp; omega
          obtain ⟨L3, hL3⟩ : ∃ L3, L2 ++ [Cp.mk 7 1 255 so1] = L3 := ⟨_, rfl⟩
          rw [hL3] at HS3 HRV HL3 hnl
          have HNL := hide hnl
          obtain ⟨i1, hi1⟩ : ∃ i1, i + 1 = i1 := ⟨_, rfl⟩
          have hi2 : (i : Int) + 1 = (i1 : Int) := by omega
          rw [hi1] at HRV HL3
          have HI1 := hide hi1
          clear hL3 hnl hso2 hi1 hrow
          have hrc3 : rc ≤ 9223372036854775807 := hrc2
          have d0 : w'.cell? ⟨bo, 0, none⟩ = some (.int .u64 7) := HS3.out.own.c0
          have d1 : w'.cell? ⟨bo, 1, none⟩ = some (.int .u32 1) := HS3.out.own.c1
          have d2 : w'.cell? ⟨bo, 2, none⟩ = some (.int .u8 255) := HS3.out.own.c2
          have d3 : w'.cell? ⟨bo, 3, none⟩ = some (.int .u64 (so1 : Int)) := HS3.out.own.c3
          go_wp2_with (at_builtin; refine wpList_append_run rfl _ _ _ rfl _ _ _ _ rfl rfl HR.out ?_)
          clear c0 c1 c2 c3
          refine HRV.out.mono ?_; rintro e w8 ⟨rfl, S8⟩
          obtain ⟨V3, hV3⟩ : ∃ V, w8.alloc (.cells #[.int .u64 7, .int .u32 1, .int .u8 255, .int .u64 (so2 : Int)] 49) = V := ⟨_, rfl⟩
          have bV : Below w8.heap.size w8 V3 := hV3 ▸ below_alloc _ _
          have HB3 : Hid (CBox V3 w8.heap.size 7 1 255 so2) := hV3 ▸ CBox.new w8 7 1 255 so2
          have HS4 := hide (S8.grow bV)
          clear S8 bV d0 d1 d2 d3 HRV HS3 HR
          have e0 : V3.cell? ⟨w8.heap.size, 0, none⟩ = some (.int .u64 7) := HB3.out.c0
          have e1 : V3.cell? ⟨w8.heap.size, 1, none⟩ = some (.int .u32 1) := HB3.out.c1
          have e2 : V3.cell? ⟨w8.heap.size, 2, none⟩ = some (.int .u8 255) := HB3.out.c2
          have e3 : V3.cell? ⟨w8.heap.size, 3, none⟩ = some (.int .u64 (so2 : Int)) := HB3.out.c3
          have d0 : V3.cell? ⟨bo, 0, none⟩ = some (.int .u64 7) := HS4.out.own.c0
          have d1 : V3.cell? ⟨bo, 1, none⟩ = some (.int .u32 1) := HS4.out.own.c1
          have d2 : V3.cell? ⟨bo, 2, none⟩ = some (.int .u8 255) := HS4.out.own.c2
          have d3 : V3.cell? ⟨bo, 3, none⟩ = some (.int .u64 (so1 : Int)) := HS4.out.own.c3
          have z := HS4.out.own.z
          obtain ⟨V4, hV4⟩ : ∃ V, (((V3.setCell ⟨bo, 0, none⟩ (.int .u64 7)).setCell ⟨bo, 1, none⟩ (.int .u32 1)).setCell ⟨bo, 2, none⟩ (.int .u8 255)).setCell ⟨bo, 3, none⟩ (.int .u64 (so2 : Int)) = V := ⟨_, rfl⟩
          have HS5 : Hid (RevS w V4 g bo ba ws (t2 + 1) es2 t2 i1 t2 so2 (.slice ro nl rc) L3) := hV4 ▸ HS4.out.put so2
          clear HS4 HB3
          go_wp2_with fail
          clear e0 e1 e2 e3 d0 d1 d2 d3 z hV3 hV4
          have HI2 := hide hi2
          clear hi2
          go_loopg [88] nl (fun gk vk wr => RvC w g bo ba ws i1 t2 so2 (t2 + 1) nl gk (.slice ro nl rc) L3 vk wr)
          case atStart => exact ⟨0, t2 + 1, es2, by omega, rfl, HS5.out, by omega⟩
          case round =>
            obtain ⟨k3, t3, es3, hk3, rfl, hS3, hT3⟩ := hrel
            have HS3 := hide hS3
            have HT3 := hide hT3
            clear hS3 hT3 HS5
            cases gk with
            | zero =>
              obtain rfl : k3 = nl := by omega
              have hlk : ¬ ((k3 : Int) < (k3 : Int)) := by omega
              have c0 : wr.cell? ⟨bo, 0, none⟩ = some (.int .u64 7) := HS3.out.own.c0
              have c1 : wr.cell? ⟨bo, 1, none⟩ = some (.int .u32 1) := HS3.out.own.c1
              have c2 : wr.cell? ⟨bo, 2, none⟩ = some (.int .u8 255) := HS3.out.own.c2
              have c3 : wr.cell? ⟨bo, 3, none⟩ = some (.int .u64 (so2 : Int)) := HS3.out.own.c3
              have hi2 := HI2.out
              have hib : (i1 : Int) ≤ 1000 := by have := HI1.out; have := HI4.out; omega
              clear hk3
              have HTN : Hid (t3 ≤ 190) := by
                show _ ≤ _
                have := HT3.out; have := HTL.out; have := HNL.out; have := HL3.out; omega
              go_wp2_with fail
              refine (rs_info _ HS3.out HWD.out (by have := HTN.out; omega) HSO2.out.symm).mono ?_; rintro e w9 ⟨rfl, S9⟩
              have HS9 := hide S9
              clear S9 c0 c1 c2 c3
              go_wp2_with fail
              go_roundg g1
              case measure => have := HI.out; omega
              case rel =>
                refine ⟨i1, t3, t2, so2, es3, L3, by have := HI.out; have := HI1.out; omega, by go_num, HS9.out.up (by omega) (by have := HS9.out.jt; omega), HSO2.out.symm, by have := HI1.out; have := HL3.out; omega, ?_⟩
                have h1 := HI1.out
                have h2 := HT3.out
                have h3 := HT2.out
                have h4 := HTT.out
                have h5 := HQ8.out
                have h6 := HL3.out
                have h7 := HNL.out
                rw [← h1]
                show t3 ≤ tbF i + 9 + 9 * (i + 1)
                omega
            | succ g3 =>
              have hlk : (k3 : Int) < (nl : Int) := by omega
              have HK3 := hide hk3
              rcases hx : L3.getD k3 Cp.zero with ⟨xp, xo, xr, xc⟩
              have hkl : k3 < L3.length := by have := HNL.out; omega
              have hmem := getD_mem hkl
              rw [hx] at hmem
              have HMEM := hide hmem
              have hrow := HS3.out.row
              obtain ⟨rb, hro, k0, k1, k2, k3'⟩ := owns_cap2 hrow k3 hkl xp xo xr xc hx
              obtain ⟨V5, hV5⟩ : ∃ V, wr.alloc (.cells #[.int .u64 (xp : Int), .int .u32 (xo : Int), .int .u8 (xr : Int), .int .u64 (xc : Int)] 49) = V := ⟨_, rfl⟩
              have bV : Below wr.heap.size wr V5 := hV5 ▸ below_alloc _ _
              have HB5 : Hid (CBox V5 wr.heap.size xp xo xr xc) := hV5 ▸ CBox.new wr xp xo xr xc
              have HS6 := hide (HS3.out.grow bV)
              clear bV hrow hmem hx hkl hk3
              go_upto_region 27 with fail
              clear hro k0 k1 k2 k3'
              have c0 : V5.cell? ⟨wr.heap.size, 0, none⟩ = some (.int .u64 (xp : Int)) := HB5.out.c0
              have c1 : V5.cell? ⟨wr.heap.size, 1, none⟩ = some (.int .u32 (xo : Int)) := HB5.out.c1
              have c2 : V5.cell? ⟨wr.heap.size, 2, none⟩ = some (.int .u8 (xr : Int)) := HB5.out.c2
              have c3 : V5.cell? ⟨wr.heap.size, 3, none⟩ = some (.int .u64 (xc : Int)) := HB5.out.c3
              go_wp2_with fail
              refine (rs_check ⟨xp, xo, xr, xc⟩ _ HS6.out HUN.out HWD.out HMEM.out (by have := HT3.out; have := HTL.out; have := HWL.out; have := HK3.out; have := HNL.out; have := HL3.out; have := HI1.out; omega) (by have := HWL.out; omega)).mono ?_; rintro e w9 ⟨t4, es4, rfl, ht4, S9⟩
              have HS9 := hide S9
              have HT4 := hide ht4
              clear S9 ht4 c0 c1 c2 c3
              go_wp2_with fail
              refine (number_errno 1 _ (HS9.out.sd.glob HG.out)).mono ?_; rintro e w10 ⟨rfl, b10⟩
              have HS10 := hide (HS9.out.grow b10)
              clear b10
              go_wp2_with fail
              go_roundg g3
              case measure => have := HK3.out; omega
              case rel => exact ⟨k3 + 1, t4, es4, by have := HK3.out; omega, by go_num, HS10.out, by have := HT3.out; have := HT4.out; omega⟩
        | succ g2 =>
          have hlk : (k : Int) < (n : Int) := by omega
          obtain ⟨ad, hao, mk, hmk, hmk2⟩ := HMS.out.at HS2.out.sd.bel (j := k) (by omega)
          have HMK := hide hmk2
          have HK := hide hk
          clear hk hmk2
          go_upto_region 13 with fail
          clear hao hmk
          by_cases hk8 : k < 8
          · have hk9 : (k : Int) < 8 := by omega
            have c0 : wr.cell? ⟨bo, 0, none⟩ = some (.int .u64 7) := HS2.out.own.c0
            have c1 : wr.cell? ⟨bo, 1, none⟩ = some (.int .u32 1) := HS2.out.own.c1
            have c2 : wr.cell? ⟨bo, 2, none⟩ = some (.int .u8 255) := HS2.out.own.c2
            have c3 : wr.cell? ⟨bo, 3, none⟩ = some (.int .u64 (so1 : Int)) := HS2.out.own.c3
            have HK8 := hide hk8
            clear hk8
            go_wp2_with fail
            refine (rs_restrict mk _ HS2.out HUN.out HWD.out HMK.out (by have := HTL.out; have := HWL.out; omega) (by have := HWL.out; omega) HSO.out).mono ?_; rintro e w8 ⟨x, t3, es3, rfl, ht3, hx3, hh3, S3⟩
            obtain ⟨V3, hV3⟩ : ∃ V, w8.alloc (.cells #[.int .u64 7, .int .u32 1, .int .u8 (mk : Int), .int .u64 (x : Int)] 49) = V := ⟨_, rfl⟩
            have bV : Below w8.heap.size w8 V3 := hV3 ▸ below_alloc _ _
            have HB3 : Hid (CBox V3 w8.heap.size 7 1 mk x) := hV3 ▸ CBox.new w8 7 1 mk x
            have HS3 := hide (S3.grow bV)
            have HO3 : Hid (OldC ws es3 (jc + 1) ⟨7, 1, mk, x⟩) := ⟨cp_ok (by decide) (by decide) HMK.out hx3, rfl, rfl, jc, by omega, hh3⟩
            have HT3 := hide ht3
            clear S3 hx3 hh3 ht3 bV c0 c1 c2 c3
            obtain ⟨v', w', hr, ho', hf, hmv⟩ := app_cap 7 1 mk x HS3.out.row (by have := HLB.out; have := HI4.out; omega) HS3.out.sd.bel.size
            have HR := hide hr
            have HS' := hide (HS3.out.app HO3.out ho' hf hmv)
            clear hr ho' hf hmv
            have c0 : V3.cell? ⟨w8.heap.size, 0, none⟩ = some (.int .u64 7) := HB3.out.c0
            have c1 : V3.cell? ⟨w8.heap.size, 1, none⟩ = some (.int .u32 1) := HB3.out.c1
            have c2 : V3.cell? ⟨w8.heap.size, 2, none⟩ = some (.int .u8 (mk : Int)) := HB3.out.c2
            have c3 : V3.cell? ⟨w8.heap.size, 3, none⟩ = some (.int .u64 (x : Int)) := HB3.out.c3
            go_wp2_with (at_builtin; refine wpList_append_run rfl _ _ _ rfl _ _ _ _ rfl rfl HR.out ?_)
            go_roundg g2
            case measure => have := HK.out; omega
            case rel =>
              exact ⟨k + 1, t3, q + 1, es3, _, by have := HK.out; omega, by go_num, HS'.out, by have := HQK.out; omega, by have := HQK.out; have := HK8.out; omega, by have := HL2.out; simp; omega, by have := HT2.out; have := HT3.out; omega⟩
          · have hk9 : ¬ ((k : Int) < 8) := by omega
            clear hk8
            go_wp2_with fail
            go_roundg g2
            case measure => have := HK.out; omega
            case rel =>
              exact ⟨k + 1, t2, q, es2, L2, by have := HK.out; omega, by go_num, HS2.out, by have := HQK.out; omega, HQ8.out, HL2.out, HT2.out⟩
end Go.Proofs.YtgcmompldcnhlaaDoor
