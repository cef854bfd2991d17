/-
  The walk of ObjectsGone.
-/
import Derived.Test.YtgcmompldcnhlaaDoorIRowC
namespace Go.Proofs.YtgcmompldcnhlaaDoor
open Go.RowKit
/- so many objects, made one behind the other -/
def TG (ws : List Nat) (i : Nat) : Nat → Ob := fun k => if k < i then ⟨ws.getD k 0, 0, (k : Int), 24⟩ else Ob.zero
def hadL (ws : List Nat) (i : Nat) : List Cp := (List.range i).map fun k => ⟨7, k, 255, ws.getD k 0⟩
theorem TG_zero (ws : List Nat) : TG ws 0 = noneO := by funext k; unfold TG noneO; rw [if_neg (by omega)]
theorem TG_succ (ws : List Nat) (i : Nat) : updO (TG ws i) i ⟨ws.getD i 0, 0, (i : Int), 24⟩ = TG ws (i + 1) := by
  funext k
  unfold updO TG
  by_cases h : k = i
  · subst h; rw [if_pos rfl, if_pos (by omega)]
  · rw [if_neg h]
    by_cases h2 : k < i
    · rw [if_pos h2, if_pos (by omega)]
    · rw [if_neg h2, if_neg (by omega)]
theorem TG_at {ws : List Nat} {i k : Nat} (h : k < i) : TG ws i k = ⟨ws.getD k 0, 0, (k : Int), 24⟩ := if_pos h
theorem TG_free (ws : List Nat) {i : Nat} (h : i < 64) : freeO (TG ws i) = i := by
  refine freeO_eq h ?_ (fun j hj => ?_)
  · unfold TG; rw [if_neg (by omega)]; rfl
  · rw [TG_at hj]; show (24 : Nat) ≠ 0; omega
theorem hadL_len (ws : List Nat) (i : Nat) : (hadL ws i).length = i := by simp [hadL]
theorem hadL_succ (ws : List Nat) (i : Nat) : hadL ws (i + 1) = hadL ws i ++ [⟨7, i, 255, ws.getD i 0⟩] := by simp [hadL, List.range_succ]
theorem hadL_get {ws : List Nat} {i k : Nat} (h : k < i) : (hadL ws i).getD k Cp.zero = ⟨7, k, 255, ws.getD k 0⟩ := by
  unfold hadL
  rw [List.getD_eq_getElem?_getD, List.getElem?_map, List.getElem?_range h]; rfl
def GoneRel (w : World) (g : Nat) (ws : List Nat) (m gk : Nat) (vo vk : Value) (wr : World) : Prop :=
  ∃ i : Nat, i + gk = m ∧ vk = .int .i64 (i : Int) ∧ Sd w wr g 7 ws i [] (TG ws i) ∧ wr.ownsRow w.heap.size 49 4 vo i (cellsC (hadL ws i))
set_option maxRecDepth 20000 in
set_option maxHeartbeats 3200000 in
theorem walk_gone (mask n : Nat) (w : World) (hm : mask ≤ 255) (hg : Glob w) :
    Calls Tryd.prog 7 #[.int .u8 (mask : Int), .int .u8 (n : Int)] w fun e w' => e = .returned (.bool true) ∧ Below w.heap.size w w' := by
  have HG := hide hg
  have hu := spr_unlike 40
  have hlen := sprL_len 40
  have hwd : ∀ j, (sprL 40).getD j 0 ≤ 281474976710655 := fun j => sprL_word 40 j (by omega)
  have hcut := sprL_cut 40 (by omega)
  have hspr := spread_any 40
  obtain ⟨ws, hws⟩ : ∃ ws, sprL 40 = ws := ⟨_, rfl⟩
  rw [hws] at hu hlen hwd hcut hspr
  clear hws
  obtain ⟨md, hmd⟩ : ∃ md, n % 8 = md := ⟨_, rfl⟩
  have hmd1 : (n : Int) % 8 = (md : Int) := by omega
  obtain ⟨m, hmm⟩ : ∃ m, md + 1 = m := ⟨_, rfl⟩
  have hm8 : m ≤ 8 := by omega
  have hm1 : 1 ≤ m := by omega
  obtain ⟨q, hq⟩ : ∃ q, m / 2 = q := ⟨_, rfl⟩
  have hq1 : (m : Int) / 2 = (q : Int) := by omega
  have hqm : q < m := by omega
  obtain ⟨s, hs⟩ : ∃ s, ws.getD q 0 = s := ⟨_, rfl⟩
  have hs0 : s ≤ 281474976710655 := hs ▸ hwd q
  have hTq : TG ws m q = ⟨s, 0, (q : Int), 24⟩ := by rw [TG_at hqm, hs]
  have hTh : hasO (TG ws m) q = true := hasO_of (by omega) (by rw [hTq]; show 0 < 24; omega)
  have hget : (hadL ws m).getD q Cp.zero = ⟨7, q, 255, s⟩ := by rw [hadL_get hqm, hs]
  have r1 : ∀ i, i < m → creF ws i [] 7 (TG ws i) i = ⟨⟨7, i, 255, ws.getD i 0⟩, 0, i + 1, [], TG ws (i + 1)⟩ := fun i hi => by
    rw [cre_at (i : Int) (TG_free ws (by omega)) (by omega) (by omega), TG_succ]
  have o1 : Outs ws m [] := outs_nil ws (by omega)
  have own : ∀ es, HasA es s 255 s := fun es => has_owner hs0
  have q1 := of_ok (ws := ws) (t := m) (by omega) [] s mask
  have q1h := of_has q1
  have q1o := o1.of hu s mask
  have q1w := of_word o1 hwd s mask
  have q1t := of_t ws m [] s mask
  have q1l := of_len ws m [] s mask
  have r2 : resF ws m [] 7 (TG ws m) ⟨7, q, 255, s⟩ mask = ⟨⟨7, q, mask, (ofF ws m [] s mask).x⟩, 0, (ofF ws m [] s mask).t, (ofF ws m [] s mask).es, TG ws m⟩ := by
    have := res_good (ws := ws) (t := m) (es := []) (p := 7) (T := TG ws m) (c := ⟨7, q, 255, s⟩) (mask := mask) rfl hTh (by rw [hTq]; exact own _) (by rw [hTq, and_owner hm]; exact q1)
    rw [this]; simp only [hTq, and_owner hm]
  obtain ⟨X1, hX1⟩ : ∃ X1, ofF ws m [] s mask = X1 := ⟨_, rfl⟩
  rw [hX1] at q1 q1h q1o q1w q1t q1l r2
  obtain ⟨x1, ok1, t1, e1⟩ := X1
  obtain rfl : ok1 = true := q1
  simp only at q1h q1o q1w q1t q1l r2
  have r3 : chkF ws t1 e1 7 (TG ws m) ⟨7, q, 255, s⟩ 8 = ⟨q, 0, t1, e1⟩ := by
    have := chk_good (ws := ws) (t := t1) (es := e1) (p := 7) (T := TG ws m) (c := ⟨7, q, 255, s⟩) (need := 8) rfl hTh (by rw [hTq]; exact own _)
    rw [this]; exact if_pos (show 255 &&& 8 = 8 by decide)
  have hTv : (TG ws m q).v = (q : Int) := by rw [hTq]
  obtain ⟨T2, hT2⟩ : ∃ T2, updO (TG ws m) q Ob.zero = T2 := ⟨_, rfl⟩
  have r4 : chkF ws t1 e1 7 T2 ⟨7, q, 255, s⟩ 0 = ⟨0, 1, t1, e1⟩ := chk_none (.inr (by
    unfold hasO
    rw [← hT2, updO_same]; simp [Ob.zero]))
  have hfree : freeO T2 = q := by
    refine freeO_eq (by omega) (by rw [← hT2, updO_same]; rfl) (fun j hj => ?_)
    rw [← hT2, updO_other _ _ (by omega), TG_at (by omega)]
    show (24 : Nat) ≠ 0; omega
  obtain ⟨s2, hs2⟩ : ∃ s2, ws.getD t1 0 = s2 := ⟨_, rfl⟩
  have hs20 : s2 ≤ 281474976710655 := hs2 ▸ hwd t1
  obtain ⟨T3, hT3⟩ : ∃ T3, updO T2 q ⟨s2, 0, 99, 24⟩ = T3 := ⟨_, rfl⟩
  have r5 : creF ws t1 e1 7 T2 99 = ⟨⟨7, q, 255, s2⟩, 0, t1 + 1, e1, T3⟩ := by
    rw [cre_at 99 hfree (by omega) (by omega), hs2, hT3]
  have hT3q : T3 q = ⟨s2, 0, 99, 24⟩ := by rw [← hT3, updO_same]
  have hT3h : hasO T3 q = true := hasO_of (by omega) (by rw [hT3q]; show 0 < 24; omega)
  have o2 := q1o.more (by omega)
  have bad : ∀ r x, HasA e1 s r x → r ≤ 255 → ∃ K : Chk, chkF ws (t1 + 1) e1 7 T3 ⟨7, q, r, x⟩ 0 = K ∧ K.e = 1 := by
    intro r x hx _
    rw [← hs] at hx
    have ok := of_ok (ws := ws) (t := t1 + 1) (by omega) e1 s2 r
    have hne := unlike_of o2 hu hwd (a := q) (b := t1) (by omega) (by omega) (by omega) hx (by rw [hs2]; exact ok)
    have := chk_bad (ws := ws) (t := t1 + 1) (es := e1) (p := 7) (T := T3) (c := ⟨7, q, r, x⟩) (need := 0) rfl hT3h (by rw [hT3q]; exact ok) (by rw [hT3q]; rw [hs2] at hne; exact hne)
    exact ⟨_, this, rfl⟩
  obtain ⟨K1, hK1, hK1e⟩ := bad 255 s (own _) (by omega)
  have hK1' : K1 = ⟨0, 1, t1 + 1, e1⟩ := by
    have ok := of_ok (ws := ws) (t := t1 + 1) (by omega) e1 s2 255
    have hne := unlike_of (x := s) o2 hu hwd (a := q) (b := t1) (by omega) (by omega) (by omega) (by rw [hs]; exact own e1) (by rw [hs2]; exact ok)
    rw [hs2] at hne
    have := chk_bad (ws := ws) (t := t1 + 1) (es := e1) (p := 7) (T := T3) (c := ⟨7, q, 255, s⟩) (need := 0) rfl hT3h (by rw [hT3q]; exact ok) (by rw [hT3q]; exact hne)
    rw [← hK1, this, hT3q]
    simp only [of_owner]
  obtain ⟨K2, hK2, hK2e⟩ := bad mask x1 q1h hm
  have hval : (if (decide (0 ≤ (q : Int)) && hasO T3 ((q : Int)).toNat) = true then (T3 ((q : Int)).toNat).v else 0) = 99 ∧ (decide (0 ≤ (q : Int)) && hasO T3 ((q : Int)).toNat) = true := by
    rw [Int.toNat_natCast, hT3h, hT3q]
    have : (0 : Int) ≤ (q : Int) := by omega
    rw [decide_eq_true this]; simp
  rw [hK1'] at hK1
  have HR1 := hide r1
  have HR2 := hide r2
  have HR3 := hide r3
  have HR4 := hide r4
  have HR5 := hide r5
  have HT2 := hide hT2
  have HK1 := hide hK1
  have HK2 := hide (And.intro hK2 hK2e)
  have HV := hide hval
  have HM := hide hm
  have HW := hide hwd
  have HS0 := hide hs0
  have HS2 := hide hs20
  have HW1 := hide q1w
  have HL1 := hide q1l
  have HT1 := hide q1t
  have HTV := hide hTv
  have HGET := hide hget
  have HSP := hide hspr
  have HCUT := hide hcut
  have HM8 := hide hm8
  have HQM := hide hqm
  have HMD := hide hmm
  clear r1 r2 r3 r4 r5 hm hwd hs0 hs20 q1w q1l q1t q1o q1h o1 o2 own bad hK1 hK2 hK2e hval hTv hget hspr hcut hm8 hqm hmm hK1e hK1' hu hlen hTh hTq hT2 hT3 hT3q hT3h hs hs2 hmd hq hfree hX1 hg
  go_enter Tryd.func7, Tryd.ntmps7
  go_wp2_with fail
  refine (awake_any _ HG.out).mono ?_; rintro e w1 ⟨rfl, b1⟩
  have HB1 := hide b1
  clear b1
  go_wp2_with fail
  refine (HSP.out _ (by omega)).mono ?_; rintro e w2 ⟨ao, cap, rfl, hu, b2⟩
  have HU := hide hu
  have HB2 := hide (below_one HB1.out b2)
  clear hu b2
  go_wp2_with fail
  refine (of_any _ _ _ ws _ HU.out (by omega)).mono ?_; rintro e w3 ⟨ta, th, tk, rfl, T, _, ha, hh, bel⟩
  rw [HCUT.out] at T
  have HT := hide T
  have HTA := hide ha
  have HTH := hide hh
  have HB3 := hide bel
  clear T bel ha hh
  go_wp2_with fail
  refine (oof_any _ ⟨_, rfl⟩ _).mono ?_; rintro e w4 ⟨go, gm, rfl, O2, bel2⟩
  have HS4 := hide (Tk.made HB2.out HT.out HTA.out HTH.out HB3.out O2 bel2)
  clear O2 bel2 HT HB3 HTA HTH HU
  go_wp2_with fail
  refine (tof_new 7 _).mono ?_; rintro e w5 ⟨rfl, T3, b3⟩
  have HS5 := hide (Sd.made HS4.out T3 b3)
  obtain ⟨g, hgg⟩ : ∃ g, w4.heap.size = g := ⟨_, rfl⟩
  rw [hgg] at HS5 ⊢
  clear T3 b3 HS4 hgg
  go_wp2_with fail
  go_loopg [6, 7] m (fun gk vo vk wr => GoneRel w g ws m gk vo vk wr)
  case atStart => exact ⟨0, by omega, rfl, by rw [TG_zero]; exact HS5.out, owns_nil _ _ _ _⟩
  case round =>
    obtain ⟨i, hi, rfl, hS, hO⟩ := hrel
    have HS := hide hS
    have HO := hide hO
    clear hS hO
    cases gk with
    | zero =>
      obtain rfl : i = m := by omega
      have hlt : ¬ ((i : Int) ≤ (md : Int)) := by have := HMD.out; omega
      obtain ⟨hb, hc, rfl, hcap, hcm, k0, k1, k2, k3⟩ := owns_cap HO.out (hadL_len _ _).symm q HQM.out 7 q 255 s HGET.out
      have hqi : (q : Int) < (i : Int) := by have := HQM.out; omega
      have hi8 : (i : Int) ≤ 8 := by have := HM8.out; omega
      clear hi
      obtain ⟨V, hV⟩ : ∃ V, wr.alloc (.cells #[.int .u64 7, .int .u32 (q : Int), .int .u8 255, .int .u64 (s : Int)] 49) = V := ⟨_, rfl⟩
      have bV : Below wr.heap.size wr V := hV ▸ below_alloc _ _
      have HCV : Hid (CBox V wr.heap.size 7 q 255 s) := hV ▸ CBox.new wr 7 q 255 s
      have HSV := hide (HS.out.grow bV)
      clear HO HS bV
      have c0 : V.cell? ⟨wr.heap.size, 0, none⟩ = some (.int .u64 7) := HCV.out.c0
      have c1 : V.cell? ⟨wr.heap.size, 1, none⟩ = some (.int .u32 (q : Int)) := HCV.out.c1
      have c2 : V.cell? ⟨wr.heap.size, 2, none⟩ = some (.int .u8 255) := HCV.out.c2
      have c3 : V.cell? ⟨wr.heap.size, 3, none⟩ = some (.int .u64 (s : Int)) := HCV.out.c3
      go_wp2_with fail
      refine (sd_restrict ⟨7, q, 255, s⟩ mask _ HSV.out (cp_ok (by decide) (by have := HQM.out; have := HM8.out; omega) (by decide) HS0.out) HM.out (by decide) _ HR2.out).mono ?_; rintro e w6 ⟨rfl, S6, k6⟩
      simp only [Cp.val, show erN ((0 : Nat) : Int) = .nilIface from rfl]
      obtain ⟨V2, hV2⟩ : ∃ V, w6.alloc (.cells #[.int .u64 7, .int .u32 (q : Int), .int .u8 (mask : Int), .int .u64 (x1 : Int)] 49) = V := ⟨_, rfl⟩
      have bV : Below w6.heap.size w6 V2 := hV2 ▸ below_alloc _ _
      have HD2 : Hid (CBox V2 w6.heap.size 7 q mask x1) := hV2 ▸ CBox.new w6 7 q mask x1
      have HC2 := hide ((HCV.out.kp k6).grow bV)
      have HS2' := hide (S6.grow bV)
      clear S6 k6 bV c0 c1 c2 c3 hV k0 k1 k2 k3
      have c0 : V2.cell? ⟨wr.heap.size, 0, none⟩ = some (.int .u64 7) := HC2.out.c0
      have c1 : V2.cell? ⟨wr.heap.size, 1, none⟩ = some (.int .u32 (q : Int)) := HC2.out.c1
      have c2 : V2.cell? ⟨wr.heap.size, 2, none⟩ = some (.int .u8 255) := HC2.out.c2
      have c3 : V2.cell? ⟨wr.heap.size, 3, none⟩ = some (.int .u64 (s : Int)) := HC2.out.c3
      go_wp2_with fail
      refine (sd_destroy ⟨7, q, 255, s⟩ _ HS2'.out (cp_ok (by decide) (by have := HQM.out; have := HM8.out; omega) (by decide) HS0.out) (by have := HL1.out; simp at this; omega) _ HR3.out rfl).mono ?_; rintro e w7 ⟨rfl, S7, k7⟩
      simp only [HTV.out, HT2.out] at S7 ⊢
      have HS7 := hide S7
      have HC7 := hide (HC2.out.kp k7)
      have HD7 := hide (HD2.out.kp k7)
      clear S7 k7 c0 c1 c2 c3 hV2
      have c0 : w7.cell? ⟨wr.heap.size, 0, none⟩ = some (.int .u64 7) := HC7.out.c0
      have c1 : w7.cell? ⟨wr.heap.size, 1, none⟩ = some (.int .u32 (q : Int)) := HC7.out.c1
      have c2 : w7.cell? ⟨wr.heap.size, 2, none⟩ = some (.int .u8 255) := HC7.out.c2
      have c3 : w7.cell? ⟨wr.heap.size, 3, none⟩ = some (.int .u64 (s : Int)) := HC7.out.c3
      go_wp2_with fail
      refine (sd_check ⟨7, q, 255, s⟩ 0 _ HS7.out (cp_ok (by decide) (by have := HQM.out; have := HM8.out; omega) (by decide) HS0.out) (by decide) (by have := HL1.out; simp at this; omega) _ HR4.out).mono ?_; rintro e w8 ⟨rfl, S8, k8⟩
      simp only [show erN ((1 : Nat) : Int) = .iface 60 (.int .i64 1) from rfl]
      have HS8 := hide S8
      have HC8 := hide (HC7.out.kp k8)
      have HD8 := hide (HD7.out.kp k8)
      clear S8 k8 c0 c1 c2 c3
      go_wp2_with fail
      refine (sd_create 99 _ HS8.out (by have := HL1.out; simp at this; omega) _ HR5.out).mono ?_; rintro e w9 ⟨rfl, S9, k9⟩
      simp only [Cp.val, show erN ((0 : Nat) : Int) = .nilIface from rfl]
      obtain ⟨V3, hV3⟩ : ∃ V, w9.alloc (.cells #[.int .u64 7, .int .u32 (q : Int), .int .u8 255, .int .u64 (s2 : Int)] 49) = V := ⟨_, rfl⟩
      have bV : Below w9.heap.size w9 V3 := hV3 ▸ below_alloc _ _
      have HE3 : Hid (CBox V3 w9.heap.size 7 q 255 s2) := hV3 ▸ CBox.new w9 7 q 255 s2
      have HC9 := hide ((HC8.out.kp k9).grow bV)
      have HD9 := hide ((HD8.out.kp k9).grow bV)
      have HS9 := hide (S9.grow bV)
      clear S9 k9 bV
      have c0 : V3.cell? ⟨wr.heap.size, 0, none⟩ = some (.int .u64 7) := HC9.out.c0
      have c1 : V3.cell? ⟨wr.heap.size, 1, none⟩ = some (.int .u32 (q : Int)) := HC9.out.c1
      have c2 : V3.cell? ⟨wr.heap.size, 2, none⟩ = some (.int .u8 255) := HC9.out.c2
      have c3 : V3.cell? ⟨wr.heap.size, 3, none⟩ = some (.int .u64 (s : Int)) := HC9.out.c3
      go_wp2_with fail
      refine (sd_check ⟨7, q, 255, s⟩ 0 _ HS9.out (cp_ok (by decide) (by have := HQM.out; have := HM8.out; omega) (by decide) HS0.out) (by decide) (by have := HL1.out; simp at this; omega) _ HK1.out).mono ?_; rintro e w10 ⟨rfl, S10, k10⟩
      simp only [show erN ((1 : Nat) : Int) = .iface 60 (.int .i64 1) from rfl]
      have HS10 := hide S10
      have HD10 := hide (HD9.out.kp k10)
      have HE10 := hide (HE3.out.kp k10)
      clear S10 k10 c0 c1 c2 c3 hV3
      have c0 : w10.cell? ⟨w6.heap.size, 0, none⟩ = some (.int .u64 7) := HD10.out.c0
      have c1 : w10.cell? ⟨w6.heap.size, 1, none⟩ = some (.int .u32 (q : Int)) := HD10.out.c1
      have c2 : w10.cell? ⟨w6.heap.size, 2, none⟩ = some (.int .u8 (mask : Int)) := HD10.out.c2
      have c3 : w10.cell? ⟨w6.heap.size, 3, none⟩ = some (.int .u64 (x1 : Int)) := HD10.out.c3
      go_wp2_with fail
      refine (sd_check ⟨7, q, mask, x1⟩ 0 _ HS10.out (cp_ok (by decide) (by have := HQM.out; have := HM8.out; omega) HM.out HW1.out) (by decide) (by have := HL1.out; simp at this; omega) _ HK2.out.1).mono ?_; rintro e w11 ⟨rfl, S11, k11⟩
      rw [HK2.out.2]
      simp only [show erN ((1 : Nat) : Int) = .iface 60 (.int .i64 1) from rfl]
      obtain ⟨Kk, Ke, Kt, Kes⟩ := K2
      simp only at S11 ⊢
      have HS11 := hide S11
      have HE11 := hide (HE10.out.kp k11)
      clear S11 k11 c0 c1 c2 c3
      obtain ⟨gz, hgz⟩ := HS11.out.tb
      go_wp2_with fail
      refine (value_any q _ hgz (by omega)).mono ?_; rintro e w12 ⟨rfl, rfl⟩
      rw [HV.out.1, HV.out.2]
      clear hgz
      obtain ⟨b3, hb3⟩ : ∃ b, w9.heap.size = b := ⟨_, rfl⟩
      rw [hb3] at HE11 ⊢
      have d1 : w12.cell? ⟨b3, 1, none⟩ = some (.int .u32 (q : Int)) := HE11.out.c1
      go_wp2_with fail
      refine (number_errno 1 _ (HS11.out.glob HG.out)).mono ?_; rintro e w13 ⟨rfl, b13⟩
      have HS13 := hide (HS11.out.grow b13)
      clear b13 d1
      go_wp2_with fail
      refine (number_errno 1 _ (HS13.out.glob HG.out)).mono ?_; rintro e w14 ⟨rfl, b14⟩
      have HS14 := hide (HS13.out.grow b14)
      clear b14
      go_wp2_with fail
      refine (number_errno 1 _ (HS14.out.glob HG.out)).mono ?_; rintro e w15 ⟨rfl, b15⟩
      have HS15 := hide (HS14.out.grow b15)
      clear b15
      go_wp2
      go_ret
      exact ⟨rfl, HS15.out.bel⟩
    | succ g1 =>
      have hlt : (i : Int) ≤ (md : Int) := by have := HMD.out; omega
      have HI := hide hi
      have hi0 : (i : Int) ≤ 8 := by have := HM8.out; omega
      have r1 := HR1.out i (by omega)
      have HW := hide (HW.out i)
      obtain ⟨s, hs⟩ : ∃ s, ws.getD i 0 = s := ⟨_, rfl⟩
      rw [hs] at r1 HW
      have HR := hide r1
      have HSS := hide hs
      clear r1 hi hs
      go_wp2_with fail
      refine (sd_create i _ HS.out (by simp) _ HR.out).mono ?_; rintro e w6 ⟨rfl, S6, k6⟩
      simp only [Cp.val, show erN ((0 : Nat) : Int) = .nilIface from rfl]
      have HO6 := hide (owns_kp HO.out k6 cap_odd)
      obtain ⟨V, hV⟩ : ∃ V, w6.alloc (.cells #[.int .u64 7, .int .u32 (i : Int), .int .u8 255, .int .u64 (s : Int)] 49) = V := ⟨_, rfl⟩
      have bV : Below w6.heap.size w6 V := hV ▸ below_alloc _ _
      have HC : Hid (CBox V w6.heap.size 7 i 255 s) := hV ▸ CBox.new w6 7 i 255 s
      have HSV := hide (S6.grow bV)
      have HOV := hide (owns_grow HO6.out bV)
      clear S6 k6 HO6 HO HS bV
      obtain ⟨v', w', hr, ho', hf, -⟩ := app_cap 7 i 255 s HOV.out (by omega) HSV.out.bel.size
      have HR' := hide hr
      have HO' := hide ho'
      have HS' := hide (HSV.out.row HOV.out (Nat.le_refl _) hf)
      clear hr ho' hf
      have c0 : V.cell? ⟨w6.heap.size, 0, none⟩ = some (.int .u64 7) := HC.out.c0
      have c1 : V.cell? ⟨w6.heap.size, 1, none⟩ = some (.int .u32 (i : Int)) := HC.out.c1
      have c2 : V.cell? ⟨w6.heap.size, 2, none⟩ = some (.int .u8 255) := HC.out.c2
      have c3 : V.cell? ⟨w6.heap.size, 3, none⟩ = some (.int .u64 (s : Int)) := HC.out.c3
      go_wp2_with (at_builtin; refine wpList_append_run rfl _ _ _ rfl _ _ _ _ rfl rfl HR'.out ?_)
      go_roundg g1
      case measure => have := HI.out; omega
      case rel =>
        refine ⟨i + 1, by have := HI.out; omega, by go_num, HS'.out, ?_⟩
        rw [hadL_succ, HSS.out]
        exact HO'.out
end Go.Proofs.YtgcmompldcnhlaaDoor
