/-
  The walk of MemoryServes.
-/
import Derived.Test.YtpbkjmkdciiccaaGreatDoorJq
import Derived.Test.YtpbkjmkdciiccaaGreatDoorJp
import Derived.Test.YtpbkjmkdciiccaaGreatDoorJl
import Derived.Deep.CutBlock
import Derived.Deep.CutRange
import Derived.Deep.RegionHeldLaw
namespace Go.Proofs.YtpbkjmkdciiccaaGreatDoor
section
open Go.RowKit
theorem len_snoc {α : Type} (l : List α) (x : α) : (l ++ [x]).length = l.length + 1 := by simp
def HadRel (w0 : World) (A A' : Ad) (rr : Nat) (ws : List Nat) (gb : Nat) (q : Cp) (nm gk : Nat) (vh vi : Value) (wr : World) : Prop :=
  ∃ (i : Nat) (s : Hs) (L : List Cp) (va : Value) (dv : List Bool × List UInt8) (nv : Nat → Option Cel) (va' : Value) (dv' : List Bool × List UInt8) (nv' : Nat → Option Cel), i + gk = nm ∧ vi = .int .i64 (i : Int) ∧ (0 < L.length ∧ L.length ≤ 4 ∧ s.es.length ≤ 2 * L.length) ∧ Scr 8 w0 wr (A.upd va dv nv) (A'.upd va' dv' nv') rr ws s vh L ∧ CBox wr gb q.p q.o q.r q.c ∧ ∀ j, vh.ownBlock = some j → gb < j
def SrvRel (w0 : World) (A A' : Ad) (rr : Nat) (ws : List Nat) (na gk : Nat) (vh vi : Value) (wr : World) : Prop :=
  ∃ (i : Nat) (s : Hs) (L : List Cp) (va : Value) (dv : List Bool × List UInt8) (nv : Nat → Option Cel) (va' : Value) (dv' : List Bool × List UInt8) (nv' : Nat → Option Cel), i + gk = na ∧ vi = .int .i64 (i : Int) ∧ 0 < L.length ∧ Scr (8 + i) w0 wr (A.upd va dv nv) (A'.upd va' dv' nv') rr ws s vh L
set_option maxRecDepth 20000 in
set_option maxHeartbeats 12800000 in
theorem walk_serves (eo : Option Addr) (ne ec : Nat) (us : List Nat) (pg : Nat) (mo : Option Addr) (nm mc : Nat) (ms : List UInt8) (ao : Option Addr) (na ac : Nat) (xs : List Ac) (w : World) (hu : U64s w eo ne ec us) (hne : ne ≤ 17592186043904) (hpg : pg ≤ 255) (hM : Bts w mo nm mc ms) (hA : Acts w ao na ac xs) (hna : na ≤ 4400000000000) (hsn : ∀ y ∈ xs, y.sn ≤ 140737488351232) (hg : Glob w) :
    Calls Tryz.prog 3 #[.slice eo ne ec, .int .u8 (pg : Int), .slice mo nm mc, .slice ao na ac] w fun e w' => e = .returned (.bool true) ∧ Below w.heap.size w w' := by
  have HG := hide hg
  have HU := hide hu
  have HMK := hide hM
  have HA := hide hA
  have HNE := hide hne
  have HNA := hide hna
  have HSN := hide hsn
  have hac := hA.2.1
  have hac2 : ac ≤ 9223372036854775807 := hA.2.2.1
  have hmc := hM.2.1
  have hmc2 : mc ≤ 9223372036854775807 := hM.2.2.1
  have HNX := hide hA.1
  have hpm : (pg : Int).tmod 20 = ((pg % 20 : Nat) : Int) := by rw [Int.tmod_eq_emod_of_nonneg (by omega)]; omega
  have hpm2 : (pg : Int) % 20 = ((pg % 20 : Nat) : Int) := by omega
  obtain ⟨n, hn⟩ : ∃ n, pg % 20 = n := ⟨_, rfl⟩
  rw [hn] at hpm hpm2
  have hn20 : n < 20 := by omega
  have hcn : clampF (n : Int) = n := by have := clampF_in (z := (n : Int)) (by omega) (by omega); omega
  have HN := hide hn20
  have HCN := hide hcn
  have hwn : IntKind.i64.wrap (n : Int) = (n : Int) := by rw [IntKind.wrap_i64]; omega
  clear hg hu hA hM hne hna hsn hn hn20 hcn hpg
  go_enter Tryz.func3, Tryz.ntmps3
  go_wp2_with fail
  refine (awake_any _ HG.out).mono ?_; rintro e w1 ⟨rfl, b1⟩
  have HB1 := hide b1
  clear b1
  go_wp2_with fail
  refine (of_any _ _ _ us _ (HU.out.carry HB1.out) HNE.out).mono ?_; rintro e w2 ⟨ta, th, tk, rfl, TA, _, ha, hh, bel⟩
  have HT := hide TA
  have HTA := hide ha
  have HTH := hide hh
  have HBE := hide bel
  clear TA bel ha hh
  go_wp2_with fail
  refine (oof_any _ ⟨_, rfl⟩ _).mono ?_; rintro e w3 ⟨go, gm, rfl, O2, bel2⟩
  have HS3 := hide (Tk.made HB1.out HT.out HTA.out HTH.out HBE.out O2 bel2)
  clear O2 bel2 HT HBE HTA HTH
  go_wp2_with fail
  refine (tof_new 5 _).mono ?_; rintro e w4 ⟨rfl, T4, b4⟩
  have HO4 := hide (Od.make HS3.out T4 b4)
  obtain ⟨g, hgg⟩ : ∃ g, w3.heap.size = g := ⟨_, rfl⟩
  obtain ⟨B, hB⟩ : ∃ B, w2.heap.size = B := ⟨_, rfl⟩
  rw [hgg] at HO4 ⊢
  rw [hB] at HO4
  have HL4 := hide HO4.out.low
  clear T4 b4 HS3 hgg hB
  go_wp2_with fail
  refine (of_any _ _ _ us _ (HU.out.carry HO4.out.tk.new.bel) HNE.out).mono ?_; rintro e w5 ⟨tc, td, te, rfl, TA, _, ha, hh, bel⟩
  have HT := hide TA
  have HTA := hide ha
  have HTH := hide hh
  have HBE := hide bel
  clear TA bel ha hh
  go_wp2_with fail
  refine (oof_any _ ⟨_, rfl⟩ _).mono ?_; rintro e w6 ⟨go2, gm2, rfl, O2, bel2⟩
  have HS6 := hide (Tk.made HO4.out.tk.new.bel HT.out HTA.out HTH.out HBE.out O2 bel2)
  have HO6 := hide ((HO4.out.grow HBE.out).grow bel2)
  have HLU : Hid (w4.heap.size ≤ go2 ∧ w4.heap.size ≤ gm2 ∧ w4.heap.size ≤ w6.heap.size) := by show _ ∧ _ ∧ _; have := O2.bg; have := O2.bm; have := HBE.out.size; have := bel2.size; omega
  clear O2 bel2 HT HBE
  go_wp2_with fail
  refine (tof_new 5 _).mono ?_; rintro e w7 ⟨rfl, T7, b7⟩
  have HP7 := hide (Od.make HS6.out T7 b7)
  have HO7 := hide (HO6.out.grow b7)
  obtain ⟨g2, hgg⟩ : ∃ g, w6.heap.size = g := ⟨_, rfl⟩
  obtain ⟨B2, hB⟩ : ∃ B, w5.heap.size = B := ⟨_, rfl⟩
  rw [hgg] at HP7 HLU ⊢
  rw [hB] at HP7
  have HL7 := hide HP7.out.low
  obtain ⟨ws, hws⟩ : ∃ ws, cutN us = ws := ⟨_, rfl⟩
  rw [hws] at HP7 HO7
  obtain ⟨n4, hn4⟩ : ∃ k, w4.heap.size = k := ⟨_, rfl⟩
  have HL4 : Hid (g < n4 ∧ go < n4 ∧ gm < n4 ∧ ta < n4) := by show _; rw [← hn4]; exact ⟨HL4.out.1, HL4.out.2.1, HL4.out.2.2.1, HL4.out.2.2.2.1⟩
  have HN4 : Hid (n4 ≤ g2 ∧ n4 ≤ go2 ∧ n4 ≤ gm2 ∧ n4 ≤ tc ∧ n4 ≤ td) := by show _; rw [← hn4]; exact ⟨HLU.out.2.2, HLU.out.1, HLU.out.2.1, HTA.out, HTH.out⟩
  clear T7 b7 HS6 HO6 hgg hB hws hn4 HLU HTA HTH HO4
  go_wp2_with fail
  have hr0 : ∀ e, e = (creF ws 0 [] 5 noneO (-1)).e → e ≤ 65535 := fun e h => h ▸ cre_err ws 0 [] 5 noneO (-1)
  obtain ⟨R, hR⟩ : ∃ R, creF ws 0 [] 5 noneO (-1) = R := ⟨_, rfl⟩
  have HRE : Hid (R.e ≤ 65535) := by have := hr0 R.e (by rw [hR]); exact this
  have HRM : Hid (R.c.may) := by show _; rw [← hR]; exact cre_may (fun j => HP7.out.tk.tape.word j) (by decide) _
  have HRS : Hid (R.es = []) := by show _; rw [← hR]; exact cre_es _ _ _ _ _ _
  have HR := hide hR
  clear hr0
  obtain ⟨⟨qp, qo, qr, qc⟩, hq⟩ : ∃ q, R.c = q := ⟨_, rfl⟩
  have HQ := hide hq
  by_cases h0 : R.e = 0
  · obtain ⟨pn, hpn⟩ : ∃ k, w7.heap.size = k := ⟨_, rfl⟩
    refine (mem_yes (n : Int) n HCN.out (by have := HN.out; omega) _ HO7.out (by show 0 ≤ _; omega) R HR.out h0).mono ?_; rintro e w8 ⟨rr, rfl, A, hA, hAo, hAm, hAa, -, hAv, hAs, hAN, hAr, hAb, X8, S8, F8⟩
    have HY8 := hide (HO7.out.beside HP7.out HL4.out HN4.out F8)
    have HE0 := hide h0
    have hvb : ∀ j, A.v.ownBlock = some j → w7.heap.size ≤ j := fun j e => (hAv j e).resolve_left (fun h => by cases h)
    have HX8 := hide X8
    have HSR8 := hide S8
    have HVB := hide hvb
    have HSM := hide hAs
    have HSN2 := hide hAN
    have HRR := hide hAr
    have HEG : Hid (A.g = g ∧ A.go = go ∧ A.m = gm ∧ A.a = ta) := ⟨hA, hAo, hAm, hAa⟩
    rw [hpn] at HVB HSM HSN2 HRR
    have HPN : Hid (g2 < pn ∧ go2 < pn ∧ gm2 < pn ∧ tc < pn ∧ td < pn) := by show _; rw [← hpn]; exact HL7.out
    rw [hq]
    simp only [Cp.val]
    clear hvb X8 S8 F8 hAv hAs hAN hAr hAb HO7 HP7 hpn h0 hA hAo hAm hAa HL7
    obtain ⟨V8, hV8⟩ : ∃ V, w8.alloc (.cells #[.int .u64 (qp : Int), .int .u32 (qo : Int), .int .u8 (qr : Int), .int .u64 (qc : Int)] 36) = V := ⟨_, rfl⟩
    have bV8 : Below w8.heap.size w8 V8 := hV8 ▸ below_alloc _ _
    have HCB : Hid (CBox V8 w8.heap.size qp qo qr qc) := hV8 ▸ CBox.new w8 qp qo qr qc
    have HX9 := hide (HX8.out.grow bV8)
    have HY9 := hide (HY8.out.grow bV8)
    have HSR9 := hide (HSR8.out.grow bV8)
    obtain ⟨gb, hgb⟩ : ∃ k, w8.heap.size = k := ⟨_, rfl⟩
    rw [hgb] at HCB
    have HGB : Hid (pn ≤ gb ∧ gb < V8.heap.size ∧ (∀ j, SvS A j → j < gb)) := by
      refine ⟨?_, lt_of_heap HCB.out, fun j e => ?_⟩
      · have := HX8.out.nw; have := HSN2.out; show _; omega
      · rw [← hgb]; exact (HX8.out.up e).2
    clear bV8 HX8 HY8 HSR8
    go_wp2_with fail
    clear hV8
    refine (create_any (-1) _ HY9.out (by show 0 ≤ _; omega) R HR.out).mono ?_; rintro e w9 ⟨rfl, E⟩
    obtain ⟨v2, Y9, F9, M9⟩ := E
    have HXR : Hid (∀ j, SvS A j → j < n4 ∨ (pn ≤ j ∧ j < gb)) := fun j h => by
      have h4 := HL4.out
      have h5 := HEG.out
      have h6 := HGB.out.2.2 j h
      rcases h with ((h | h | h | h) | h) | h | h
      · omega
      · omega
      · omega
      · have := HVB.out j h; omega
      · omega
      · have := HSM.out; omega
      · have := (HX9.out.st.up h).1; have := HSN2.out; omega
    have HAP : Hid (∀ j, OdS g2 go2 gm2 tc (.slice none 0 0) j → ¬ SvS A j) := fun j e h => by
      have h1 := HN4.out
      have h2 := HPN.out
      have h3 := HXR.out j h
      rcases e with (e | e | e | e) | e
      · omega
      · omega
      · omega
      · cases e
      · omega
    have HX10 : Hid (Sv w w9 A 5 ws ⟨R.t, R.es, R.T, n, L0⟩) := HX9.out.foot F9 (fun j e => ⟨HY9.out.up e, HAP.out j e, fun h => by
      obtain ⟨cr, hr⟩ := HX9.out.hrow
      rw [h] at e
      exact HY9.out.noT hr odd_u64 e⟩)
    have HY10 := hide Y9
    have HV2 : Hid (∀ j, v2.ownBlock = some j → gb ≤ j) := fun j e => by have := (M9 j e).resolve_left (fun h => by cases h); have := HGB.out.2.1; omega
    have HCB10 := hide (CBox.od HCB.out HY9.out F9)
    have HSR10 : Hid (Sr w9 rr A.g A.sb) := HSR9.out.foot F9 (HY9.out.noT HSR9.out.1 srv_odd3.1) (HY9.out.noT HSR9.out.2 ⟨by decide, by decide, by decide, by decide⟩)
    rw [HQ.out, HE0.out]
    simp only [Cp.val, show erN ((0 : Nat) : Int) = .nilIface from rfl]
    clear Y9 F9 M9 HX9 HY9 HSR9 HCB
    obtain ⟨V9, hV9⟩ : ∃ V, w9.alloc (.cells #[.int .u64 (qp : Int), .int .u32 (qo : Int), .int .u8 (qr : Int), .int .u64 (qc : Int)] 36) = V := ⟨_, rfl⟩
    have bV9 : Below w9.heap.size w9 V9 := hV9 ▸ below_alloc _ _
    have HCC : Hid (CBox V9 w9.heap.size qp qo qr qc) := hV9 ▸ CBox.new w9 qp qo qr qc
    have HX11 := hide (HX10.out.grow bV9)
    have HY11 := hide (HY10.out.grow bV9)
    have HSR11 := hide (HSR10.out.grow bV9)
    have HCB11 := hide (HCB10.out.grow bV9)
    obtain ⟨gc, hgc⟩ : ∃ k, w9.heap.size = k := ⟨_, rfl⟩
    rw [hgc] at HCC
    have hnum : ∀ W, Glob W → Calls Tryz.prog 13 #[.nilIface] W fun e w' => e = .returned (.int .i64 0) ∧ Below W.heap.size W w' := fun W hW => number_any 0 W hW
    have HNU := hide hnum
    clear bV9 HX10 HY10 HSR10 HCB10 hnum
    go_upto_region 6 with fail
    clear hV9
    have hP : Hid (((V9.drew.cell? ⟨gb, 0, none⟩ = some (.int .u64 (qp : Int)) ∧ V9.drew.cell? ⟨gb, 1, none⟩ = some (.int .u32 (qo : Int)) ∧ V9.drew.cell? ⟨gb, 2, none⟩ = some (.int .u8 (qr : Int)) ∧ V9.drew.cell? ⟨gb, 3, none⟩ = some (.int .u64 (qc : Int))) ∧ (V9.drew.cell? ⟨gc, 0, none⟩ = some (.int .u64 (qp : Int)) ∧ V9.drew.cell? ⟨gc, 1, none⟩ = some (.int .u32 (qo : Int)) ∧ V9.drew.cell? ⟨gc, 2, none⟩ = some (.int .u8 (qr : Int)) ∧ V9.drew.cell? ⟨gc, 3, none⟩ = some (.int .u64 (qc : Int))))) := ⟨⟨HCB11.out.c0, HCB11.out.c1, HCB11.out.c2, HCB11.out.c3⟩, ⟨HCC.out.c0, HCC.out.c1, HCC.out.c2, HCC.out.c3⟩⟩
    have HX11 := hide (HX11.out.drewN 1)
    have HY11 := hide (HY11.out.drewN 1)
    have HSR11 : Hid (Sr V9.drew rr A.g A.sb) := HSR11.out
    have HCB11 := hide (HCB11.out.drewN 1)
    have HCC := hide (HCC.out.drewN 1)
    have hS : Hid (((V9.drew.cell? ⟨gb, 0, none⟩ = some (.int .u64 (qp : Int)) ∧ V9.drew.cell? ⟨gb, 1, none⟩ = some (.int .u32 (qo : Int)) ∧ V9.drew.cell? ⟨gb, 2, none⟩ = some (.int .u8 (qr : Int)) ∧ V9.drew.cell? ⟨gb, 3, none⟩ = some (.int .u64 (qc : Int))) ∧ (V9.drew.cell? ⟨gc, 0, none⟩ = some (.int .u64 (qp : Int)) ∧ V9.drew.cell? ⟨gc, 1, none⟩ = some (.int .u32 (qo : Int)) ∧ V9.drew.cell? ⟨gc, 2, none⟩ = some (.int .u8 (qr : Int)) ∧ V9.drew.cell? ⟨gc, 3, none⟩ = some (.int .u64 (qc : Int))))) := hP.out
    refine wp_region_held_drew (S := (fun U => ((U.cell? ⟨gb, 0, none⟩ = some (.int .u64 (qp : Int)) ∧ U.cell? ⟨gb, 1, none⟩ = some (.int .u32 (qo : Int)) ∧ U.cell? ⟨gb, 2, none⟩ = some (.int .u8 (qr : Int)) ∧ U.cell? ⟨gb, 3, none⟩ = some (.int .u64 (qc : Int))) ∧ (U.cell? ⟨gc, 0, none⟩ = some (.int .u64 (qp : Int)) ∧ U.cell? ⟨gc, 1, none⟩ = some (.int .u32 (qo : Int)) ∧ U.cell? ⟨gc, 2, none⟩ = some (.int .u8 (qr : Int)) ∧ U.cell? ⟨gc, 3, none⟩ = some (.int .u64 (qc : Int)))))) (by kernel_rfl) hS.out (fun _ => ?_)
    refine wpAnyH_take (i := 0) (oi := { dst := some 50, op := Go.Op.move (Go.Operand.tmp 13), type := 38, pos := "law.go:125", after := #[], guard := none }) (v := .nilIface) rfl (by kernel_rfl) (by kernel_rfl) (by kernel_rfl) (fun _ _ _ h => h) (Or.inl ⟨by kernel_rfl, fun w hC => by go_simp⟩) hS.out ?_
    simp only [Act.put, List.setIfInBounds_toArray, List.set_cons_zero, List.set_cons_succ]
    refine wpAnyH_take (i := 2) (oi := { dst := some 52, op := Go.Op.move (Go.Operand.tmp 15), type := 38, pos := "law.go:125", after := #[], guard := none }) (v := .nilIface) rfl (by kernel_rfl) (by kernel_rfl) (by kernel_rfl) (fun _ _ _ h => h) (Or.inl ⟨by kernel_rfl, fun w hC => by go_simp⟩) hS.out ?_
    simp only [Act.put, List.setIfInBounds_toArray, List.set_cons_zero, List.set_cons_succ]
    refine wpAnyH_ready (rs := [1]) (by kernel_rfl) (by simp) ?_
    refine AllReadyH.cons (o := { dst := some 51, op := Go.Op.call { callee := Go.Callee.value (Go.Operand.func 13), args := #[Go.Operand.tmp 50], argTypes := #[38] }, type := 43, pos := "law.go:125", after := #[{ on := 0, ground := Go.Ground.data }], guard := none }) rfl (fun KK hKK => ?_) AllReadyH.nil
    go_simp
    refine (HNU.out _ (HX11.out.glob HG.out)).mono ?_; rintro e wx ⟨rfl, bx⟩
    have HX11 := hide (HX11.out.grow bx)
    have HY11 := hide (HY11.out.grow bx)
    have HSR11 := hide (HSR11.out.grow bx)
    have HCB11 := hide (HCB11.out.grow bx)
    have HCC := hide (HCC.out.grow bx)
    clear bx
    have hS : Hid (((wx.cell? ⟨gb, 0, none⟩ = some (.int .u64 (qp : Int)) ∧ wx.cell? ⟨gb, 1, none⟩ = some (.int .u32 (qo : Int)) ∧ wx.cell? ⟨gb, 2, none⟩ = some (.int .u8 (qr : Int)) ∧ wx.cell? ⟨gb, 3, none⟩ = some (.int .u64 (qc : Int))) ∧ (wx.cell? ⟨gc, 0, none⟩ = some (.int .u64 (qp : Int)) ∧ wx.cell? ⟨gc, 1, none⟩ = some (.int .u32 (qo : Int)) ∧ wx.cell? ⟨gc, 2, none⟩ = some (.int .u8 (qr : Int)) ∧ wx.cell? ⟨gc, 3, none⟩ = some (.int .u64 (qc : Int))))) := ⟨⟨HCB11.out.c0, HCB11.out.c1, HCB11.out.c2, HCB11.out.c3⟩, ⟨HCC.out.c0, HCC.out.c1, HCC.out.c2, HCC.out.c3⟩⟩
    refine hKK.out _ _ hS.out (fun _ => ?_)
    clear hKK
    refine wpAnyH_ready (rs := [3]) (by kernel_rfl) (by simp) ?_
    refine AllReadyH.cons (o := { dst := some 53, op := Go.Op.call { callee := Go.Callee.value (Go.Operand.func 13), args := #[Go.Operand.tmp 52], argTypes := #[38] }, type := 43, pos := "law.go:125", after := #[{ on := 2, ground := Go.Ground.data }, { on := 1, ground := Go.Ground.chain }], guard := none }) rfl (fun KK hKK => ?_) AllReadyH.nil
    go_simp
    refine (HNU.out _ (HX11.out.glob HG.out)).mono ?_; rintro e wy ⟨rfl, bx⟩
    have HX11 := hide (HX11.out.grow bx)
    have HY11 := hide (HY11.out.grow bx)
    have HSR11 := hide (HSR11.out.grow bx)
    have HCB11 := hide (HCB11.out.grow bx)
    have HCC := hide (HCC.out.grow bx)
    clear bx
    have hS : Hid (((wy.cell? ⟨gb, 0, none⟩ = some (.int .u64 (qp : Int)) ∧ wy.cell? ⟨gb, 1, none⟩ = some (.int .u32 (qo : Int)) ∧ wy.cell? ⟨gb, 2, none⟩ = some (.int .u8 (qr : Int)) ∧ wy.cell? ⟨gb, 3, none⟩ = some (.int .u64 (qc : Int))) ∧ (wy.cell? ⟨gc, 0, none⟩ = some (.int .u64 (qp : Int)) ∧ wy.cell? ⟨gc, 1, none⟩ = some (.int .u32 (qo : Int)) ∧ wy.cell? ⟨gc, 2, none⟩ = some (.int .u8 (qr : Int)) ∧ wy.cell? ⟨gc, 3, none⟩ = some (.int .u64 (qc : Int))))) := ⟨⟨HCB11.out.c0, HCB11.out.c1, HCB11.out.c2, HCB11.out.c3⟩, ⟨HCC.out.c0, HCC.out.c1, HCC.out.c2, HCC.out.c3⟩⟩
    refine hKK.out _ _ hS.out (fun _ => ?_)
    clear hKK
    refine wpAnyH_take (i := 4) (oi := { dst := some 54, op := Go.Op.binOp Go.BinOp.neq 43 (Go.Operand.tmp 51) (Go.Operand.tmp 53) 43, type := 4, pos := "law.go:125", after := #[{ on := 1, ground := Go.Ground.data }, { on := 3, ground := Go.Ground.data }], guard := none }) (v := (.bool false)) rfl (by kernel_rfl) (by kernel_rfl) (by kernel_rfl) (fun _ _ _ h => h) (Or.inl ⟨by kernel_rfl, fun w hC => by go_simp⟩) hS.out ?_
    simp only [Act.put, List.setIfInBounds_toArray, List.set_cons_zero, List.set_cons_succ]
    refine wpAnyH_take (i := 5) (oi := { dst := some 55, op := Go.Op.move (Go.Operand.tmp 54), type := 4, pos := "law.go:125", after := #[{ on := 4, ground := Go.Ground.data }, { on := 3, ground := Go.Ground.chain }], guard := none }) (v := (.bool false)) rfl (by kernel_rfl) (by kernel_rfl) (by kernel_rfl) (fun _ _ _ h => h) (Or.inl ⟨by kernel_rfl, fun w hC => by go_simp⟩) hS.out ?_
    simp only [Act.put, List.setIfInBounds_toArray, List.set_cons_zero, List.set_cons_succ]
    refine wpAnyH_take (i := 6) (oi := { dst := some 56, op := Go.Op.move (Go.Operand.tmp 13), type := 38, pos := "law.go:125", after := #[{ on := 5, ground := Go.Ground.guard }], guard := some (5, false) }) (v := .nilIface) rfl (by kernel_rfl) (by kernel_rfl) (by kernel_rfl) (fun _ _ _ h => h) (Or.inl ⟨by kernel_rfl, fun w hC => by go_simp⟩) hS.out ?_
    simp only [Act.put, List.setIfInBounds_toArray, List.set_cons_zero, List.set_cons_succ]
    refine wpAnyH_take (i := 7) (oi := { dst := some 57, op := Go.Op.binOp Go.BinOp.eql 38 (Go.Operand.tmp 56) (Go.Operand.const Go.Value.nilIface) 38, type := 4, pos := "law.go:125", after := #[{ on := 6, ground := Go.Ground.data }, { on := 5, ground := Go.Ground.guard }], guard := some (5, false) }) (v := (.bool true)) rfl (by kernel_rfl) (by kernel_rfl) (by kernel_rfl) (fun _ _ _ h => h) (Or.inl ⟨by kernel_rfl, fun w hC => by go_simp⟩) hS.out ?_
    simp only [Act.put, List.setIfInBounds_toArray, List.set_cons_zero, List.set_cons_succ]
    refine wpAnyH_take (i := 8) (oi := { dst := some 58, op := Go.Op.move (Go.Operand.tmp 15), type := 38, pos := "law.go:125", after := #[{ on := 5, ground := Go.Ground.guard }], guard := some (5, false) }) (v := .nilIface) rfl (by kernel_rfl) (by kernel_rfl) (by kernel_rfl) (fun _ _ _ h => h) (Or.inl ⟨by kernel_rfl, fun w hC => by go_simp⟩) hS.out ?_
    simp only [Act.put, List.setIfInBounds_toArray, List.set_cons_zero, List.set_cons_succ]
    refine wpAnyH_take (i := 9) (oi := { dst := some 59, op := Go.Op.binOp Go.BinOp.eql 38 (Go.Operand.tmp 58) (Go.Operand.const Go.Value.nilIface) 38, type := 4, pos := "law.go:125", after := #[{ on := 8, ground := Go.Ground.data }, { on := 5, ground := Go.Ground.guard }], guard := some (5, false) }) (v := (.bool true)) rfl (by kernel_rfl) (by kernel_rfl) (by kernel_rfl) (fun _ _ _ h => h) (Or.inl ⟨by kernel_rfl, fun w hC => by go_simp⟩) hS.out ?_
    simp only [Act.put, List.setIfInBounds_toArray, List.set_cons_zero, List.set_cons_succ]
    refine wpAnyH_take (i := 10) (oi := { dst := some 60, op := Go.Op.binOp Go.BinOp.neq 4 (Go.Operand.tmp 57) (Go.Operand.tmp 59) 4, type := 4, pos := "law.go:125", after := #[{ on := 7, ground := Go.Ground.data }, { on := 9, ground := Go.Ground.data }, { on := 5, ground := Go.Ground.guard }], guard := some (5, false) }) (v := (.bool false)) rfl (by kernel_rfl) (by kernel_rfl) (by kernel_rfl) (fun _ _ _ h => h) (Or.inl ⟨by kernel_rfl, fun w hC => by go_simp⟩) hS.out ?_
    simp only [Act.put, List.setIfInBounds_toArray, List.set_cons_zero, List.set_cons_succ]
    refine wpAnyH_take (i := 11) (oi := { dst := some 61, op := Go.Op.pick (Go.Operand.tmp 55) (Go.Operand.const (Go.Value.bool true)) (Go.Operand.tmp 60), type := 4, pos := "law.go:125", after := #[{ on := 5, ground := Go.Ground.data }, { on := 10, ground := Go.Ground.data }], guard := none }) (v := (.bool false)) rfl (by kernel_rfl) (by kernel_rfl) (by kernel_rfl) (fun _ _ _ h => h) (Or.inl ⟨by kernel_rfl, fun w hC => by go_simp⟩) hS.out ?_
    simp only [Act.put, List.setIfInBounds_toArray, List.set_cons_zero, List.set_cons_succ]
    refine wpAnyH_take (i := 12) (oi := { dst := some 62, op := Go.Op.move (Go.Operand.tmp 61), type := 4, pos := "law.go:125", after := #[{ on := 11, ground := Go.Ground.data }, { on := 5, ground := Go.Ground.chain }], guard := none }) (v := (.bool false)) rfl (by kernel_rfl) (by kernel_rfl) (by kernel_rfl) (fun _ _ _ h => h) (Or.inl ⟨by kernel_rfl, fun w hC => by go_simp⟩) hS.out ?_
    simp only [Act.put, List.setIfInBounds_toArray, List.set_cons_zero, List.set_cons_succ]
    refine wpAnyH_take (i := 13) (oi := { dst := some 63, op := Go.Op.load 36 (Go.Operand.tmp 12), type := 36, pos := "law.go:125", after := #[{ on := 12, ground := Go.Ground.guard }], guard := some (12, false) }) (v := (.agg #[.int .u64 (qp : Int), .int .u32 (qo : Int), .int .u8 (qr : Int), .int .u64 (qc : Int)])) rfl (by kernel_rfl) (by kernel_rfl) (by kernel_rfl) (fun _ _ _ h => h) (Or.inl ⟨by kernel_rfl, fun w hC => by (obtain ⟨⟨k0, k1, k2, k3⟩, k4, k5, k6, k7⟩ := hC; go_simp)⟩) hS.out ?_
    simp only [Act.put, List.setIfInBounds_toArray, List.set_cons_zero, List.set_cons_succ]
    refine wpAnyH_take (i := 14) (oi := { dst := some 64, op := Go.Op.load 36 (Go.Operand.tmp 14), type := 36, pos := "law.go:125", after := #[{ on := 12, ground := Go.Ground.guard }], guard := some (12, false) }) (v := (.agg #[.int .u64 (qp : Int), .int .u32 (qo : Int), .int .u8 (qr : Int), .int .u64 (qc : Int)])) rfl (by kernel_rfl) (by kernel_rfl) (by kernel_rfl) (fun _ _ _ h => h) (Or.inl ⟨by kernel_rfl, fun w hC => by (obtain ⟨⟨k0, k1, k2, k3⟩, k4, k5, k6, k7⟩ := hC; go_simp)⟩) hS.out ?_
    simp only [Act.put, List.setIfInBounds_toArray, List.set_cons_zero, List.set_cons_succ]
    refine wpAnyH_take (i := 15) (oi := { dst := some 65, op := Go.Op.binOp Go.BinOp.neq 36 (Go.Operand.tmp 63) (Go.Operand.tmp 64) 36, type := 4, pos := "law.go:125", after := #[{ on := 13, ground := Go.Ground.data }, { on := 14, ground := Go.Ground.data }, { on := 12, ground := Go.Ground.guard }], guard := some (12, false) }) (v := (.bool false)) rfl (by kernel_rfl) (by kernel_rfl) (by kernel_rfl) (fun _ _ _ h => h) (Or.inl ⟨by kernel_rfl, fun w hC => by (have nq := neq_cap qp qo qr qc qp qo qr qc; go_simp)⟩) hS.out ?_
    simp only [Act.put, List.setIfInBounds_toArray, List.set_cons_zero, List.set_cons_succ]
    refine wpAnyH_take (i := 16) (oi := { dst := some 66, op := Go.Op.pick (Go.Operand.tmp 62) (Go.Operand.const (Go.Value.bool true)) (Go.Operand.tmp 65), type := 4, pos := "law.go:125", after := #[{ on := 12, ground := Go.Ground.data }, { on := 15, ground := Go.Ground.data }], guard := none }) (v := (.bool false)) rfl (by kernel_rfl) (by kernel_rfl) (by kernel_rfl) (fun _ _ _ h => h) (Or.inl ⟨by kernel_rfl, fun w hC => by go_simp⟩) hS.out ?_
    simp only [Act.put, List.setIfInBounds_toArray, List.set_cons_zero, List.set_cons_succ]
    refine wpAnyH_take (i := 17) (oi := { dst := some 67, op := Go.Op.move (Go.Operand.tmp 66), type := 4, pos := "law.go:125", after := #[{ on := 16, ground := Go.Ground.data }, { on := 12, ground := Go.Ground.chain }], guard := none }) (v := (.bool false)) rfl (by kernel_rfl) (by kernel_rfl) (by kernel_rfl) (fun _ _ _ h => h) (Or.inl ⟨by kernel_rfl, fun w hC => by go_simp⟩) hS.out ?_
    simp only [Act.put, List.setIfInBounds_toArray, List.set_cons_zero, List.set_cons_succ]
    refine wpAnyH_take (i := 18) (oi := { dst := some 68, op := Go.Op.move (Go.Operand.tmp 13), type := 38, pos := "law.go:125", after := #[{ on := 17, ground := Go.Ground.guard }], guard := some (17, false) }) (v := .nilIface) rfl (by kernel_rfl) (by kernel_rfl) (by kernel_rfl) (fun _ _ _ h => h) (Or.inl ⟨by kernel_rfl, fun w hC => by go_simp⟩) hS.out ?_
    simp only [Act.put, List.setIfInBounds_toArray, List.set_cons_zero, List.set_cons_succ]
    refine wpAnyH_take (i := 19) (oi := { dst := some 69, op := Go.Op.binOp Go.BinOp.neq 38 (Go.Operand.tmp 68) (Go.Operand.const Go.Value.nilIface) 38, type := 4, pos := "law.go:125", after := #[{ on := 18, ground := Go.Ground.data }, { on := 17, ground := Go.Ground.guard }], guard := some (17, false) }) (v := (.bool false)) rfl (by kernel_rfl) (by kernel_rfl) (by kernel_rfl) (fun _ _ _ h => h) (Or.inl ⟨by kernel_rfl, fun w hC => by go_simp⟩) hS.out ?_
    simp only [Act.put, List.setIfInBounds_toArray, List.set_cons_zero, List.set_cons_succ]
    refine wpAnyH_take (i := 20) (oi := { dst := some 70, op := Go.Op.move (Go.Operand.tmp 69), type := 4, pos := "law.go:125", after := #[{ on := 19, ground := Go.Ground.data }, { on := 17, ground := Go.Ground.chain }, { on := 17, ground := Go.Ground.guard }], guard := some (17, false) }) (v := (.bool false)) rfl (by kernel_rfl) (by kernel_rfl) (by kernel_rfl) (fun _ _ _ h => h) (Or.inl ⟨by kernel_rfl, fun w hC => by go_simp⟩) hS.out ?_
    simp only [Act.put, List.setIfInBounds_toArray, List.set_cons_zero, List.set_cons_succ]
    refine wpAnyH_take (i := 21) (oi := { dst := some 71, op := Go.Op.move (Go.Operand.tmp 11), type := 33, pos := "law.go:125", after := #[{ on := 20, ground := Go.Ground.guard }], guard := some (20, true) }) (v := undef) rfl (by kernel_rfl) (by kernel_rfl) (by kernel_rfl) (fun _ _ _ h => h) (Or.inr ⟨by kernel_rfl, rfl⟩) hS.out ?_
    simp only [Act.put, List.setIfInBounds_toArray, List.set_cons_zero, List.set_cons_succ]
    refine wpAnyH_take (i := 22) (oi := { dst := some 72, op := Go.Op.binOp Go.BinOp.neq 33 (Go.Operand.tmp 71) (Go.Operand.const (Go.Value.pointer none)) 33, type := 4, pos := "law.go:125", after := #[{ on := 21, ground := Go.Ground.data }, { on := 20, ground := Go.Ground.guard }], guard := some (20, true) }) (v := undef) rfl (by kernel_rfl) (by kernel_rfl) (by kernel_rfl) (fun _ _ _ h => h) (Or.inr ⟨by kernel_rfl, rfl⟩) hS.out ?_
    simp only [Act.put, List.setIfInBounds_toArray, List.set_cons_zero, List.set_cons_succ]
    refine wpAnyH_take (i := 23) (oi := { dst := some 73, op := Go.Op.pick (Go.Operand.tmp 70) (Go.Operand.tmp 72) (Go.Operand.const (Go.Value.bool false)), type := 4, pos := "law.go:125", after := #[{ on := 20, ground := Go.Ground.data }, { on := 22, ground := Go.Ground.data }, { on := 17, ground := Go.Ground.guard }], guard := some (17, false) }) (v := (.bool false)) rfl (by kernel_rfl) (by kernel_rfl) (by kernel_rfl) (fun _ _ _ h => h) (Or.inl ⟨by kernel_rfl, fun w hC => by go_simp⟩) hS.out ?_
    simp only [Act.put, List.setIfInBounds_toArray, List.set_cons_zero, List.set_cons_succ]
    refine wpAnyH_take (i := 24) (oi := { dst := some 74, op := Go.Op.pick (Go.Operand.tmp 67) (Go.Operand.const (Go.Value.bool true)) (Go.Operand.tmp 73), type := 4, pos := "law.go:125", after := #[{ on := 17, ground := Go.Ground.data }, { on := 23, ground := Go.Ground.data }], guard := none }) (v := (.bool false)) rfl (by kernel_rfl) (by kernel_rfl) (by kernel_rfl) (fun _ _ _ h => h) (Or.inl ⟨by kernel_rfl, fun w hC => by go_simp⟩) hS.out ?_
    simp only [Act.put, List.setIfInBounds_toArray, List.set_cons_zero, List.set_cons_succ]
    refine wpAnyH_done (by kernel_rfl) ?_ _
    go_wp2_with fail
    refine (sto_of (n : Int) _ n HCN.out (by have := HN.out; omega)).mono ?_; rintro e x1 ⟨st, sm, sa, sq, d2, sg, rfl, ST, hsm, bx⟩
    obtain ⟨N2, hN2⟩ : ∃ k, wy.heap.size = k := ⟨_, rfl⟩
    rw [hN2] at ST hsm
    have hg4 := HN4.out
    have hg5 := HPN.out
    have hg6 := HGB.out
    have hsz : gb < wy.heap.size := lt_of_heap HCB11.out
    have hw0 : w.heap.size ≤ gb := Nat.le_of_lt (Nat.lt_of_le_of_lt (HX11.out.m0) (hg6.2.2 _ (.inr (.inl rfl))))
    have hDU := Du.of (HX11.out.grow bx) (HY11.out.grow bx) ST (n := n4) (c := pn) (d := gb) HXR.out ⟨hg4.1, hg4.2.1, hg4.2.2.1, hg4.2.2.2.1⟩ ⟨hg5.1, hg5.2.1, hg5.2.2.1, hg5.2.2.2.1⟩ hg6.1 HV2.out (by omega) (by omega) hw0 (by rw [← hN2]; exact bx.size)
    obtain ⟨A', hAA⟩ : ∃ A : Ad, A = ⟨B2, g2, go2, gm2, tc, td, te, v2, (0, st), sm, sa, sq, N2, d2, sg⟩ := ⟨_, rfl⟩
    rw [← hAA] at hDU
    have eg2 : A'.g = g2 := by rw [hAA]
    have est : A'.sb.2 = st := by rw [hAA]
    have eg1 : A.g = g := HEG.out.1
    have HDU := hide hDU
    have HSR12 := hide (HSR11.out.grow bx)
    have HCB12 := hide (HCB11.out.grow bx)
    have HES : Hid (A'.g = g2 ∧ A'.sb.2 = st ∧ A.g = g) := ⟨eg2, est, eg1⟩
    have HWX : Hid (w.heap.size ≤ gb ∧ gb < x1.heap.size) := ⟨hw0, lt_of_heap (HCB11.out.grow bx)⟩
    clear hDU ST hsm bx hN2 hg4 hg5 hg6 hsz hw0 hAA eg1 eg2 est HX11 HY11 HSR11 HCB11 HCC HXR HAP HL4 HPN HN4 HEG HVB HSM HSN2 HGB HV2 HRR hS
    have c0 := HCB12.out.c0
    have c1 := HCB12.out.c1
    have c2 := HCB12.out.c2
    have c3 := HCB12.out.c3
    obtain ⟨X, hX⟩ : ∃ V, x1.alloc (.cells #[.int .u64 (qp : Int), .int .u32 (qo : Int), .int .u8 (qr : Int), .int .u64 (qc : Int)] 36) = V := ⟨_, rfl⟩
    have bX : Below x1.heap.size x1 X := hX ▸ below_alloc _ _
    have hro : X.ownsRow x1.heap.size 36 4 (.slice (some ⟨x1.heap.size, 0, none⟩) 1 1) 1 (cellsC [⟨qp, qo, qr, qc⟩]) := hX ▸ owns_cap1 x1 qp qo qr qc
    have HBS : Hid (Bas w X A A' rr ws ⟨R.t, [], R.T, n, L0⟩ ⟨R.t, [], R.T, n, L0⟩ (.slice (some ⟨x1.heap.size, 0, none⟩) 1 1) [⟨qp, qo, qr, qc⟩]) := by
      have h1 := HDU.out.grow bX
      rw [HRS.out] at h1
      exact ⟨h1, HSR12.out.grow bX, owns_from hro (by have := HWX.out; omega), HG.out⟩
    have HCB13 := hide (HCB12.out.grow bX)
    obtain ⟨xo, hxo⟩ : ∃ k, x1.heap.size = k := ⟨_, rfl⟩
    rw [hxo] at HBS HWX
    have HQM : Hid (Cp.may ⟨qp, qo, qr, qc⟩) := by show _; rw [← HQ.out]; exact HRM.out
    clear bX hro HDU HSR12 HCB12
    go_wp2_with fail
    obtain ⟨i1, i2, i3⟩ := HES.out
    rw [← i1, ← i2, ← i3]
    clear i1 i2 i3 HES hX hxo c0 c1 c2 c3
    go_loopg [17, 85] nm (fun gk vh vi wr => HadRel w A A' rr ws gb ⟨qp, qo, qr, qc⟩ nm gk vh vi wr)
    case atStart => exact ⟨0, ⟨R.t, [], R.T, n, L0⟩, [⟨qp, qo, qr, qc⟩], A.v, A.dv, A.nv, A'.v, A'.dv, A'.nv, by omega, rfl, ⟨by simp, by simp, by simp⟩, ⟨HBS.out, (by intro c hc; rw [List.mem_singleton.1 hc]; exact HQM.out), (by show 0 ≤ _; omega), (by show 1 ≤ _; omega)⟩, HCB13.out, (by intro j e; cases e; exact HWX.out.2)⟩
    case round =>
      obtain ⟨i, s, L, va, dv, nv, va', dv', nv', hi, rfl, hL, hS, hC, hgv⟩ := hrel
      have HS := hide hS
      have HLL := hide hL
      have HC := hide hC
      have HGV := hide hgv
      clear hS hL hC hgv HBS HCB13
      cases gk with
      | succ g1 =>
        have hin : i < nm := by omega
        have hlt : (i : Int) < (nm : Int) := by omega
        have hi0 : (0 : Int) ≤ (i : Int) := by omega
        obtain ⟨ad, rfl⟩ : ∃ ad, mo = some ad := by
          cases mo with
          | none => have := HMK.out.2.2.2.1 rfl; omega
          | some ad => exact ⟨ad, rfl⟩
        have x0 := (HMK.out.carry HS.out.ba.bel).2.2.2.2 ad rfl i (by rw [← HMK.out.1]; exact hin)
        obtain ⟨k, hk⟩ : ∃ k : Nat, (ms.getD i 0).toNat = k := ⟨_, rfl⟩
        have hk255 : k ≤ 255 := by rw [← hk]; have := (ms.getD i 0).toNat_lt; omega
        have HK := hide hk255
        rw [show bt ms i = (k : Int) from by unfold bt; rw [hk]] at x0
        obtain ⟨bo, bc, rfl, hb1, hb2⟩ := owns_form HS.out.ba.row
        have c0 := HC.out.c0
        have c1 := HC.out.c1
        have c2 := HC.out.c2
        have c3 := HC.out.c3
        have HI := hide hi
        clear hi hin hk hk255 hb1 hb2
        by_cases h4 : L.length < 4
        · have hl4 : (L.length : Int) < 4 := by omega
          have HL4' := hide h4
          obtain ⟨M, hM⟩ : ∃ M, resF ws s.t s.es 5 s.T ⟨qp, qo, qr, qc⟩ k = M := ⟨_, rfl⟩
          have HMM : Hid M.c.may := by show _; rw [← hM]; exact res_may HS.out.ba.du.x.wd HQM.out (by decide) k
          have HML : Hid (M.es.length ≤ s.es.length + 2) := by show _; rw [← hM]; exact res_len _ _ _ _ _ _ _
          obtain ⟨⟨mp, mo2, mr, mc2⟩, me, mt, mes, mT⟩ := M
          have HM := hide hM
          clear hM h4
          go_wp2_with fail
          refine (tb_restrict ⟨qp, qo, qr, qc⟩ k _ HS.out.ba.du.x HQM.out.ok HK.out (by have := HLL.out; omega) _ HM.out).mono ?_; rintro e x1 ⟨rfl, E⟩
          obtain ⟨va1, dv1, nv1, B1⟩ := HS.out.ba.left E
          have hc1 := HC.out.kh (HS.out.ba.du.x.kh E)
          simp only [Cp.val]
          obtain ⟨V, hV⟩ : ∃ V, x1.alloc (.cells #[.int .u64 (mp : Int), .int .u32 (mo2 : Int), .int .u8 (mr : Int), .int .u64 (mc2 : Int)] 36) = V := ⟨_, rfl⟩
          have bV : Below x1.heap.size x1 V := hV ▸ below_alloc _ _
          have HCD : Hid (CBox V x1.heap.size mp mo2 mr mc2) := hV ▸ CBox.new x1 mp mo2 mr mc2
          have HBV := hide (B1.grow bV)
          have HC1 := hide (hc1.grow bV)
          obtain ⟨gd, hgd⟩ : ∃ gd, x1.heap.size = gd := ⟨_, rfl⟩
          rw [hgd] at HCD
          clear E B1 bV hc1 c0 c1 c2 c3
          have c0 := HC1.out.c0
          have c1 := HC1.out.c1
          have c2 := HC1.out.c2
          have c3 := HC1.out.c3
          go_wp2_with fail
          refine (tb_restrict ⟨qp, qo, qr, qc⟩ k _ HBV.out.du.y HQM.out.ok HK.out (by have := HLL.out; omega) _ HM.out).mono ?_; rintro e x2 ⟨rfl, E⟩
          obtain ⟨va2, dv2, nv2, B2'⟩ := HBV.out.right E
          have kk := HBV.out.du.y.kh E
          have cb2 : CBox x2 gd mp mo2 mr mc2 := HCD.out.kh kk
          have hc2 := HC1.out.kh kk
          clear c0 c1 c2 c3
          have c0 : x2.cell? ⟨gd, 0, none⟩ = some (.int .u64 (mp : Int)) := cb2.c0
          have c1 : x2.cell? ⟨gd, 1, none⟩ = some (.int .u32 (mo2 : Int)) := cb2.c1
          have c2 : x2.cell? ⟨gd, 2, none⟩ = some (.int .u8 (mr : Int)) := cb2.c2
          have c3 : x2.cell? ⟨gd, 3, none⟩ = some (.int .u64 (mc2 : Int)) := cb2.c3
          obtain ⟨v', w', hr, ho', hf, hmv⟩ := app_cap mp mo2 mr mc2 B2'.row (by have := HLL.out; omega) B2'.bel.size
          have HB3 : Hid (Bas w w' (A.upd va1 dv1 nv1) (A'.upd va2 dv2 nv2) rr ws (s.tab mt mes mT) (s.tab mt mes mT) v' (L ++ [⟨mp, mo2, mr, mc2⟩])) := B2'.app hf (by rw [len_snoc]; exact ho')
          have HRN := hide hr
          have HGV2 : Hid (∀ j, v'.ownBlock = some j → gb < j) := fun j e => by
            rcases hmv j e with e | e
            · exact HGV.out j e
            · have := lt_of_heap hc2; omega
          have HC3 : Hid (CBox w' gb qp qo qr qc) := hc2.foot hf (fun e => by have := HGV.out gb e; omega)
          clear E B2' kk cb2 hc2 hV hgd hr ho' hf hmv
          simp only [Cp.val]
          go_wp2_with (at_builtin; refine wpList_append_run rfl _ _ _ rfl _ _ _ _ rfl rfl HRN.out ?_)
          go_roundg g1
          case measure => have := HI.out; omega
          case rel =>
            refine ⟨i + 1, s.tab mt mes mT, L ++ [⟨mp, mo2, mr, mc2⟩], va1, dv1, nv1, va2, dv2, nv2, by have := HI.out; omega, by go_num, ?_, ⟨HB3.out, ?_, ?_, ?_⟩, HC3.out, HGV2.out⟩
            · have h1 := HLL.out; have h2 := HL4'.out; have h3 : mes.length ≤ s.es.length + 2 := HML.out
              rw [len_snoc]; refine ⟨by omega, by omega, ?_⟩; show mes.length ≤ _; omega
            · intro c hc
              rcases List.mem_append.1 hc with hc | hc
              · exact HS.out.cp c hc
              · rw [List.mem_singleton.1 hc]; exact HMM.out
            · have h1 := HLL.out; have h2 := HL4'.out; have h3 : mes.length ≤ s.es.length + 2 := HML.out; show mes.length ≤ _; omega
            · have h1 := HLL.out; have h2 := HL4'.out; rw [len_snoc]; omega
        · have hl4 : ¬ ((L.length : Int) < 4) := by omega
          clear h4
          go_wp2_with fail
          go_roundg g1
          case measure => have := HI.out; omega
          case rel => exact ⟨i + 1, s, L, va, dv, nv, va', dv', nv', by have := HI.out; omega, by go_num, HLL.out, HS.out, HC.out, HGV.out⟩
      | zero =>
        have hlt : ¬ ((i : Int) < (nm : Int)) := by omega
        have HI := hide hi
        clear hi
        go_wp2_with fail
        go_loopg [17, 113] na (fun gk vh vi wr => SrvRel w A A' rr ws na gk vh vi wr)
        case atStart => exact ⟨0, s, L, va, dv, nv, va', dv', nv', by omega, rfl, HLL.out.1, HS.out⟩
        case round =>
          clear HS HLL HC HGV HI hlt
          obtain ⟨i, s, L, va, dv, nv, va', dv', nv', hi, rfl, hL, hS⟩ := hrel
          have HS := hide hS
          have HLL := hide hL
          clear hS hL
          cases gk with
          | zero =>
            have hlt : ¬ ((i : Int) < (na : Int)) := by omega
            go_wp2_with fail
            go_ret
            exact ⟨rfl, HS.out.ba.bel⟩
          | succ g1 =>
            have hin : i < na := by omega
            have hlt : (i : Int) < (na : Int) := by omega
            have hi0 : (0 : Int) ≤ (i : Int) := by omega
            obtain ⟨ad, hao⟩ := HA.out.there hin
            have hat := HA.out.2.2.2.2 ad hao i hin
            have hmem : xs.getD i Ac.zero ∈ xs := by
              have h1 : i < xs.length := by have := HNX.out; omega
              rw [List.getD_eq_getElem?_getD, List.getElem?_eq_getElem h1]; exact List.getElem_mem h1
            have hsn := HSN.out _ hmem
            obtain ⟨x, hx⟩ : ∃ x, xs.getD i Ac.zero = x := ⟨_, rfl⟩
            rw [hx] at hat hsn
            obtain ⟨hxk, hbt⟩ := hat.1
            have HXK := hide hxk
            have HBT := hide hbt
            have HSX := hide hsn
            obtain ⟨ad2, hadd⟩ : ∃ a, ad.add (i * 6) = a := ⟨_, rfl⟩
            rw [hadd] at hat
            obtain ⟨a0, a1, a2, a3, a4, a5⟩ := hat.all HS.out.ba.bel
            obtain ⟨xo, xw, xa, xb, xf, so, sn, sc, l⟩ := x
            simp only at a0 a1 a2 a3 a4 a5
            have HI := hide hi
            clear hat hx hmem hxk hbt hsn hi
            subst hao
            obtain ⟨V, hV⟩ : ∃ V, wr.alloc (.cells #[.int .u8 (xo : Int), .int .u8 (xw : Int), .int .u16 (xa : Int), .int .u16 (xb : Int), .bool xf, .slice so sn sc] 51) = V := ⟨_, rfl⟩
            have bV : Below wr.heap.size wr V := hV ▸ below_alloc _ _
            have hAB : AB V wr.heap.size ⟨xo, xw, xa, xb, xf, so, sn, sc, l⟩ := hV ▸ AB.new wr ⟨xo, xw, xa, xb, xf, so, sn, sc, l⟩
            obtain ⟨ga, hga⟩ : ∃ g, wr.heap.size = g := ⟨_, rfl⟩
            rw [hga] at hAB
            have HBV := hide (HS.out.ba.grow bV)
            obtain ⟨v0, v1, v2', v3, v4, v5⟩ := hAB.all
            simp only at v0 v1 v2' v3 v4 v5
            obtain ⟨q, hq2⟩ : ∃ q, L.getD (xw % L.length) Cp.zero = q := ⟨_, rfl⟩
            have HQ2 : Hid q.may := by show _; rw [← hq2]; exact HS.out.cp _ (cap_in (Nat.mod_lt _ HLL.out))
            obtain ⟨m, hm⟩ : ∃ m, msgF ⟨xo, xw, xa, xb, xf, so, sn, sc, l⟩ q = m := ⟨_, rfl⟩
            have HOP : Hid (m.op = 5 ∨ 100 ≤ m.op) := by show _; rw [← hm]; exact opM_in xo
            have HOPL : Hid (m.op ≤ 105) := by show _; rw [← hm]; exact opM_le xo
            have HCM : Hid ((⟨m.p, m.o, m.r, m.c⟩ : Cp) = q) := by show _; rw [← hm]; rfl
            have HAR : Hid (m.ar ≤ 18446744073709551615) := by show _; rw [← hm]; exact arM_le _
            have HMY : Hid (mayC ⟨m.p, m.o, m.r, m.c⟩ = true) := by show _; rw [HCM.out]; exact HQ2.out.C
            have HCK : Hid (Cp.ok ⟨m.p, m.o, m.r, m.c⟩) := by show _; rw [HCM.out]; exact HQ2.out.ok
            obtain ⟨bo, bc, rfl, hb1, hb2⟩ := owns_form HBV.out.row
            have HMS := hide hm
            have HQS := hide hq2
            clear bV hm hq2 hb1 hb2 hAB
            go_wp2_with fail
            clear a0 a1 a2 a3 a4 a5 v0 v1 v2' v3 v4 v5 hV hga hadd
            refine (msg_any ⟨xo, xw, xa, xb, xf, so, sn, sc, l⟩ HXK.out _ HBV.out.row rfl HLL.out q HQS.out m HMS.out).mono ?_; rintro e V3 ⟨rfl, b3⟩
            have hb3 := HBV.out.grow b3
            clear b3
            obtain ⟨V4, hV4⟩ : ∃ V, V3.alloc (.cells #[.int .u64 m.ta, .int .u64 m.rp, .int .u32 m.id, .int .u16 m.op, .int .u16 m.st, .int .u64 m.p, .int .u32 m.o, .int .u8 m.r, .int .u64 m.c, .int .u64 m.ar, .slice so sn sc] 53) = V := ⟨_, rfl⟩
            have b4 : Below V3.heap.size V3 V4 := hV4 ▸ below_alloc _ _
            have hm4 : MB V4 V3.heap.size m (.slice so sn sc) := hV4 ▸ mb_new V3 m (.slice so sn sc)
            have HB4 := hide (hb3.grow b4)
            obtain ⟨gm, hgm⟩ : ∃ k, V3.heap.size = k := ⟨_, rfl⟩
            rw [hgm] at hm4
            have HM4 := hide hm4
            clear hb3 b4 hm4
            obtain ⟨k0, k1, k2, k3, k4, k5, k6, k7, k8, k9, k10⟩ := HM4.out.all
            obtain ⟨R, hR⟩ : ∃ R, outF ws 5 s m.op ⟨m.p, m.o, m.r, m.c⟩ m.ar l = R := ⟨_, rfl⟩
            have HRC : Hid R.c.may := by show _; rw [← hR]; exact outc_may (fun j => HB4.out.du.x.od.tk.tape.word j) (by decide) _ _ _ _ _
            have HRL : Hid (R.s.es.length ≤ s.es.length + 1) := by show _; rw [← hR]; exact out_len _ _ _ _ _ _ _
            have HR := hide hR
            have HLM : Hid (Lim s) := ⟨by have := HS.out.el; have := HNA.out; omega⟩
            have hokm : ∀ W, Okm w W m so sn := fun W => ⟨HCK.out, by have := HOPL.out; omega, HAR.out, by have := HSX.out; show sn ≤ _; have : sn ≤ 140737488351232 := HSX.out; omega, fun h0 ad e => .inl (HBT.out.low h0 ad e)⟩
            have HOKM := hide hokm
            obtain ⟨M2, hM2⟩ : ∃ M2, rplF m R = M2 := ⟨_, rfl⟩
            obtain ⟨dd, hdd⟩ : ∃ d, datF R l = d := ⟨_, rfl⟩
            have HEM := hide hM2
            have HDD := hide hdd
            have HSM : Hid (sameD M2 M2 dd dd = true) := sameD_iff.2 ⟨rfl, rfl⟩
            have HST0 : Hid (M2.st = R.e) := by show _; rw [← hM2]; exact rpl_st m R
            have HCP0 : Hid (M2.st = 0 → (⟨M2.p, M2.o, M2.r, M2.c⟩ : Cp).may) := fun h => by
              rw [HST0.out] at h
              have h2 := rpl_cap m R h
              rw [hM2] at h2
              rw [h2.1, h2.2.1, h2.2.2.1, h2.2.2.2]
              exact HRC.out
            clear hR hM2 hdd hokm HBV
            go_wp2_with fail
            clear k0 k1 k2 k3 k4 k5 k6 k7 k8 k9 k10 hV4 hgm
            refine (serve_any m so sn sc l _ HB4.out.sr HB4.out.du.x (HBT.out.carry HB4.out.bel) (HOKM.out _) (by have := HOP.out; omega) HLM.out HG.out R HR.out).mono ?_; rintro e V5 ⟨mm, co, cn, cc, hmm, rfl, hb, hn, E⟩
            obtain rfl : M2 = mm := HEM.out.symm.trans hmm.symm
            rw [HDD.out] at hb hn
            obtain ⟨va1, dv1, nv1, B5⟩ := HB4.out.left E
            have hm5 := HM4.out.kh (HB4.out.du.x.kh E)
            obtain ⟨V6, hV6⟩ : ∃ V, V5.alloc (.cells #[.int .u64 M2.ta, .int .u64 M2.rp, .int .u32 M2.id, .int .u16 M2.op, .int .u16 M2.st, .int .u64 M2.p, .int .u32 M2.o, .int .u8 M2.r, .int .u64 M2.c, .int .u64 M2.ar, .slice co cn cc] 53) = V := ⟨_, rfl⟩
            have b6 : Below V5.heap.size V5 V6 := hV6 ▸ below_alloc _ _
            have ht6 : MB V6 V5.heap.size M2 (.slice co cn cc) := hV6 ▸ mb_new V5 M2 (.slice co cn cc)
            obtain ⟨gt, hgt⟩ : ∃ k, V5.heap.size = k := ⟨_, rfl⟩
            rw [hgt] at ht6
            have HT6' := hide ht6
            have HM6' := hide (hm5.grow b6)
            have HB6' := hide (B5.grow b6)
            have HBG6' := hide (hb.carry b6)
            have HTY6' : Hid (dd = [] ∨ Typ8 V6 co) := hn.imp id (fun h => h.2.grow b6)
            clear E hmm hb hn B5 hm5 b6 ht6
            go_upto_region 25 with fail
            clear hV6 hgt
            have HT6 := hide (show MB V6.drew gt M2 (.slice co cn cc) from HT6'.out)
            have HM6 := hide (show MB V6.drew gm m (.slice so sn sc) from HM6'.out)
            have HB6 := hide (HB6'.out.drewN 1)
            have HBG6 := hide (show Bts V6.drew co cn cc dd from HBG6'.out)
            have HTY6 := hide (show dd = [] ∨ Typ8 V6.drew co from HTY6'.out)
            have HOK6 := hide (HOKM.out V6.drew)
            clear HT6' HM6' HB6' HBG6' HTY6'
            have hS : Hid (((V6.drew.cell? ⟨gm, 0, none⟩ = some (.int .u64 m.ta) ∧ V6.drew.cell? ⟨gm, 1, none⟩ = some (.int .u64 m.rp) ∧ V6.drew.cell? ⟨gm, 2, none⟩ = some (.int .u32 m.id) ∧ V6.drew.cell? ⟨gm, 3, none⟩ = some (.int .u16 m.op) ∧ V6.drew.cell? ⟨gm, 4, none⟩ = some (.int .u16 m.st) ∧ V6.drew.cell? ⟨gm, 5, none⟩ = some (.int .u64 m.p) ∧ V6.drew.cell? ⟨gm, 6, none⟩ = some (.int .u32 m.o) ∧ V6.drew.cell? ⟨gm, 7, none⟩ = some (.int .u8 m.r) ∧ V6.drew.cell? ⟨gm, 8, none⟩ = some (.int .u64 m.c) ∧ V6.drew.cell? ⟨gm, 9, none⟩ = some (.int .u64 m.ar) ∧ V6.drew.cell? ⟨gm, 10, none⟩ = some (.slice so sn sc)) ∧ (V6.drew.cell? ⟨gt, 0, none⟩ = some (.int .u64 M2.ta) ∧ V6.drew.cell? ⟨gt, 1, none⟩ = some (.int .u64 M2.rp) ∧ V6.drew.cell? ⟨gt, 2, none⟩ = some (.int .u32 M2.id) ∧ V6.drew.cell? ⟨gt, 3, none⟩ = some (.int .u16 M2.op) ∧ V6.drew.cell? ⟨gt, 4, none⟩ = some (.int .u16 M2.st) ∧ V6.drew.cell? ⟨gt, 5, none⟩ = some (.int .u64 M2.p) ∧ V6.drew.cell? ⟨gt, 6, none⟩ = some (.int .u32 M2.o) ∧ V6.drew.cell? ⟨gt, 7, none⟩ = some (.int .u8 M2.r) ∧ V6.drew.cell? ⟨gt, 8, none⟩ = some (.int .u64 M2.c) ∧ V6.drew.cell? ⟨gt, 9, none⟩ = some (.int .u64 M2.ar) ∧ V6.drew.cell? ⟨gt, 10, none⟩ = some (.slice co cn cc)))) := ⟨HM6.out.all, HT6.out.all⟩
            refine wp_region_held_drew (S := (fun U => ((U.cell? ⟨gm, 0, none⟩ = some (.int .u64 m.ta) ∧ U.cell? ⟨gm, 1, none⟩ = some (.int .u64 m.rp) ∧ U.cell? ⟨gm, 2, none⟩ = some (.int .u32 m.id) ∧ U.cell? ⟨gm, 3, none⟩ = some (.int .u16 m.op) ∧ U.cell? ⟨gm, 4, none⟩ = some (.int .u16 m.st) ∧ U.cell? ⟨gm, 5, none⟩ = some (.int .u64 m.p) ∧ U.cell? ⟨gm, 6, none⟩ = some (.int .u32 m.o) ∧ U.cell? ⟨gm, 7, none⟩ = some (.int .u8 m.r) ∧ U.cell? ⟨gm, 8, none⟩ = some (.int .u64 m.c) ∧ U.cell? ⟨gm, 9, none⟩ = some (.int .u64 m.ar) ∧ U.cell? ⟨gm, 10, none⟩ = some (.slice so sn sc)) ∧ (U.cell? ⟨gt, 0, none⟩ = some (.int .u64 M2.ta) ∧ U.cell? ⟨gt, 1, none⟩ = some (.int .u64 M2.rp) ∧ U.cell? ⟨gt, 2, none⟩ = some (.int .u32 M2.id) ∧ U.cell? ⟨gt, 3, none⟩ = some (.int .u16 M2.op) ∧ U.cell? ⟨gt, 4, none⟩ = some (.int .u16 M2.st) ∧ U.cell? ⟨gt, 5, none⟩ = some (.int .u64 M2.p) ∧ U.cell? ⟨gt, 6, none⟩ = some (.int .u32 M2.o) ∧ U.cell? ⟨gt, 7, none⟩ = some (.int .u8 M2.r) ∧ U.cell? ⟨gt, 8, none⟩ = some (.int .u64 M2.c) ∧ U.cell? ⟨gt, 9, none⟩ = some (.int .u64 M2.ar) ∧ U.cell? ⟨gt, 10, none⟩ = some (.slice co cn cc))))) (by kernel_rfl) hS.out (fun _ => ?_)
            refine wpAnyH_take (i := 0) (oi := { dst := some 123, op := Go.Op.load 53 (Go.Operand.tmp 25), type := 53, pos := "law.go:143", after := #[], guard := none }) (v := (.agg #[.int .u64 M2.ta, .int .u64 M2.rp, .int .u32 M2.id, .int .u16 M2.op, .int .u16 M2.st, .int .u64 M2.p, .int .u32 M2.o, .int .u8 M2.r, .int .u64 M2.c, .int .u64 M2.ar, .slice co cn cc])) rfl (by kernel_rfl) (by kernel_rfl) (by kernel_rfl) (fun _ _ _ h => h) (Or.inl ⟨by kernel_rfl, fun w hC => by (obtain ⟨-, k0, k1, k2, k3, k4, k5, k6, k7, k8, k9, k10⟩ := hC; go_simp)⟩) hS.out ?_
            simp only [Act.put, List.setIfInBounds_toArray, List.set_cons_zero, List.set_cons_succ]
            refine wpAnyH_take (i := 1) (oi := { dst := some 124, op := Go.Op.move (Go.Operand.tmp 10), type := 26, pos := "law.go:143", after := #[], guard := none }) (v := (.pointer (some ⟨A'.g, 0, none⟩))) rfl (by kernel_rfl) (by kernel_rfl) (by kernel_rfl) (fun _ _ _ h => h) (Or.inl ⟨by kernel_rfl, fun w hC => by go_simp⟩) hS.out ?_
            simp only [Act.put, List.setIfInBounds_toArray, List.set_cons_zero, List.set_cons_succ]
            refine wpAnyH_take (i := 2) (oi := { dst := some 125, op := Go.Op.move (Go.Operand.tmp 16), type := 45, pos := "law.go:143", after := #[], guard := none }) (v := (.pointer (some ⟨A'.sb.2, 0, none⟩))) rfl (by kernel_rfl) (by kernel_rfl) (by kernel_rfl) (fun _ _ _ h => h) (Or.inl ⟨by kernel_rfl, fun w hC => by go_simp⟩) hS.out ?_
            simp only [Act.put, List.setIfInBounds_toArray, List.set_cons_zero, List.set_cons_succ]
            refine wpAnyH_take (i := 3) (oi := { dst := some 126, op := Go.Op.load 53 (Go.Operand.tmp 24), type := 53, pos := "law.go:143", after := #[], guard := none }) (v := (.agg #[.int .u64 m.ta, .int .u64 m.rp, .int .u32 m.id, .int .u16 m.op, .int .u16 m.st, .int .u64 m.p, .int .u32 m.o, .int .u8 m.r, .int .u64 m.c, .int .u64 m.ar, .slice so sn sc])) rfl (by kernel_rfl) (by kernel_rfl) (by kernel_rfl) (fun _ _ _ h => h) (Or.inl ⟨by kernel_rfl, fun w hC => by (obtain ⟨⟨k0, k1, k2, k3, k4, k5, k6, k7, k8, k9, k10⟩, -⟩ := hC; go_simp)⟩) hS.out ?_
            simp only [Act.put, List.setIfInBounds_toArray, List.set_cons_zero, List.set_cons_succ]
            refine wpAnyH_ready (rs := [4]) (by kernel_rfl) (by simp) ?_
            refine AllReadyH.cons (o := { dst := some 127, op := Go.Op.call { callee := Go.Callee.value (Go.Operand.func 19), args := #[Go.Operand.tmp 124, Go.Operand.tmp 125, Go.Operand.tmp 126], argTypes := #[26, 45, 53] }, type := 53, pos := "law.go:143", after := #[{ on := 1, ground := Go.Ground.data }, { on := 2, ground := Go.Ground.data }, { on := 3, ground := Go.Ground.data }], guard := none }) rfl (fun KK hKK => ?_) AllReadyH.nil
            go_simp
            refine (want_any m so sn sc l _ HB6.out.du.y (HBT.out.carry HB6.out.bel) HOK6.out HLM.out HG.out HOP.out HMY.out R HR.out).mono ?_; rintro e V7 ⟨mm, bo2, bn2, bc2, hmm, rfl, hb, hn, E⟩
            obtain rfl : M2 = mm := HEM.out.symm.trans hmm.symm
            rw [HDD.out] at hb
            obtain ⟨va2, dv2, nv2, B2''⟩ := HB6.out.right E
            have kk := HB6.out.du.y.kh E
            have HM7 := hide (HM6.out.kh kk)
            have HT7 := hide (HT6.out.kh kk)
            have HBT7 := hide (Bts.typ HBG6.out HTY6.out kk)
            have HBW7 := hide hb
            have HB7 := hide B2''
            clear hmm hb hn E B2'' kk
            have hS : Hid (((V7.cell? ⟨gm, 0, none⟩ = some (.int .u64 m.ta) ∧ V7.cell? ⟨gm, 1, none⟩ = some (.int .u64 m.rp) ∧ V7.cell? ⟨gm, 2, none⟩ = some (.int .u32 m.id) ∧ V7.cell? ⟨gm, 3, none⟩ = some (.int .u16 m.op) ∧ V7.cell? ⟨gm, 4, none⟩ = some (.int .u16 m.st) ∧ V7.cell? ⟨gm, 5, none⟩ = some (.int .u64 m.p) ∧ V7.cell? ⟨gm, 6, none⟩ = some (.int .u32 m.o) ∧ V7.cell? ⟨gm, 7, none⟩ = some (.int .u8 m.r) ∧ V7.cell? ⟨gm, 8, none⟩ = some (.int .u64 m.c) ∧ V7.cell? ⟨gm, 9, none⟩ = some (.int .u64 m.ar) ∧ V7.cell? ⟨gm, 10, none⟩ = some (.slice so sn sc)) ∧ (V7.cell? ⟨gt, 0, none⟩ = some (.int .u64 M2.ta) ∧ V7.cell? ⟨gt, 1, none⟩ = some (.int .u64 M2.rp) ∧ V7.cell? ⟨gt, 2, none⟩ = some (.int .u32 M2.id) ∧ V7.cell? ⟨gt, 3, none⟩ = some (.int .u16 M2.op) ∧ V7.cell? ⟨gt, 4, none⟩ = some (.int .u16 M2.st) ∧ V7.cell? ⟨gt, 5, none⟩ = some (.int .u64 M2.p) ∧ V7.cell? ⟨gt, 6, none⟩ = some (.int .u32 M2.o) ∧ V7.cell? ⟨gt, 7, none⟩ = some (.int .u8 M2.r) ∧ V7.cell? ⟨gt, 8, none⟩ = some (.int .u64 M2.c) ∧ V7.cell? ⟨gt, 9, none⟩ = some (.int .u64 M2.ar) ∧ V7.cell? ⟨gt, 10, none⟩ = some (.slice co cn cc)))) := ⟨HM7.out.all, HT7.out.all⟩
            refine hKK.out _ _ hS.out (fun _ => ?_)
            clear hKK
            refine wpAnyH_ready (rs := [5]) (by kernel_rfl) (by simp) ?_
            refine AllReadyH.cons (o := { dst := some 128, op := Go.Op.call { callee := Go.Callee.value (Go.Operand.func 18), args := #[Go.Operand.tmp 123, Go.Operand.tmp 127], argTypes := #[53, 53] }, type := 4, pos := "law.go:143", after := #[{ on := 0, ground := Go.Ground.data }, { on := 4, ground := Go.Ground.data }, { on := 4, ground := Go.Ground.chain }], guard := none }) rfl (fun KK hKK => ?_) AllReadyH.nil
            go_simp
            refine (same_any M2 M2 co cn cc dd bo2 bn2 bc2 dd _ HBT7.out HBW7.out).mono ?_; rw [HSM.out]; rintro e V8 ⟨rfl, b8⟩
            have HM8 := hide (HM7.out.grow b8)
            have HT8 := hide (HT7.out.grow b8)
            have HB8 := hide (HB7.out.grow b8)
            clear b8
            have hS : Hid (((V8.cell? ⟨gm, 0, none⟩ = some (.int .u64 m.ta) ∧ V8.cell? ⟨gm, 1, none⟩ = some (.int .u64 m.rp) ∧ V8.cell? ⟨gm, 2, none⟩ = some (.int .u32 m.id) ∧ V8.cell? ⟨gm, 3, none⟩ = some (.int .u16 m.op) ∧ V8.cell? ⟨gm, 4, none⟩ = some (.int .u16 m.st) ∧ V8.cell? ⟨gm, 5, none⟩ = some (.int .u64 m.p) ∧ V8.cell? ⟨gm, 6, none⟩ = some (.int .u32 m.o) ∧ V8.cell? ⟨gm, 7, none⟩ = some (.int .u8 m.r) ∧ V8.cell? ⟨gm, 8, none⟩ = some (.int .u64 m.c) ∧ V8.cell? ⟨gm, 9, none⟩ = some (.int .u64 m.ar) ∧ V8.cell? ⟨gm, 10, none⟩ = some (.slice so sn sc)) ∧ (V8.cell? ⟨gt, 0, none⟩ = some (.int .u64 M2.ta) ∧ V8.cell? ⟨gt, 1, none⟩ = some (.int .u64 M2.rp) ∧ V8.cell? ⟨gt, 2, none⟩ = some (.int .u32 M2.id) ∧ V8.cell? ⟨gt, 3, none⟩ = some (.int .u16 M2.op) ∧ V8.cell? ⟨gt, 4, none⟩ = some (.int .u16 M2.st) ∧ V8.cell? ⟨gt, 5, none⟩ = some (.int .u64 M2.p) ∧ V8.cell? ⟨gt, 6, none⟩ = some (.int .u32 M2.o) ∧ V8.cell? ⟨gt, 7, none⟩ = some (.int .u8 M2.r) ∧ V8.cell? ⟨gt, 8, none⟩ = some (.int .u64 M2.c) ∧ V8.cell? ⟨gt, 9, none⟩ = some (.int .u64 M2.ar) ∧ V8.cell? ⟨gt, 10, none⟩ = some (.slice co cn cc)))) := ⟨HM8.out.all, HT8.out.all⟩
            refine hKK.out _ _ hS.out (fun _ => ?_)
            clear hKK
            refine wpAnyH_take (i := 6) (oi := { dst := some 129, op := Go.Op.unOp Go.UnOp.not 4 (Go.Operand.tmp 128), type := 4, pos := "law.go:143", after := #[{ on := 5, ground := Go.Ground.data }], guard := none }) (v := (.bool false)) rfl (by kernel_rfl) (by kernel_rfl) (by kernel_rfl) (fun _ _ _ h => h) (Or.inl ⟨by kernel_rfl, fun w hC => by go_simp⟩) hS.out ?_
            simp only [Act.put, List.setIfInBounds_toArray, List.set_cons_zero, List.set_cons_succ]
            refine wpAnyH_done (by kernel_rfl) ?_ _
            obtain ⟨t0, t1, t2, t3, t4, t5, t6, t7, t8, t9, t10⟩ := HT8.out.all
            obtain ⟨k0, k1, k2, k3, k4, k5, k6, k7, k8, k9, k10⟩ := HM8.out.all
            by_cases hst : M2.st = 0
            · have es : ((M2.st : Int) == 0) = true := by rw [hst]; rfl
              by_cases h100 : m.op = 100
              · have eo : ((m.op : Int) == 100) = true := by rw [h100]; rfl
                have HNEW := hide (HCP0.out hst)
                clear hst h100
                obtain ⟨v', w', hr, ho', hf, -⟩ := app_cap M2.p M2.o M2.r M2.c HB8.out.row (by have := HS.out.ln; have := HNA.out; have := HI.out; omega) HB8.out.bel.size
                have HB9 : Hid (Bas w w' _ _ rr ws R.s R.s v' (L ++ [Cp.mk M2.p M2.o M2.r M2.c])) := HB8.out.app hf (by rw [len_snoc]; exact ho')
                have HRN := hide hr
                clear hr ho' hf
                go_wp2_with (at_builtin; refine wpList_append_run rfl _ _ _ rfl _ _ _ _ rfl rfl HRN.out ?_)
                go_roundg g1
                case measure => have := HI.out; omega
                case rel =>
                  refine ⟨i + 1, R.s, L ++ [Cp.mk M2.p M2.o M2.r M2.c], va1, dv1, nv1, va2, dv2, nv2, by have := HI.out; omega, by go_num, ?_, ⟨HB9.out, ?_, ?_, ?_⟩⟩
                  · rw [len_snoc]; omega
                  · intro c hc
                    rcases List.mem_append.1 hc with hc | hc
                    · exact HS.out.cp c hc
                    · rw [List.mem_singleton.1 hc]; exact HNEW.out
                  · have h1 := HS.out.el; have h2 := HRL.out; omega
                  · have h1 := HS.out.ln; rw [len_snoc]; omega
              · have eo : ((m.op : Int) == 100) = false := by rw [beq_eq_false_iff_ne]; omega
                clear hst h100
                go_wp2_with fail
                go_roundg g1
                case measure => have := HI.out; omega
                case rel =>
                  refine ⟨i + 1, R.s, L, va1, dv1, nv1, va2, dv2, nv2, by have := HI.out; omega, by go_num, ?_, ⟨HB8.out, ?_, ?_, ?_⟩⟩
                  · exact HLL.out
                  · exact HS.out.cp
                  · have h1 := HS.out.el; have h2 := HRL.out; omega
                  · have h1 := HS.out.ln; omega
            · have es : ((M2.st : Int) == 0) = false := by rw [beq_eq_false_iff_ne]; omega
              clear hst
              go_wp2_with fail
              go_roundg g1
              case measure => have := HI.out; omega
              case rel =>
                refine ⟨i + 1, R.s, L, va1, dv1, nv1, va2, dv2, nv2, by have := HI.out; omega, by go_num, ?_, ⟨HB8.out, ?_, ?_, ?_⟩⟩
                · exact HLL.out
                · exact HS.out.cp
                · have h1 := HS.out.el; have h2 := HRL.out; omega
                · have h1 := HS.out.ln; omega
  · refine (mem_no (n : Int) _ HO7.out (by show 0 ≤ _; omega) R HR.out h0).mono ?_; rintro e w8 ⟨rfl, E⟩
    obtain ⟨v1, Y8, F8, M8⟩ := E
    have hy8 := HO7.out.beside HP7.out HL4.out HN4.out F8
    have hz : R.c = Cp.zero := by rw [← HR.out]; exact cre_zero (by rw [HR.out]; exact h0)
    have her : erN (R.e : Int) = .iface 43 (.int .i64 (R.e : Int)) := erN_not (by omega)
    have hnum : ∀ W, Glob W → Calls Tryz.prog 13 #[.iface 43 (.int .i64 (R.e : Int))] W fun e w' => e = .returned (.int .i64 (R.e : Int)) ∧ Below W.heap.size W w' := fun W hW => her ▸ number_any (R.e : Int) W hW
    have HNU := hide hnum
    have HER := hide her
    have HZ := hide hz
    have hzv : Cp.zero.val = .agg #[.int .u64 0, .int .u32 0, .int .u8 0, .int .u64 0] := rfl
    rw [her, hzv]
    clear h0 hq
    go_wp2_with fail
    obtain ⟨V8, hV8⟩ : ∃ V, w8.alloc (.cells #[.int .u64 0, .int .u32 0, .int .u8 0, .int .u64 0] 36) = V := ⟨_, rfl⟩
    rw [hV8]
    have b8 : Below w8.heap.size w8 V8 := hV8 ▸ below_alloc _ _
    have HCB8 : Hid (CBox V8 w8.heap.size 0 0 0 0) := hV8 ▸ CBox.new w8 0 0 0 0
    have HY9 := hide (hy8.grow b8)
    obtain ⟨gb, hgb⟩ : ∃ k, w8.heap.size = k := ⟨_, rfl⟩
    rw [hgb] at HCB8 ⊢
    have HZV := hide hzv
    clear Y8 F8 M8 hy8 hz her hnum b8 HO7 HP7 hzv
    clear hV8
    refine (create_any (-1) _ HY9.out (by show 0 ≤ _; omega) R HR.out).mono ?_; rintro e w9 ⟨rfl, E⟩
    obtain ⟨v2, Y9, F9, M9⟩ := E
    have hcb := CBox.od HCB8.out HY9.out F9
    rw [HZ.out, HER.out, HZV.out]
    go_upto_region 6 with fail
    obtain ⟨V9, hV9⟩ : ∃ V, w9.alloc (.cells #[.int .u64 0, .int .u32 0, .int .u8 0, .int .u64 0] 36) = V := ⟨_, rfl⟩
    rw [hV9]
    have b9 : Below w9.heap.size w9 V9 := hV9 ▸ below_alloc _ _
    have hcc : CBox V9 w9.heap.size 0 0 0 0 := hV9 ▸ CBox.new w9 0 0 0 0
    obtain ⟨gc, hgc⟩ : ∃ k, w9.heap.size = k := ⟨_, rfl⟩
    rw [hgc] at hcc ⊢
    have HY11 := hide ((Y9.grow b9).drewN 1)
    have HCB11 := hide ((hcb.grow b9).drewN 1)
    have HCC := hide (hcc.drewN 1)
    clear Y9 F9 M9 hcb b9 hcc HCB8 HY9
    clear hV9
    have hS : Hid (((V9.drew.cell? ⟨gb, 0, none⟩ = some (.int .u64 0) ∧ V9.drew.cell? ⟨gb, 1, none⟩ = some (.int .u32 0) ∧ V9.drew.cell? ⟨gb, 2, none⟩ = some (.int .u8 0) ∧ V9.drew.cell? ⟨gb, 3, none⟩ = some (.int .u64 0)) ∧ (V9.drew.cell? ⟨gc, 0, none⟩ = some (.int .u64 0) ∧ V9.drew.cell? ⟨gc, 1, none⟩ = some (.int .u32 0) ∧ V9.drew.cell? ⟨gc, 2, none⟩ = some (.int .u8 0) ∧ V9.drew.cell? ⟨gc, 3, none⟩ = some (.int .u64 0)))) := ⟨⟨HCB11.out.c0, HCB11.out.c1, HCB11.out.c2, HCB11.out.c3⟩, ⟨HCC.out.c0, HCC.out.c1, HCC.out.c2, HCC.out.c3⟩⟩
    refine wp_region_held_drew (S := (fun U => ((U.cell? ⟨gb, 0, none⟩ = some (.int .u64 0) ∧ U.cell? ⟨gb, 1, none⟩ = some (.int .u32 0) ∧ U.cell? ⟨gb, 2, none⟩ = some (.int .u8 0) ∧ U.cell? ⟨gb, 3, none⟩ = some (.int .u64 0)) ∧ (U.cell? ⟨gc, 0, none⟩ = some (.int .u64 0) ∧ U.cell? ⟨gc, 1, none⟩ = some (.int .u32 0) ∧ U.cell? ⟨gc, 2, none⟩ = some (.int .u8 0) ∧ U.cell? ⟨gc, 3, none⟩ = some (.int .u64 0))))) (by kernel_rfl) hS.out (fun _ => ?_)
    refine wpAnyH_take (i := 0) (oi := { dst := some 50, op := Go.Op.move (Go.Operand.tmp 13), type := 38, pos := "law.go:125", after := #[], guard := none }) (v := (.iface 43 (.int .i64 (R.e : Int)))) rfl (by kernel_rfl) (by kernel_rfl) (by kernel_rfl) (fun _ _ _ h => h) (Or.inl ⟨by kernel_rfl, fun w hC => by go_simp⟩) hS.out ?_
    simp only [Act.put, List.setIfInBounds_toArray, List.set_cons_zero, List.set_cons_succ]
    refine wpAnyH_take (i := 2) (oi := { dst := some 52, op := Go.Op.move (Go.Operand.tmp 15), type := 38, pos := "law.go:125", after := #[], guard := none }) (v := (.iface 43 (.int .i64 (R.e : Int)))) rfl (by kernel_rfl) (by kernel_rfl) (by kernel_rfl) (fun _ _ _ h => h) (Or.inl ⟨by kernel_rfl, fun w hC => by go_simp⟩) hS.out ?_
    simp only [Act.put, List.setIfInBounds_toArray, List.set_cons_zero, List.set_cons_succ]
    refine wpAnyH_ready (rs := [1]) (by kernel_rfl) (by simp) ?_
    refine AllReadyH.cons (o := { dst := some 51, op := Go.Op.call { callee := Go.Callee.value (Go.Operand.func 13), args := #[Go.Operand.tmp 50], argTypes := #[38] }, type := 43, pos := "law.go:125", after := #[{ on := 0, ground := Go.Ground.data }], guard := none }) rfl (fun KK hKK => ?_) AllReadyH.nil
    go_simp
    refine (HNU.out _ (HY11.out.tk.new.bel |> HG.out.carry)).mono ?_; rintro e wx ⟨rfl, bx⟩
    have HY11 := hide (HY11.out.grow bx)
    have HCB11 := hide (HCB11.out.grow bx)
    have HCC := hide (HCC.out.grow bx)
    clear bx
    have hS : Hid (((wx.cell? ⟨gb, 0, none⟩ = some (.int .u64 0) ∧ wx.cell? ⟨gb, 1, none⟩ = some (.int .u32 0) ∧ wx.cell? ⟨gb, 2, none⟩ = some (.int .u8 0) ∧ wx.cell? ⟨gb, 3, none⟩ = some (.int .u64 0)) ∧ (wx.cell? ⟨gc, 0, none⟩ = some (.int .u64 0) ∧ wx.cell? ⟨gc, 1, none⟩ = some (.int .u32 0) ∧ wx.cell? ⟨gc, 2, none⟩ = some (.int .u8 0) ∧ wx.cell? ⟨gc, 3, none⟩ = some (.int .u64 0)))) := ⟨⟨HCB11.out.c0, HCB11.out.c1, HCB11.out.c2, HCB11.out.c3⟩, ⟨HCC.out.c0, HCC.out.c1, HCC.out.c2, HCC.out.c3⟩⟩
    refine hKK.out _ _ hS.out (fun _ => ?_)
    clear hKK
    refine wpAnyH_ready (rs := [3]) (by kernel_rfl) (by simp) ?_
    refine AllReadyH.cons (o := { dst := some 53, op := Go.Op.call { callee := Go.Callee.value (Go.Operand.func 13), args := #[Go.Operand.tmp 52], argTypes := #[38] }, type := 43, pos := "law.go:125", after := #[{ on := 2, ground := Go.Ground.data }, { on := 1, ground := Go.Ground.chain }], guard := none }) rfl (fun KK hKK => ?_) AllReadyH.nil
    go_simp
    refine (HNU.out _ (HY11.out.tk.new.bel |> HG.out.carry)).mono ?_; rintro e wy ⟨rfl, bx⟩
    have HY11 := hide (HY11.out.grow bx)
    have HCB11 := hide (HCB11.out.grow bx)
    have HCC := hide (HCC.out.grow bx)
    clear bx
    have hS : Hid (((wy.cell? ⟨gb, 0, none⟩ = some (.int .u64 0) ∧ wy.cell? ⟨gb, 1, none⟩ = some (.int .u32 0) ∧ wy.cell? ⟨gb, 2, none⟩ = some (.int .u8 0) ∧ wy.cell? ⟨gb, 3, none⟩ = some (.int .u64 0)) ∧ (wy.cell? ⟨gc, 0, none⟩ = some (.int .u64 0) ∧ wy.cell? ⟨gc, 1, none⟩ = some (.int .u32 0) ∧ wy.cell? ⟨gc, 2, none⟩ = some (.int .u8 0) ∧ wy.cell? ⟨gc, 3, none⟩ = some (.int .u64 0)))) := ⟨⟨HCB11.out.c0, HCB11.out.c1, HCB11.out.c2, HCB11.out.c3⟩, ⟨HCC.out.c0, HCC.out.c1, HCC.out.c2, HCC.out.c3⟩⟩
    refine hKK.out _ _ hS.out (fun _ => ?_)
    clear hKK
    refine wpAnyH_take (i := 4) (oi := { dst := some 54, op := Go.Op.binOp Go.BinOp.neq 43 (Go.Operand.tmp 51) (Go.Operand.tmp 53) 43, type := 4, pos := "law.go:125", after := #[{ on := 1, ground := Go.Ground.data }, { on := 3, ground := Go.Ground.data }], guard := none }) (v := (.bool false)) rfl (by kernel_rfl) (by kernel_rfl) (by kernel_rfl) (fun _ _ _ h => h) (Or.inl ⟨by kernel_rfl, fun w hC => by go_simp⟩) hS.out ?_
    simp only [Act.put, List.setIfInBounds_toArray, List.set_cons_zero, List.set_cons_succ]
    refine wpAnyH_take (i := 5) (oi := { dst := some 55, op := Go.Op.move (Go.Operand.tmp 54), type := 4, pos := "law.go:125", after := #[{ on := 4, ground := Go.Ground.data }, { on := 3, ground := Go.Ground.chain }], guard := none }) (v := (.bool false)) rfl (by kernel_rfl) (by kernel_rfl) (by kernel_rfl) (fun _ _ _ h => h) (Or.inl ⟨by kernel_rfl, fun w hC => by go_simp⟩) hS.out ?_
    simp only [Act.put, List.setIfInBounds_toArray, List.set_cons_zero, List.set_cons_succ]
    refine wpAnyH_take (i := 6) (oi := { dst := some 56, op := Go.Op.move (Go.Operand.tmp 13), type := 38, pos := "law.go:125", after := #[{ on := 5, ground := Go.Ground.guard }], guard := some (5, false) }) (v := (.iface 43 (.int .i64 (R.e : Int)))) rfl (by kernel_rfl) (by kernel_rfl) (by kernel_rfl) (fun _ _ _ h => h) (Or.inl ⟨by kernel_rfl, fun w hC => by go_simp⟩) hS.out ?_
    simp only [Act.put, List.setIfInBounds_toArray, List.set_cons_zero, List.set_cons_succ]
    refine wpAnyH_take (i := 7) (oi := { dst := some 57, op := Go.Op.binOp Go.BinOp.eql 38 (Go.Operand.tmp 56) (Go.Operand.const Go.Value.nilIface) 38, type := 4, pos := "law.go:125", after := #[{ on := 6, ground := Go.Ground.data }, { on := 5, ground := Go.Ground.guard }], guard := some (5, false) }) (v := (.bool false)) rfl (by kernel_rfl) (by kernel_rfl) (by kernel_rfl) (fun _ _ _ h => h) (Or.inl ⟨by kernel_rfl, fun w hC => by go_simp⟩) hS.out ?_
    simp only [Act.put, List.setIfInBounds_toArray, List.set_cons_zero, List.set_cons_succ]
    refine wpAnyH_take (i := 8) (oi := { dst := some 58, op := Go.Op.move (Go.Operand.tmp 15), type := 38, pos := "law.go:125", after := #[{ on := 5, ground := Go.Ground.guard }], guard := some (5, false) }) (v := (.iface 43 (.int .i64 (R.e : Int)))) rfl (by kernel_rfl) (by kernel_rfl) (by kernel_rfl) (fun _ _ _ h => h) (Or.inl ⟨by kernel_rfl, fun w hC => by go_simp⟩) hS.out ?_
    simp only [Act.put, List.setIfInBounds_toArray, List.set_cons_zero, List.set_cons_succ]
    refine wpAnyH_take (i := 9) (oi := { dst := some 59, op := Go.Op.binOp Go.BinOp.eql 38 (Go.Operand.tmp 58) (Go.Operand.const Go.Value.nilIface) 38, type := 4, pos := "law.go:125", after := #[{ on := 8, ground := Go.Ground.data }, { on := 5, ground := Go.Ground.guard }], guard := some (5, false) }) (v := (.bool false)) rfl (by kernel_rfl) (by kernel_rfl) (by kernel_rfl) (fun _ _ _ h => h) (Or.inl ⟨by kernel_rfl, fun w hC => by go_simp⟩) hS.out ?_
    simp only [Act.put, List.setIfInBounds_toArray, List.set_cons_zero, List.set_cons_succ]
    refine wpAnyH_take (i := 10) (oi := { dst := some 60, op := Go.Op.binOp Go.BinOp.neq 4 (Go.Operand.tmp 57) (Go.Operand.tmp 59) 4, type := 4, pos := "law.go:125", after := #[{ on := 7, ground := Go.Ground.data }, { on := 9, ground := Go.Ground.data }, { on := 5, ground := Go.Ground.guard }], guard := some (5, false) }) (v := (.bool false)) rfl (by kernel_rfl) (by kernel_rfl) (by kernel_rfl) (fun _ _ _ h => h) (Or.inl ⟨by kernel_rfl, fun w hC => by go_simp⟩) hS.out ?_
    simp only [Act.put, List.setIfInBounds_toArray, List.set_cons_zero, List.set_cons_succ]
    refine wpAnyH_take (i := 11) (oi := { dst := some 61, op := Go.Op.pick (Go.Operand.tmp 55) (Go.Operand.const (Go.Value.bool true)) (Go.Operand.tmp 60), type := 4, pos := "law.go:125", after := #[{ on := 5, ground := Go.Ground.data }, { on := 10, ground := Go.Ground.data }], guard := none }) (v := (.bool false)) rfl (by kernel_rfl) (by kernel_rfl) (by kernel_rfl) (fun _ _ _ h => h) (Or.inl ⟨by kernel_rfl, fun w hC => by go_simp⟩) hS.out ?_
    simp only [Act.put, List.setIfInBounds_toArray, List.set_cons_zero, List.set_cons_succ]
    refine wpAnyH_take (i := 12) (oi := { dst := some 62, op := Go.Op.move (Go.Operand.tmp 61), type := 4, pos := "law.go:125", after := #[{ on := 11, ground := Go.Ground.data }, { on := 5, ground := Go.Ground.chain }], guard := none }) (v := (.bool false)) rfl (by kernel_rfl) (by kernel_rfl) (by kernel_rfl) (fun _ _ _ h => h) (Or.inl ⟨by kernel_rfl, fun w hC => by go_simp⟩) hS.out ?_
    simp only [Act.put, List.setIfInBounds_toArray, List.set_cons_zero, List.set_cons_succ]
    refine wpAnyH_take (i := 13) (oi := { dst := some 63, op := Go.Op.load 36 (Go.Operand.tmp 12), type := 36, pos := "law.go:125", after := #[{ on := 12, ground := Go.Ground.guard }], guard := some (12, false) }) (v := (.agg #[.int .u64 0, .int .u32 0, .int .u8 0, .int .u64 0])) rfl (by kernel_rfl) (by kernel_rfl) (by kernel_rfl) (fun _ _ _ h => h) (Or.inl ⟨by kernel_rfl, fun w hC => by (obtain ⟨⟨k0, k1, k2, k3⟩, k4, k5, k6, k7⟩ := hC; go_simp)⟩) hS.out ?_
    simp only [Act.put, List.setIfInBounds_toArray, List.set_cons_zero, List.set_cons_succ]
    refine wpAnyH_take (i := 14) (oi := { dst := some 64, op := Go.Op.load 36 (Go.Operand.tmp 14), type := 36, pos := "law.go:125", after := #[{ on := 12, ground := Go.Ground.guard }], guard := some (12, false) }) (v := (.agg #[.int .u64 0, .int .u32 0, .int .u8 0, .int .u64 0])) rfl (by kernel_rfl) (by kernel_rfl) (by kernel_rfl) (fun _ _ _ h => h) (Or.inl ⟨by kernel_rfl, fun w hC => by (obtain ⟨⟨k0, k1, k2, k3⟩, k4, k5, k6, k7⟩ := hC; go_simp)⟩) hS.out ?_
    simp only [Act.put, List.setIfInBounds_toArray, List.set_cons_zero, List.set_cons_succ]
    refine wpAnyH_take (i := 15) (oi := { dst := some 65, op := Go.Op.binOp Go.BinOp.neq 36 (Go.Operand.tmp 63) (Go.Operand.tmp 64) 36, type := 4, pos := "law.go:125", after := #[{ on := 13, ground := Go.Ground.data }, { on := 14, ground := Go.Ground.data }, { on := 12, ground := Go.Ground.guard }], guard := some (12, false) }) (v := (.bool false)) rfl (by kernel_rfl) (by kernel_rfl) (by kernel_rfl) (fun _ _ _ h => h) (Or.inl ⟨by kernel_rfl, fun w hC => by (have nq := neq_cap 0 0 0 0 0 0 0 0; go_simp)⟩) hS.out ?_
    simp only [Act.put, List.setIfInBounds_toArray, List.set_cons_zero, List.set_cons_succ]
    refine wpAnyH_take (i := 16) (oi := { dst := some 66, op := Go.Op.pick (Go.Operand.tmp 62) (Go.Operand.const (Go.Value.bool true)) (Go.Operand.tmp 65), type := 4, pos := "law.go:125", after := #[{ on := 12, ground := Go.Ground.data }, { on := 15, ground := Go.Ground.data }], guard := none }) (v := (.bool false)) rfl (by kernel_rfl) (by kernel_rfl) (by kernel_rfl) (fun _ _ _ h => h) (Or.inl ⟨by kernel_rfl, fun w hC => by go_simp⟩) hS.out ?_
    simp only [Act.put, List.setIfInBounds_toArray, List.set_cons_zero, List.set_cons_succ]
    refine wpAnyH_take (i := 17) (oi := { dst := some 67, op := Go.Op.move (Go.Operand.tmp 66), type := 4, pos := "law.go:125", after := #[{ on := 16, ground := Go.Ground.data }, { on := 12, ground := Go.Ground.chain }], guard := none }) (v := (.bool false)) rfl (by kernel_rfl) (by kernel_rfl) (by kernel_rfl) (fun _ _ _ h => h) (Or.inl ⟨by kernel_rfl, fun w hC => by go_simp⟩) hS.out ?_
    simp only [Act.put, List.setIfInBounds_toArray, List.set_cons_zero, List.set_cons_succ]
    refine wpAnyH_take (i := 18) (oi := { dst := some 68, op := Go.Op.move (Go.Operand.tmp 13), type := 38, pos := "law.go:125", after := #[{ on := 17, ground := Go.Ground.guard }], guard := some (17, false) }) (v := (.iface 43 (.int .i64 (R.e : Int)))) rfl (by kernel_rfl) (by kernel_rfl) (by kernel_rfl) (fun _ _ _ h => h) (Or.inl ⟨by kernel_rfl, fun w hC => by go_simp⟩) hS.out ?_
    simp only [Act.put, List.setIfInBounds_toArray, List.set_cons_zero, List.set_cons_succ]
    refine wpAnyH_take (i := 19) (oi := { dst := some 69, op := Go.Op.binOp Go.BinOp.neq 38 (Go.Operand.tmp 68) (Go.Operand.const Go.Value.nilIface) 38, type := 4, pos := "law.go:125", after := #[{ on := 18, ground := Go.Ground.data }, { on := 17, ground := Go.Ground.guard }], guard := some (17, false) }) (v := (.bool true)) rfl (by kernel_rfl) (by kernel_rfl) (by kernel_rfl) (fun _ _ _ h => h) (Or.inl ⟨by kernel_rfl, fun w hC => by go_simp⟩) hS.out ?_
    simp only [Act.put, List.setIfInBounds_toArray, List.set_cons_zero, List.set_cons_succ]
    refine wpAnyH_take (i := 20) (oi := { dst := some 70, op := Go.Op.move (Go.Operand.tmp 69), type := 4, pos := "law.go:125", after := #[{ on := 19, ground := Go.Ground.data }, { on := 17, ground := Go.Ground.chain }, { on := 17, ground := Go.Ground.guard }], guard := some (17, false) }) (v := (.bool true)) rfl (by kernel_rfl) (by kernel_rfl) (by kernel_rfl) (fun _ _ _ h => h) (Or.inl ⟨by kernel_rfl, fun w hC => by go_simp⟩) hS.out ?_
    simp only [Act.put, List.setIfInBounds_toArray, List.set_cons_zero, List.set_cons_succ]
    refine wpAnyH_take (i := 21) (oi := { dst := some 71, op := Go.Op.move (Go.Operand.tmp 11), type := 33, pos := "law.go:125", after := #[{ on := 20, ground := Go.Ground.guard }], guard := some (20, true) }) (v := (.pointer none)) rfl (by kernel_rfl) (by kernel_rfl) (by kernel_rfl) (fun _ _ _ h => h) (Or.inl ⟨by kernel_rfl, fun w hC => by go_simp⟩) hS.out ?_
    simp only [Act.put, List.setIfInBounds_toArray, List.set_cons_zero, List.set_cons_succ]
    refine wpAnyH_take (i := 22) (oi := { dst := some 72, op := Go.Op.binOp Go.BinOp.neq 33 (Go.Operand.tmp 71) (Go.Operand.const (Go.Value.pointer none)) 33, type := 4, pos := "law.go:125", after := #[{ on := 21, ground := Go.Ground.data }, { on := 20, ground := Go.Ground.guard }], guard := some (20, true) }) (v := (.bool false)) rfl (by kernel_rfl) (by kernel_rfl) (by kernel_rfl) (fun _ _ _ h => h) (Or.inl ⟨by kernel_rfl, fun w hC => by go_simp⟩) hS.out ?_
    simp only [Act.put, List.setIfInBounds_toArray, List.set_cons_zero, List.set_cons_succ]
    refine wpAnyH_take (i := 23) (oi := { dst := some 73, op := Go.Op.pick (Go.Operand.tmp 70) (Go.Operand.tmp 72) (Go.Operand.const (Go.Value.bool false)), type := 4, pos := "law.go:125", after := #[{ on := 20, ground := Go.Ground.data }, { on := 22, ground := Go.Ground.data }, { on := 17, ground := Go.Ground.guard }], guard := some (17, false) }) (v := (.bool false)) rfl (by kernel_rfl) (by kernel_rfl) (by kernel_rfl) (fun _ _ _ h => h) (Or.inl ⟨by kernel_rfl, fun w hC => by go_simp⟩) hS.out ?_
    simp only [Act.put, List.setIfInBounds_toArray, List.set_cons_zero, List.set_cons_succ]
    refine wpAnyH_take (i := 24) (oi := { dst := some 74, op := Go.Op.pick (Go.Operand.tmp 67) (Go.Operand.const (Go.Value.bool true)) (Go.Operand.tmp 73), type := 4, pos := "law.go:125", after := #[{ on := 17, ground := Go.Ground.data }, { on := 23, ground := Go.Ground.data }], guard := none }) (v := (.bool false)) rfl (by kernel_rfl) (by kernel_rfl) (by kernel_rfl) (fun _ _ _ h => h) (Or.inl ⟨by kernel_rfl, fun w hC => by go_simp⟩) hS.out ?_
    simp only [Act.put, List.setIfInBounds_toArray, List.set_cons_zero, List.set_cons_succ]
    refine wpAnyH_done (by kernel_rfl) ?_ _
    go_wp2_with fail
    go_ret
    exact ⟨rfl, HY11.out.tk.new.bel⟩
end
end Go.Proofs.YtpbkjmkdciiccaaGreatDoor
