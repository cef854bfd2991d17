/-
  The walk of ObjectsScript.
-/
import Derived.Test.YtgcmompldcnhlaaDoorIStepAll
import Derived.Test.YtgcmompldcnhlaaDoorIJc
namespace Go.Proofs.YtgcmompldcnhlaaDoor
open Go.RowKit
def ScrRel (w : World) (g mg p : Nat) (ws : List Nat) (na gk : Nat) (vh vi : Value) (wr : World) : Prop :=
  ∃ (i t : Nat) (es : List Ent) (T : Nat → Ob) (L : List Cp), i + gk = na ∧ vi = .int .i64 (i : Int) ∧ St i w wr g mg p ws t es T vh L
def EndRel (wb : World) (T : Nat → Ob) (gk : Nat) (vn vk : Value) (wr : World) : Prop := ∃ i m : Nat, i + gk = 64 ∧ m = lenF T i ∧ vk = .int .i64 (i : Int) ∧ vn = .int .i64 (m : Int) ∧ wb = wr
set_option maxRecDepth 20000 in
set_option maxHeartbeats 6400000 in
theorem walk_script (p : Nat) (eo : Option Addr) (ne ec : Nat) (us : List Nat) (ao : Option Addr) (na ac : Nat) (xs : List Ac) (w : World) (hp : p ≤ 18446744073709551615) (hu : U64s w eo ne ec us) (hne : ne ≤ 1048576) (hA : Acts w ao na ac xs) (hna : na ≤ 1048576) (hg : Glob w) :
    Calls Tryd.prog 3 #[.int .u64 (p : Int), .slice eo ne ec, .slice ao na ac] w fun e w' => e = .returned (.bool true) ∧ Below w.heap.size w w' := by
  have HG := hide hg
  have HU := hide hu
  have HA := hide hA
  have HP := hide hp
  have HNE := hide hne
  have HNA := hide hna
  have HNX := hide hA.1
  have HUN := hide hu.1
  have hac := hA.2.1
  have hac2 : ac ≤ 9223372036854775807 := hA.2.2.1
  have hz := Tryd.zeroModel
  clear hg hu hA hp hne hna
  go_enter Tryd.func3, Tryd.ntmps3
  go_wp2_with fail
  refine (awake_any _ HG.out).mono ?_; rintro e w1 ⟨rfl, b1⟩
  have HB1 := hide b1
  clear b1
  go_wp2_with fail
  refine (of_any _ _ _ us _ (HU.out.carry HB1.out) (by have := HNE.out; omega)).mono ?_; rintro e w3 ⟨ta, th, tk, rfl, TT, _, ha, hh, bel⟩
  have HT := hide TT
  have HTA := hide ha
  have HTH := hide hh
  have HB3 := hide bel
  clear TT bel ha hh
  go_wp2_with fail
  refine (oof_any _ ⟨_, rfl⟩ _).mono ?_; rintro e w4 ⟨go, gm, rfl, O2, bel2⟩
  have HS4 := hide (Tk.made HB1.out HT.out HTA.out HTH.out HB3.out O2 bel2)
  clear O2 bel2 HT HB3 HTA HTH
  go_wp2_with fail
  refine (tof_new p _).mono ?_; rintro e w5 ⟨rfl, T3, b3⟩
  have HT3 := hide T3
  have HS5 := hide (HS4.out.grow b3)
  have HNG := hide HS4.out.new.bel.size
  obtain ⟨g, hgg⟩ : ∃ g, w4.heap.size = g := ⟨_, rfl⟩
  rw [hgg] at HT3 HNG ⊢
  clear T3 b3 HS4 hgg
  go_wp2_with fail
  refine (of_any _ _ _ us _ (HU.out.carry HS5.out.new.bel) (by have := HNE.out; omega)).mono ?_; rintro e w6 ⟨tc, td, te, rfl, TT, _, ha, hh, bel⟩
  have HT := hide TT
  have HTA := hide ha
  have HTH := hide hh
  have HB6 := hide bel
  clear TT bel ha hh
  go_wp2_with fail
  refine (oof_any _ ⟨_, rfl⟩ _).mono ?_; rintro e w7 ⟨go2, gm2, rfl, O2, bel2⟩
  obtain ⟨S7, S8, D7⟩ := Tk.second HS5.out HT.out HTA.out HTH.out HB6.out O2 bel2
  have HS7 := hide S7
  have HS8 := hide S8
  have HD7 := hide D7
  have HT7 := hide ((HT3.out.grow HB6.out).grow bel2)
  clear S7 S8 D7 O2 bel2 HT HB6 HTA HTH HS5 HT3
  have hnm : (zeroM.set 0 (.int .u64 (p : Int))).set 1 (.pointer (some ⟨go2, 0, none⟩)) = newM p go2 := rfl
  obtain ⟨V, hV⟩ : ∃ V, w7.alloc (.cells ((zeroM.set 0 (.int .u64 (p : Int))).set 1 (.pointer (some ⟨go2, 0, none⟩))).toArray 37) = V := ⟨_, rfl⟩
  have bV : Below w7.heap.size w7 V := hV ▸ below_alloc _ _
  have HM : Hid (Md V w7.heap.size p go2 noneO) := by
    show Md V _ p go2 noneO
    rw [← hV, hnm]; exact new_md w7 p go2
  have HBO : Hid (Bo w V g w7.heap.size p (cutN us) 0 [] noneO 0 [] noneO) := ⟨_, _, _, _, _, _, _, _, _, _, _, _, _, _, ⟨HS7.out.grow bV, HT7.out.grow bV, HNG.out⟩, ⟨HS8.out.grow bV, HM.out, HS8.out.new.bel.size⟩, HD7.out⟩
  have HST : Hid (St 0 w V g w7.heap.size p (cutN us) 0 [] noneO (.slice none 0 0) []) := ⟨HBO.out, owns_nil _ _ _ _, ⟨(by intro c hc; cases hc), fun _ _ => rfl, fun _ => Nat.le_refl _, Nat.le_refl _, by omega, Nat.le_refl _, Nat.zero_le _, by rw [cutN_len, ← HUN.out]; have := HNE.out; omega⟩, HG.out, HP.out⟩
  clear bV HM HBO HS7 HS8 HD7 HT7 hnm
  go_wp2_with fail
  obtain ⟨mg, hmg⟩ : ∃ b, w7.heap.size = b := ⟨_, rfl⟩
  rw [hmg] at HST ⊢
  clear hmg hV hz
  go_loopg [9, 33] na (fun gk vh vi wr => ScrRel w g mg p (cutN us) na gk vh vi wr)
  case atStart => exact ⟨0, 0, [], noneO, [], by omega, rfl, HST.out⟩
  case round =>
    obtain ⟨i, t, es, T, L, hi, rfl, hS⟩ := hrel
    have HS := hide hS
    clear hS HST
    cases gk with
    | zero =>
      obtain rfl : i = na := by omega
      have hlt : ¬ ((i : Int) < (i : Int)) := by omega
      clear hi
      rename World => wq
      obtain ⟨W, hW⟩ : ∃ W, wq = W := ⟨_, rfl⟩
      rw [hW] at HS ⊢
      clear hW
      obtain ⟨gT, hTb⟩ := HS.out.bo.tb
      obtain ⟨gM, hMd⟩ := HS.out.bo.md
      have HTB := hide hTb
      have HMD := hide hMd
      clear hTb hMd
      go_wp2
      go_loopg [14, 15] 64 (fun gk vn vk wr => EndRel W T gk vn vk wr)
      case atStart => exact ⟨0, 0, by omega, rfl, rfl, rfl, rfl⟩
      case round =>
        obtain ⟨k, m, hk, hm, rfl, rfl, rfl⟩ := hrel
        have HM := hide hm
        clear hm
        cases gk with
        | zero =>
          obtain rfl : k = 64 := by omega
          obtain ⟨R, hR⟩ : ∃ R, lenF T 64 = R := ⟨_, rfl⟩
          rw [hR] at HM
          have e : m = R := HM.out
          subst e
          have HLEN := hide (len_any _ HTB.out)
          rw [hR] at HLEN
          clear hR hk
          go_wp2_with fail
          refine HLEN.out.mono ?_; rintro e w9 ⟨rfl, rfl⟩
          have HEND := hide HS.out.bo.bel
          go_wp2
          go_ret
          exact ⟨rfl, HEND.out⟩
        | succ g1 =>
          have hkn : k < 64 := by omega
          have hk1 : (k : Int) < 64 := by omega
          have hk0 : (0 : Int) ≤ (k : Int) := by omega
          have hml : (m : Int) ≤ 64 := by have := lenF_le T k; have := HM.out; omega
          have HK := hide hk
          have HKN := hide hkn
          rcases hT : T k with ⟨s, ep, vl, l⟩
          obtain ⟨m0, m1, m2, m3, m4⟩ := HMD.out.at k hkn s ep vl l hT
          have hv := value_any (k : Int) W HTB.out (by omega)
          rw [Int.toNat_natCast] at hv
          have hb : (decide (0 ≤ (k : Int)) && hasO T k) = decide (0 < l) := by
            unfold hasO
            rw [hT, decide_eq_true hk0, decide_eq_true hkn]; rfl
          rw [hb, hT] at hv
          have HV := hide hv
          have HT := hide hT
          clear hv hb hk hkn hT
          by_cases hl : 0 < l
          · rw [decide_eq_true hl, if_pos rfl] at HV
            rw [decide_eq_true hl] at m0
            have HL := hide hl
            clear hl
            go_wp2_with fail
            refine HV.out.mono ?_; rintro e w9 ⟨rfl, rfl⟩
            go_wp2_with fail
            go_roundg g1
            case measure => have := HK.out; omega
            case rel => exact ⟨k + 1, m + 1, by have := HK.out; omega, by rw [lenF_succ, HT.out, if_pos HL.out, HM.out], by go_num, by go_num, rfl⟩
          · have hz0 := HS.out.ss.zero k (by rw [HT.out]; show l = 0; omega)
            rw [HT.out] at hz0
            obtain rfl : vl = 0 := by have := congrArg Ob.v hz0; exact this
            rw [decide_eq_false hl, if_neg Bool.false_ne_true] at HV
            rw [decide_eq_false hl] at m0
            have HL := hide hl
            clear hl hz0
            go_wp2_with fail
            refine HV.out.mono ?_; rintro e w9 ⟨rfl, rfl⟩
            go_wp2_with fail
            go_roundg g1
            case measure => have := HK.out; omega
            case rel => exact ⟨k + 1, m, by have := HK.out; omega, by rw [lenF_succ, HT.out, if_neg HL.out, HM.out]; rfl, by go_num, rfl, rfl⟩
    | succ g1 =>
      have hin : i < na := by omega
      have hlt : (i : Int) < (na : Int) := by omega
      have HI := hide hi
      clear hi
      obtain ⟨ad, hao⟩ : ∃ ad, ao = some ad := by
        cases ao with
        | none => have := HA.out.2.2.2.1 rfl; omega
        | some ad => exact ⟨ad, rfl⟩
      have hat := HA.out.2.2.2.2 ad hao i hin
      obtain ⟨x, hx⟩ : ∃ x, xs.getD i Ac.zero = x := ⟨_, rfl⟩
      rw [hx] at hat
      obtain ⟨xo, xw, xc, xi⟩ := x
      obtain ⟨⟨q0, q1, q2, q3⟩, a0, a1, a2, a3⟩ := hat
      simp only at q0 q1 q2 q3 a0 a1 a2 a3
      have HQ := hide (And.intro q0 (And.intro q1 (And.intro q2 q3)))
      rw [← HS.out.bo.bel.cell (lt_of_cell a0)] at a0
      rw [← HS.out.bo.bel.cell (lt_of_cell a1)] at a1
      rw [← HS.out.bo.bel.cell (lt_of_cell a2)] at a2
      rw [← HS.out.bo.bel.cell (lt_of_cell a3)] at a3
      obtain ⟨V, hV⟩ : ∃ V, wr.alloc (.cells #[.int .u8 (xo : Int), .int .u8 (xw : Int), .int .u8 (xc : Int), .int .u8 (xi : Int)] 40) = V := ⟨_, rfl⟩
      have bV : Below wr.heap.size wr V := hV ▸ below_alloc _ _
      have HAB : Hid (ABox V wr.heap.size xo xw xc xi) := hV ▸ heap_alloc_new _ _
      have HSV : Hid (St i w V g mg p (cutN us) t es T _ L) := ⟨HS.out.bo.grow bV, owns_grow HS.out.row bV, HS.out.ss, HS.out.gl, HS.out.pw⟩
      have v0 : V.cell? ⟨wr.heap.size, 0, none⟩ = some (.int .u8 (xo : Int)) := HAB.out.c0
      have v1 : V.cell? ⟨wr.heap.size, 1, none⟩ = some (.int .u8 (xw : Int)) := HAB.out.c1
      have v2 : V.cell? ⟨wr.heap.size, 2, none⟩ = some (.int .u8 (xc : Int)) := HAB.out.c2
      have v3 : V.cell? ⟨wr.heap.size, 3, none⟩ = some (.int .u8 (xi : Int)) := HAB.out.c3
      obtain ⟨ad2, hadd⟩ : ∃ a, ad.add (i * 4) = a := ⟨_, rfl⟩
      rw [hadd] at a0 a1 a2 a3
      rw [addS _ 0] at a1
      rw [addS _ 1] at a2
      rw [addS _ 2] at a3
      clear hx q0 q1 q2 q3 bV
      have hib : (i : Int) ≤ 1048576 := by have := HNA.out; omega
      go_wp2_with fail
      refine (step_any xo xw xc xi _ HSV.out (by have := HNA.out; omega) HQ.out.1 HQ.out.2.1 HQ.out.2.2.1 HQ.out.2.2.2).mono ?_; rintro e w9 ⟨t', es', T', v', L', rfl, S9⟩
      have HS9 := hide S9
      clear S9 v0 v1 v2 v3 a0 a1 a2 a3 hV hadd hao
      go_wp2_with fail
      go_roundg g1
      case measure => have := HI.out; omega
      case rel => exact ⟨i + 1, t', es', T', L', by have := HI.out; omega, by go_num, HS9.out⟩
end Go.Proofs.YtgcmompldcnhlaaDoor
