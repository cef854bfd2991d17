/-
  The walk of SkeletonServes.
-/
import Derived.Test.YtjpgfldppepmiaaDoorJl
import Derived.Deep.CutBlock
import Derived.Deep.CutRange
import Derived.Deep.RegionHeldLaw
namespace Go.Proofs.YtjpgfldppepmiaaDoor
section
open Go.RowKit
def HadRel (w0 : World) (A A' : Ad) (rr : Nat) (ws : List Nat) (gk : Nat) (vh vi : Value) (wr : World) : Prop :=
  ∃ (i : Nat) (s : Hs) (L : List Cp) (va dv nv va' dv' nv' : Value), i + gk = 3 ∧ vi = .int .i64 (i : Int) ∧ L.length = i ∧ Scr 0 w0 wr (A.upd va dv nv) (A'.upd va' dv' nv') rr ws s vh L
def SrvRel (w0 : World) (A A' : Ad) (rr : Nat) (ws : List Nat) (na gk : Nat) (vh vi : Value) (wr : World) : Prop :=
  ∃ i : Nat, vi = .int .i64 (i : Int) ∧ i + gk = na ∧ ∃ (s : Hs) (L : List Cp) (va dv nv va' dv' nv' : Value), 0 < L.length ∧ Scr i w0 wr (A.upd va dv nv) (A'.upd va' dv' nv') rr ws s vh L
set_option maxRecDepth 20000 in
set_option maxHeartbeats 12800000 in
theorem walk_serves (eo : Option Addr) (ne ec : Nat) (us : List Nat) (ao : Option Addr) (na ac : Nat) (xs : List Ac) (w : World) (hu : U64s w eo ne ec us) (hne : ne ≤ 17592186043904) (hA : Acts w ao na ac xs) (hna : na ≤ 1600000000000) (hsn : ∀ y ∈ xs, y.sn ≤ 140737488351232) (hg : Glob w) :
    Calls Tryd.prog 3 #[.slice eo ne ec, .slice ao na ac] w fun e w' => e = .returned (.bool true) ∧ Below w.heap.size w w' := by
  have HG := hide hg
  have HU := hide hu
  have HA := hide hA
  have HNE := hide hne
  have HNA := hide hna
  have HSN := hide hsn
  have hac := hA.2.1
  have hac2 : ac ≤ 9223372036854775807 := hA.2.2.1
  have HNX := hide hA.1
  clear hg hu hA hne hna hsn
  go_enter Tryd.func3, Tryd.ntmps3
  go_wp2_with fail
  refine (awake_any _ HG.out).mono ?_; rintro e w1 ⟨rfl, b1⟩
  have HB1 := hide b1
  clear b1
  go_wp2_with fail
  refine (of_any _ _ _ us _ (HU.out.carry HB1.out) HNE.out).mono ?_; rintro e w2 ⟨ta, th, tk, rfl, TA, _, ha, hh, bel⟩
  have HT := hide TA
  have HTA := hide ha
  have HTH := hide hh
  have HBE := hide bel
  clear TA bel ha hh
  go_wp2_with fail
  refine (oof_any _ ⟨_, rfl⟩ _).mono ?_; rintro e w3 ⟨go, gm, rfl, O2, bel2⟩
  have HS3 := hide (Tk.made HB1.out HT.out HTA.out HTH.out HBE.out O2 bel2)
  clear O2 bel2 HT HBE HTA HTH
  go_wp2_with fail
  refine (tof_new 5 _).mono ?_; rintro e w4 ⟨rfl, T4, b4⟩
  have HO4 := hide (Od.make HS3.out T4 b4)
  obtain ⟨g, hgg⟩ : ∃ g, w3.heap.size = g := ⟨_, rfl⟩
  obtain ⟨B, hB⟩ : ∃ B, w2.heap.size = B := ⟨_, rfl⟩
  rw [hgg] at HO4 ⊢
  rw [hB] at HO4
  have HL4 := hide HO4.out.low
  clear T4 b4 HS3 hgg hB
  go_wp2_with fail
  refine (of_any _ _ _ us _ (HU.out.carry HO4.out.tk.new.bel) HNE.out).mono ?_; rintro e w5 ⟨tc, td, te, rfl, TA, _, ha, hh, bel⟩
  have HT := hide TA
  have HTA := hide ha
  have HTH := hide hh
  have HBE := hide bel
  clear TA bel ha hh
  go_wp2_with fail
  refine (oof_any _ ⟨_, rfl⟩ _).mono ?_; rintro e w6 ⟨go2, gm2, rfl, O2, bel2⟩
  have HS6 := hide (Tk.made HO4.out.tk.new.bel HT.out HTA.out HTH.out HBE.out O2 bel2)
  have HO6 := hide ((HO4.out.grow HBE.out).grow bel2)
  have HLU : Hid (w4.heap.size ≤ go2 ∧ w4.heap.size ≤ gm2 ∧ w4.heap.size ≤ w6.heap.size) := by show _ ∧ _ ∧ _; have := O2.bg; have := O2.bm; have := HBE.out.size; have := bel2.size; omega
  clear O2 bel2 HT HBE HTH HO4
  go_wp2_with fail
  refine (tof_new 5 _).mono ?_; rintro e w7 ⟨rfl, T7, b7⟩
  have HP7 := hide (Od.make HS6.out T7 b7)
  have HO7 := hide (HO6.out.grow b7)
  obtain ⟨g2, hgg⟩ : ∃ g, w6.heap.size = g := ⟨_, rfl⟩
  obtain ⟨B2, hB⟩ : ∃ B, w5.heap.size = B := ⟨_, rfl⟩
  rw [hgg] at HP7 HLU ⊢
  rw [hB] at HP7
  clear T7 b7 HS6 HO6 hgg hB
  go_wp2_with fail
  have hDU := Du.of HO7.out HP7.out (n := w4.heap.size) ⟨HL4.out.1, HL4.out.2.1, HL4.out.2.2.1, HL4.out.2.2.2.1⟩ ⟨HLU.out.2.2, HLU.out.1, HLU.out.2.1, HTA.out⟩
  have hs8 : (w7.alloc svc0).heap.size = w7.heap.size + 1 := by simp
  obtain ⟨w8, hw8⟩ : ∃ w8, w7.alloc svc0 = w8 := ⟨_, rfl⟩
  try rw [show w7.alloc (.cells #[.slice none 0 0, .slice none 0 0] 35) = w8 from hw8]
  rw [hw8] at hDU hs8
  obtain ⟨w9, hw9⟩ : ∃ w9, w8.alloc svc0 = w9 := ⟨_, rfl⟩
  try rw [show w8.alloc (.cells #[.slice none 0 0, .slice none 0 0] 35) = w9 from hw9]
  rw [hw9] at hDU
  try rw [hs8]
  obtain ⟨sb, hsb⟩ : ∃ sb, w7.heap.size = sb := ⟨_, rfl⟩
  rw [hsb] at hDU ⊢
  have HDU := hide hDU
  clear hDU hw8 hw9 hs8 hsb HO7 HP7 HL4 HLU HTA
  refine (srv_of _ _ (.inr ⟨_, rfl⟩) _).mono ?_; rintro e w10 ⟨rfl, S10, b10⟩
  obtain ⟨rr, hrr⟩ : ∃ rr, w9.heap.size = rr := ⟨_, rfl⟩
  rw [hrr] at S10 ⊢
  obtain ⟨A, hAA⟩ : ∃ A : Ad, A = ⟨B, g, go, gm, ta, th, tk, .slice none 0 0, sb, sb, .slice none 0 0, .slice none 0 0⟩ := ⟨_, rfl⟩
  obtain ⟨A', hAB⟩ : ∃ A : Ad, A = ⟨B2, g2, go2, gm2, tc, td, te, .slice none 0 0, sb + 1, sb + 1, .slice none 0 0, .slice none 0 0⟩ := ⟨_, rfl⟩
  obtain ⟨ws, hws⟩ : ∃ ws, cutN us = ws := ⟨_, rfl⟩
  rw [← hAA, ← hAB, hws] at HDU
  have e1 : A.g = g := by rw [hAA]
  have e2 : A.sb = sb := by rw [hAA]
  have e3 : A'.g = g2 := by rw [hAB]
  have e4 : A'.sb = sb + 1 := by rw [hAB]
  rw [← e1, ← e2] at S10
  have HST : Hid (Scr 0 w w10 A A' rr ws ⟨0, [], noneO, [], []⟩ (.slice none 0 0) []) := ⟨HDU.out.grow b10, Sr.of S10, owns_nil _ _ _ _, (by intro c hc; cases hc), (by show 0 ≤ _; omega), fw0, HG.out⟩
  rw [← e1, ← e3, ← e4, ← e2]
  clear S10 b10 hrr HDU hAA hAB hws e1 e2 e3 e4
  go_wp2_with fail
  go_loopg [10, 11] 3 (fun gk vh vi wr => HadRel w A A' rr ws gk vh vi wr)
  case atStart => exact ⟨0, ⟨0, [], noneO, [], []⟩, [], A.v, A.dv, A.nv, A'.v, A'.dv, A'.nv, by omega, rfl, rfl, HST.out⟩
  case round =>
    obtain ⟨i, s, L, va, dv, nv, va', dv', nv', hi, rfl, hL, hS⟩ := hrel
    have HS := hide hS
    have HLL := hide hL
    clear hS HST hL
    cases gk with
    | succ g1 =>
      have hlt : (i : Int) < 3 := by omega
      have hi0 : (0 : Int) ≤ (i : Int) := by omega
      have HI := hide hi
      clear hi
      obtain ⟨R, hR⟩ : ∃ R, creF ws s.t s.es 5 s.T (i : Int) = R := ⟨_, rfl⟩
      have hcok := cre_cok (s := s) (p := 5) HS.out.du.x.wd (by decide) (i : Int)
      have hfew := cre_few (ws := ws) (p := 5) HS.out.few (i : Int)
      rw [hR] at hcok hfew
      obtain ⟨⟨qp, qo, qr, qc⟩, re, rt, res, rT⟩ := R
      have HR := hide hR
      have HCO := hide hcok
      have HFE := hide hfew
      clear hR hcok hfew
      go_wp2_with fail
      refine (tb_create (i : Int) _ HS.out.du.x (by have := HS.out.few.el; omega) _ HR.out).mono ?_; rintro e x1 ⟨rfl, E⟩
      obtain ⟨va1, dv1, nv1, B1⟩ := HS.out.bas.left E
      simp only [Cp.val]
      obtain ⟨V, hV⟩ : ∃ V, x1.alloc (.cells #[.int .u64 (qp : Int), .int .u32 (qo : Int), .int .u8 (qr : Int), .int .u64 (qc : Int)] 41) = V := ⟨_, rfl⟩
      have bV : Below x1.heap.size x1 V := hV ▸ below_alloc _ _
      have HCB : Hid (CBox V x1.heap.size qp qo qr qc) := hV ▸ CBox.new x1 qp qo qr qc
      have HBV := hide (B1.grow bV)
      obtain ⟨gc, hgc⟩ : ∃ gc, x1.heap.size = gc := ⟨_, rfl⟩
      rw [hgc] at HCB
      clear E B1 bV
      go_wp2_with fail
      refine (tb_create (i : Int) _ HBV.out.du.y (by have := HS.out.few.el; omega) _ HR.out).mono ?_; rintro e x2 ⟨rfl, E⟩
      obtain ⟨va2, dv2, nv2, B2⟩ := HBV.out.right E
      have HB2 := hide B2
      have cb2 : CBox x2 gc qp qo qr qc := HCB.out.kh (HBV.out.du.y.kh E)
      have c0 : x2.cell? ⟨gc, 0, none⟩ = some (.int .u64 (qp : Int)) := cb2.c0
      have c1 : x2.cell? ⟨gc, 1, none⟩ = some (.int .u32 (qo : Int)) := cb2.c1
      have c2 : x2.cell? ⟨gc, 2, none⟩ = some (.int .u8 (qr : Int)) := cb2.c2
      have c3 : x2.cell? ⟨gc, 3, none⟩ = some (.int .u64 (qc : Int)) := cb2.c3
      obtain ⟨v', w', hr, ho', hf, -⟩ := app_cap qp qo qr qc B2.row (by have := HLL.out; omega) B2.bel.size
      have hB3 := B2.app (L' := L ++ [⟨qp, qo, qr, qc⟩]) hf (by rw [len_snoc]; exact ho')
      have HB3 := hide hB3
      have HRN := hide hr
      clear E B2 cb2 hV hgc hr ho' hf hB3
      simp only [Cp.val]
      go_wp2_with (at_builtin; refine wpList_append_run rfl _ _ _ rfl _ _ _ _ rfl rfl HRN.out ?_)
      go_roundg g1
      case measure => have := HI.out; omega
      case rel =>
        refine ⟨i + 1, s.tab rt res rT, L ++ [⟨qp, qo, qr, qc⟩], va1, dv1, nv1, va2, dv2, nv2, by have := HI.out; omega, by go_num, by rw [len_snoc, HLL.out], HB3.out.du, HB3.out.sr, HB3.out.row, ?_, by rw [len_snoc, HLL.out]; have := HI.out; omega, HFE.out, HB3.out.gl⟩
        intro c hc
        rcases List.mem_append.1 hc with hc | hc
        · exact HS.out.ok c hc
        · rw [List.mem_singleton.1 hc]; exact HCO.out
    | zero =>
      have hlt : ¬ ((i : Int) < 3) := by omega
      have HI := hide hi
      clear hi
      go_wp2_with fail
      go_loopg [10, 61] na (fun gk vh vi wr => SrvRel w A A' rr ws na gk vh vi wr)
      case atStart => exact ⟨0, rfl, by omega, s, L, va, dv, nv, va', dv', nv', by have := HLL.out; have := HI.out; omega, HS.out⟩
      case round =>
        clear HS HLL HI hlt
        obtain ⟨i, rfl, hi, hrel⟩ := hrel
        obtain ⟨s, L, va, dv, nv, va', dv', nv', hL, hS⟩ := hrel
        have HS := hide hS
        have HLL := hide hL
        clear hS hL
        cases gk with
        | zero =>
          obtain rfl : i = na := by omega
          have hlt : ¬ ((i : Int) < (i : Int)) := by omega
          obtain ⟨po, pc, hdv, hp1, hp2⟩ := HS.out.du.x.fd
          obtain ⟨qo, qc, hnv, hq1, hq2⟩ := HS.out.du.x.fn
          obtain ⟨po', pc', hdv', hp1', hp2'⟩ := HS.out.du.y.fd
          obtain ⟨qo', qc', hnv', hq1', hq2'⟩ := HS.out.du.y.fn
          have hdv : dv = _ := hdv
          have hnv : nv = _ := hnv
          have hdv' : dv' = _ := hdv'
          have hnv' : nv' = _ := hnv'
          subst hdv hnv hdv' hnv'
          have HB := hide HS.out.bas
          have d0 : wr.cell? ⟨A.sb, 0, none⟩ = some (.slice po s.D.length pc) := HB.out.du.x.cd
          have d1 : wr.cell? ⟨A.sb, 1, none⟩ = some (.slice qo s.G.length qc) := HB.out.du.x.cn
          clear HS hi
          go_wp2_with fail
          go_loopg [160] s.D.length (fun gk vi wx => EndU w (A.upd va (.slice po s.D.length pc) (.slice qo s.G.length qc)) (A'.upd va' (.slice po' s.D.length pc') (.slice qo' s.G.length qc')) rr ws s u10 L s.D.length gk vi wx)
          case atStart => exact ⟨0, rfl, by omega, HB.out⟩
          case round =>
            clear HB d0 d1
            obtain ⟨k, rfl, hk, hB⟩ := hrel
            have HB' := hide hB
            clear hB
            cases gk with
            | succ g2 =>
              have hkn : k < s.D.length := by omega
              have hk1 : (k : Int) < (s.D.length : Int) := by omega
              have hk0 : (0 : Int) ≤ (k : Int) := by omega
              obtain ⟨b, hb1, x0⟩ := owns_one HB'.out.du.x.dn hkn
              obtain ⟨b', hb2, x1⟩ := owns_one HB'.out.du.y.dn hkn
              obtain ⟨z, hz⟩ : ∃ z, s.D.getD k 0 = z := ⟨_, rfl⟩
              rw [hz] at x0 x1
              have c0 := HB'.out.du.x.cd
              have c1 := HB'.out.du.y.cd
              have HP : Hid ((fun W : World => W.cell? ⟨A.sb, 0, none⟩ = some (.slice po s.D.length pc) ∧ W.cell? ⟨b, k, none⟩ = some (.int .u64 z) ∧ W.cell? ⟨A'.sb, 0, none⟩ = some (.slice po' s.D.length pc') ∧ W.cell? ⟨b', k, none⟩ = some (.int .u64 z)) wr.drew) := ⟨c0, x0, c1, x1⟩
              have HBD := hide (HB'.out.drewN 1)
              have HK := hide hk
              clear x0 x1 c0 c1 hz hk hkn
              subst hb1 hb2
              go_wp2_with fail
              go_region_held (fun W : World => W.cell? ⟨A.sb, 0, none⟩ = some (.slice (some ⟨b, 0, none⟩) s.D.length pc) ∧ W.cell? ⟨b, k, none⟩ = some (.int .u64 z) ∧ W.cell? ⟨A'.sb, 0, none⟩ = some (.slice (some ⟨b', 0, none⟩) s.D.length pc') ∧ W.cell? ⟨b', k, none⟩ = some (.int .u64 z)) (exact HP.out) (fail)
              go_wp2_with fail
              go_roundg g2
              case measure => have := HK.out; omega
              case rel => exact ⟨k + 1, by go_num, by have := HK.out; omega, HBD.out⟩
            | zero =>
              have hkn : ¬ ((k : Int) < (s.D.length : Int)) := by omega
              clear hk
              have d0 : wr.cell? ⟨A.sb, 0, none⟩ = some (.slice po s.D.length pc) := HB'.out.du.x.cd
              have d1 : wr.cell? ⟨A.sb, 1, none⟩ = some (.slice qo s.G.length qc) := HB'.out.du.x.cn
              go_wp2_with fail
              go_loopg [184] s.G.length (fun gk vi wx => EndU w (A.upd va (.slice po s.D.length pc) (.slice qo s.G.length qc)) (A'.upd va' (.slice po' s.D.length pc') (.slice qo' s.G.length qc')) rr ws s u10 L s.G.length gk vi wx)
              case atStart => exact ⟨0, rfl, by omega, HB'.out⟩
              case round =>
                clear HB' d0 d1
                obtain ⟨k, rfl, hk, hB⟩ := hrel
                have HB'' := hide hB
                clear hB
                cases gk with
                | succ g3 =>
                  have hkn : k < s.G.length := by omega
                  have hk1 : (k : Int) < (s.G.length : Int) := by omega
                  have hk0 : (0 : Int) ≤ (k : Int) := by omega
                  obtain ⟨b, hb1, x0⟩ := owns_one HB''.out.du.x.gn hkn
                  obtain ⟨b', hb2, x1⟩ := owns_one HB''.out.du.y.gn hkn
                  obtain ⟨z, hz⟩ : ∃ z, s.G.getD k 0 = z := ⟨_, rfl⟩
                  rw [hz] at x0 x1
                  have c0 := HB''.out.du.x.cn
                  have c1 := HB''.out.du.y.cn
                  have HP : Hid ((fun W : World => W.cell? ⟨A.sb, 1, none⟩ = some (.slice qo s.G.length qc) ∧ W.cell? ⟨b, k, none⟩ = some (.int .i64 z) ∧ W.cell? ⟨A'.sb, 1, none⟩ = some (.slice qo' s.G.length qc') ∧ W.cell? ⟨b', k, none⟩ = some (.int .i64 z)) wr.drew) := ⟨c0, x0, c1, x1⟩
                  have HBD := hide (HB''.out.drewN 1)
                  have HK := hide hk
                  clear x0 x1 c0 c1 hz hk hkn
                  subst hb1 hb2
                  go_wp2_with fail
                  go_region_held (fun W : World => W.cell? ⟨A.sb, 1, none⟩ = some (.slice (some ⟨b, 0, none⟩) s.G.length qc) ∧ W.cell? ⟨b, k, none⟩ = some (.int .i64 z) ∧ W.cell? ⟨A'.sb, 1, none⟩ = some (.slice (some ⟨b', 0, none⟩) s.G.length qc') ∧ W.cell? ⟨b', k, none⟩ = some (.int .i64 z)) (exact HP.out) (fail)
                  go_wp2_with fail
                  go_roundg g3
                  case measure => have := HK.out; omega
                  case rel => exact ⟨k + 1, by go_num, by have := HK.out; omega, HBD.out⟩
                | zero =>
                  have hkn : ¬ ((k : Int) < (s.G.length : Int)) := by omega
                  clear hk
                  go_wp2
                  go_ret
                  exact ⟨rfl, HB''.out.bel⟩
        | succ g1 =>
          have hin : i < na := by omega
          have hlt : (i : Int) < (na : Int) := by omega
          have hi0 : (0 : Int) ≤ (i : Int) := by omega
          obtain ⟨ad, hao⟩ := HA.out.there hin
          have hat := HA.out.2.2.2.2 ad hao i hin
          have hmem : xs.getD i Ac.zero ∈ xs := by
            have h1 : i < xs.length := by have := HNX.out; omega
            rw [List.getD_eq_getElem?_getD, List.getElem?_eq_getElem h1]; exact List.getElem_mem h1
          have hsn := HSN.out _ hmem
          obtain ⟨x, hx⟩ : ∃ x, xs.getD i Ac.zero = x := ⟨_, rfl⟩
          rw [hx] at hat hsn
          obtain ⟨xo, xw, xc, xm, so, sn, sc, l⟩ := x
          obtain ⟨⟨q0, q1, q2, q3⟩, hbt⟩ := hat.1
          simp only at q0 q1 q2 q3 hbt hsn
          obtain ⟨ad2, hadd⟩ : ∃ a, ad.add (i * 14) = a := ⟨_, rfl⟩
          rw [hadd] at hat
          obtain ⟨a0, a1, a2, a3, a4, a5, a6, a7, a8, a9, a10, a11, a12, a13⟩ := hat.all HS.out.du.x.bel
          simp only at a0 a1 a2 a3 a4 a5 a6 a7 a8 a9 a10 a11 a12 a13
          have HQ := hide (And.intro q0 (And.intro q1 (And.intro q2 q3)))
          have HBT := hide hbt
          have HSX := hide hsn
          have HI := hide hi
          clear hat hx hmem q0 q1 q2 q3 hbt hsn hi
          obtain ⟨V, hV⟩ : ∃ V, wr.alloc (.cells #[.int .u16 (xo : Int), .int .u8 (xw : Int), .int .u8 (xc : Int), .int .u64 (xm.ta : Int), .int .u64 (xm.rp : Int), .int .u32 (xm.id : Int), .int .u16 (xm.op : Int), .int .u16 (xm.st : Int), .int .u64 (xm.p : Int), .int .u32 (xm.o : Int), .int .u8 (xm.r : Int), .int .u64 (xm.c : Int), .int .u64 (xm.ar : Int), .slice so sn sc] 51) = V := ⟨_, rfl⟩
          have bV : Below wr.heap.size wr V := hV ▸ below_alloc _ _
          have hAB : AB V wr.heap.size ⟨xo, xw, xc, xm, so, sn, sc, l⟩ := hV ▸ AB.new wr ⟨xo, xw, xc, xm, so, sn, sc, l⟩
          obtain ⟨ga, hga⟩ : ∃ g, wr.heap.size = g := ⟨_, rfl⟩
          rw [hga] at hAB
          obtain ⟨V2, hV2⟩ : ∃ V2, V.alloc (.cells #[.int .u64 (xm.ta : Int), .int .u64 (xm.rp : Int), .int .u32 (xm.id : Int), .int .u16 (xm.op : Int), .int .u16 (xm.st : Int), .int .u64 (xm.p : Int), .int .u32 (xm.o : Int), .int .u8 (xm.r : Int), .int .u64 (xm.c : Int), .int .u64 (xm.ar : Int), .slice so sn sc] 49) = V2 := ⟨_, rfl⟩
          have bV2 : Below V.heap.size V V2 := hV2 ▸ below_alloc _ _
          obtain ⟨gm, hgm⟩ : ∃ g, V.heap.size = g := ⟨_, rfl⟩
          have HMB : Hid (MB V2 gm xm (.slice so sn sc)) := by show MB _ _ _ _; rw [← hgm, ← hV2]; exact mb_new V xm _
          have HAB := hide (hAB.grow bV2)
          have HGM : Hid (w.heap.size ≤ gm ∧ w.heap.size ≤ ga ∧ ga < gm) := by
            show _ ∧ _ ∧ _
            have := HS.out.du.x.bel.size
            have := lt_of_heap hAB
            omega
          have HBA := hide ((HS.out.bas.grow bV).grow bV2)
          obtain ⟨v0, v1, v2, v3, v4, v5, v6, v7, v8, v9, v10, v11, v12, v13⟩ := hAB.all
          obtain ⟨f0, f1, f2, f3, f4, f5, f6, f7, f8, f9, f10, f11, f12, f13⟩ := HAB.out.all
          simp only at v0 v1 v2 v3 v4 v5 v6 v7 v8 v9 v10 v11 v12 v13 f0 f1 f2 f3 f4 f5 f6 f7 f8 f9 f10 f11 f12 f13
          clear bV bV2 hAB
          go_wp2_with fail
          refine (op_any xo xw xc xm so sn sc _ HQ.out.1).mono ?_; rintro e V3 ⟨rfl, b3⟩
          obtain ⟨op, hop⟩ : ∃ op, opF xo = op := ⟨_, rfl⟩
          have HOP : Hid (op ≤ 65535) := by show _ ≤ _; rw [← hop]; exact opF_le HQ.out.1
          rw [hop]
          have HM3 := hide (HMB.out.grow b3)
          have HA3 := hide (HAB.out.grow b3)
          have HB3 := hide (HBA.out.grow b3)
          clear a0 v0 f0 a1 v1 f1 a2 v2 f2 a3 v3 f3 a4 v4 f4 a5 v5 f5 a6 v6 f6 a7 v7 f7 a8 v8 f8 a9 v9 f9 a10 v10 f10 a11 v11 f11 a12 v12 f12 a13 v13 f13 b3 HMB HAB HBA hV hV2 hadd hop hga hgm hao
          have HS2 := HS
          clear HS
          have z3 := HM3.out.z 3
          obtain ⟨y0, y1, y2, y3, y4, y5, y6, y7, y8, y9, y10⟩ := HM3.out.all
          obtain ⟨V4, hV4⟩ : ∃ V4, V3.setCell ⟨gm, 3, none⟩ (.int .u16 (op : Int)) = V4 := ⟨_, rfl⟩
          have hm4 := HM3.out.put3 op
          have hf4 := foot_one V3 gm 3 (.int .u16 (op : Int))
          rw [hV4] at hm4 hf4
          have HM4 := hide hm4
          have HA4 := hide (HA3.out.foot hf4 (by show ¬ ga = gm; have := HGM.out; omega))
          have HB4 := hide (HB3.out.lay HM3.out HGM.out.1 hf4)
          clear hm4 hf4 HA3 HB3
          obtain ⟨v0, v1, v2, v3, v4, v5, v6, v7, v8, v9, v10, v11, v12, v13⟩ := HA4.out.all
          simp only at v0 v1 v2 v3 v4 v5 v6 v7 v8 v9 v10 v11 v12 v13
          obtain ⟨d, hd⟩ : ∃ d, xc % 8 = d := ⟨_, rfl⟩
          have hdi : (xc : Int) % 8 = (d : Int) := by omega
          have htd : (xc : Int).tmod 8 = (d : Int) := by rw [Int.tmod_eq_emod_of_nonneg (by omega)]; exact hdi
          have HD := hide hd
          clear hd
          go_upto_if 73 with fail
          clear y0 y1 y2 y3 y4 y5 y6 y7 y8 y9 y10 z3 hV4 HM3
          go_cut [] from 70 to 98 (fun wx => ∃ m' : Msg, Chs w wx gm op so sn sc (A.upd va dv nv) (A'.upd va' dv' nv') rr ws s u10 L m')
          case first =>
            by_cases h0 : d = 0
            · have hgt : ¬ ((0 : Int) < (d : Int)) := by omega
              clear h0
              go_wp2_with fail
              go_meet
              exact ⟨_, HM4.out, rfl, ⟨HQ.out.2.2.2.1, HQ.out.2.2.2.2.1, HQ.out.2.2.2.2.2.1, HOP.out, HQ.out.2.2.2.2.2.2.2.1, HQ.out.2.2.2.2.2.2.2.2⟩, HB4.out⟩
            · have hgt : (0 : Int) < (d : Int) := by omega
              have HD0 := hide h0
              clear h0
              obtain ⟨n, hn⟩ : ∃ n, L.length = n := ⟨_, rfl⟩
              obtain ⟨r, hr⟩ : ∃ r, xw % n = r := ⟨_, rfl⟩
              have h0 : 0 < n := by have := HLL.out; omega
              have hrn : r < n := by rw [← hr]; exact Nat.mod_lt _ h0
              have hrn1 : (r : Int) < (n : Int) := by omega
              have hn0 : (0 : Int) < (n : Int) := by omega
              have hmod : (xw : Int) % (n : Int) = (r : Int) := by omega
              have htm : (xw : Int).tmod (n : Int) = (r : Int) := by rw [Int.tmod_eq_emod_of_nonneg (by omega)]; exact hmod
              have hwl := HQ.out.2.1
              have hwr : IntKind.i64.wrap (xw : Int) = (xw : Int) := by rw [IntKind.wrap_i64]; omega
              rcases hx : L.getD r Cp.zero with ⟨xp, xq, xr, xk⟩
              have hrl : r < L.length := by omega
              have hok := HS2.out.ok _ (cap_in hrl)
              rw [hx] at hok
              have hrow := HB4.out.row
              obtain ⟨b, cap, hvh, hc1, hc2, x0, x1, x2, x3⟩ := owns_cap hrow rfl r hrl xp xq xr xk hx
              have hc3 : cap ≤ 9223372036854775807 := hc2
              rw [hn] at hvh hc1
              subst hvh
              have HOK := hide hok
              have HNN := hide hn
              have z5 := HM4.out.z 5
              have z6 := HM4.out.z 6
              have z7 := HM4.out.z 7
              have z8 := HM4.out.z 8
              obtain ⟨y0, y1, y2, y3, y4, y5, y6, y7, y8, y9, y10⟩ := HM4.out.all
              obtain ⟨V5, hV5⟩ : ∃ V5, layC V4 gm xp xq xr xk = V5 := ⟨_, rfl⟩
              have hm5 := HM4.out.putC xp xq xr xk
              have hf5 := foot_layC V4 gm xp xq xr xk
              rw [hV5] at hm5 hf5
              have HM5 := hide hm5
              have HA5 := hide (HA4.out.foot hf5 (by show ¬ ga = gm; have := HGM.out; omega))
              have HB5 := hide (HB4.out.lay HM4.out HGM.out.1 hf5)
              unfold layC at hV5
              obtain ⟨f0, f1, f2, f3, f4, f5, f6, f7, f8, f9, f10, f11, f12, f13⟩ := HA5.out.all
              simp only at f0 f1 f2 f3 f4 f5 f6 f7 f8 f9 f10 f11 f12 f13
              obtain ⟨k0, k1, k2, k3, k4, k5, k6, k7, k8, k9, k10⟩ := HM5.out.all
              have z7' := HM5.out.z 7
              simp only at k0 k1 k2 k3 k4 k5 k6 k7 k8 k9 k10
              clear hx hrl hok hrow hm5 hf5 hr h0 hn
              by_cases h1 : d = 1
              · have hd1 : ((d : Int) == 1) = true := by rw [h1]; rfl
                clear h1
                have fin : ∀ z : Int, (Lit.int .u8 z).wf = true → ∃ m' : Msg, Chs w (V5.setCell ⟨gm, 7, none⟩ (.int .u8 z)) gm op so sn sc (A.upd va dv nv) (A'.upd va' dv' nv') rr ws s (.slice (some ⟨b, 0, none⟩) n cap) L m' := fun z hz => by
                  obtain ⟨q, rfl, hq⟩ := u8_nat hz
                  exact ⟨_, HM5.out.put7 q, rfl, ⟨HQ.out.2.2.2.1, HQ.out.2.2.2.2.1, HQ.out.2.2.2.2.2.1, HOP.out, HQ.out.2.2.2.2.2.2.2.1, HOK.out.1, HOK.out.2.1, hq, HOK.out.2.2.2, HQ.out.2.2.2.2.2.2.2.2.2.2.2.2⟩, HB5.out.lay HM5.out HGM.out.1 (foot_one V5 gm 7 _)⟩
                have FIN := hide fin
                clear fin
                go_wp2_with fail
                go_meet
                exact FIN.out _ (wf_bits _ _ _ _)
              · have hd1 : ((d : Int) == 1) = false := by rw [beq_eq_false_iff_ne]; omega
                clear h1
                go_wp2_with fail
                go_meet
                exact ⟨_, HM5.out, rfl, ⟨HQ.out.2.2.2.1, HQ.out.2.2.2.2.1, HQ.out.2.2.2.2.2.1, HOP.out, HQ.out.2.2.2.2.2.2.2.1, HOK.out.1, HOK.out.2.1, HOK.out.2.2.1, HOK.out.2.2.2, HQ.out.2.2.2.2.2.2.2.2.2.2.2.2⟩, HB5.out⟩
          case rest =>
            obtain ⟨m, hch⟩ := hcut
            have HCM := hide hch.mb
            have HCO := hide hch.op
            have HCK := hide hch.ok
            have HCB := hide hch.ba
            clear hch v0 v1 v2 v3 v4 v5 v6 v7 v8 v9 v10 v11 v12 v13 HM4 HA4 HB4
            obtain ⟨R, hR⟩ : ∃ R, outF ws 5 s m.op ⟨m.p, m.o, m.r, m.c⟩ m.ar = R := ⟨_, rfl⟩
            have HR := hide hR
            have HOKM : Hid (Okm w m so sn) := ⟨⟨HCK.out.2.2.2.2.2.1, HCK.out.2.2.2.2.2.2.1, HCK.out.2.2.2.2.2.2.2.1, HCK.out.2.2.2.2.2.2.2.2.1⟩, HCK.out.2.2.2.1, HCK.out.2.2.2.2.2.2.2.2.2, by have := HSX.out; omega, fun h0 ad e => lt_of_cell (HBT.out.2.2.2.2 ad e 0 (by have := HBT.out.1; omega))⟩
            have HLM : Hid (Lim s) := HS2.out.few.lim (by have := HNA.out; omega)
            have HFW : Hid (Fw (i + 1) R.s) := hR ▸ out_few HS2.out.few m.op ⟨m.p, m.o, m.r, m.c⟩ m.ar
            have HOC : Hid (m.op = 3 ∨ m.op = 4 → R.c.ok) := fun ho => hR ▸ out_ok HS2.out.du.x.wd m.ar HOKM.out.c (by decide) ho
            clear hR
            go_wp2_with fail
            obtain ⟨M2, hM2⟩ : ∃ M2, rplF m R = M2 := ⟨_, rfl⟩
            obtain ⟨dd, hdd⟩ : ∃ d, datF R l = d := ⟨_, rfl⟩
            have HEM := hide hM2
            have HDD := hide hdd
            clear hM2 hdd
            go_cut [17, 18] from 99 to 105 (fun v17 v18 wx => MidRel w (A.upd va dv nv) (A'.upd va' dv' nv') rr ws R.s u10 L gm m (.slice so sn sc) M2 dd v17 v18 wx)
            case first =>
              have F0 : MB wc.drew gm m (.slice so sn sc) ∧ Bas w wc.drew (A.upd va dv nv) (A'.upd va' dv' nv') rr ws s s u10 L := ⟨HCM.out, HCB.out.drewN 1⟩
              have hS : Hid ((wc.drew.cell? ⟨gm, 0, none⟩ = some (.int .u64 m.ta) ∧ wc.drew.cell? ⟨gm, 1, none⟩ = some (.int .u64 m.rp) ∧ wc.drew.cell? ⟨gm, 2, none⟩ = some (.int .u32 m.id) ∧ wc.drew.cell? ⟨gm, 3, none⟩ = some (.int .u16 m.op) ∧ wc.drew.cell? ⟨gm, 4, none⟩ = some (.int .u16 m.st) ∧ wc.drew.cell? ⟨gm, 5, none⟩ = some (.int .u64 m.p) ∧ wc.drew.cell? ⟨gm, 6, none⟩ = some (.int .u32 m.o) ∧ wc.drew.cell? ⟨gm, 7, none⟩ = some (.int .u8 m.r) ∧ wc.drew.cell? ⟨gm, 8, none⟩ = some (.int .u64 m.c) ∧ wc.drew.cell? ⟨gm, 9, none⟩ = some (.int .u64 m.ar) ∧ wc.drew.cell? ⟨gm, 10, none⟩ = some (.slice so sn sc))) := F0.1.all
              refine wp_region_held_drew (S := fun U => (U.cell? ⟨gm, 0, none⟩ = some (.int .u64 m.ta) ∧ U.cell? ⟨gm, 1, none⟩ = some (.int .u64 m.rp) ∧ U.cell? ⟨gm, 2, none⟩ = some (.int .u32 m.id) ∧ U.cell? ⟨gm, 3, none⟩ = some (.int .u16 m.op) ∧ U.cell? ⟨gm, 4, none⟩ = some (.int .u16 m.st) ∧ U.cell? ⟨gm, 5, none⟩ = some (.int .u64 m.p) ∧ U.cell? ⟨gm, 6, none⟩ = some (.int .u32 m.o) ∧ U.cell? ⟨gm, 7, none⟩ = some (.int .u8 m.r) ∧ U.cell? ⟨gm, 8, none⟩ = some (.int .u64 m.c) ∧ U.cell? ⟨gm, 9, none⟩ = some (.int .u64 m.ar) ∧ U.cell? ⟨gm, 10, none⟩ = some (.slice so sn sc))) (by kernel_rfl) hS.out (fun _ => ?_)
              generalize wc.drew = u0 at F0 hS ⊢
              have HM0 := hide F0.1
              have HC0 := hide F0.2
              clear F0
              refine wpAnyH_take (i := 0) (oi := { dst := some 99, op := Op.move (Operand.tmp 9), type := 36, pos := "law.go:156", after := #[], guard := none }) (v := (.pointer (some ⟨rr, 0, none⟩))) rfl (by kernel_rfl) (by kernel_rfl) (by kernel_rfl) (fun _ _ _ h => h) (Or.inl ⟨by kernel_rfl, fun w hC => by go_simp⟩) hS.out ?_
              simp only [Act.put, List.setIfInBounds_toArray, List.set_cons_zero, List.set_cons_succ]
              refine wpAnyH_take (i := 1) (oi := { dst := some 100, op := Op.load 49 (Operand.tmp 16), type := 49, pos := "law.go:156", after := #[], guard := none }) (v := (.agg #[.int .u64 (m.ta : Int), .int .u64 (m.rp : Int), .int .u32 (m.id : Int), .int .u16 (m.op : Int), .int .u16 (m.st : Int), .int .u64 (m.p : Int), .int .u32 (m.o : Int), .int .u8 (m.r : Int), .int .u64 (m.c : Int), .int .u64 (m.ar : Int), .slice so sn sc])) rfl (by kernel_rfl) (by kernel_rfl) (by kernel_rfl) (fun _ _ _ h => h) (Or.inl ⟨by kernel_rfl, fun w hC => by (obtain ⟨k0, k1, k2, k3, k4, k5, k6, k7, k8, k9, k10⟩ := hC; go_simp)⟩) hS.out ?_
              simp only [Act.put, List.setIfInBounds_toArray, List.set_cons_zero, List.set_cons_succ]
              refine wpAnyH_take (i := 3) (oi := { dst := some 102, op := Op.move (Operand.tmp 6), type := 25, pos := "law.go:156", after := #[], guard := none }) (v := (.pointer (some ⟨A'.g, 0, none⟩))) rfl (by kernel_rfl) (by kernel_rfl) (by kernel_rfl) (fun _ _ _ h => h) (Or.inl ⟨by kernel_rfl, fun w hC => by go_simp⟩) hS.out ?_
              simp only [Act.put, List.setIfInBounds_toArray, List.set_cons_zero, List.set_cons_succ]
              refine wpAnyH_take (i := 4) (oi := { dst := some 103, op := Op.move (Operand.tmp 8), type := 32, pos := "law.go:156", after := #[], guard := none }) (v := (.pointer (some ⟨A'.sb, 0, none⟩))) rfl (by kernel_rfl) (by kernel_rfl) (by kernel_rfl) (fun _ _ _ h => h) (Or.inl ⟨by kernel_rfl, fun w hC => by go_simp⟩) hS.out ?_
              simp only [Act.put, List.setIfInBounds_toArray, List.set_cons_zero, List.set_cons_succ]
              refine wpAnyH_take (i := 5) (oi := { dst := some 104, op := Op.load 49 (Operand.tmp 16), type := 49, pos := "law.go:156", after := #[], guard := none }) (v := (.agg #[.int .u64 (m.ta : Int), .int .u64 (m.rp : Int), .int .u32 (m.id : Int), .int .u16 (m.op : Int), .int .u16 (m.st : Int), .int .u64 (m.p : Int), .int .u32 (m.o : Int), .int .u8 (m.r : Int), .int .u64 (m.c : Int), .int .u64 (m.ar : Int), .slice so sn sc])) rfl (by kernel_rfl) (by kernel_rfl) (by kernel_rfl) (fun _ _ _ h => h) (Or.inl ⟨by kernel_rfl, fun w hC => by (obtain ⟨k0, k1, k2, k3, k4, k5, k6, k7, k8, k9, k10⟩ := hC; go_simp)⟩) hS.out ?_
              simp only [Act.put, List.setIfInBounds_toArray, List.set_cons_zero, List.set_cons_succ]
              refine wpAnyH_ready (rs := [2, 7, 8]) (by kernel_rfl) (by simp) ?_
              refine AllReadyH.cons (o := { dst := some 101, op := Op.call { callee := Callee.value (Operand.func 14), args := #[Operand.tmp 99, Operand.tmp 100], argTypes := #[36, 49] }, type := 49, pos := "law.go:156", after := #[{ on := 0, ground := Ground.data }, { on := 1, ground := Ground.data }], guard := none }) rfl (fun KK hKK => ?_) (AllReadyH.cons (o := { dst := some 17, op := Op.alloc 49, type := 0, pos := "law.go:156", after := #[], guard := none }) rfl (fun KK hKK => ?_) (AllReadyH.cons (o := { dst := some 18, op := Op.alloc 49, type := 0, pos := "law.go:156", after := #[], guard := none }) rfl (fun KK hKK => ?_) AllReadyH.nil))
              · go_simp
                refine (serve_any m so sn sc l _ HC0.out.sr HC0.out.du.x (HBT.out.carry HC0.out.bel) HOKM.out HLM.out HC0.out.gl R HR.out).mono ?_; rintro e u1 ⟨mm, co, cn, cc, hmm, rfl, hb, hn, E⟩
                obtain rfl : M2 = mm := HEM.out.symm.trans hmm.symm
                rw [HDD.out] at hb hn
                obtain ⟨va1, dv1, nv1, B1⟩ := HC0.out.left E
                have kk := HC0.out.du.x.kh E
                have HM1 := hide (HM0.out.kh kk)
                have HC1 := hide B1
                have HT1 := hide hb
                have HTN := hide hn
                have HUP : Hid (∀ j, SvS (A'.upd va' dv' nv') j → j < u0.heap.size) := fun j e => (HC0.out.du.y.up e).2
                have hS : Hid ((u1.cell? ⟨gm, 0, none⟩ = some (.int .u64 m.ta) ∧ u1.cell? ⟨gm, 1, none⟩ = some (.int .u64 m.rp) ∧ u1.cell? ⟨gm, 2, none⟩ = some (.int .u32 m.id) ∧ u1.cell? ⟨gm, 3, none⟩ = some (.int .u16 m.op) ∧ u1.cell? ⟨gm, 4, none⟩ = some (.int .u16 m.st) ∧ u1.cell? ⟨gm, 5, none⟩ = some (.int .u64 m.p) ∧ u1.cell? ⟨gm, 6, none⟩ = some (.int .u32 m.o) ∧ u1.cell? ⟨gm, 7, none⟩ = some (.int .u8 m.r) ∧ u1.cell? ⟨gm, 8, none⟩ = some (.int .u64 m.c) ∧ u1.cell? ⟨gm, 9, none⟩ = some (.int .u64 m.ar) ∧ u1.cell? ⟨gm, 10, none⟩ = some (.slice so sn sc))) := HM1.out.all
                refine hKK.out _ _ hS.out (fun _ => ?_)
                clear hKK kk hb hn E B1 hmm
                refine wpAnyH_ready (rs := [6, 7, 8]) (by kernel_rfl) (by simp) ?_
                refine AllReadyH.cons (o := { dst := some 105, op := Op.call { callee := Callee.value (Operand.func 15), args := #[Operand.tmp 102, Operand.tmp 103, Operand.tmp 104], argTypes := #[25, 32, 49] }, type := 49, pos := "law.go:156", after := #[{ on := 3, ground := Ground.data }, { on := 4, ground := Ground.data }, { on := 5, ground := Ground.data }, { on := 2, ground := Ground.chain }], guard := none }) rfl (fun KK hKK => ?_) (AllReadyH.cons (o := { dst := some 17, op := Op.alloc 49, type := 0, pos := "law.go:156", after := #[], guard := none }) rfl (fun KK hKK => ?_) (AllReadyH.cons (o := { dst := some 18, op := Op.alloc 49, type := 0, pos := "law.go:156", after := #[], guard := none }) rfl (fun KK hKK => ?_) AllReadyH.nil))
                · go_simp
                  refine (want_any m so sn sc l _ HC1.out.du.y (HBT.out.carry HC1.out.bel) HOKM.out HLM.out HC1.out.gl R HR.out).mono ?_; rintro e u2 ⟨mm, bo, bn, bc, hmm, rfl, hb, hn, E⟩
                  obtain rfl : M2 = mm := HEM.out.symm.trans hmm.symm
                  rw [HDD.out] at hb hn
                  obtain ⟨va2, dv2, nv2, B2⟩ := HC1.out.right E
                  have kk := HC1.out.du.y.kh E
                  have HM2 := hide (HM1.out.kh kk)
                  have HC2 := hide B2
                  have HT2 := hide (Bts.half HT1.out HTN.out HUP.out E)
                  have HW2 := hide hb
                  have hS : Hid ((u2.cell? ⟨gm, 0, none⟩ = some (.int .u64 m.ta) ∧ u2.cell? ⟨gm, 1, none⟩ = some (.int .u64 m.rp) ∧ u2.cell? ⟨gm, 2, none⟩ = some (.int .u32 m.id) ∧ u2.cell? ⟨gm, 3, none⟩ = some (.int .u16 m.op) ∧ u2.cell? ⟨gm, 4, none⟩ = some (.int .u16 m.st) ∧ u2.cell? ⟨gm, 5, none⟩ = some (.int .u64 m.p) ∧ u2.cell? ⟨gm, 6, none⟩ = some (.int .u32 m.o) ∧ u2.cell? ⟨gm, 7, none⟩ = some (.int .u8 m.r) ∧ u2.cell? ⟨gm, 8, none⟩ = some (.int .u64 m.c) ∧ u2.cell? ⟨gm, 9, none⟩ = some (.int .u64 m.ar) ∧ u2.cell? ⟨gm, 10, none⟩ = some (.slice so sn sc))) := HM2.out.all
                  refine hKK.out _ _ hS.out (fun _ => ?_)
                  clear hKK kk hb hn E B2 hmm
                  refine wpAnyH_ready (rs := [7, 8]) (by kernel_rfl) (by simp) ?_
                  refine AllReadyH.cons (o := { dst := some 17, op := Op.alloc 49, type := 0, pos := "law.go:156", after := #[], guard := none }) rfl (fun KK hKK => ?_) (AllReadyH.cons (o := { dst := some 18, op := Op.alloc 49, type := 0, pos := "law.go:156", after := #[], guard := none }) rfl (fun KK hKK => ?_) AllReadyH.nil)
                  · obtain ⟨u3, hv⟩ : ∃ u3, u2.alloc (.cells #[.int .u64 0, .int .u64 0, .int .u32 0, .int .u16 0, .int .u16 0, .int .u64 0, .int .u32 0, .int .u8 0, .int .u64 0, .int .u64 0, .slice none 0 0] 49) = u3 := ⟨_, rfl⟩
                    have bv : Below u2.heap.size u2 u3 := hv ▸ below_alloc _ _
                    have HM3 := hide (HM2.out.grow bv)
                    have HC3 := hide (HC2.out.grow bv)
                    have HT3 := hide (Bts.carry HT2.out bv)
                    have HW3 := hide (Bts.carry HW2.out bv)
                    obtain ⟨ga, hg⟩ : ∃ g, u2.heap.size = g := ⟨_, rfl⟩
                    have HAN : Hid (w.heap.size ≤ ga ∧ gm ≠ ga) := by show _ ∧ _; rw [← hg]; have := HC2.out.bel.size; have := lt_of_heap HM2.out; omega
                    have HA3 : Hid (MB u3 ga Msg.zero (.slice none 0 0)) := by show MB _ _ _ _; rw [← hg, ← hv]; exact mb_new u2 Msg.zero _
                    have HTA : Hid (Apa co dd ga) := Apa.old HT2.out (Nat.le_of_eq hg)
                    have HWA : Hid (Apa bo dd ga) := Apa.old HW2.out (Nat.le_of_eq hg)
                    go_simp
                    have hS : Hid ((u3.cell? ⟨gm, 0, none⟩ = some (.int .u64 m.ta) ∧ u3.cell? ⟨gm, 1, none⟩ = some (.int .u64 m.rp) ∧ u3.cell? ⟨gm, 2, none⟩ = some (.int .u32 m.id) ∧ u3.cell? ⟨gm, 3, none⟩ = some (.int .u16 m.op) ∧ u3.cell? ⟨gm, 4, none⟩ = some (.int .u16 m.st) ∧ u3.cell? ⟨gm, 5, none⟩ = some (.int .u64 m.p) ∧ u3.cell? ⟨gm, 6, none⟩ = some (.int .u32 m.o) ∧ u3.cell? ⟨gm, 7, none⟩ = some (.int .u8 m.r) ∧ u3.cell? ⟨gm, 8, none⟩ = some (.int .u64 m.c) ∧ u3.cell? ⟨gm, 9, none⟩ = some (.int .u64 m.ar) ∧ u3.cell? ⟨gm, 10, none⟩ = some (.slice so sn sc))) := HM3.out.all
                    refine hKK.out _ _ hS.out (fun _ => ?_)
                    clear hKK hv bv hg
                    refine wpAnyH_ready (rs := [8]) (by kernel_rfl) (by simp) ?_
                    refine AllReadyH.cons (o := { dst := some 18, op := Op.alloc 49, type := 0, pos := "law.go:156", after := #[], guard := none }) rfl (fun KK hKK => ?_) AllReadyH.nil
                    · obtain ⟨u4, hv⟩ : ∃ u4, u3.alloc (.cells #[.int .u64 0, .int .u64 0, .int .u32 0, .int .u16 0, .int .u16 0, .int .u64 0, .int .u32 0, .int .u8 0, .int .u64 0, .int .u64 0, .slice none 0 0] 49) = u4 := ⟨_, rfl⟩
                      have bv : Below u3.heap.size u3 u4 := hv ▸ below_alloc _ _
                      have HM4 := hide (HM3.out.grow bv)
                      have HC4 := hide (HC3.out.grow bv)
                      have HT4 := hide (Bts.carry HT3.out bv)
                      have HW4 := hide (Bts.carry HW3.out bv)
                      have HA4 := hide (HA3.out.grow bv)
                      obtain ⟨gb, hg⟩ : ∃ g, u3.heap.size = g := ⟨_, rfl⟩
                      have HZN : Hid (w.heap.size ≤ gb ∧ gm ≠ gb) := by show _ ∧ _; rw [← hg]; have := HC3.out.bel.size; have := lt_of_heap HM3.out; omega
                      have HZ4 : Hid (MB u4 gb Msg.zero (.slice none 0 0)) := by show MB _ _ _ _; rw [← hg, ← hv]; exact mb_new u3 Msg.zero _
                      have HTB : Hid (Apa co dd gb) := Apa.old HT3.out (Nat.le_of_eq hg)
                      have HWB : Hid (Apa bo dd gb) := Apa.old HW3.out (Nat.le_of_eq hg)
                      have HNN : Hid ((w.heap.size ≤ ga ∧ gm ≠ ga) ∧ (w.heap.size ≤ gb ∧ gm ≠ gb) ∧ ga ≠ gb) := ⟨HAN.out, HZN.out, by have := lt_of_heap HA3.out; omega⟩
                      go_simp
                      have hS : Hid ((u4.cell? ⟨gm, 0, none⟩ = some (.int .u64 m.ta) ∧ u4.cell? ⟨gm, 1, none⟩ = some (.int .u64 m.rp) ∧ u4.cell? ⟨gm, 2, none⟩ = some (.int .u32 m.id) ∧ u4.cell? ⟨gm, 3, none⟩ = some (.int .u16 m.op) ∧ u4.cell? ⟨gm, 4, none⟩ = some (.int .u16 m.st) ∧ u4.cell? ⟨gm, 5, none⟩ = some (.int .u64 m.p) ∧ u4.cell? ⟨gm, 6, none⟩ = some (.int .u32 m.o) ∧ u4.cell? ⟨gm, 7, none⟩ = some (.int .u8 m.r) ∧ u4.cell? ⟨gm, 8, none⟩ = some (.int .u64 m.c) ∧ u4.cell? ⟨gm, 9, none⟩ = some (.int .u64 m.ar) ∧ u4.cell? ⟨gm, 10, none⟩ = some (.slice so sn sc))) := HM4.out.all
                      refine hKK.out _ _ hS.out (fun _ => ?_)
                      clear hKK hv bv hg
                      have z0 := HA4.out.z 0
                      have z1 := HA4.out.z 1
                      have z2 := HA4.out.z 2
                      have z3 := HA4.out.z 3
                      have z4 := HA4.out.z 4
                      have z5 := HA4.out.z 5
                      have z6 := HA4.out.z 6
                      have z7 := HA4.out.z 7
                      have z8 := HA4.out.z 8
                      have z9 := HA4.out.z 9
                      have z10 := HA4.out.z 10
                      obtain ⟨y0, y1, y2, y3, y4, y5, y6, y7, y8, y9, y10⟩ := HA4.out.all
                      have fz := foot_lay11 u4 ga M2 (.slice co cn cc)
                      have hmine := HA4.out.lay (m := M2) (D := .slice co cn cc)
                      obtain ⟨ux, hux⟩ : ∃ q, lay11 u4 ga M2 (.slice co cn cc) = q := ⟨_, rfl⟩
                      rw [hux] at fz hmine
                      unfold lay11 at hux
                      have HAx := hide hmine
                      have HZx := hide (HZ4.out.foot fz (by show ¬ gb = ga; exact HNN.out.2.2.symm))
                      have HMx := hide (HM4.out.foot fz (by show ¬ gm = ga; exact HNN.out.1.2))
                      have HCx := hide (HC4.out.lay HA4.out HNN.out.1.1 fz)
                      have HTx := hide (HT4.out.apa HTA.out fz)
                      have HWx := hide (HW4.out.apa HWA.out fz)
                      clear fz hmine
                      refine wpAnyH_ready (rs := [9]) (by kernel_rfl) (by simp) ?_
                      refine AllReadyH.cons (o := { dst := none, op := Op.store 49 (Operand.tmp 17) (Operand.tmp 101), type := 0, pos := "law.go:156", after := #[{ on := 7, ground := Ground.data }, { on := 2, ground := Ground.data }, { on := 6, ground := Ground.chain }, { on := 0, ground := Ground.phase }, { on := 1, ground := Ground.phase }, { on := 2, ground := Ground.phase }, { on := 3, ground := Ground.textOnly Departure.lateStores }, { on := 4, ground := Ground.textOnly Departure.lateStores }, { on := 5, ground := Ground.textOnly Departure.lateStores }, { on := 6, ground := Ground.textOnly Departure.lateStoresUnsure }, { on := 7, ground := Ground.phase }, { on := 8, ground := Ground.phase }], guard := none }) rfl (fun KK hKK => ?_) AllReadyH.nil
                      go_simp
                      have hS : Hid ((ux.cell? ⟨gm, 0, none⟩ = some (.int .u64 m.ta) ∧ ux.cell? ⟨gm, 1, none⟩ = some (.int .u64 m.rp) ∧ ux.cell? ⟨gm, 2, none⟩ = some (.int .u32 m.id) ∧ ux.cell? ⟨gm, 3, none⟩ = some (.int .u16 m.op) ∧ ux.cell? ⟨gm, 4, none⟩ = some (.int .u16 m.st) ∧ ux.cell? ⟨gm, 5, none⟩ = some (.int .u64 m.p) ∧ ux.cell? ⟨gm, 6, none⟩ = some (.int .u32 m.o) ∧ ux.cell? ⟨gm, 7, none⟩ = some (.int .u8 m.r) ∧ ux.cell? ⟨gm, 8, none⟩ = some (.int .u64 m.c) ∧ ux.cell? ⟨gm, 9, none⟩ = some (.int .u64 m.ar) ∧ ux.cell? ⟨gm, 10, none⟩ = some (.slice so sn sc))) := HMx.out.all
                      refine hKK.out _ _ hS.out (fun _ => ?_)
                      clear hKK
                      clear z0 z1 z2 z3 z4 z5 z6 z7 z8 z9 z10 y0 y1 y2 y3 y4 y5 y6 y7 y8 y9 y10 hux
                      have z0 := HZx.out.z 0
                      have z1 := HZx.out.z 1
                      have z2 := HZx.out.z 2
                      have z3 := HZx.out.z 3
                      have z4 := HZx.out.z 4
                      have z5 := HZx.out.z 5
                      have z6 := HZx.out.z 6
                      have z7 := HZx.out.z 7
                      have z8 := HZx.out.z 8
                      have z9 := HZx.out.z 9
                      have z10 := HZx.out.z 10
                      obtain ⟨y0, y1, y2, y3, y4, y5, y6, y7, y8, y9, y10⟩ := HZx.out.all
                      have fz := foot_lay11 ux gb M2 (.slice bo bn bc)
                      have hmine := HZx.out.lay (m := M2) (D := .slice bo bn bc)
                      obtain ⟨uy, hux⟩ : ∃ q, lay11 ux gb M2 (.slice bo bn bc) = q := ⟨_, rfl⟩
                      rw [hux] at fz hmine
                      unfold lay11 at hux
                      have HZy := hide hmine
                      have HAy := hide (HAx.out.foot fz (by show ¬ ga = gb; exact HNN.out.2.2))
                      have HMy := hide (HMx.out.foot fz (by show ¬ gm = gb; exact HNN.out.2.1.2))
                      have HCy := hide (HCx.out.lay HZx.out HNN.out.2.1.1 fz)
                      have HTy := hide (HTx.out.apa HTB.out fz)
                      have HWy := hide (HWx.out.apa HWB.out fz)
                      clear fz hmine
                      refine wpAnyH_ready (rs := [10]) (by kernel_rfl) (by simp) ?_
                      refine AllReadyH.cons (o := { dst := none, op := Op.store 49 (Operand.tmp 18) (Operand.tmp 105), type := 0, pos := "law.go:156", after := #[{ on := 8, ground := Ground.data }, { on := 6, ground := Ground.data }, { on := 9, ground := Ground.chain }, { on := 0, ground := Ground.phase }, { on := 1, ground := Ground.phase }, { on := 2, ground := Ground.phase }, { on := 3, ground := Ground.phase }, { on := 4, ground := Ground.phase }, { on := 5, ground := Ground.phase }, { on := 6, ground := Ground.phase }, { on := 7, ground := Ground.phase }, { on := 8, ground := Ground.phase }, { on := 9, ground := Ground.phase }], guard := none }) rfl (fun KK hKK => ?_) AllReadyH.nil
                      go_simp
                      have hS : Hid ((uy.cell? ⟨gm, 0, none⟩ = some (.int .u64 m.ta) ∧ uy.cell? ⟨gm, 1, none⟩ = some (.int .u64 m.rp) ∧ uy.cell? ⟨gm, 2, none⟩ = some (.int .u32 m.id) ∧ uy.cell? ⟨gm, 3, none⟩ = some (.int .u16 m.op) ∧ uy.cell? ⟨gm, 4, none⟩ = some (.int .u16 m.st) ∧ uy.cell? ⟨gm, 5, none⟩ = some (.int .u64 m.p) ∧ uy.cell? ⟨gm, 6, none⟩ = some (.int .u32 m.o) ∧ uy.cell? ⟨gm, 7, none⟩ = some (.int .u8 m.r) ∧ uy.cell? ⟨gm, 8, none⟩ = some (.int .u64 m.c) ∧ uy.cell? ⟨gm, 9, none⟩ = some (.int .u64 m.ar) ∧ uy.cell? ⟨gm, 10, none⟩ = some (.slice so sn sc))) := HMy.out.all
                      refine hKK.out _ _ hS.out (fun _ => ?_)
                      clear hKK
                      clear z0 z1 z2 z3 z4 z5 z6 z7 z8 z9 z10 y0 y1 y2 y3 y4 y5 y6 y7 y8 y9 y10 hux
                      refine wpAnyH_done (by kernel_rfl) ?_ _
                      go_wp2_with fail
                      go_meet
                      exact ⟨ga, gb, co, cn, cc, bo, bn, bc, _, _, _, _, _, _, rfl, rfl, HAy.out, HZy.out, HTy.out, HWy.out, HMy.out, HCy.out⟩
                  · obtain ⟨u3, hv⟩ : ∃ u3, u2.alloc (.cells #[.int .u64 0, .int .u64 0, .int .u32 0, .int .u16 0, .int .u16 0, .int .u64 0, .int .u32 0, .int .u8 0, .int .u64 0, .int .u64 0, .slice none 0 0] 49) = u3 := ⟨_, rfl⟩
                    have bv : Below u2.heap.size u2 u3 := hv ▸ below_alloc _ _
                    have HM3 := hide (HM2.out.grow bv)
                    have HC3 := hide (HC2.out.grow bv)
                    have HT3 := hide (Bts.carry HT2.out bv)
                    have HW3 := hide (Bts.carry HW2.out bv)
                    obtain ⟨gb, hg⟩ : ∃ g, u2.heap.size = g := ⟨_, rfl⟩
                    have HZN : Hid (w.heap.size ≤ gb ∧ gm ≠ gb) := by show _ ∧ _; rw [← hg]; have := HC2.out.bel.size; have := lt_of_heap HM2.out; omega
                    have HZ3 : Hid (MB u3 gb Msg.zero (.slice none 0 0)) := by show MB _ _ _ _; rw [← hg, ← hv]; exact mb_new u2 Msg.zero _
                    have HTB : Hid (Apa co dd gb) := Apa.old HT2.out (Nat.le_of_eq hg)
                    have HWB : Hid (Apa bo dd gb) := Apa.old HW2.out (Nat.le_of_eq hg)
                    go_simp
                    have hS : Hid ((u3.cell? ⟨gm, 0, none⟩ = some (.int .u64 m.ta) ∧ u3.cell? ⟨gm, 1, none⟩ = some (.int .u64 m.rp) ∧ u3.cell? ⟨gm, 2, none⟩ = some (.int .u32 m.id) ∧ u3.cell? ⟨gm, 3, none⟩ = some (.int .u16 m.op) ∧ u3.cell? ⟨gm, 4, none⟩ = some (.int .u16 m.st) ∧ u3.cell? ⟨gm, 5, none⟩ = some (.int .u64 m.p) ∧ u3.cell? ⟨gm, 6, none⟩ = some (.int .u32 m.o) ∧ u3.cell? ⟨gm, 7, none⟩ = some (.int .u8 m.r) ∧ u3.cell? ⟨gm, 8, none⟩ = some (.int .u64 m.c) ∧ u3.cell? ⟨gm, 9, none⟩ = some (.int .u64 m.ar) ∧ u3.cell? ⟨gm, 10, none⟩ = some (.slice so sn sc))) := HM3.out.all
                    refine hKK.out _ _ hS.out (fun _ => ?_)
                    clear hKK hv bv hg
                    refine wpAnyH_ready (rs := [7]) (by kernel_rfl) (by simp) ?_
                    refine AllReadyH.cons (o := { dst := some 17, op := Op.alloc 49, type := 0, pos := "law.go:156", after := #[], guard := none }) rfl (fun KK hKK => ?_) AllReadyH.nil
                    · obtain ⟨u4, hv⟩ : ∃ u4, u3.alloc (.cells #[.int .u64 0, .int .u64 0, .int .u32 0, .int .u16 0, .int .u16 0, .int .u64 0, .int .u32 0, .int .u8 0, .int .u64 0, .int .u64 0, .slice none 0 0] 49) = u4 := ⟨_, rfl⟩
                      have bv : Below u3.heap.size u3 u4 := hv ▸ below_alloc _ _
                      have HM4 := hide (HM3.out.grow bv)
                      have HC4 := hide (HC3.out.grow bv)
                      have HT4 := hide (Bts.carry HT3.out bv)
                      have HW4 := hide (Bts.carry HW3.out bv)
                      have HZ4 := hide (HZ3.out.grow bv)
                      obtain ⟨ga, hg⟩ : ∃ g, u3.heap.size = g := ⟨_, rfl⟩
                      have HAN : Hid (w.heap.size ≤ ga ∧ gm ≠ ga) := by show _ ∧ _; rw [← hg]; have := HC3.out.bel.size; have := lt_of_heap HM3.out; omega
                      have HA4 : Hid (MB u4 ga Msg.zero (.slice none 0 0)) := by show MB _ _ _ _; rw [← hg, ← hv]; exact mb_new u3 Msg.zero _
                      have HTA : Hid (Apa co dd ga) := Apa.old HT3.out (Nat.le_of_eq hg)
                      have HWA : Hid (Apa bo dd ga) := Apa.old HW3.out (Nat.le_of_eq hg)
                      have HNN : Hid ((w.heap.size ≤ ga ∧ gm ≠ ga) ∧ (w.heap.size ≤ gb ∧ gm ≠ gb) ∧ ga ≠ gb) := ⟨HAN.out, HZN.out, by have := lt_of_heap HZ3.out; omega⟩
                      go_simp
                      have hS : Hid ((u4.cell? ⟨gm, 0, none⟩ = some (.int .u64 m.ta) ∧ u4.cell? ⟨gm, 1, none⟩ = some (.int .u64 m.rp) ∧ u4.cell? ⟨gm, 2, none⟩ = some (.int .u32 m.id) ∧ u4.cell? ⟨gm, 3, none⟩ = some (.int .u16 m.op) ∧ u4.cell? ⟨gm, 4, none⟩ = some (.int .u16 m.st) ∧ u4.cell? ⟨gm, 5, none⟩ = some (.int .u64 m.p) ∧ u4.cell? ⟨gm, 6, none⟩ = some (.int .u32 m.o) ∧ u4.cell? ⟨gm, 7, none⟩ = some (.int .u8 m.r) ∧ u4.cell? ⟨gm, 8, none⟩ = some (.int .u64 m.c) ∧ u4.cell? ⟨gm, 9, none⟩ = some (.int .u64 m.ar) ∧ u4.cell? ⟨gm, 10, none⟩ = some (.slice so sn sc))) := HM4.out.all
                      refine hKK.out _ _ hS.out (fun _ => ?_)
                      clear hKK hv bv hg
                      have z0 := HA4.out.z 0
                      have z1 := HA4.out.z 1
                      have z2 := HA4.out.z 2
                      have z3 := HA4.out.z 3
                      have z4 := HA4.out.z 4
                      have z5 := HA4.out.z 5
                      have z6 := HA4.out.z 6
                      have z7 := HA4.out.z 7
                      have z8 := HA4.out.z 8
                      have z9 := HA4.out.z 9
                      have z10 := HA4.out.z 10
                      obtain ⟨y0, y1, y2, y3, y4, y5, y6, y7, y8, y9, y10⟩ := HA4.out.all
                      have fz := foot_lay11 u4 ga M2 (.slice co cn cc)
                      have hmine := HA4.out.lay (m := M2) (D := .slice co cn cc)
                      obtain ⟨ux, hux⟩ : ∃ q, lay11 u4 ga M2 (.slice co cn cc) = q := ⟨_, rfl⟩
                      rw [hux] at fz hmine
                      unfold lay11 at hux
                      have HAx := hide hmine
                      have HZx := hide (HZ4.out.foot fz (by show ¬ gb = ga; exact HNN.out.2.2.symm))
                      have HMx := hide (HM4.out.foot fz (by show ¬ gm = ga; exact HNN.out.1.2))
                      have HCx := hide (HC4.out.lay HA4.out HNN.out.1.1 fz)
                      have HTx := hide (HT4.out.apa HTA.out fz)
                      have HWx := hide (HW4.out.apa HWA.out fz)
                      clear fz hmine
                      refine wpAnyH_ready (rs := [9]) (by kernel_rfl) (by simp) ?_
                      refine AllReadyH.cons (o := { dst := none, op := Op.store 49 (Operand.tmp 17) (Operand.tmp 101), type := 0, pos := "law.go:156", after := #[{ on := 7, ground := Ground.data }, { on := 2, ground := Ground.data }, { on := 6, ground := Ground.chain }, { on := 0, ground := Ground.phase }, { on := 1, ground := Ground.phase }, { on := 2, ground := Ground.phase }, { on := 3, ground := Ground.textOnly Departure.lateStores }, { on := 4, ground := Ground.textOnly Departure.lateStores }, { on := 5, ground := Ground.textOnly Departure.lateStores }, { on := 6, ground := Ground.textOnly Departure.lateStoresUnsure }, { on := 7, ground := Ground.phase }, { on := 8, ground := Ground.phase }], guard := none }) rfl (fun KK hKK => ?_) AllReadyH.nil
                      go_simp
                      have hS : Hid ((ux.cell? ⟨gm, 0, none⟩ = some (.int .u64 m.ta) ∧ ux.cell? ⟨gm, 1, none⟩ = some (.int .u64 m.rp) ∧ ux.cell? ⟨gm, 2, none⟩ = some (.int .u32 m.id) ∧ ux.cell? ⟨gm, 3, none⟩ = some (.int .u16 m.op) ∧ ux.cell? ⟨gm, 4, none⟩ = some (.int .u16 m.st) ∧ ux.cell? ⟨gm, 5, none⟩ = some (.int .u64 m.p) ∧ ux.cell? ⟨gm, 6, none⟩ = some (.int .u32 m.o) ∧ ux.cell? ⟨gm, 7, none⟩ = some (.int .u8 m.r) ∧ ux.cell? ⟨gm, 8, none⟩ = some (.int .u64 m.c) ∧ ux.cell? ⟨gm, 9, none⟩ = some (.int .u64 m.ar) ∧ ux.cell? ⟨gm, 10, none⟩ = some (.slice so sn sc))) := HMx.out.all
                      refine hKK.out _ _ hS.out (fun _ => ?_)
                      clear hKK
                      clear z0 z1 z2 z3 z4 z5 z6 z7 z8 z9 z10 y0 y1 y2 y3 y4 y5 y6 y7 y8 y9 y10 hux
                      have z0 := HZx.out.z 0
                      have z1 := HZx.out.z 1
                      have z2 := HZx.out.z 2
                      have z3 := HZx.out.z 3
                      have z4 := HZx.out.z 4
                      have z5 := HZx.out.z 5
                      have z6 := HZx.out.z 6
                      have z7 := HZx.out.z 7
                      have z8 := HZx.out.z 8
                      have z9 := HZx.out.z 9
                      have z10 := HZx.out.z 10
                      obtain ⟨y0, y1, y2, y3, y4, y5, y6, y7, y8, y9, y10⟩ := HZx.out.all
                      have fz := foot_lay11 ux gb M2 (.slice bo bn bc)
                      have hmine := HZx.out.lay (m := M2) (D := .slice bo bn bc)
                      obtain ⟨uy, hux⟩ : ∃ q, lay11 ux gb M2 (.slice bo bn bc) = q := ⟨_, rfl⟩
                      rw [hux] at fz hmine
                      unfold lay11 at hux
                      have HZy := hide hmine
                      have HAy := hide (HAx.out.foot fz (by show ¬ ga = gb; exact HNN.out.2.2))
                      have HMy := hide (HMx.out.foot fz (by show ¬ gm = gb; exact HNN.out.2.1.2))
                      have HCy := hide (HCx.out.lay HZx.out HNN.out.2.1.1 fz)
                      have HTy := hide (HTx.out.apa HTB.out fz)
                      have HWy := hide (HWx.out.apa HWB.out fz)
                      clear fz hmine
                      refine wpAnyH_ready (rs := [10]) (by kernel_rfl) (by simp) ?_
                      refine AllReadyH.cons (o := { dst := none, op := Op.store 49 (Operand.tmp 18) (Operand.tmp 105), type := 0, pos := "law.go:156", after := #[{ on := 8, ground := Ground.data }, { on := 6, ground := Ground.data }, { on := 9, ground := Ground.chain }, { on := 0, ground := Ground.phase }, { on := 1, ground := Ground.phase }, { on := 2, ground := Ground.phase }, { on := 3, ground := Ground.phase }, { on := 4, ground := Ground.phase }, { on := 5, ground := Ground.phase }, { on := 6, ground := Ground.phase }, { on := 7, ground := Ground.phase }, { on := 8, ground := Ground.phase }, { on := 9, ground := Ground.phase }], guard := none }) rfl (fun KK hKK => ?_) AllReadyH.nil
                      go_simp
                      have hS : Hid ((uy.cell? ⟨gm, 0, none⟩ = some (.int .u64 m.ta) ∧ uy.cell? ⟨gm, 1, none⟩ = some (.int .u64 m.rp) ∧ uy.cell? ⟨gm, 2, none⟩ = some (.int .u32 m.id) ∧ uy.cell? ⟨gm, 3, none⟩ = some (.int .u16 m.op) ∧ uy.cell? ⟨gm, 4, none⟩ = some (.int .u16 m.st) ∧ uy.cell? ⟨gm, 5, none⟩ = some (.int .u64 m.p) ∧ uy.cell? ⟨gm, 6, none⟩ = some (.int .u32 m.o) ∧ uy.cell? ⟨gm, 7, none⟩ = some (.int .u8 m.r) ∧ uy.cell? ⟨gm, 8, none⟩ = some (.int .u64 m.c) ∧ uy.cell? ⟨gm, 9, none⟩ = some (.int .u64 m.ar) ∧ uy.cell? ⟨gm, 10, none⟩ = some (.slice so sn sc))) := HMy.out.all
                      refine hKK.out _ _ hS.out (fun _ => ?_)
                      clear hKK
                      clear z0 z1 z2 z3 z4 z5 z6 z7 z8 z9 z10 y0 y1 y2 y3 y4 y5 y6 y7 y8 y9 y10 hux
                      refine wpAnyH_done (by kernel_rfl) ?_ _
                      go_wp2_with fail
                      go_meet
                      exact ⟨ga, gb, co, cn, cc, bo, bn, bc, _, _, _, _, _, _, rfl, rfl, HAy.out, HZy.out, HTy.out, HWy.out, HMy.out, HCy.out⟩
                · obtain ⟨u2, hv⟩ : ∃ u2, u1.alloc (.cells #[.int .u64 0, .int .u64 0, .int .u32 0, .int .u16 0, .int .u16 0, .int .u64 0, .int .u32 0, .int .u8 0, .int .u64 0, .int .u64 0, .slice none 0 0] 49) = u2 := ⟨_, rfl⟩
                  have bv : Below u1.heap.size u1 u2 := hv ▸ below_alloc _ _
                  have HM2 := hide (HM1.out.grow bv)
                  have HC2 := hide (HC1.out.grow bv)
                  have HT2 := hide (Bts.carry HT1.out bv)
                  obtain ⟨ga, hg⟩ : ∃ g, u1.heap.size = g := ⟨_, rfl⟩
                  have HAN : Hid (w.heap.size ≤ ga ∧ gm ≠ ga) := by show _ ∧ _; rw [← hg]; have := HC1.out.bel.size; have := lt_of_heap HM1.out; omega
                  have HA2 : Hid (MB u2 ga Msg.zero (.slice none 0 0)) := by show MB _ _ _ _; rw [← hg, ← hv]; exact mb_new u1 Msg.zero _
                  have HTA : Hid (Apa co dd ga) := Apa.old HT1.out (Nat.le_of_eq hg)
                  go_simp
                  have hS : Hid ((u2.cell? ⟨gm, 0, none⟩ = some (.int .u64 m.ta) ∧ u2.cell? ⟨gm, 1, none⟩ = some (.int .u64 m.rp) ∧ u2.cell? ⟨gm, 2, none⟩ = some (.int .u32 m.id) ∧ u2.cell? ⟨gm, 3, none⟩ = some (.int .u16 m.op) ∧ u2.cell? ⟨gm, 4, none⟩ = some (.int .u16 m.st) ∧ u2.cell? ⟨gm, 5, none⟩ = some (.int .u64 m.p) ∧ u2.cell? ⟨gm, 6, none⟩ = some (.int .u32 m.o) ∧ u2.cell? ⟨gm, 7, none⟩ = some (.int .u8 m.r) ∧ u2.cell? ⟨gm, 8, none⟩ = some (.int .u64 m.c) ∧ u2.cell? ⟨gm, 9, none⟩ = some (.int .u64 m.ar) ∧ u2.cell? ⟨gm, 10, none⟩ = some (.slice so sn sc))) := HM2.out.all
                  refine hKK.out _ _ hS.out (fun _ => ?_)
                  clear hKK hv bv hg
                  refine wpAnyH_ready (rs := [6, 8]) (by kernel_rfl) (by simp) ?_
                  refine AllReadyH.cons (o := { dst := some 105, op := Op.call { callee := Callee.value (Operand.func 15), args := #[Operand.tmp 102, Operand.tmp 103, Operand.tmp 104], argTypes := #[25, 32, 49] }, type := 49, pos := "law.go:156", after := #[{ on := 3, ground := Ground.data }, { on := 4, ground := Ground.data }, { on := 5, ground := Ground.data }, { on := 2, ground := Ground.chain }], guard := none }) rfl (fun KK hKK => ?_) (AllReadyH.cons (o := { dst := some 18, op := Op.alloc 49, type := 0, pos := "law.go:156", after := #[], guard := none }) rfl (fun KK hKK => ?_) AllReadyH.nil)
                  · go_simp
                    refine (want_any m so sn sc l _ HC2.out.du.y (HBT.out.carry HC2.out.bel) HOKM.out HLM.out HC2.out.gl R HR.out).mono ?_; rintro e u3 ⟨mm, bo, bn, bc, hmm, rfl, hb, hn, E⟩
                    obtain rfl : M2 = mm := HEM.out.symm.trans hmm.symm
                    rw [HDD.out] at hb hn
                    obtain ⟨va2, dv2, nv2, B2⟩ := HC2.out.right E
                    have kk := HC2.out.du.y.kh E
                    have HM3 := hide (HM2.out.kh kk)
                    have HC3 := hide B2
                    have HT3 := hide (Bts.half HT2.out HTN.out HUP.out E)
                    have HW3 := hide hb
                    have HA3 := hide (HA2.out.kh kk)
                    have HWA : Hid (Apa bo dd ga) := Apa.new hn (lt_of_heap HA2.out)
                    have hS : Hid ((u3.cell? ⟨gm, 0, none⟩ = some (.int .u64 m.ta) ∧ u3.cell? ⟨gm, 1, none⟩ = some (.int .u64 m.rp) ∧ u3.cell? ⟨gm, 2, none⟩ = some (.int .u32 m.id) ∧ u3.cell? ⟨gm, 3, none⟩ = some (.int .u16 m.op) ∧ u3.cell? ⟨gm, 4, none⟩ = some (.int .u16 m.st) ∧ u3.cell? ⟨gm, 5, none⟩ = some (.int .u64 m.p) ∧ u3.cell? ⟨gm, 6, none⟩ = some (.int .u32 m.o) ∧ u3.cell? ⟨gm, 7, none⟩ = some (.int .u8 m.r) ∧ u3.cell? ⟨gm, 8, none⟩ = some (.int .u64 m.c) ∧ u3.cell? ⟨gm, 9, none⟩ = some (.int .u64 m.ar) ∧ u3.cell? ⟨gm, 10, none⟩ = some (.slice so sn sc))) := HM3.out.all
                    refine hKK.out _ _ hS.out (fun _ => ?_)
                    clear hKK kk hb hn E B2 hmm
                    refine wpAnyH_ready (rs := [8]) (by kernel_rfl) (by simp) ?_
                    refine AllReadyH.cons (o := { dst := some 18, op := Op.alloc 49, type := 0, pos := "law.go:156", after := #[], guard := none }) rfl (fun KK hKK => ?_) AllReadyH.nil
                    · obtain ⟨u4, hv⟩ : ∃ u4, u3.alloc (.cells #[.int .u64 0, .int .u64 0, .int .u32 0, .int .u16 0, .int .u16 0, .int .u64 0, .int .u32 0, .int .u8 0, .int .u64 0, .int .u64 0, .slice none 0 0] 49) = u4 := ⟨_, rfl⟩
                      have bv : Below u3.heap.size u3 u4 := hv ▸ below_alloc _ _
                      have HM4 := hide (HM3.out.grow bv)
                      have HC4 := hide (HC3.out.grow bv)
                      have HT4 := hide (Bts.carry HT3.out bv)
                      have HW4 := hide (Bts.carry HW3.out bv)
                      have HA4 := hide (HA3.out.grow bv)
                      obtain ⟨gb, hg⟩ : ∃ g, u3.heap.size = g := ⟨_, rfl⟩
                      have HZN : Hid (w.heap.size ≤ gb ∧ gm ≠ gb) := by show _ ∧ _; rw [← hg]; have := HC3.out.bel.size; have := lt_of_heap HM3.out; omega
                      have HZ4 : Hid (MB u4 gb Msg.zero (.slice none 0 0)) := by show MB _ _ _ _; rw [← hg, ← hv]; exact mb_new u3 Msg.zero _
                      have HTB : Hid (Apa co dd gb) := Apa.old HT3.out (Nat.le_of_eq hg)
                      have HWB : Hid (Apa bo dd gb) := Apa.old HW3.out (Nat.le_of_eq hg)
                      have HNN : Hid ((w.heap.size ≤ ga ∧ gm ≠ ga) ∧ (w.heap.size ≤ gb ∧ gm ≠ gb) ∧ ga ≠ gb) := ⟨HAN.out, HZN.out, by have := lt_of_heap HA3.out; omega⟩
                      go_simp
                      have hS : Hid ((u4.cell? ⟨gm, 0, none⟩ = some (.int .u64 m.ta) ∧ u4.cell? ⟨gm, 1, none⟩ = some (.int .u64 m.rp) ∧ u4.cell? ⟨gm, 2, none⟩ = some (.int .u32 m.id) ∧ u4.cell? ⟨gm, 3, none⟩ = some (.int .u16 m.op) ∧ u4.cell? ⟨gm, 4, none⟩ = some (.int .u16 m.st) ∧ u4.cell? ⟨gm, 5, none⟩ = some (.int .u64 m.p) ∧ u4.cell? ⟨gm, 6, none⟩ = some (.int .u32 m.o) ∧ u4.cell? ⟨gm, 7, none⟩ = some (.int .u8 m.r) ∧ u4.cell? ⟨gm, 8, none⟩ = some (.int .u64 m.c) ∧ u4.cell? ⟨gm, 9, none⟩ = some (.int .u64 m.ar) ∧ u4.cell? ⟨gm, 10, none⟩ = some (.slice so sn sc))) := HM4.out.all
                      refine hKK.out _ _ hS.out (fun _ => ?_)
                      clear hKK hv bv hg
                      have z0 := HA4.out.z 0
                      have z1 := HA4.out.z 1
                      have z2 := HA4.out.z 2
                      have z3 := HA4.out.z 3
                      have z4 := HA4.out.z 4
                      have z5 := HA4.out.z 5
                      have z6 := HA4.out.z 6
                      have z7 := HA4.out.z 7
                      have z8 := HA4.out.z 8
                      have z9 := HA4.out.z 9
                      have z10 := HA4.out.z 10
                      obtain ⟨y0, y1, y2, y3, y4, y5, y6, y7, y8, y9, y10⟩ := HA4.out.all
                      have fz := foot_lay11 u4 ga M2 (.slice co cn cc)
                      have hmine := HA4.out.lay (m := M2) (D := .slice co cn cc)
                      obtain ⟨ux, hux⟩ : ∃ q, lay11 u4 ga M2 (.slice co cn cc) = q := ⟨_, rfl⟩
                      rw [hux] at fz hmine
                      unfold lay11 at hux
                      have HAx := hide hmine
                      have HZx := hide (HZ4.out.foot fz (by show ¬ gb = ga; exact HNN.out.2.2.symm))
                      have HMx := hide (HM4.out.foot fz (by show ¬ gm = ga; exact HNN.out.1.2))
                      have HCx := hide (HC4.out.lay HA4.out HNN.out.1.1 fz)
                      have HTx := hide (HT4.out.apa HTA.out fz)
                      have HWx := hide (HW4.out.apa HWA.out fz)
                      clear fz hmine
                      refine wpAnyH_ready (rs := [9]) (by kernel_rfl) (by simp) ?_
                      refine AllReadyH.cons (o := { dst := none, op := Op.store 49 (Operand.tmp 17) (Operand.tmp 101), type := 0, pos := "law.go:156", after := #[{ on := 7, ground := Ground.data }, { on := 2, ground := Ground.data }, { on := 6, ground := Ground.chain }, { on := 0, ground := Ground.phase }, { on := 1, ground := Ground.phase }, { on := 2, ground := Ground.phase }, { on := 3, ground := Ground.textOnly Departure.lateStores }, { on := 4, ground := Ground.textOnly Departure.lateStores }, { on := 5, ground := Ground.textOnly Departure.lateStores }, { on := 6, ground := Ground.textOnly Departure.lateStoresUnsure }, { on := 7, ground := Ground.phase }, { on := 8, ground := Ground.phase }], guard := none }) rfl (fun KK hKK => ?_) AllReadyH.nil
                      go_simp
                      have hS : Hid ((ux.cell? ⟨gm, 0, none⟩ = some (.int .u64 m.ta) ∧ ux.cell? ⟨gm, 1, none⟩ = some (.int .u64 m.rp) ∧ ux.cell? ⟨gm, 2, none⟩ = some (.int .u32 m.id) ∧ ux.cell? ⟨gm, 3, none⟩ = some (.int .u16 m.op) ∧ ux.cell? ⟨gm, 4, none⟩ = some (.int .u16 m.st) ∧ ux.cell? ⟨gm, 5, none⟩ = some (.int .u64 m.p) ∧ ux.cell? ⟨gm, 6, none⟩ = some (.int .u32 m.o) ∧ ux.cell? ⟨gm, 7, none⟩ = some (.int .u8 m.r) ∧ ux.cell? ⟨gm, 8, none⟩ = some (.int .u64 m.c) ∧ ux.cell? ⟨gm, 9, none⟩ = some (.int .u64 m.ar) ∧ ux.cell? ⟨gm, 10, none⟩ = some (.slice so sn sc))) := HMx.out.all
                      refine hKK.out _ _ hS.out (fun _ => ?_)
                      clear hKK
                      clear z0 z1 z2 z3 z4 z5 z6 z7 z8 z9 z10 y0 y1 y2 y3 y4 y5 y6 y7 y8 y9 y10 hux
                      have z0 := HZx.out.z 0
                      have z1 := HZx.out.z 1
                      have z2 := HZx.out.z 2
                      have z3 := HZx.out.z 3
                      have z4 := HZx.out.z 4
                      have z5 := HZx.out.z 5
                      have z6 := HZx.out.z 6
                      have z7 := HZx.out.z 7
                      have z8 := HZx.out.z 8
                      have z9 := HZx.out.z 9
                      have z10 := HZx.out.z 10
                      obtain ⟨y0, y1, y2, y3, y4, y5, y6, y7, y8, y9, y10⟩ := HZx.out.all
                      have fz := foot_lay11 ux gb M2 (.slice bo bn bc)
                      have hmine := HZx.out.lay (m := M2) (D := .slice bo bn bc)
                      obtain ⟨uy, hux⟩ : ∃ q, lay11 ux gb M2 (.slice bo bn bc) = q := ⟨_, rfl⟩
                      rw [hux] at fz hmine
                      unfold lay11 at hux
                      have HZy := hide hmine
                      have HAy := hide (HAx.out.foot fz (by show ¬ ga = gb; exact HNN.out.2.2))
                      have HMy := hide (HMx.out.foot fz (by show ¬ gm = gb; exact HNN.out.2.1.2))
                      have HCy := hide (HCx.out.lay HZx.out HNN.out.2.1.1 fz)
                      have HTy := hide (HTx.out.apa HTB.out fz)
                      have HWy := hide (HWx.out.apa HWB.out fz)
                      clear fz hmine
                      refine wpAnyH_ready (rs := [10]) (by kernel_rfl) (by simp) ?_
                      refine AllReadyH.cons (o := { dst := none, op := Op.store 49 (Operand.tmp 18) (Operand.tmp 105), type := 0, pos := "law.go:156", after := #[{ on := 8, ground := Ground.data }, { on := 6, ground := Ground.data }, { on := 9, ground := Ground.chain }, { on := 0, ground := Ground.phase }, { on := 1, ground := Ground.phase }, { on := 2, ground := Ground.phase }, { on := 3, ground := Ground.phase }, { on := 4, ground := Ground.phase }, { on := 5, ground := Ground.phase }, { on := 6, ground := Ground.phase }, { on := 7, ground := Ground.phase }, { on := 8, ground := Ground.phase }, { on := 9, ground := Ground.phase }], guard := none }) rfl (fun KK hKK => ?_) AllReadyH.nil
                      go_simp
                      have hS : Hid ((uy.cell? ⟨gm, 0, none⟩ = some (.int .u64 m.ta) ∧ uy.cell? ⟨gm, 1, none⟩ = some (.int .u64 m.rp) ∧ uy.cell? ⟨gm, 2, none⟩ = some (.int .u32 m.id) ∧ uy.cell? ⟨gm, 3, none⟩ = some (.int .u16 m.op) ∧ uy.cell? ⟨gm, 4, none⟩ = some (.int .u16 m.st) ∧ uy.cell? ⟨gm, 5, none⟩ = some (.int .u64 m.p) ∧ uy.cell? ⟨gm, 6, none⟩ = some (.int .u32 m.o) ∧ uy.cell? ⟨gm, 7, none⟩ = some (.int .u8 m.r) ∧ uy.cell? ⟨gm, 8, none⟩ = some (.int .u64 m.c) ∧ uy.cell? ⟨gm, 9, none⟩ = some (.int .u64 m.ar) ∧ uy.cell? ⟨gm, 10, none⟩ = some (.slice so sn sc))) := HMy.out.all
                      refine hKK.out _ _ hS.out (fun _ => ?_)
                      clear hKK
                      clear z0 z1 z2 z3 z4 z5 z6 z7 z8 z9 z10 y0 y1 y2 y3 y4 y5 y6 y7 y8 y9 y10 hux
                      refine wpAnyH_done (by kernel_rfl) ?_ _
                      go_wp2_with fail
                      go_meet
                      exact ⟨ga, gb, co, cn, cc, bo, bn, bc, _, _, _, _, _, _, rfl, rfl, HAy.out, HZy.out, HTy.out, HWy.out, HMy.out, HCy.out⟩
                  · obtain ⟨u3, hv⟩ : ∃ u3, u2.alloc (.cells #[.int .u64 0, .int .u64 0, .int .u32 0, .int .u16 0, .int .u16 0, .int .u64 0, .int .u32 0, .int .u8 0, .int .u64 0, .int .u64 0, .slice none 0 0] 49) = u3 := ⟨_, rfl⟩
                    have bv : Below u2.heap.size u2 u3 := hv ▸ below_alloc _ _
                    have HM3 := hide (HM2.out.grow bv)
                    have HC3 := hide (HC2.out.grow bv)
                    have HT3 := hide (Bts.carry HT2.out bv)
                    have HA3 := hide (HA2.out.grow bv)
                    obtain ⟨gb, hg⟩ : ∃ g, u2.heap.size = g := ⟨_, rfl⟩
                    have HZN : Hid (w.heap.size ≤ gb ∧ gm ≠ gb) := by show _ ∧ _; rw [← hg]; have := HC2.out.bel.size; have := lt_of_heap HM2.out; omega
                    have HZ3 : Hid (MB u3 gb Msg.zero (.slice none 0 0)) := by show MB _ _ _ _; rw [← hg, ← hv]; exact mb_new u2 Msg.zero _
                    have HTB : Hid (Apa co dd gb) := Apa.old HT2.out (Nat.le_of_eq hg)
                    have HNN : Hid ((w.heap.size ≤ ga ∧ gm ≠ ga) ∧ (w.heap.size ≤ gb ∧ gm ≠ gb) ∧ ga ≠ gb) := ⟨HAN.out, HZN.out, by have := lt_of_heap HA2.out; omega⟩
                    go_simp
                    have hS : Hid ((u3.cell? ⟨gm, 0, none⟩ = some (.int .u64 m.ta) ∧ u3.cell? ⟨gm, 1, none⟩ = some (.int .u64 m.rp) ∧ u3.cell? ⟨gm, 2, none⟩ = some (.int .u32 m.id) ∧ u3.cell? ⟨gm, 3, none⟩ = some (.int .u16 m.op) ∧ u3.cell? ⟨gm, 4, none⟩ = some (.int .u16 m.st) ∧ u3.cell? ⟨gm, 5, none⟩ = some (.int .u64 m.p) ∧ u3.cell? ⟨gm, 6, none⟩ = some (.int .u32 m.o) ∧ u3.cell? ⟨gm, 7, none⟩ = some (.int .u8 m.r) ∧ u3.cell? ⟨gm, 8, none⟩ = some (.int .u64 m.c) ∧ u3.cell? ⟨gm, 9, none⟩ = some (.int .u64 m.ar) ∧ u3.cell? ⟨gm, 10, none⟩ = some (.slice so sn sc))) := HM3.out.all
                    refine hKK.out _ _ hS.out (fun _ => ?_)
                    clear hKK hv bv hg
                    refine wpAnyH_ready (rs := [6]) (by kernel_rfl) (by simp) ?_
                    refine AllReadyH.cons (o := { dst := some 105, op := Op.call { callee := Callee.value (Operand.func 15), args := #[Operand.tmp 102, Operand.tmp 103, Operand.tmp 104], argTypes := #[25, 32, 49] }, type := 49, pos := "law.go:156", after := #[{ on := 3, ground := Ground.data }, { on := 4, ground := Ground.data }, { on := 5, ground := Ground.data }, { on := 2, ground := Ground.chain }], guard := none }) rfl (fun KK hKK => ?_) AllReadyH.nil
                    · go_simp
                      refine (want_any m so sn sc l _ HC3.out.du.y (HBT.out.carry HC3.out.bel) HOKM.out HLM.out HC3.out.gl R HR.out).mono ?_; rintro e u4 ⟨mm, bo, bn, bc, hmm, rfl, hb, hn, E⟩
                      obtain rfl : M2 = mm := HEM.out.symm.trans hmm.symm
                      rw [HDD.out] at hb hn
                      obtain ⟨va2, dv2, nv2, B2⟩ := HC3.out.right E
                      have kk := HC3.out.du.y.kh E
                      have HM4 := hide (HM3.out.kh kk)
                      have HC4 := hide B2
                      have HT4 := hide (Bts.half HT3.out HTN.out HUP.out E)
                      have HW4 := hide hb
                      have HA4 := hide (HA3.out.kh kk)
                      have HWA : Hid (Apa bo dd ga) := Apa.new hn (lt_of_heap HA3.out)
                      have HZ4 := hide (HZ3.out.kh kk)
                      have HWB : Hid (Apa bo dd gb) := Apa.new hn (lt_of_heap HZ3.out)
                      have hS : Hid ((u4.cell? ⟨gm, 0, none⟩ = some (.int .u64 m.ta) ∧ u4.cell? ⟨gm, 1, none⟩ = some (.int .u64 m.rp) ∧ u4.cell? ⟨gm, 2, none⟩ = some (.int .u32 m.id) ∧ u4.cell? ⟨gm, 3, none⟩ = some (.int .u16 m.op) ∧ u4.cell? ⟨gm, 4, none⟩ = some (.int .u16 m.st) ∧ u4.cell? ⟨gm, 5, none⟩ = some (.int .u64 m.p) ∧ u4.cell? ⟨gm, 6, none⟩ = some (.int .u32 m.o) ∧ u4.cell? ⟨gm, 7, none⟩ = some (.int .u8 m.r) ∧ u4.cell? ⟨gm, 8, none⟩ = some (.int .u64 m.c) ∧ u4.cell? ⟨gm, 9, none⟩ = some (.int .u64 m.ar) ∧ u4.cell? ⟨gm, 10, none⟩ = some (.slice so sn sc))) := HM4.out.all
                      refine hKK.out _ _ hS.out (fun _ => ?_)
                      clear hKK kk hb hn E B2 hmm
                      have z0 := HA4.out.z 0
                      have z1 := HA4.out.z 1
                      have z2 := HA4.out.z 2
                      have z3 := HA4.out.z 3
                      have z4 := HA4.out.z 4
                      have z5 := HA4.out.z 5
                      have z6 := HA4.out.z 6
                      have z7 := HA4.out.z 7
                      have z8 := HA4.out.z 8
                      have z9 := HA4.out.z 9
                      have z10 := HA4.out.z 10
                      obtain ⟨y0, y1, y2, y3, y4, y5, y6, y7, y8, y9, y10⟩ := HA4.out.all
                      have fz := foot_lay11 u4 ga M2 (.slice co cn cc)
                      have hmine := HA4.out.lay (m := M2) (D := .slice co cn cc)
                      obtain ⟨ux, hux⟩ : ∃ q, lay11 u4 ga M2 (.slice co cn cc) = q := ⟨_, rfl⟩
                      rw [hux] at fz hmine
                      unfold lay11 at hux
                      have HAx := hide hmine
                      have HZx := hide (HZ4.out.foot fz (by show ¬ gb = ga; exact HNN.out.2.2.symm))
                      have HMx := hide (HM4.out.foot fz (by show ¬ gm = ga; exact HNN.out.1.2))
                      have HCx := hide (HC4.out.lay HA4.out HNN.out.1.1 fz)
                      have HTx := hide (HT4.out.apa HTA.out fz)
                      have HWx := hide (HW4.out.apa HWA.out fz)
                      clear fz hmine
                      refine wpAnyH_ready (rs := [9]) (by kernel_rfl) (by simp) ?_
                      refine AllReadyH.cons (o := { dst := none, op := Op.store 49 (Operand.tmp 17) (Operand.tmp 101), type := 0, pos := "law.go:156", after := #[{ on := 7, ground := Ground.data }, { on := 2, ground := Ground.data }, { on := 6, ground := Ground.chain }, { on := 0, ground := Ground.phase }, { on := 1, ground := Ground.phase }, { on := 2, ground := Ground.phase }, { on := 3, ground := Ground.textOnly Departure.lateStores }, { on := 4, ground := Ground.textOnly Departure.lateStores }, { on := 5, ground := Ground.textOnly Departure.lateStores }, { on := 6, ground := Ground.textOnly Departure.lateStoresUnsure }, { on := 7, ground := Ground.phase }, { on := 8, ground := Ground.phase }], guard := none }) rfl (fun KK hKK => ?_) AllReadyH.nil
                      go_simp
                      have hS : Hid ((ux.cell? ⟨gm, 0, none⟩ = some (.int .u64 m.ta) ∧ ux.cell? ⟨gm, 1, none⟩ = some (.int .u64 m.rp) ∧ ux.cell? ⟨gm, 2, none⟩ = some (.int .u32 m.id) ∧ ux.cell? ⟨gm, 3, none⟩ = some (.int .u16 m.op) ∧ ux.cell? ⟨gm, 4, none⟩ = some (.int .u16 m.st) ∧ ux.cell? ⟨gm, 5, none⟩ = some (.int .u64 m.p) ∧ ux.cell? ⟨gm, 6, none⟩ = some (.int .u32 m.o) ∧ ux.cell? ⟨gm, 7, none⟩ = some (.int .u8 m.r) ∧ ux.cell? ⟨gm, 8, none⟩ = some (.int .u64 m.c) ∧ ux.cell? ⟨gm, 9, none⟩ = some (.int .u64 m.ar) ∧ ux.cell? ⟨gm, 10, none⟩ = some (.slice so sn sc))) := HMx.out.all
                      refine hKK.out _ _ hS.out (fun _ => ?_)
                      clear hKK
                      clear z0 z1 z2 z3 z4 z5 z6 z7 z8 z9 z10 y0 y1 y2 y3 y4 y5 y6 y7 y8 y9 y10 hux
                      have z0 := HZx.out.z 0
                      have z1 := HZx.out.z 1
                      have z2 := HZx.out.z 2
                      have z3 := HZx.out.z 3
                      have z4 := HZx.out.z 4
                      have z5 := HZx.out.z 5
                      have z6 := HZx.out.z 6
                      have z7 := HZx.out.z 7
                      have z8 := HZx.out.z 8
                      have z9 := HZx.out.z 9
                      have z10 := HZx.out.z 10
                      obtain ⟨y0, y1, y2, y3, y4, y5, y6, y7, y8, y9, y10⟩ := HZx.out.all
                      have fz := foot_lay11 ux gb M2 (.slice bo bn bc)
                      have hmine := HZx.out.lay (m := M2) (D := .slice bo bn bc)
                      obtain ⟨uy, hux⟩ : ∃ q, lay11 ux gb M2 (.slice bo bn bc) = q := ⟨_, rfl⟩
                      rw [hux] at fz hmine
                      unfold lay11 at hux
                      have HZy := hide hmine
                      have HAy := hide (HAx.out.foot fz (by show ¬ ga = gb; exact HNN.out.2.2))
                      have HMy := hide (HMx.out.foot fz (by show ¬ gm = gb; exact HNN.out.2.1.2))
                      have HCy := hide (HCx.out.lay HZx.out HNN.out.2.1.1 fz)
                      have HTy := hide (HTx.out.apa HTB.out fz)
                      have HWy := hide (HWx.out.apa HWB.out fz)
                      clear fz hmine
                      refine wpAnyH_ready (rs := [10]) (by kernel_rfl) (by simp) ?_
                      refine AllReadyH.cons (o := { dst := none, op := Op.store 49 (Operand.tmp 18) (Operand.tmp 105), type := 0, pos := "law.go:156", after := #[{ on := 8, ground := Ground.data }, { on := 6, ground := Ground.data }, { on := 9, ground := Ground.chain }, { on := 0, ground := Ground.phase }, { on := 1, ground := Ground.phase }, { on := 2, ground := Ground.phase }, { on := 3, ground := Ground.phase }, { on := 4, ground := Ground.phase }, { on := 5, ground := Ground.phase }, { on := 6, ground := Ground.phase }, { on := 7, ground := Ground.phase }, { on := 8, ground := Ground.phase }, { on := 9, ground := Ground.phase }], guard := none }) rfl (fun KK hKK => ?_) AllReadyH.nil
                      go_simp
                      have hS : Hid ((uy.cell? ⟨gm, 0, none⟩ = some (.int .u64 m.ta) ∧ uy.cell? ⟨gm, 1, none⟩ = some (.int .u64 m.rp) ∧ uy.cell? ⟨gm, 2, none⟩ = some (.int .u32 m.id) ∧ uy.cell? ⟨gm, 3, none⟩ = some (.int .u16 m.op) ∧ uy.cell? ⟨gm, 4, none⟩ = some (.int .u16 m.st) ∧ uy.cell? ⟨gm, 5, none⟩ = some (.int .u64 m.p) ∧ uy.cell? ⟨gm, 6, none⟩ = some (.int .u32 m.o) ∧ uy.cell? ⟨gm, 7, none⟩ = some (.int .u8 m.r) ∧ uy.cell? ⟨gm, 8, none⟩ = some (.int .u64 m.c) ∧ uy.cell? ⟨gm, 9, none⟩ = some (.int .u64 m.ar) ∧ uy.cell? ⟨gm, 10, none⟩ = some (.slice so sn sc))) := HMy.out.all
                      refine hKK.out _ _ hS.out (fun _ => ?_)
                      clear hKK
                      clear z0 z1 z2 z3 z4 z5 z6 z7 z8 z9 z10 y0 y1 y2 y3 y4 y5 y6 y7 y8 y9 y10 hux
                      refine wpAnyH_done (by kernel_rfl) ?_ _
                      go_wp2_with fail
                      go_meet
                      exact ⟨ga, gb, co, cn, cc, bo, bn, bc, _, _, _, _, _, _, rfl, rfl, HAy.out, HZy.out, HTy.out, HWy.out, HMy.out, HCy.out⟩
                · obtain ⟨u2, hv⟩ : ∃ u2, u1.alloc (.cells #[.int .u64 0, .int .u64 0, .int .u32 0, .int .u16 0, .int .u16 0, .int .u64 0, .int .u32 0, .int .u8 0, .int .u64 0, .int .u64 0, .slice none 0 0] 49) = u2 := ⟨_, rfl⟩
                  have bv : Below u1.heap.size u1 u2 := hv ▸ below_alloc _ _
                  have HM2 := hide (HM1.out.grow bv)
                  have HC2 := hide (HC1.out.grow bv)
                  have HT2 := hide (Bts.carry HT1.out bv)
                  obtain ⟨gb, hg⟩ : ∃ g, u1.heap.size = g := ⟨_, rfl⟩
                  have HZN : Hid (w.heap.size ≤ gb ∧ gm ≠ gb) := by show _ ∧ _; rw [← hg]; have := HC1.out.bel.size; have := lt_of_heap HM1.out; omega
                  have HZ2 : Hid (MB u2 gb Msg.zero (.slice none 0 0)) := by show MB _ _ _ _; rw [← hg, ← hv]; exact mb_new u1 Msg.zero _
                  have HTB : Hid (Apa co dd gb) := Apa.old HT1.out (Nat.le_of_eq hg)
                  go_simp
                  have hS : Hid ((u2.cell? ⟨gm, 0, none⟩ = some (.int .u64 m.ta) ∧ u2.cell? ⟨gm, 1, none⟩ = some (.int .u64 m.rp) ∧ u2.cell? ⟨gm, 2, none⟩ = some (.int .u32 m.id) ∧ u2.cell? ⟨gm, 3, none⟩ = some (.int .u16 m.op) ∧ u2.cell? ⟨gm, 4, none⟩ = some (.int .u16 m.st) ∧ u2.cell? ⟨gm, 5, none⟩ = some (.int .u64 m.p) ∧ u2.cell? ⟨gm, 6, none⟩ = some (.int .u32 m.o) ∧ u2.cell? ⟨gm, 7, none⟩ = some (.int .u8 m.r) ∧ u2.cell? ⟨gm, 8, none⟩ = some (.int .u64 m.c) ∧ u2.cell? ⟨gm, 9, none⟩ = some (.int .u64 m.ar) ∧ u2.cell? ⟨gm, 10, none⟩ = some (.slice so sn sc))) := HM2.out.all
                  refine hKK.out _ _ hS.out (fun _ => ?_)
                  clear hKK hv bv hg
                  refine wpAnyH_ready (rs := [6, 7]) (by kernel_rfl) (by simp) ?_
                  refine AllReadyH.cons (o := { dst := some 105, op := Op.call { callee := Callee.value (Operand.func 15), args := #[Operand.tmp 102, Operand.tmp 103, Operand.tmp 104], argTypes := #[25, 32, 49] }, type := 49, pos := "law.go:156", after := #[{ on := 3, ground := Ground.data }, { on := 4, ground := Ground.data }, { on := 5, ground := Ground.data }, { on := 2, ground := Ground.chain }], guard := none }) rfl (fun KK hKK => ?_) (AllReadyH.cons (o := { dst := some 17, op := Op.alloc 49, type := 0, pos := "law.go:156", after := #[], guard := none }) rfl (fun KK hKK => ?_) AllReadyH.nil)
                  · go_simp
                    refine (want_any m so sn sc l _ HC2.out.du.y (HBT.out.carry HC2.out.bel) HOKM.out HLM.out HC2.out.gl R HR.out).mono ?_; rintro e u3 ⟨mm, bo, bn, bc, hmm, rfl, hb, hn, E⟩
                    obtain rfl : M2 = mm := HEM.out.symm.trans hmm.symm
                    rw [HDD.out] at hb hn
                    obtain ⟨va2, dv2, nv2, B2⟩ := HC2.out.right E
                    have kk := HC2.out.du.y.kh E
                    have HM3 := hide (HM2.out.kh kk)
                    have HC3 := hide B2
                    have HT3 := hide (Bts.half HT2.out HTN.out HUP.out E)
                    have HW3 := hide hb
                    have HZ3 := hide (HZ2.out.kh kk)
                    have HWB : Hid (Apa bo dd gb) := Apa.new hn (lt_of_heap HZ2.out)
                    have hS : Hid ((u3.cell? ⟨gm, 0, none⟩ = some (.int .u64 m.ta) ∧ u3.cell? ⟨gm, 1, none⟩ = some (.int .u64 m.rp) ∧ u3.cell? ⟨gm, 2, none⟩ = some (.int .u32 m.id) ∧ u3.cell? ⟨gm, 3, none⟩ = some (.int .u16 m.op) ∧ u3.cell? ⟨gm, 4, none⟩ = some (.int .u16 m.st) ∧ u3.cell? ⟨gm, 5, none⟩ = some (.int .u64 m.p) ∧ u3.cell? ⟨gm, 6, none⟩ = some (.int .u32 m.o) ∧ u3.cell? ⟨gm, 7, none⟩ = some (.int .u8 m.r) ∧ u3.cell? ⟨gm, 8, none⟩ = some (.int .u64 m.c) ∧ u3.cell? ⟨gm, 9, none⟩ = some (.int .u64 m.ar) ∧ u3.cell? ⟨gm, 10, none⟩ = some (.slice so sn sc))) := HM3.out.all
                    refine hKK.out _ _ hS.out (fun _ => ?_)
                    clear hKK kk hb hn E B2 hmm
                    refine wpAnyH_ready (rs := [7]) (by kernel_rfl) (by simp) ?_
                    refine AllReadyH.cons (o := { dst := some 17, op := Op.alloc 49, type := 0, pos := "law.go:156", after := #[], guard := none }) rfl (fun KK hKK => ?_) AllReadyH.nil
                    · obtain ⟨u4, hv⟩ : ∃ u4, u3.alloc (.cells #[.int .u64 0, .int .u64 0, .int .u32 0, .int .u16 0, .int .u16 0, .int .u64 0, .int .u32 0, .int .u8 0, .int .u64 0, .int .u64 0, .slice none 0 0] 49) = u4 := ⟨_, rfl⟩
                      have bv : Below u3.heap.size u3 u4 := hv ▸ below_alloc _ _
                      have HM4 := hide (HM3.out.grow bv)
                      have HC4 := hide (HC3.out.grow bv)
                      have HT4 := hide (Bts.carry HT3.out bv)
                      have HW4 := hide (Bts.carry HW3.out bv)
                      have HZ4 := hide (HZ3.out.grow bv)
                      obtain ⟨ga, hg⟩ : ∃ g, u3.heap.size = g := ⟨_, rfl⟩
                      have HAN : Hid (w.heap.size ≤ ga ∧ gm ≠ ga) := by show _ ∧ _; rw [← hg]; have := HC3.out.bel.size; have := lt_of_heap HM3.out; omega
                      have HA4 : Hid (MB u4 ga Msg.zero (.slice none 0 0)) := by show MB _ _ _ _; rw [← hg, ← hv]; exact mb_new u3 Msg.zero _
                      have HTA : Hid (Apa co dd ga) := Apa.old HT3.out (Nat.le_of_eq hg)
                      have HWA : Hid (Apa bo dd ga) := Apa.old HW3.out (Nat.le_of_eq hg)
                      have HNN : Hid ((w.heap.size ≤ ga ∧ gm ≠ ga) ∧ (w.heap.size ≤ gb ∧ gm ≠ gb) ∧ ga ≠ gb) := ⟨HAN.out, HZN.out, by have := lt_of_heap HZ3.out; omega⟩
                      go_simp
                      have hS : Hid ((u4.cell? ⟨gm, 0, none⟩ = some (.int .u64 m.ta) ∧ u4.cell? ⟨gm, 1, none⟩ = some (.int .u64 m.rp) ∧ u4.cell? ⟨gm, 2, none⟩ = some (.int .u32 m.id) ∧ u4.cell? ⟨gm, 3, none⟩ = some (.int .u16 m.op) ∧ u4.cell? ⟨gm, 4, none⟩ = some (.int .u16 m.st) ∧ u4.cell? ⟨gm, 5, none⟩ = some (.int .u64 m.p) ∧ u4.cell? ⟨gm, 6, none⟩ = some (.int .u32 m.o) ∧ u4.cell? ⟨gm, 7, none⟩ = some (.int .u8 m.r) ∧ u4.cell? ⟨gm, 8, none⟩ = some (.int .u64 m.c) ∧ u4.cell? ⟨gm, 9, none⟩ = some (.int .u64 m.ar) ∧ u4.cell? ⟨gm, 10, none⟩ = some (.slice so sn sc))) := HM4.out.all
                      refine hKK.out _ _ hS.out (fun _ => ?_)
                      clear hKK hv bv hg
                      have z0 := HA4.out.z 0
                      have z1 := HA4.out.z 1
                      have z2 := HA4.out.z 2
                      have z3 := HA4.out.z 3
                      have z4 := HA4.out.z 4
                      have z5 := HA4.out.z 5
                      have z6 := HA4.out.z 6
                      have z7 := HA4.out.z 7
                      have z8 := HA4.out.z 8
                      have z9 := HA4.out.z 9
                      have z10 := HA4.out.z 10
                      obtain ⟨y0, y1, y2, y3, y4, y5, y6, y7, y8, y9, y10⟩ := HA4.out.all
                      have fz := foot_lay11 u4 ga M2 (.slice co cn cc)
                      have hmine := HA4.out.lay (m := M2) (D := .slice co cn cc)
                      obtain ⟨ux, hux⟩ : ∃ q, lay11 u4 ga M2 (.slice co cn cc) = q := ⟨_, rfl⟩
                      rw [hux] at fz hmine
                      unfold lay11 at hux
                      have HAx := hide hmine
                      have HZx := hide (HZ4.out.foot fz (by show ¬ gb = ga; exact HNN.out.2.2.symm))
                      have HMx := hide (HM4.out.foot fz (by show ¬ gm = ga; exact HNN.out.1.2))
                      have HCx := hide (HC4.out.lay HA4.out HNN.out.1.1 fz)
                      have HTx := hide (HT4.out.apa HTA.out fz)
                      have HWx := hide (HW4.out.apa HWA.out fz)
                      clear fz hmine
                      refine wpAnyH_ready (rs := [9]) (by kernel_rfl) (by simp) ?_
                      refine AllReadyH.cons (o := { dst := none, op := Op.store 49 (Operand.tmp 17) (Operand.tmp 101), type := 0, pos := "law.go:156", after := #[{ on := 7, ground := Ground.data }, { on := 2, ground := Ground.data }, { on := 6, ground := Ground.chain }, { on := 0, ground := Ground.phase }, { on := 1, ground := Ground.phase }, { on := 2, ground := Ground.phase }, { on := 3, ground := Ground.textOnly Departure.lateStores }, { on := 4, ground := Ground.textOnly Departure.lateStores }, { on := 5, ground := Ground.textOnly Departure.lateStores }, { on := 6, ground := Ground.textOnly Departure.lateStoresUnsure }, { on := 7, ground := Ground.phase }, { on := 8, ground := Ground.phase }], guard := none }) rfl (fun KK hKK => ?_) AllReadyH.nil
                      go_simp
                      have hS : Hid ((ux.cell? ⟨gm, 0, none⟩ = some (.int .u64 m.ta) ∧ ux.cell? ⟨gm, 1, none⟩ = some (.int .u64 m.rp) ∧ ux.cell? ⟨gm, 2, none⟩ = some (.int .u32 m.id) ∧ ux.cell? ⟨gm, 3, none⟩ = some (.int .u16 m.op) ∧ ux.cell? ⟨gm, 4, none⟩ = some (.int .u16 m.st) ∧ ux.cell? ⟨gm, 5, none⟩ = some (.int .u64 m.p) ∧ ux.cell? ⟨gm, 6, none⟩ = some (.int .u32 m.o) ∧ ux.cell? ⟨gm, 7, none⟩ = some (.int .u8 m.r) ∧ ux.cell? ⟨gm, 8, none⟩ = some (.int .u64 m.c) ∧ ux.cell? ⟨gm, 9, none⟩ = some (.int .u64 m.ar) ∧ ux.cell? ⟨gm, 10, none⟩ = some (.slice so sn sc))) := HMx.out.all
                      refine hKK.out _ _ hS.out (fun _ => ?_)
                      clear hKK
                      clear z0 z1 z2 z3 z4 z5 z6 z7 z8 z9 z10 y0 y1 y2 y3 y4 y5 y6 y7 y8 y9 y10 hux
                      have z0 := HZx.out.z 0
                      have z1 := HZx.out.z 1
                      have z2 := HZx.out.z 2
                      have z3 := HZx.out.z 3
                      have z4 := HZx.out.z 4
                      have z5 := HZx.out.z 5
                      have z6 := HZx.out.z 6
                      have z7 := HZx.out.z 7
                      have z8 := HZx.out.z 8
                      have z9 := HZx.out.z 9
                      have z10 := HZx.out.z 10
                      obtain ⟨y0, y1, y2, y3, y4, y5, y6, y7, y8, y9, y10⟩ := HZx.out.all
                      have fz := foot_lay11 ux gb M2 (.slice bo bn bc)
                      have hmine := HZx.out.lay (m := M2) (D := .slice bo bn bc)
                      obtain ⟨uy, hux⟩ : ∃ q, lay11 ux gb M2 (.slice bo bn bc) = q := ⟨_, rfl⟩
                      rw [hux] at fz hmine
                      unfold lay11 at hux
                      have HZy := hide hmine
                      have HAy := hide (HAx.out.foot fz (by show ¬ ga = gb; exact HNN.out.2.2))
                      have HMy := hide (HMx.out.foot fz (by show ¬ gm = gb; exact HNN.out.2.1.2))
                      have HCy := hide (HCx.out.lay HZx.out HNN.out.2.1.1 fz)
                      have HTy := hide (HTx.out.apa HTB.out fz)
                      have HWy := hide (HWx.out.apa HWB.out fz)
                      clear fz hmine
                      refine wpAnyH_ready (rs := [10]) (by kernel_rfl) (by simp) ?_
                      refine AllReadyH.cons (o := { dst := none, op := Op.store 49 (Operand.tmp 18) (Operand.tmp 105), type := 0, pos := "law.go:156", after := #[{ on := 8, ground := Ground.data }, { on := 6, ground := Ground.data }, { on := 9, ground := Ground.chain }, { on := 0, ground := Ground.phase }, { on := 1, ground := Ground.phase }, { on := 2, ground := Ground.phase }, { on := 3, ground := Ground.phase }, { on := 4, ground := Ground.phase }, { on := 5, ground := Ground.phase }, { on := 6, ground := Ground.phase }, { on := 7, ground := Ground.phase }, { on := 8, ground := Ground.phase }, { on := 9, ground := Ground.phase }], guard := none }) rfl (fun KK hKK => ?_) AllReadyH.nil
                      go_simp
                      have hS : Hid ((uy.cell? ⟨gm, 0, none⟩ = some (.int .u64 m.ta) ∧ uy.cell? ⟨gm, 1, none⟩ = some (.int .u64 m.rp) ∧ uy.cell? ⟨gm, 2, none⟩ = some (.int .u32 m.id) ∧ uy.cell? ⟨gm, 3, none⟩ = some (.int .u16 m.op) ∧ uy.cell? ⟨gm, 4, none⟩ = some (.int .u16 m.st) ∧ uy.cell? ⟨gm, 5, none⟩ = some (.int .u64 m.p) ∧ uy.cell? ⟨gm, 6, none⟩ = some (.int .u32 m.o) ∧ uy.cell? ⟨gm, 7, none⟩ = some (.int .u8 m.r) ∧ uy.cell? ⟨gm, 8, none⟩ = some (.int .u64 m.c) ∧ uy.cell? ⟨gm, 9, none⟩ = some (.int .u64 m.ar) ∧ uy.cell? ⟨gm, 10, none⟩ = some (.slice so sn sc))) := HMy.out.all
                      refine hKK.out _ _ hS.out (fun _ => ?_)
                      clear hKK
                      clear z0 z1 z2 z3 z4 z5 z6 z7 z8 z9 z10 y0 y1 y2 y3 y4 y5 y6 y7 y8 y9 y10 hux
                      refine wpAnyH_done (by kernel_rfl) ?_ _
                      go_wp2_with fail
                      go_meet
                      exact ⟨ga, gb, co, cn, cc, bo, bn, bc, _, _, _, _, _, _, rfl, rfl, HAy.out, HZy.out, HTy.out, HWy.out, HMy.out, HCy.out⟩
                  · obtain ⟨u3, hv⟩ : ∃ u3, u2.alloc (.cells #[.int .u64 0, .int .u64 0, .int .u32 0, .int .u16 0, .int .u16 0, .int .u64 0, .int .u32 0, .int .u8 0, .int .u64 0, .int .u64 0, .slice none 0 0] 49) = u3 := ⟨_, rfl⟩
                    have bv : Below u2.heap.size u2 u3 := hv ▸ below_alloc _ _
                    have HM3 := hide (HM2.out.grow bv)
                    have HC3 := hide (HC2.out.grow bv)
                    have HT3 := hide (Bts.carry HT2.out bv)
                    have HZ3 := hide (HZ2.out.grow bv)
                    obtain ⟨ga, hg⟩ : ∃ g, u2.heap.size = g := ⟨_, rfl⟩
                    have HAN : Hid (w.heap.size ≤ ga ∧ gm ≠ ga) := by show _ ∧ _; rw [← hg]; have := HC2.out.bel.size; have := lt_of_heap HM2.out; omega
                    have HA3 : Hid (MB u3 ga Msg.zero (.slice none 0 0)) := by show MB _ _ _ _; rw [← hg, ← hv]; exact mb_new u2 Msg.zero _
                    have HTA : Hid (Apa co dd ga) := Apa.old HT2.out (Nat.le_of_eq hg)
                    have HNN : Hid ((w.heap.size ≤ ga ∧ gm ≠ ga) ∧ (w.heap.size ≤ gb ∧ gm ≠ gb) ∧ ga ≠ gb) := ⟨HAN.out, HZN.out, by have := lt_of_heap HZ2.out; omega⟩
                    go_simp
                    have hS : Hid ((u3.cell? ⟨gm, 0, none⟩ = some (.int .u64 m.ta) ∧ u3.cell? ⟨gm, 1, none⟩ = some (.int .u64 m.rp) ∧ u3.cell? ⟨gm, 2, none⟩ = some (.int .u32 m.id) ∧ u3.cell? ⟨gm, 3, none⟩ = some (.int .u16 m.op) ∧ u3.cell? ⟨gm, 4, none⟩ = some (.int .u16 m.st) ∧ u3.cell? ⟨gm, 5, none⟩ = some (.int .u64 m.p) ∧ u3.cell? ⟨gm, 6, none⟩ = some (.int .u32 m.o) ∧ u3.cell? ⟨gm, 7, none⟩ = some (.int .u8 m.r) ∧ u3.cell? ⟨gm, 8, none⟩ = some (.int .u64 m.c) ∧ u3.cell? ⟨gm, 9, none⟩ = some (.int .u64 m.ar) ∧ u3.cell? ⟨gm, 10, none⟩ = some (.slice so sn sc))) := HM3.out.all
                    refine hKK.out _ _ hS.out (fun _ => ?_)
                    clear hKK hv bv hg
                    refine wpAnyH_ready (rs := [6]) (by kernel_rfl) (by simp) ?_
                    refine AllReadyH.cons (o := { dst := some 105, op := Op.call { callee := Callee.value (Operand.func 15), args := #[Operand.tmp 102, Operand.tmp 103, Operand.tmp 104], argTypes := #[25, 32, 49] }, type := 49, pos := "law.go:156", after := #[{ on := 3, ground := Ground.data }, { on := 4, ground := Ground.data }, { on := 5, ground := Ground.data }, { on := 2, ground := Ground.chain }], guard := none }) rfl (fun KK hKK => ?_) AllReadyH.nil
                    · go_simp
                      refine (want_any m so sn sc l _ HC3.out.du.y (HBT.out.carry HC3.out.bel) HOKM.out HLM.out HC3.out.gl R HR.out).mono ?_; rintro e u4 ⟨mm, bo, bn, bc, hmm, rfl, hb, hn, E⟩
                      obtain rfl : M2 = mm := HEM.out.symm.trans hmm.symm
                      rw [HDD.out] at hb hn
                      obtain ⟨va2, dv2, nv2, B2⟩ := HC3.out.right E
                      have kk := HC3.out.du.y.kh E
                      have HM4 := hide (HM3.out.kh kk)
                      have HC4 := hide B2
                      have HT4 := hide (Bts.half HT3.out HTN.out HUP.out E)
                      have HW4 := hide hb
                      have HA4 := hide (HA3.out.kh kk)
                      have HWA : Hid (Apa bo dd ga) := Apa.new hn (lt_of_heap HA3.out)
                      have HZ4 := hide (HZ3.out.kh kk)
                      have HWB : Hid (Apa bo dd gb) := Apa.new hn (lt_of_heap HZ3.out)
                      have hS : Hid ((u4.cell? ⟨gm, 0, none⟩ = some (.int .u64 m.ta) ∧ u4.cell? ⟨gm, 1, none⟩ = some (.int .u64 m.rp) ∧ u4.cell? ⟨gm, 2, none⟩ = some (.int .u32 m.id) ∧ u4.cell? ⟨gm, 3, none⟩ = some (.int .u16 m.op) ∧ u4.cell? ⟨gm, 4, none⟩ = some (.int .u16 m.st) ∧ u4.cell? ⟨gm, 5, none⟩ = some (.int .u64 m.p) ∧ u4.cell? ⟨gm, 6, none⟩ = some (.int .u32 m.o) ∧ u4.cell? ⟨gm, 7, none⟩ = some (.int .u8 m.r) ∧ u4.cell? ⟨gm, 8, none⟩ = some (.int .u64 m.c) ∧ u4.cell? ⟨gm, 9, none⟩ = some (.int .u64 m.ar) ∧ u4.cell? ⟨gm, 10, none⟩ = some (.slice so sn sc))) := HM4.out.all
                      refine hKK.out _ _ hS.out (fun _ => ?_)
                      clear hKK kk hb hn E B2 hmm
                      have z0 := HA4.out.z 0
                      have z1 := HA4.out.z 1
                      have z2 := HA4.out.z 2
                      have z3 := HA4.out.z 3
                      have z4 := HA4.out.z 4
                      have z5 := HA4.out.z 5
                      have z6 := HA4.out.z 6
                      have z7 := HA4.out.z 7
                      have z8 := HA4.out.z 8
                      have z9 := HA4.out.z 9
                      have z10 := HA4.out.z 10
                      obtain ⟨y0, y1, y2, y3, y4, y5, y6, y7, y8, y9, y10⟩ := HA4.out.all
                      have fz := foot_lay11 u4 ga M2 (.slice co cn cc)
                      have hmine := HA4.out.lay (m := M2) (D := .slice co cn cc)
                      obtain ⟨ux, hux⟩ : ∃ q, lay11 u4 ga M2 (.slice co cn cc) = q := ⟨_, rfl⟩
                      rw [hux] at fz hmine
                      unfold lay11 at hux
                      have HAx := hide hmine
                      have HZx := hide (HZ4.out.foot fz (by show ¬ gb = ga; exact HNN.out.2.2.symm))
                      have HMx := hide (HM4.out.foot fz (by show ¬ gm = ga; exact HNN.out.1.2))
                      have HCx := hide (HC4.out.lay HA4.out HNN.out.1.1 fz)
                      have HTx := hide (HT4.out.apa HTA.out fz)
                      have HWx := hide (HW4.out.apa HWA.out fz)
                      clear fz hmine
                      refine wpAnyH_ready (rs := [9]) (by kernel_rfl) (by simp) ?_
                      refine AllReadyH.cons (o := { dst := none, op := Op.store 49 (Operand.tmp 17) (Operand.tmp 101), type := 0, pos := "law.go:156", after := #[{ on := 7, ground := Ground.data }, { on := 2, ground := Ground.data }, { on := 6, ground := Ground.chain }, { on := 0, ground := Ground.phase }, { on := 1, ground := Ground.phase }, { on := 2, ground := Ground.phase }, { on := 3, ground := Ground.textOnly Departure.lateStores }, { on := 4, ground := Ground.textOnly Departure.lateStores }, { on := 5, ground := Ground.textOnly Departure.lateStores }, { on := 6, ground := Ground.textOnly Departure.lateStoresUnsure }, { on := 7, ground := Ground.phase }, { on := 8, ground := Ground.phase }], guard := none }) rfl (fun KK hKK => ?_) AllReadyH.nil
                      go_simp
                      have hS : Hid ((ux.cell? ⟨gm, 0, none⟩ = some (.int .u64 m.ta) ∧ ux.cell? ⟨gm, 1, none⟩ = some (.int .u64 m.rp) ∧ ux.cell? ⟨gm, 2, none⟩ = some (.int .u32 m.id) ∧ ux.cell? ⟨gm, 3, none⟩ = some (.int .u16 m.op) ∧ ux.cell? ⟨gm, 4, none⟩ = some (.int .u16 m.st) ∧ ux.cell? ⟨gm, 5, none⟩ = some (.int .u64 m.p) ∧ ux.cell? ⟨gm, 6, none⟩ = some (.int .u32 m.o) ∧ ux.cell? ⟨gm, 7, none⟩ = some (.int .u8 m.r) ∧ ux.cell? ⟨gm, 8, none⟩ = some (.int .u64 m.c) ∧ ux.cell? ⟨gm, 9, none⟩ = some (.int .u64 m.ar) ∧ ux.cell? ⟨gm, 10, none⟩ = some (.slice so sn sc))) := HMx.out.all
                      refine hKK.out _ _ hS.out (fun _ => ?_)
                      clear hKK
                      clear z0 z1 z2 z3 z4 z5 z6 z7 z8 z9 z10 y0 y1 y2 y3 y4 y5 y6 y7 y8 y9 y10 hux
                      have z0 := HZx.out.z 0
                      have z1 := HZx.out.z 1
                      have z2 := HZx.out.z 2
                      have z3 := HZx.out.z 3
                      have z4 := HZx.out.z 4
                      have z5 := HZx.out.z 5
                      have z6 := HZx.out.z 6
                      have z7 := HZx.out.z 7
                      have z8 := HZx.out.z 8
                      have z9 := HZx.out.z 9
                      have z10 := HZx.out.z 10
                      obtain ⟨y0, y1, y2, y3, y4, y5, y6, y7, y8, y9, y10⟩ := HZx.out.all
                      have fz := foot_lay11 ux gb M2 (.slice bo bn bc)
                      have hmine := HZx.out.lay (m := M2) (D := .slice bo bn bc)
                      obtain ⟨uy, hux⟩ : ∃ q, lay11 ux gb M2 (.slice bo bn bc) = q := ⟨_, rfl⟩
                      rw [hux] at fz hmine
                      unfold lay11 at hux
                      have HZy := hide hmine
                      have HAy := hide (HAx.out.foot fz (by show ¬ ga = gb; exact HNN.out.2.2))
                      have HMy := hide (HMx.out.foot fz (by show ¬ gm = gb; exact HNN.out.2.1.2))
                      have HCy := hide (HCx.out.lay HZx.out HNN.out.2.1.1 fz)
                      have HTy := hide (HTx.out.apa HTB.out fz)
                      have HWy := hide (HWx.out.apa HWB.out fz)
                      clear fz hmine
                      refine wpAnyH_ready (rs := [10]) (by kernel_rfl) (by simp) ?_
                      refine AllReadyH.cons (o := { dst := none, op := Op.store 49 (Operand.tmp 18) (Operand.tmp 105), type := 0, pos := "law.go:156", after := #[{ on := 8, ground := Ground.data }, { on := 6, ground := Ground.data }, { on := 9, ground := Ground.chain }, { on := 0, ground := Ground.phase }, { on := 1, ground := Ground.phase }, { on := 2, ground := Ground.phase }, { on := 3, ground := Ground.phase }, { on := 4, ground := Ground.phase }, { on := 5, ground := Ground.phase }, { on := 6, ground := Ground.phase }, { on := 7, ground := Ground.phase }, { on := 8, ground := Ground.phase }, { on := 9, ground := Ground.phase }], guard := none }) rfl (fun KK hKK => ?_) AllReadyH.nil
                      go_simp
                      have hS : Hid ((uy.cell? ⟨gm, 0, none⟩ = some (.int .u64 m.ta) ∧ uy.cell? ⟨gm, 1, none⟩ = some (.int .u64 m.rp) ∧ uy.cell? ⟨gm, 2, none⟩ = some (.int .u32 m.id) ∧ uy.cell? ⟨gm, 3, none⟩ = some (.int .u16 m.op) ∧ uy.cell? ⟨gm, 4, none⟩ = some (.int .u16 m.st) ∧ uy.cell? ⟨gm, 5, none⟩ = some (.int .u64 m.p) ∧ uy.cell? ⟨gm, 6, none⟩ = some (.int .u32 m.o) ∧ uy.cell? ⟨gm, 7, none⟩ = some (.int .u8 m.r) ∧ uy.cell? ⟨gm, 8, none⟩ = some (.int .u64 m.c) ∧ uy.cell? ⟨gm, 9, none⟩ = some (.int .u64 m.ar) ∧ uy.cell? ⟨gm, 10, none⟩ = some (.slice so sn sc))) := HMy.out.all
                      refine hKK.out _ _ hS.out (fun _ => ?_)
                      clear hKK
                      clear z0 z1 z2 z3 z4 z5 z6 z7 z8 z9 z10 y0 y1 y2 y3 y4 y5 y6 y7 y8 y9 y10 hux
                      refine wpAnyH_done (by kernel_rfl) ?_ _
                      go_wp2_with fail
                      go_meet
                      exact ⟨ga, gb, co, cn, cc, bo, bn, bc, _, _, _, _, _, _, rfl, rfl, HAy.out, HZy.out, HTy.out, HWy.out, HMy.out, HCy.out⟩
              · obtain ⟨u1, hv⟩ : ∃ u1, u0.alloc (.cells #[.int .u64 0, .int .u64 0, .int .u32 0, .int .u16 0, .int .u16 0, .int .u64 0, .int .u32 0, .int .u8 0, .int .u64 0, .int .u64 0, .slice none 0 0] 49) = u1 := ⟨_, rfl⟩
                have bv : Below u0.heap.size u0 u1 := hv ▸ below_alloc _ _
                have HM1 := hide (HM0.out.grow bv)
                have HC1 := hide (HC0.out.grow bv)
                obtain ⟨ga, hg⟩ : ∃ g, u0.heap.size = g := ⟨_, rfl⟩
                have HAN : Hid (w.heap.size ≤ ga ∧ gm ≠ ga) := by show _ ∧ _; rw [← hg]; have := HC0.out.bel.size; have := lt_of_heap HM0.out; omega
                have HA1 : Hid (MB u1 ga Msg.zero (.slice none 0 0)) := by show MB _ _ _ _; rw [← hg, ← hv]; exact mb_new u0 Msg.zero _
                go_simp
                have hS : Hid ((u1.cell? ⟨gm, 0, none⟩ = some (.int .u64 m.ta) ∧ u1.cell? ⟨gm, 1, none⟩ = some (.int .u64 m.rp) ∧ u1.cell? ⟨gm, 2, none⟩ = some (.int .u32 m.id) ∧ u1.cell? ⟨gm, 3, none⟩ = some (.int .u16 m.op) ∧ u1.cell? ⟨gm, 4, none⟩ = some (.int .u16 m.st) ∧ u1.cell? ⟨gm, 5, none⟩ = some (.int .u64 m.p) ∧ u1.cell? ⟨gm, 6, none⟩ = some (.int .u32 m.o) ∧ u1.cell? ⟨gm, 7, none⟩ = some (.int .u8 m.r) ∧ u1.cell? ⟨gm, 8, none⟩ = some (.int .u64 m.c) ∧ u1.cell? ⟨gm, 9, none⟩ = some (.int .u64 m.ar) ∧ u1.cell? ⟨gm, 10, none⟩ = some (.slice so sn sc))) := HM1.out.all
                refine hKK.out _ _ hS.out (fun _ => ?_)
                clear hKK hv bv hg
                refine wpAnyH_ready (rs := [2, 8]) (by kernel_rfl) (by simp) ?_
                refine AllReadyH.cons (o := { dst := some 101, op := Op.call { callee := Callee.value (Operand.func 14), args := #[Operand.tmp 99, Operand.tmp 100], argTypes := #[36, 49] }, type := 49, pos := "law.go:156", after := #[{ on := 0, ground := Ground.data }, { on := 1, ground := Ground.data }], guard := none }) rfl (fun KK hKK => ?_) (AllReadyH.cons (o := { dst := some 18, op := Op.alloc 49, type := 0, pos := "law.go:156", after := #[], guard := none }) rfl (fun KK hKK => ?_) AllReadyH.nil)
                · go_simp
                  refine (serve_any m so sn sc l _ HC1.out.sr HC1.out.du.x (HBT.out.carry HC1.out.bel) HOKM.out HLM.out HC1.out.gl R HR.out).mono ?_; rintro e u2 ⟨mm, co, cn, cc, hmm, rfl, hb, hn, E⟩
                  obtain rfl : M2 = mm := HEM.out.symm.trans hmm.symm
                  rw [HDD.out] at hb hn
                  obtain ⟨va1, dv1, nv1, B1⟩ := HC1.out.left E
                  have kk := HC1.out.du.x.kh E
                  have HM2 := hide (HM1.out.kh kk)
                  have HC2 := hide B1
                  have HT2 := hide hb
                  have HTN := hide hn
                  have HUP : Hid (∀ j, SvS (A'.upd va' dv' nv') j → j < u1.heap.size) := fun j e => (HC1.out.du.y.up e).2
                  have HA2 := hide (HA1.out.kh kk)
                  have HTA : Hid (Apa co dd ga) := Apa.new hn (lt_of_heap HA1.out)
                  have hS : Hid ((u2.cell? ⟨gm, 0, none⟩ = some (.int .u64 m.ta) ∧ u2.cell? ⟨gm, 1, none⟩ = some (.int .u64 m.rp) ∧ u2.cell? ⟨gm, 2, none⟩ = some (.int .u32 m.id) ∧ u2.cell? ⟨gm, 3, none⟩ = some (.int .u16 m.op) ∧ u2.cell? ⟨gm, 4, none⟩ = some (.int .u16 m.st) ∧ u2.cell? ⟨gm, 5, none⟩ = some (.int .u64 m.p) ∧ u2.cell? ⟨gm, 6, none⟩ = some (.int .u32 m.o) ∧ u2.cell? ⟨gm, 7, none⟩ = some (.int .u8 m.r) ∧ u2.cell? ⟨gm, 8, none⟩ = some (.int .u64 m.c) ∧ u2.cell? ⟨gm, 9, none⟩ = some (.int .u64 m.ar) ∧ u2.cell? ⟨gm, 10, none⟩ = some (.slice so sn sc))) := HM2.out.all
                  refine hKK.out _ _ hS.out (fun _ => ?_)
                  clear hKK kk hb hn E B1 hmm
                  refine wpAnyH_ready (rs := [6, 8]) (by kernel_rfl) (by simp) ?_
                  refine AllReadyH.cons (o := { dst := some 105, op := Op.call { callee := Callee.value (Operand.func 15), args := #[Operand.tmp 102, Operand.tmp 103, Operand.tmp 104], argTypes := #[25, 32, 49] }, type := 49, pos := "law.go:156", after := #[{ on := 3, ground := Ground.data }, { on := 4, ground := Ground.data }, { on := 5, ground := Ground.data }, { on := 2, ground := Ground.chain }], guard := none }) rfl (fun KK hKK => ?_) (AllReadyH.cons (o := { dst := some 18, op := Op.alloc 49, type := 0, pos := "law.go:156", after := #[], guard := none }) rfl (fun KK hKK => ?_) AllReadyH.nil)
                  · go_simp
                    refine (want_any m so sn sc l _ HC2.out.du.y (HBT.out.carry HC2.out.bel) HOKM.out HLM.out HC2.out.gl R HR.out).mono ?_; rintro e u3 ⟨mm, bo, bn, bc, hmm, rfl, hb, hn, E⟩
                    obtain rfl : M2 = mm := HEM.out.symm.trans hmm.symm
                    rw [HDD.out] at hb hn
                    obtain ⟨va2, dv2, nv2, B2⟩ := HC2.out.right E
                    have kk := HC2.out.du.y.kh E
                    have HM3 := hide (HM2.out.kh kk)
                    have HC3 := hide B2
                    have HT3 := hide (Bts.half HT2.out HTN.out HUP.out E)
                    have HW3 := hide hb
                    have HA3 := hide (HA2.out.kh kk)
                    have HWA : Hid (Apa bo dd ga) := Apa.new hn (lt_of_heap HA2.out)
                    have hS : Hid ((u3.cell? ⟨gm, 0, none⟩ = some (.int .u64 m.ta) ∧ u3.cell? ⟨gm, 1, none⟩ = some (.int .u64 m.rp) ∧ u3.cell? ⟨gm, 2, none⟩ = some (.int .u32 m.id) ∧ u3.cell? ⟨gm, 3, none⟩ = some (.int .u16 m.op) ∧ u3.cell? ⟨gm, 4, none⟩ = some (.int .u16 m.st) ∧ u3.cell? ⟨gm, 5, none⟩ = some (.int .u64 m.p) ∧ u3.cell? ⟨gm, 6, none⟩ = some (.int .u32 m.o) ∧ u3.cell? ⟨gm, 7, none⟩ = some (.int .u8 m.r) ∧ u3.cell? ⟨gm, 8, none⟩ = some (.int .u64 m.c) ∧ u3.cell? ⟨gm, 9, none⟩ = some (.int .u64 m.ar) ∧ u3.cell? ⟨gm, 10, none⟩ = some (.slice so sn sc))) := HM3.out.all
                    refine hKK.out _ _ hS.out (fun _ => ?_)
                    clear hKK kk hb hn E B2 hmm
                    refine wpAnyH_ready (rs := [8]) (by kernel_rfl) (by simp) ?_
                    refine AllReadyH.cons (o := { dst := some 18, op := Op.alloc 49, type := 0, pos := "law.go:156", after := #[], guard := none }) rfl (fun KK hKK => ?_) AllReadyH.nil
                    · obtain ⟨u4, hv⟩ : ∃ u4, u3.alloc (.cells #[.int .u64 0, .int .u64 0, .int .u32 0, .int .u16 0, .int .u16 0, .int .u64 0, .int .u32 0, .int .u8 0, .int .u64 0, .int .u64 0, .slice none 0 0] 49) = u4 := ⟨_, rfl⟩
                      have bv : Below u3.heap.size u3 u4 := hv ▸ below_alloc _ _
                      have HM4 := hide (HM3.out.grow bv)
                      have HC4 := hide (HC3.out.grow bv)
                      have HT4 := hide (Bts.carry HT3.out bv)
                      have HW4 := hide (Bts.carry HW3.out bv)
                      have HA4 := hide (HA3.out.grow bv)
                      obtain ⟨gb, hg⟩ : ∃ g, u3.heap.size = g := ⟨_, rfl⟩
                      have HZN : Hid (w.heap.size ≤ gb ∧ gm ≠ gb) := by show _ ∧ _; rw [← hg]; have := HC3.out.bel.size; have := lt_of_heap HM3.out; omega
                      have HZ4 : Hid (MB u4 gb Msg.zero (.slice none 0 0)) := by show MB _ _ _ _; rw [← hg, ← hv]; exact mb_new u3 Msg.zero _
                      have HTB : Hid (Apa co dd gb) := Apa.old HT3.out (Nat.le_of_eq hg)
                      have HWB : Hid (Apa bo dd gb) := Apa.old HW3.out (Nat.le_of_eq hg)
                      have HNN : Hid ((w.heap.size ≤ ga ∧ gm ≠ ga) ∧ (w.heap.size ≤ gb ∧ gm ≠ gb) ∧ ga ≠ gb) := ⟨HAN.out, HZN.out, by have := lt_of_heap HA3.out; omega⟩
                      go_simp
                      have hS : Hid ((u4.cell? ⟨gm, 0, none⟩ = some (.int .u64 m.ta) ∧ u4.cell? ⟨gm, 1, none⟩ = some (.int .u64 m.rp) ∧ u4.cell? ⟨gm, 2, none⟩ = some (.int .u32 m.id) ∧ u4.cell? ⟨gm, 3, none⟩ = some (.int .u16 m.op) ∧ u4.cell? ⟨gm, 4, none⟩ = some (.int .u16 m.st) ∧ u4.cell? ⟨gm, 5, none⟩ = some (.int .u64 m.p) ∧ u4.cell? ⟨gm, 6, none⟩ = some (.int .u32 m.o) ∧ u4.cell? ⟨gm, 7, none⟩ = some (.int .u8 m.r) ∧ u4.cell? ⟨gm, 8, none⟩ = some (.int .u64 m.c) ∧ u4.cell? ⟨gm, 9, none⟩ = some (.int .u64 m.ar) ∧ u4.cell? ⟨gm, 10, none⟩ = some (.slice so sn sc))) := HM4.out.all
                      refine hKK.out _ _ hS.out (fun _ => ?_)
                      clear hKK hv bv hg
                      have z0 := HA4.out.z 0
                      have z1 := HA4.out.z 1
                      have z2 := HA4.out.z 2
                      have z3 := HA4.out.z 3
                      have z4 := HA4.out.z 4
                      have z5 := HA4.out.z 5
                      have z6 := HA4.out.z 6
                      have z7 := HA4.out.z 7
                      have z8 := HA4.out.z 8
                      have z9 := HA4.out.z 9
                      have z10 := HA4.out.z 10
                      obtain ⟨y0, y1, y2, y3, y4, y5, y6, y7, y8, y9, y10⟩ := HA4.out.all
                      have fz := foot_lay11 u4 ga M2 (.slice co cn cc)
                      have hmine := HA4.out.lay (m := M2) (D := .slice co cn cc)
                      obtain ⟨ux, hux⟩ : ∃ q, lay11 u4 ga M2 (.slice co cn cc) = q := ⟨_, rfl⟩
                      rw [hux] at fz hmine
                      unfold lay11 at hux
                      have HAx := hide hmine
                      have HZx := hide (HZ4.out.foot fz (by show ¬ gb = ga; exact HNN.out.2.2.symm))
                      have HMx := hide (HM4.out.foot fz (by show ¬ gm = ga; exact HNN.out.1.2))
                      have HCx := hide (HC4.out.lay HA4.out HNN.out.1.1 fz)
                      have HTx := hide (HT4.out.apa HTA.out fz)
                      have HWx := hide (HW4.out.apa HWA.out fz)
                      clear fz hmine
                      refine wpAnyH_ready (rs := [9]) (by kernel_rfl) (by simp) ?_
                      refine AllReadyH.cons (o := { dst := none, op := Op.store 49 (Operand.tmp 17) (Operand.tmp 101), type := 0, pos := "law.go:156", after := #[{ on := 7, ground := Ground.data }, { on := 2, ground := Ground.data }, { on := 6, ground := Ground.chain }, { on := 0, ground := Ground.phase }, { on := 1, ground := Ground.phase }, { on := 2, ground := Ground.phase }, { on := 3, ground := Ground.textOnly Departure.lateStores }, { on := 4, ground := Ground.textOnly Departure.lateStores }, { on := 5, ground := Ground.textOnly Departure.lateStores }, { on := 6, ground := Ground.textOnly Departure.lateStoresUnsure }, { on := 7, ground := Ground.phase }, { on := 8, ground := Ground.phase }], guard := none }) rfl (fun KK hKK => ?_) AllReadyH.nil
                      go_simp
                      have hS : Hid ((ux.cell? ⟨gm, 0, none⟩ = some (.int .u64 m.ta) ∧ ux.cell? ⟨gm, 1, none⟩ = some (.int .u64 m.rp) ∧ ux.cell? ⟨gm, 2, none⟩ = some (.int .u32 m.id) ∧ ux.cell? ⟨gm, 3, none⟩ = some (.int .u16 m.op) ∧ ux.cell? ⟨gm, 4, none⟩ = some (.int .u16 m.st) ∧ ux.cell? ⟨gm, 5, none⟩ = some (.int .u64 m.p) ∧ ux.cell? ⟨gm, 6, none⟩ = some (.int .u32 m.o) ∧ ux.cell? ⟨gm, 7, none⟩ = some (.int .u8 m.r) ∧ ux.cell? ⟨gm, 8, none⟩ = some (.int .u64 m.c) ∧ ux.cell? ⟨gm, 9, none⟩ = some (.int .u64 m.ar) ∧ ux.cell? ⟨gm, 10, none⟩ = some (.slice so sn sc))) := HMx.out.all
                      refine hKK.out _ _ hS.out (fun _ => ?_)
                      clear hKK
                      clear z0 z1 z2 z3 z4 z5 z6 z7 z8 z9 z10 y0 y1 y2 y3 y4 y5 y6 y7 y8 y9 y10 hux
                      have z0 := HZx.out.z 0
                      have z1 := HZx.out.z 1
                      have z2 := HZx.out.z 2
                      have z3 := HZx.out.z 3
                      have z4 := HZx.out.z 4
                      have z5 := HZx.out.z 5
                      have z6 := HZx.out.z 6
                      have z7 := HZx.out.z 7
                      have z8 := HZx.out.z 8
                      have z9 := HZx.out.z 9
                      have z10 := HZx.out.z 10
                      obtain ⟨y0, y1, y2, y3, y4, y5, y6, y7, y8, y9, y10⟩ := HZx.out.all
                      have fz := foot_lay11 ux gb M2 (.slice bo bn bc)
                      have hmine := HZx.out.lay (m := M2) (D := .slice bo bn bc)
                      obtain ⟨uy, hux⟩ : ∃ q, lay11 ux gb M2 (.slice bo bn bc) = q := ⟨_, rfl⟩
                      rw [hux] at fz hmine
                      unfold lay11 at hux
                      have HZy := hide hmine
                      have HAy := hide (HAx.out.foot fz (by show ¬ ga = gb; exact HNN.out.2.2))
                      have HMy := hide (HMx.out.foot fz (by show ¬ gm = gb; exact HNN.out.2.1.2))
                      have HCy := hide (HCx.out.lay HZx.out HNN.out.2.1.1 fz)
                      have HTy := hide (HTx.out.apa HTB.out fz)
                      have HWy := hide (HWx.out.apa HWB.out fz)
                      clear fz hmine
                      refine wpAnyH_ready (rs := [10]) (by kernel_rfl) (by simp) ?_
                      refine AllReadyH.cons (o := { dst := none, op := Op.store 49 (Operand.tmp 18) (Operand.tmp 105), type := 0, pos := "law.go:156", after := #[{ on := 8, ground := Ground.data }, { on := 6, ground := Ground.data }, { on := 9, ground := Ground.chain }, { on := 0, ground := Ground.phase }, { on := 1, ground := Ground.phase }, { on := 2, ground := Ground.phase }, { on := 3, ground := Ground.phase }, { on := 4, ground := Ground.phase }, { on := 5, ground := Ground.phase }, { on := 6, ground := Ground.phase }, { on := 7, ground := Ground.phase }, { on := 8, ground := Ground.phase }, { on := 9, ground := Ground.phase }], guard := none }) rfl (fun KK hKK => ?_) AllReadyH.nil
                      go_simp
                      have hS : Hid ((uy.cell? ⟨gm, 0, none⟩ = some (.int .u64 m.ta) ∧ uy.cell? ⟨gm, 1, none⟩ = some (.int .u64 m.rp) ∧ uy.cell? ⟨gm, 2, none⟩ = some (.int .u32 m.id) ∧ uy.cell? ⟨gm, 3, none⟩ = some (.int .u16 m.op) ∧ uy.cell? ⟨gm, 4, none⟩ = some (.int .u16 m.st) ∧ uy.cell? ⟨gm, 5, none⟩ = some (.int .u64 m.p) ∧ uy.cell? ⟨gm, 6, none⟩ = some (.int .u32 m.o) ∧ uy.cell? ⟨gm, 7, none⟩ = some (.int .u8 m.r) ∧ uy.cell? ⟨gm, 8, none⟩ = some (.int .u64 m.c) ∧ uy.cell? ⟨gm, 9, none⟩ = some (.int .u64 m.ar) ∧ uy.cell? ⟨gm, 10, none⟩ = some (.slice so sn sc))) := HMy.out.all
                      refine hKK.out _ _ hS.out (fun _ => ?_)
                      clear hKK
                      clear z0 z1 z2 z3 z4 z5 z6 z7 z8 z9 z10 y0 y1 y2 y3 y4 y5 y6 y7 y8 y9 y10 hux
                      refine wpAnyH_done (by kernel_rfl) ?_ _
                      go_wp2_with fail
                      go_meet
                      exact ⟨ga, gb, co, cn, cc, bo, bn, bc, _, _, _, _, _, _, rfl, rfl, HAy.out, HZy.out, HTy.out, HWy.out, HMy.out, HCy.out⟩
                  · obtain ⟨u3, hv⟩ : ∃ u3, u2.alloc (.cells #[.int .u64 0, .int .u64 0, .int .u32 0, .int .u16 0, .int .u16 0, .int .u64 0, .int .u32 0, .int .u8 0, .int .u64 0, .int .u64 0, .slice none 0 0] 49) = u3 := ⟨_, rfl⟩
                    have bv : Below u2.heap.size u2 u3 := hv ▸ below_alloc _ _
                    have HM3 := hide (HM2.out.grow bv)
                    have HC3 := hide (HC2.out.grow bv)
                    have HT3 := hide (Bts.carry HT2.out bv)
                    have HA3 := hide (HA2.out.grow bv)
                    obtain ⟨gb, hg⟩ : ∃ g, u2.heap.size = g := ⟨_, rfl⟩
                    have HZN : Hid (w.heap.size ≤ gb ∧ gm ≠ gb) := by show _ ∧ _; rw [← hg]; have := HC2.out.bel.size; have := lt_of_heap HM2.out; omega
                    have HZ3 : Hid (MB u3 gb Msg.zero (.slice none 0 0)) := by show MB _ _ _ _; rw [← hg, ← hv]; exact mb_new u2 Msg.zero _
                    have HTB : Hid (Apa co dd gb) := Apa.old HT2.out (Nat.le_of_eq hg)
                    have HNN : Hid ((w.heap.size ≤ ga ∧ gm ≠ ga) ∧ (w.heap.size ≤ gb ∧ gm ≠ gb) ∧ ga ≠ gb) := ⟨HAN.out, HZN.out, by have := lt_of_heap HA2.out; omega⟩
                    go_simp
                    have hS : Hid ((u3.cell? ⟨gm, 0, none⟩ = some (.int .u64 m.ta) ∧ u3.cell? ⟨gm, 1, none⟩ = some (.int .u64 m.rp) ∧ u3.cell? ⟨gm, 2, none⟩ = some (.int .u32 m.id) ∧ u3.cell? ⟨gm, 3, none⟩ = some (.int .u16 m.op) ∧ u3.cell? ⟨gm, 4, none⟩ = some (.int .u16 m.st) ∧ u3.cell? ⟨gm, 5, none⟩ = some (.int .u64 m.p) ∧ u3.cell? ⟨gm, 6, none⟩ = some (.int .u32 m.o) ∧ u3.cell? ⟨gm, 7, none⟩ = some (.int .u8 m.r) ∧ u3.cell? ⟨gm, 8, none⟩ = some (.int .u64 m.c) ∧ u3.cell? ⟨gm, 9, none⟩ = some (.int .u64 m.ar) ∧ u3.cell? ⟨gm, 10, none⟩ = some (.slice so sn sc))) := HM3.out.all
                    refine hKK.out _ _ hS.out (fun _ => ?_)
                    clear hKK hv bv hg
                    refine wpAnyH_ready (rs := [6]) (by kernel_rfl) (by simp) ?_
                    refine AllReadyH.cons (o := { dst := some 105, op := Op.call { callee := Callee.value (Operand.func 15), args := #[Operand.tmp 102, Operand.tmp 103, Operand.tmp 104], argTypes := #[25, 32, 49] }, type := 49, pos := "law.go:156", after := #[{ on := 3, ground := Ground.data }, { on := 4, ground := Ground.data }, { on := 5, ground := Ground.data }, { on := 2, ground := Ground.chain }], guard := none }) rfl (fun KK hKK => ?_) AllReadyH.nil
                    · go_simp
                      refine (want_any m so sn sc l _ HC3.out.du.y (HBT.out.carry HC3.out.bel) HOKM.out HLM.out HC3.out.gl R HR.out).mono ?_; rintro e u4 ⟨mm, bo, bn, bc, hmm, rfl, hb, hn, E⟩
                      obtain rfl : M2 = mm := HEM.out.symm.trans hmm.symm
                      rw [HDD.out] at hb hn
                      obtain ⟨va2, dv2, nv2, B2⟩ := HC3.out.right E
                      have kk := HC3.out.du.y.kh E
                      have HM4 := hide (HM3.out.kh kk)
                      have HC4 := hide B2
                      have HT4 := hide (Bts.half HT3.out HTN.out HUP.out E)
                      have HW4 := hide hb
                      have HA4 := hide (HA3.out.kh kk)
                      have HWA : Hid (Apa bo dd ga) := Apa.new hn (lt_of_heap HA3.out)
                      have HZ4 := hide (HZ3.out.kh kk)
                      have HWB : Hid (Apa bo dd gb) := Apa.new hn (lt_of_heap HZ3.out)
                      have hS : Hid ((u4.cell? ⟨gm, 0, none⟩ = some (.int .u64 m.ta) ∧ u4.cell? ⟨gm, 1, none⟩ = some (.int .u64 m.rp) ∧ u4.cell? ⟨gm, 2, none⟩ = some (.int .u32 m.id) ∧ u4.cell? ⟨gm, 3, none⟩ = some (.int .u16 m.op) ∧ u4.cell? ⟨gm, 4, none⟩ = some (.int .u16 m.st) ∧ u4.cell? ⟨gm, 5, none⟩ = some (.int .u64 m.p) ∧ u4.cell? ⟨gm, 6, none⟩ = some (.int .u32 m.o) ∧ u4.cell? ⟨gm, 7, none⟩ = some (.int .u8 m.r) ∧ u4.cell? ⟨gm, 8, none⟩ = some (.int .u64 m.c) ∧ u4.cell? ⟨gm, 9, none⟩ = some (.int .u64 m.ar) ∧ u4.cell? ⟨gm, 10, none⟩ = some (.slice so sn sc))) := HM4.out.all
                      refine hKK.out _ _ hS.out (fun _ => ?_)
                      clear hKK kk hb hn E B2 hmm
                      have z0 := HA4.out.z 0
                      have z1 := HA4.out.z 1
                      have z2 := HA4.out.z 2
                      have z3 := HA4.out.z 3
                      have z4 := HA4.out.z 4
                      have z5 := HA4.out.z 5
                      have z6 := HA4.out.z 6
                      have z7 := HA4.out.z 7
                      have z8 := HA4.out.z 8
                      have z9 := HA4.out.z 9
                      have z10 := HA4.out.z 10
                      obtain ⟨y0, y1, y2, y3, y4, y5, y6, y7, y8, y9, y10⟩ := HA4.out.all
                      have fz := foot_lay11 u4 ga M2 (.slice co cn cc)
                      have hmine := HA4.out.lay (m := M2) (D := .slice co cn cc)
                      obtain ⟨ux, hux⟩ : ∃ q, lay11 u4 ga M2 (.slice co cn cc) = q := ⟨_, rfl⟩
                      rw [hux] at fz hmine
                      unfold lay11 at hux
                      have HAx := hide hmine
                      have HZx := hide (HZ4.out.foot fz (by show ¬ gb = ga; exact HNN.out.2.2.symm))
                      have HMx := hide (HM4.out.foot fz (by show ¬ gm = ga; exact HNN.out.1.2))
                      have HCx := hide (HC4.out.lay HA4.out HNN.out.1.1 fz)
                      have HTx := hide (HT4.out.apa HTA.out fz)
                      have HWx := hide (HW4.out.apa HWA.out fz)
                      clear fz hmine
                      refine wpAnyH_ready (rs := [9]) (by kernel_rfl) (by simp) ?_
                      refine AllReadyH.cons (o := { dst := none, op := Op.store 49 (Operand.tmp 17) (Operand.tmp 101), type := 0, pos := "law.go:156", after := #[{ on := 7, ground := Ground.data }, { on := 2, ground := Ground.data }, { on := 6, ground := Ground.chain }, { on := 0, ground := Ground.phase }, { on := 1, ground := Ground.phase }, { on := 2, ground := Ground.phase }, { on := 3, ground := Ground.textOnly Departure.lateStores }, { on := 4, ground := Ground.textOnly Departure.lateStores }, { on := 5, ground := Ground.textOnly Departure.lateStores }, { on := 6, ground := Ground.textOnly Departure.lateStoresUnsure }, { on := 7, ground := Ground.phase }, { on := 8, ground := Ground.phase }], guard := none }) rfl (fun KK hKK => ?_) AllReadyH.nil
                      go_simp
                      have hS : Hid ((ux.cell? ⟨gm, 0, none⟩ = some (.int .u64 m.ta) ∧ ux.cell? ⟨gm, 1, none⟩ = some (.int .u64 m.rp) ∧ ux.cell? ⟨gm, 2, none⟩ = some (.int .u32 m.id) ∧ ux.cell? ⟨gm, 3, none⟩ = some (.int .u16 m.op) ∧ ux.cell? ⟨gm, 4, none⟩ = some (.int .u16 m.st) ∧ ux.cell? ⟨gm, 5, none⟩ = some (.int .u64 m.p) ∧ ux.cell? ⟨gm, 6, none⟩ = some (.int .u32 m.o) ∧ ux.cell? ⟨gm, 7, none⟩ = some (.int .u8 m.r) ∧ ux.cell? ⟨gm, 8, none⟩ = some (.int .u64 m.c) ∧ ux.cell? ⟨gm, 9, none⟩ = some (.int .u64 m.ar) ∧ ux.cell? ⟨gm, 10, none⟩ = some (.slice so sn sc))) := HMx.out.all
                      refine hKK.out _ _ hS.out (fun _ => ?_)
                      clear hKK
                      clear z0 z1 z2 z3 z4 z5 z6 z7 z8 z9 z10 y0 y1 y2 y3 y4 y5 y6 y7 y8 y9 y10 hux
                      have z0 := HZx.out.z 0
                      have z1 := HZx.out.z 1
                      have z2 := HZx.out.z 2
                      have z3 := HZx.out.z 3
                      have z4 := HZx.out.z 4
                      have z5 := HZx.out.z 5
                      have z6 := HZx.out.z 6
                      have z7 := HZx.out.z 7
                      have z8 := HZx.out.z 8
                      have z9 := HZx.out.z 9
                      have z10 := HZx.out.z 10
                      obtain ⟨y0, y1, y2, y3, y4, y5, y6, y7, y8, y9, y10⟩ := HZx.out.all
                      have fz := foot_lay11 ux gb M2 (.slice bo bn bc)
                      have hmine := HZx.out.lay (m := M2) (D := .slice bo bn bc)
                      obtain ⟨uy, hux⟩ : ∃ q, lay11 ux gb M2 (.slice bo bn bc) = q := ⟨_, rfl⟩
                      rw [hux] at fz hmine
                      unfold lay11 at hux
                      have HZy := hide hmine
                      have HAy := hide (HAx.out.foot fz (by show ¬ ga = gb; exact HNN.out.2.2))
                      have HMy := hide (HMx.out.foot fz (by show ¬ gm = gb; exact HNN.out.2.1.2))
                      have HCy := hide (HCx.out.lay HZx.out HNN.out.2.1.1 fz)
                      have HTy := hide (HTx.out.apa HTB.out fz)
                      have HWy := hide (HWx.out.apa HWB.out fz)
                      clear fz hmine
                      refine wpAnyH_ready (rs := [10]) (by kernel_rfl) (by simp) ?_
                      refine AllReadyH.cons (o := { dst := none, op := Op.store 49 (Operand.tmp 18) (Operand.tmp 105), type := 0, pos := "law.go:156", after := #[{ on := 8, ground := Ground.data }, { on := 6, ground := Ground.data }, { on := 9, ground := Ground.chain }, { on := 0, ground := Ground.phase }, { on := 1, ground := Ground.phase }, { on := 2, ground := Ground.phase }, { on := 3, ground := Ground.phase }, { on := 4, ground := Ground.phase }, { on := 5, ground := Ground.phase }, { on := 6, ground := Ground.phase }, { on := 7, ground := Ground.phase }, { on := 8, ground := Ground.phase }, { on := 9, ground := Ground.phase }], guard := none }) rfl (fun KK hKK => ?_) AllReadyH.nil
                      go_simp
                      have hS : Hid ((uy.cell? ⟨gm, 0, none⟩ = some (.int .u64 m.ta) ∧ uy.cell? ⟨gm, 1, none⟩ = some (.int .u64 m.rp) ∧ uy.cell? ⟨gm, 2, none⟩ = some (.int .u32 m.id) ∧ uy.cell? ⟨gm, 3, none⟩ = some (.int .u16 m.op) ∧ uy.cell? ⟨gm, 4, none⟩ = some (.int .u16 m.st) ∧ uy.cell? ⟨gm, 5, none⟩ = some (.int .u64 m.p) ∧ uy.cell? ⟨gm, 6, none⟩ = some (.int .u32 m.o) ∧ uy.cell? ⟨gm, 7, none⟩ = some (.int .u8 m.r) ∧ uy.cell? ⟨gm, 8, none⟩ = some (.int .u64 m.c) ∧ uy.cell? ⟨gm, 9, none⟩ = some (.int .u64 m.ar) ∧ uy.cell? ⟨gm, 10, none⟩ = some (.slice so sn sc))) := HMy.out.all
                      refine hKK.out _ _ hS.out (fun _ => ?_)
                      clear hKK
                      clear z0 z1 z2 z3 z4 z5 z6 z7 z8 z9 z10 y0 y1 y2 y3 y4 y5 y6 y7 y8 y9 y10 hux
                      refine wpAnyH_done (by kernel_rfl) ?_ _
                      go_wp2_with fail
                      go_meet
                      exact ⟨ga, gb, co, cn, cc, bo, bn, bc, _, _, _, _, _, _, rfl, rfl, HAy.out, HZy.out, HTy.out, HWy.out, HMy.out, HCy.out⟩
                · obtain ⟨u2, hv⟩ : ∃ u2, u1.alloc (.cells #[.int .u64 0, .int .u64 0, .int .u32 0, .int .u16 0, .int .u16 0, .int .u64 0, .int .u32 0, .int .u8 0, .int .u64 0, .int .u64 0, .slice none 0 0] 49) = u2 := ⟨_, rfl⟩
                  have bv : Below u1.heap.size u1 u2 := hv ▸ below_alloc _ _
                  have HM2 := hide (HM1.out.grow bv)
                  have HC2 := hide (HC1.out.grow bv)
                  have HA2 := hide (HA1.out.grow bv)
                  obtain ⟨gb, hg⟩ : ∃ g, u1.heap.size = g := ⟨_, rfl⟩
                  have HZN : Hid (w.heap.size ≤ gb ∧ gm ≠ gb) := by show _ ∧ _; rw [← hg]; have := HC1.out.bel.size; have := lt_of_heap HM1.out; omega
                  have HZ2 : Hid (MB u2 gb Msg.zero (.slice none 0 0)) := by show MB _ _ _ _; rw [← hg, ← hv]; exact mb_new u1 Msg.zero _
                  have HNN : Hid ((w.heap.size ≤ ga ∧ gm ≠ ga) ∧ (w.heap.size ≤ gb ∧ gm ≠ gb) ∧ ga ≠ gb) := ⟨HAN.out, HZN.out, by have := lt_of_heap HA1.out; omega⟩
                  go_simp
                  have hS : Hid ((u2.cell? ⟨gm, 0, none⟩ = some (.int .u64 m.ta) ∧ u2.cell? ⟨gm, 1, none⟩ = some (.int .u64 m.rp) ∧ u2.cell? ⟨gm, 2, none⟩ = some (.int .u32 m.id) ∧ u2.cell? ⟨gm, 3, none⟩ = some (.int .u16 m.op) ∧ u2.cell? ⟨gm, 4, none⟩ = some (.int .u16 m.st) ∧ u2.cell? ⟨gm, 5, none⟩ = some (.int .u64 m.p) ∧ u2.cell? ⟨gm, 6, none⟩ = some (.int .u32 m.o) ∧ u2.cell? ⟨gm, 7, none⟩ = some (.int .u8 m.r) ∧ u2.cell? ⟨gm, 8, none⟩ = some (.int .u64 m.c) ∧ u2.cell? ⟨gm, 9, none⟩ = some (.int .u64 m.ar) ∧ u2.cell? ⟨gm, 10, none⟩ = some (.slice so sn sc))) := HM2.out.all
                  refine hKK.out _ _ hS.out (fun _ => ?_)
                  clear hKK hv bv hg
                  refine wpAnyH_ready (rs := [2]) (by kernel_rfl) (by simp) ?_
                  refine AllReadyH.cons (o := { dst := some 101, op := Op.call { callee := Callee.value (Operand.func 14), args := #[Operand.tmp 99, Operand.tmp 100], argTypes := #[36, 49] }, type := 49, pos := "law.go:156", after := #[{ on := 0, ground := Ground.data }, { on := 1, ground := Ground.data }], guard := none }) rfl (fun KK hKK => ?_) AllReadyH.nil
                  · go_simp
                    refine (serve_any m so sn sc l _ HC2.out.sr HC2.out.du.x (HBT.out.carry HC2.out.bel) HOKM.out HLM.out HC2.out.gl R HR.out).mono ?_; rintro e u3 ⟨mm, co, cn, cc, hmm, rfl, hb, hn, E⟩
                    obtain rfl : M2 = mm := HEM.out.symm.trans hmm.symm
                    rw [HDD.out] at hb hn
                    obtain ⟨va1, dv1, nv1, B1⟩ := HC2.out.left E
                    have kk := HC2.out.du.x.kh E
                    have HM3 := hide (HM2.out.kh kk)
                    have HC3 := hide B1
                    have HT3 := hide hb
                    have HTN := hide hn
                    have HUP : Hid (∀ j, SvS (A'.upd va' dv' nv') j → j < u2.heap.size) := fun j e => (HC2.out.du.y.up e).2
                    have HA3 := hide (HA2.out.kh kk)
                    have HTA : Hid (Apa co dd ga) := Apa.new hn (lt_of_heap HA2.out)
                    have HZ3 := hide (HZ2.out.kh kk)
                    have HTB : Hid (Apa co dd gb) := Apa.new hn (lt_of_heap HZ2.out)
                    have hS : Hid ((u3.cell? ⟨gm, 0, none⟩ = some (.int .u64 m.ta) ∧ u3.cell? ⟨gm, 1, none⟩ = some (.int .u64 m.rp) ∧ u3.cell? ⟨gm, 2, none⟩ = some (.int .u32 m.id) ∧ u3.cell? ⟨gm, 3, none⟩ = some (.int .u16 m.op) ∧ u3.cell? ⟨gm, 4, none⟩ = some (.int .u16 m.st) ∧ u3.cell? ⟨gm, 5, none⟩ = some (.int .u64 m.p) ∧ u3.cell? ⟨gm, 6, none⟩ = some (.int .u32 m.o) ∧ u3.cell? ⟨gm, 7, none⟩ = some (.int .u8 m.r) ∧ u3.cell? ⟨gm, 8, none⟩ = some (.int .u64 m.c) ∧ u3.cell? ⟨gm, 9, none⟩ = some (.int .u64 m.ar) ∧ u3.cell? ⟨gm, 10, none⟩ = some (.slice so sn sc))) := HM3.out.all
                    refine hKK.out _ _ hS.out (fun _ => ?_)
                    clear hKK kk hb hn E B1 hmm
                    refine wpAnyH_ready (rs := [6]) (by kernel_rfl) (by simp) ?_
                    refine AllReadyH.cons (o := { dst := some 105, op := Op.call { callee := Callee.value (Operand.func 15), args := #[Operand.tmp 102, Operand.tmp 103, Operand.tmp 104], argTypes := #[25, 32, 49] }, type := 49, pos := "law.go:156", after := #[{ on := 3, ground := Ground.data }, { on := 4, ground := Ground.data }, { on := 5, ground := Ground.data }, { on := 2, ground := Ground.chain }], guard := none }) rfl (fun KK hKK => ?_) AllReadyH.nil
                    · go_simp
                      refine (want_any m so sn sc l _ HC3.out.du.y (HBT.out.carry HC3.out.bel) HOKM.out HLM.out HC3.out.gl R HR.out).mono ?_; rintro e u4 ⟨mm, bo, bn, bc, hmm, rfl, hb, hn, E⟩
                      obtain rfl : M2 = mm := HEM.out.symm.trans hmm.symm
                      rw [HDD.out] at hb hn
                      obtain ⟨va2, dv2, nv2, B2⟩ := HC3.out.right E
                      have kk := HC3.out.du.y.kh E
                      have HM4 := hide (HM3.out.kh kk)
                      have HC4 := hide B2
                      have HT4 := hide (Bts.half HT3.out HTN.out HUP.out E)
                      have HW4 := hide hb
                      have HA4 := hide (HA3.out.kh kk)
                      have HWA : Hid (Apa bo dd ga) := Apa.new hn (lt_of_heap HA3.out)
                      have HZ4 := hide (HZ3.out.kh kk)
                      have HWB : Hid (Apa bo dd gb) := Apa.new hn (lt_of_heap HZ3.out)
                      have hS : Hid ((u4.cell? ⟨gm, 0, none⟩ = some (.int .u64 m.ta) ∧ u4.cell? ⟨gm, 1, none⟩ = some (.int .u64 m.rp) ∧ u4.cell? ⟨gm, 2, none⟩ = some (.int .u32 m.id) ∧ u4.cell? ⟨gm, 3, none⟩ = some (.int .u16 m.op) ∧ u4.cell? ⟨gm, 4, none⟩ = some (.int .u16 m.st) ∧ u4.cell? ⟨gm, 5, none⟩ = some (.int .u64 m.p) ∧ u4.cell? ⟨gm, 6, none⟩ = some (.int .u32 m.o) ∧ u4.cell? ⟨gm, 7, none⟩ = some (.int .u8 m.r) ∧ u4.cell? ⟨gm, 8, none⟩ = some (.int .u64 m.c) ∧ u4.cell? ⟨gm, 9, none⟩ = some (.int .u64 m.ar) ∧ u4.cell? ⟨gm, 10, none⟩ = some (.slice so sn sc))) := HM4.out.all
                      refine hKK.out _ _ hS.out (fun _ => ?_)
                      clear hKK kk hb hn E B2 hmm
                      have z0 := HA4.out.z 0
                      have z1 := HA4.out.z 1
                      have z2 := HA4.out.z 2
                      have z3 := HA4.out.z 3
                      have z4 := HA4.out.z 4
                      have z5 := HA4.out.z 5
                      have z6 := HA4.out.z 6
                      have z7 := HA4.out.z 7
                      have z8 := HA4.out.z 8
                      have z9 := HA4.out.z 9
                      have z10 := HA4.out.z 10
                      obtain ⟨y0, y1, y2, y3, y4, y5, y6, y7, y8, y9, y10⟩ := HA4.out.all
                      have fz := foot_lay11 u4 ga M2 (.slice co cn cc)
                      have hmine := HA4.out.lay (m := M2) (D := .slice co cn cc)
                      obtain ⟨ux, hux⟩ : ∃ q, lay11 u4 ga M2 (.slice co cn cc) = q := ⟨_, rfl⟩
                      rw [hux] at fz hmine
                      unfold lay11 at hux
                      have HAx := hide hmine
                      have HZx := hide (HZ4.out.foot fz (by show ¬ gb = ga; exact HNN.out.2.2.symm))
                      have HMx := hide (HM4.out.foot fz (by show ¬ gm = ga; exact HNN.out.1.2))
                      have HCx := hide (HC4.out.lay HA4.out HNN.out.1.1 fz)
                      have HTx := hide (HT4.out.apa HTA.out fz)
                      have HWx := hide (HW4.out.apa HWA.out fz)
                      clear fz hmine
                      refine wpAnyH_ready (rs := [9]) (by kernel_rfl) (by simp) ?_
                      refine AllReadyH.cons (o := { dst := none, op := Op.store 49 (Operand.tmp 17) (Operand.tmp 101), type := 0, pos := "law.go:156", after := #[{ on := 7, ground := Ground.data }, { on := 2, ground := Ground.data }, { on := 6, ground := Ground.chain }, { on := 0, ground := Ground.phase }, { on := 1, ground := Ground.phase }, { on := 2, ground := Ground.phase }, { on := 3, ground := Ground.textOnly Departure.lateStores }, { on := 4, ground := Ground.textOnly Departure.lateStores }, { on := 5, ground := Ground.textOnly Departure.lateStores }, { on := 6, ground := Ground.textOnly Departure.lateStoresUnsure }, { on := 7, ground := Ground.phase }, { on := 8, ground := Ground.phase }], guard := none }) rfl (fun KK hKK => ?_) AllReadyH.nil
                      go_simp
                      have hS : Hid ((ux.cell? ⟨gm, 0, none⟩ = some (.int .u64 m.ta) ∧ ux.cell? ⟨gm, 1, none⟩ = some (.int .u64 m.rp) ∧ ux.cell? ⟨gm, 2, none⟩ = some (.int .u32 m.id) ∧ ux.cell? ⟨gm, 3, none⟩ = some (.int .u16 m.op) ∧ ux.cell? ⟨gm, 4, none⟩ = some (.int .u16 m.st) ∧ ux.cell? ⟨gm, 5, none⟩ = some (.int .u64 m.p) ∧ ux.cell? ⟨gm, 6, none⟩ = some (.int .u32 m.o) ∧ ux.cell? ⟨gm, 7, none⟩ = some (.int .u8 m.r) ∧ ux.cell? ⟨gm, 8, none⟩ = some (.int .u64 m.c) ∧ ux.cell? ⟨gm, 9, none⟩ = some (.int .u64 m.ar) ∧ ux.cell? ⟨gm, 10, none⟩ = some (.slice so sn sc))) := HMx.out.all
                      refine hKK.out _ _ hS.out (fun _ => ?_)
                      clear hKK
                      clear z0 z1 z2 z3 z4 z5 z6 z7 z8 z9 z10 y0 y1 y2 y3 y4 y5 y6 y7 y8 y9 y10 hux
                      have z0 := HZx.out.z 0
                      have z1 := HZx.out.z 1
                      have z2 := HZx.out.z 2
                      have z3 := HZx.out.z 3
                      have z4 := HZx.out.z 4
                      have z5 := HZx.out.z 5
                      have z6 := HZx.out.z 6
                      have z7 := HZx.out.z 7
                      have z8 := HZx.out.z 8
                      have z9 := HZx.out.z 9
                      have z10 := HZx.out.z 10
                      obtain ⟨y0, y1, y2, y3, y4, y5, y6, y7, y8, y9, y10⟩ := HZx.out.all
                      have fz := foot_lay11 ux gb M2 (.slice bo bn bc)
                      have hmine := HZx.out.lay (m := M2) (D := .slice bo bn bc)
                      obtain ⟨uy, hux⟩ : ∃ q, lay11 ux gb M2 (.slice bo bn bc) = q := ⟨_, rfl⟩
                      rw [hux] at fz hmine
                      unfold lay11 at hux
                      have HZy := hide hmine
                      have HAy := hide (HAx.out.foot fz (by show ¬ ga = gb; exact HNN.out.2.2))
                      have HMy := hide (HMx.out.foot fz (by show ¬ gm = gb; exact HNN.out.2.1.2))
                      have HCy := hide (HCx.out.lay HZx.out HNN.out.2.1.1 fz)
                      have HTy := hide (HTx.out.apa HTB.out fz)
                      have HWy := hide (HWx.out.apa HWB.out fz)
                      clear fz hmine
                      refine wpAnyH_ready (rs := [10]) (by kernel_rfl) (by simp) ?_
                      refine AllReadyH.cons (o := { dst := none, op := Op.store 49 (Operand.tmp 18) (Operand.tmp 105), type := 0, pos := "law.go:156", after := #[{ on := 8, ground := Ground.data }, { on := 6, ground := Ground.data }, { on := 9, ground := Ground.chain }, { on := 0, ground := Ground.phase }, { on := 1, ground := Ground.phase }, { on := 2, ground := Ground.phase }, { on := 3, ground := Ground.phase }, { on := 4, ground := Ground.phase }, { on := 5, ground := Ground.phase }, { on := 6, ground := Ground.phase }, { on := 7, ground := Ground.phase }, { on := 8, ground := Ground.phase }, { on := 9, ground := Ground.phase }], guard := none }) rfl (fun KK hKK => ?_) AllReadyH.nil
                      go_simp
                      have hS : Hid ((uy.cell? ⟨gm, 0, none⟩ = some (.int .u64 m.ta) ∧ uy.cell? ⟨gm, 1, none⟩ = some (.int .u64 m.rp) ∧ uy.cell? ⟨gm, 2, none⟩ = some (.int .u32 m.id) ∧ uy.cell? ⟨gm, 3, none⟩ = some (.int .u16 m.op) ∧ uy.cell? ⟨gm, 4, none⟩ = some (.int .u16 m.st) ∧ uy.cell? ⟨gm, 5, none⟩ = some (.int .u64 m.p) ∧ uy.cell? ⟨gm, 6, none⟩ = some (.int .u32 m.o) ∧ uy.cell? ⟨gm, 7, none⟩ = some (.int .u8 m.r) ∧ uy.cell? ⟨gm, 8, none⟩ = some (.int .u64 m.c) ∧ uy.cell? ⟨gm, 9, none⟩ = some (.int .u64 m.ar) ∧ uy.cell? ⟨gm, 10, none⟩ = some (.slice so sn sc))) := HMy.out.all
                      refine hKK.out _ _ hS.out (fun _ => ?_)
                      clear hKK
                      clear z0 z1 z2 z3 z4 z5 z6 z7 z8 z9 z10 y0 y1 y2 y3 y4 y5 y6 y7 y8 y9 y10 hux
                      refine wpAnyH_done (by kernel_rfl) ?_ _
                      go_wp2_with fail
                      go_meet
                      exact ⟨ga, gb, co, cn, cc, bo, bn, bc, _, _, _, _, _, _, rfl, rfl, HAy.out, HZy.out, HTy.out, HWy.out, HMy.out, HCy.out⟩
              · obtain ⟨u1, hv⟩ : ∃ u1, u0.alloc (.cells #[.int .u64 0, .int .u64 0, .int .u32 0, .int .u16 0, .int .u16 0, .int .u64 0, .int .u32 0, .int .u8 0, .int .u64 0, .int .u64 0, .slice none 0 0] 49) = u1 := ⟨_, rfl⟩
                have bv : Below u0.heap.size u0 u1 := hv ▸ below_alloc _ _
                have HM1 := hide (HM0.out.grow bv)
                have HC1 := hide (HC0.out.grow bv)
                obtain ⟨gb, hg⟩ : ∃ g, u0.heap.size = g := ⟨_, rfl⟩
                have HZN : Hid (w.heap.size ≤ gb ∧ gm ≠ gb) := by show _ ∧ _; rw [← hg]; have := HC0.out.bel.size; have := lt_of_heap HM0.out; omega
                have HZ1 : Hid (MB u1 gb Msg.zero (.slice none 0 0)) := by show MB _ _ _ _; rw [← hg, ← hv]; exact mb_new u0 Msg.zero _
                go_simp
                have hS : Hid ((u1.cell? ⟨gm, 0, none⟩ = some (.int .u64 m.ta) ∧ u1.cell? ⟨gm, 1, none⟩ = some (.int .u64 m.rp) ∧ u1.cell? ⟨gm, 2, none⟩ = some (.int .u32 m.id) ∧ u1.cell? ⟨gm, 3, none⟩ = some (.int .u16 m.op) ∧ u1.cell? ⟨gm, 4, none⟩ = some (.int .u16 m.st) ∧ u1.cell? ⟨gm, 5, none⟩ = some (.int .u64 m.p) ∧ u1.cell? ⟨gm, 6, none⟩ = some (.int .u32 m.o) ∧ u1.cell? ⟨gm, 7, none⟩ = some (.int .u8 m.r) ∧ u1.cell? ⟨gm, 8, none⟩ = some (.int .u64 m.c) ∧ u1.cell? ⟨gm, 9, none⟩ = some (.int .u64 m.ar) ∧ u1.cell? ⟨gm, 10, none⟩ = some (.slice so sn sc))) := HM1.out.all
                refine hKK.out _ _ hS.out (fun _ => ?_)
                clear hKK hv bv hg
                refine wpAnyH_ready (rs := [2, 7]) (by kernel_rfl) (by simp) ?_
                refine AllReadyH.cons (o := { dst := some 101, op := Op.call { callee := Callee.value (Operand.func 14), args := #[Operand.tmp 99, Operand.tmp 100], argTypes := #[36, 49] }, type := 49, pos := "law.go:156", after := #[{ on := 0, ground := Ground.data }, { on := 1, ground := Ground.data }], guard := none }) rfl (fun KK hKK => ?_) (AllReadyH.cons (o := { dst := some 17, op := Op.alloc 49, type := 0, pos := "law.go:156", after := #[], guard := none }) rfl (fun KK hKK => ?_) AllReadyH.nil)
                · go_simp
                  refine (serve_any m so sn sc l _ HC1.out.sr HC1.out.du.x (HBT.out.carry HC1.out.bel) HOKM.out HLM.out HC1.out.gl R HR.out).mono ?_; rintro e u2 ⟨mm, co, cn, cc, hmm, rfl, hb, hn, E⟩
                  obtain rfl : M2 = mm := HEM.out.symm.trans hmm.symm
                  rw [HDD.out] at hb hn
                  obtain ⟨va1, dv1, nv1, B1⟩ := HC1.out.left E
                  have kk := HC1.out.du.x.kh E
                  have HM2 := hide (HM1.out.kh kk)
                  have HC2 := hide B1
                  have HT2 := hide hb
                  have HTN := hide hn
                  have HUP : Hid (∀ j, SvS (A'.upd va' dv' nv') j → j < u1.heap.size) := fun j e => (HC1.out.du.y.up e).2
                  have HZ2 := hide (HZ1.out.kh kk)
                  have HTB : Hid (Apa co dd gb) := Apa.new hn (lt_of_heap HZ1.out)
                  have hS : Hid ((u2.cell? ⟨gm, 0, none⟩ = some (.int .u64 m.ta) ∧ u2.cell? ⟨gm, 1, none⟩ = some (.int .u64 m.rp) ∧ u2.cell? ⟨gm, 2, none⟩ = some (.int .u32 m.id) ∧ u2.cell? ⟨gm, 3, none⟩ = some (.int .u16 m.op) ∧ u2.cell? ⟨gm, 4, none⟩ = some (.int .u16 m.st) ∧ u2.cell? ⟨gm, 5, none⟩ = some (.int .u64 m.p) ∧ u2.cell? ⟨gm, 6, none⟩ = some (.int .u32 m.o) ∧ u2.cell? ⟨gm, 7, none⟩ = some (.int .u8 m.r) ∧ u2.cell? ⟨gm, 8, none⟩ = some (.int .u64 m.c) ∧ u2.cell? ⟨gm, 9, none⟩ = some (.int .u64 m.ar) ∧ u2.cell? ⟨gm, 10, none⟩ = some (.slice so sn sc))) := HM2.out.all
                  refine hKK.out _ _ hS.out (fun _ => ?_)
                  clear hKK kk hb hn E B1 hmm
                  refine wpAnyH_ready (rs := [6, 7]) (by kernel_rfl) (by simp) ?_
                  refine AllReadyH.cons (o := { dst := some 105, op := Op.call { callee := Callee.value (Operand.func 15), args := #[Operand.tmp 102, Operand.tmp 103, Operand.tmp 104], argTypes := #[25, 32, 49] }, type := 49, pos := "law.go:156", after := #[{ on := 3, ground := Ground.data }, { on := 4, ground := Ground.data }, { on := 5, ground := Ground.data }, { on := 2, ground := Ground.chain }], guard := none }) rfl (fun KK hKK => ?_) (AllReadyH.cons (o := { dst := some 17, op := Op.alloc 49, type := 0, pos := "law.go:156", after := #[], guard := none }) rfl (fun KK hKK => ?_) AllReadyH.nil)
                  · go_simp
                    refine (want_any m so sn sc l _ HC2.out.du.y (HBT.out.carry HC2.out.bel) HOKM.out HLM.out HC2.out.gl R HR.out).mono ?_; rintro e u3 ⟨mm, bo, bn, bc, hmm, rfl, hb, hn, E⟩
                    obtain rfl : M2 = mm := HEM.out.symm.trans hmm.symm
                    rw [HDD.out] at hb hn
                    obtain ⟨va2, dv2, nv2, B2⟩ := HC2.out.right E
                    have kk := HC2.out.du.y.kh E
                    have HM3 := hide (HM2.out.kh kk)
                    have HC3 := hide B2
                    have HT3 := hide (Bts.half HT2.out HTN.out HUP.out E)
                    have HW3 := hide hb
                    have HZ3 := hide (HZ2.out.kh kk)
                    have HWB : Hid (Apa bo dd gb) := Apa.new hn (lt_of_heap HZ2.out)
                    have hS : Hid ((u3.cell? ⟨gm, 0, none⟩ = some (.int .u64 m.ta) ∧ u3.cell? ⟨gm, 1, none⟩ = some (.int .u64 m.rp) ∧ u3.cell? ⟨gm, 2, none⟩ = some (.int .u32 m.id) ∧ u3.cell? ⟨gm, 3, none⟩ = some (.int .u16 m.op) ∧ u3.cell? ⟨gm, 4, none⟩ = some (.int .u16 m.st) ∧ u3.cell? ⟨gm, 5, none⟩ = some (.int .u64 m.p) ∧ u3.cell? ⟨gm, 6, none⟩ = some (.int .u32 m.o) ∧ u3.cell? ⟨gm, 7, none⟩ = some (.int .u8 m.r) ∧ u3.cell? ⟨gm, 8, none⟩ = some (.int .u64 m.c) ∧ u3.cell? ⟨gm, 9, none⟩ = some (.int .u64 m.ar) ∧ u3.cell? ⟨gm, 10, none⟩ = some (.slice so sn sc))) := HM3.out.all
                    refine hKK.out _ _ hS.out (fun _ => ?_)
                    clear hKK kk hb hn E B2 hmm
                    refine wpAnyH_ready (rs := [7]) (by kernel_rfl) (by simp) ?_
                    refine AllReadyH.cons (o := { dst := some 17, op := Op.alloc 49, type := 0, pos := "law.go:156", after := #[], guard := none }) rfl (fun KK hKK => ?_) AllReadyH.nil
                    · obtain ⟨u4, hv⟩ : ∃ u4, u3.alloc (.cells #[.int .u64 0, .int .u64 0, .int .u32 0, .int .u16 0, .int .u16 0, .int .u64 0, .int .u32 0, .int .u8 0, .int .u64 0, .int .u64 0, .slice none 0 0] 49) = u4 := ⟨_, rfl⟩
                      have bv : Below u3.heap.size u3 u4 := hv ▸ below_alloc _ _
                      have HM4 := hide (HM3.out.grow bv)
                      have HC4 := hide (HC3.out.grow bv)
                      have HT4 := hide (Bts.carry HT3.out bv)
                      have HW4 := hide (Bts.carry HW3.out bv)
                      have HZ4 := hide (HZ3.out.grow bv)
                      obtain ⟨ga, hg⟩ : ∃ g, u3.heap.size = g := ⟨_, rfl⟩
                      have HAN : Hid (w.heap.size ≤ ga ∧ gm ≠ ga) := by show _ ∧ _; rw [← hg]; have := HC3.out.bel.size; have := lt_of_heap HM3.out; omega
                      have HA4 : Hid (MB u4 ga Msg.zero (.slice none 0 0)) := by show MB _ _ _ _; rw [← hg, ← hv]; exact mb_new u3 Msg.zero _
                      have HTA : Hid (Apa co dd ga) := Apa.old HT3.out (Nat.le_of_eq hg)
                      have HWA : Hid (Apa bo dd ga) := Apa.old HW3.out (Nat.le_of_eq hg)
                      have HNN : Hid ((w.heap.size ≤ ga ∧ gm ≠ ga) ∧ (w.heap.size ≤ gb ∧ gm ≠ gb) ∧ ga ≠ gb) := ⟨HAN.out, HZN.out, by have := lt_of_heap HZ3.out; omega⟩
                      go_simp
                      have hS : Hid ((u4.cell? ⟨gm, 0, none⟩ = some (.int .u64 m.ta) ∧ u4.cell? ⟨gm, 1, none⟩ = some (.int .u64 m.rp) ∧ u4.cell? ⟨gm, 2, none⟩ = some (.int .u32 m.id) ∧ u4.cell? ⟨gm, 3, none⟩ = some (.int .u16 m.op) ∧ u4.cell? ⟨gm, 4, none⟩ = some (.int .u16 m.st) ∧ u4.cell? ⟨gm, 5, none⟩ = some (.int .u64 m.p) ∧ u4.cell? ⟨gm, 6, none⟩ = some (.int .u32 m.o) ∧ u4.cell? ⟨gm, 7, none⟩ = some (.int .u8 m.r) ∧ u4.cell? ⟨gm, 8, none⟩ = some (.int .u64 m.c) ∧ u4.cell? ⟨gm, 9, none⟩ = some (.int .u64 m.ar) ∧ u4.cell? ⟨gm, 10, none⟩ = some (.slice so sn sc))) := HM4.out.all
                      refine hKK.out _ _ hS.out (fun _ => ?_)
                      clear hKK hv bv hg
                      have z0 := HA4.out.z 0
                      have z1 := HA4.out.z 1
                      have z2 := HA4.out.z 2
                      have z3 := HA4.out.z 3
                      have z4 := HA4.out.z 4
                      have z5 := HA4.out.z 5
                      have z6 := HA4.out.z 6
                      have z7 := HA4.out.z 7
                      have z8 := HA4.out.z 8
                      have z9 := HA4.out.z 9
                      have z10 := HA4.out.z 10
                      obtain ⟨y0, y1, y2, y3, y4, y5, y6, y7, y8, y9, y10⟩ := HA4.out.all
                      have fz := foot_lay11 u4 ga M2 (.slice co cn cc)
                      have hmine := HA4.out.lay (m := M2) (D := .slice co cn cc)
                      obtain ⟨ux, hux⟩ : ∃ q, lay11 u4 ga M2 (.slice co cn cc) = q := ⟨_, rfl⟩
                      rw [hux] at fz hmine
                      unfold lay11 at hux
                      have HAx := hide hmine
                      have HZx := hide (HZ4.out.foot fz (by show ¬ gb = ga; exact HNN.out.2.2.symm))
                      have HMx := hide (HM4.out.foot fz (by show ¬ gm = ga; exact HNN.out.1.2))
                      have HCx := hide (HC4.out.lay HA4.out HNN.out.1.1 fz)
                      have HTx := hide (HT4.out.apa HTA.out fz)
                      have HWx := hide (HW4.out.apa HWA.out fz)
                      clear fz hmine
                      refine wpAnyH_ready (rs := [9]) (by kernel_rfl) (by simp) ?_
                      refine AllReadyH.cons (o := { dst := none, op := Op.store 49 (Operand.tmp 17) (Operand.tmp 101), type := 0, pos := "law.go:156", after := #[{ on := 7, ground := Ground.data }, { on := 2, ground := Ground.data }, { on := 6, ground := Ground.chain }, { on := 0, ground := Ground.phase }, { on := 1, ground := Ground.phase }, { on := 2, ground := Ground.phase }, { on := 3, ground := Ground.textOnly Departure.lateStores }, { on := 4, ground := Ground.textOnly Departure.lateStores }, { on := 5, ground := Ground.textOnly Departure.lateStores }, { on := 6, ground := Ground.textOnly Departure.lateStoresUnsure }, { on := 7, ground := Ground.phase }, { on := 8, ground := Ground.phase }], guard := none }) rfl (fun KK hKK => ?_) AllReadyH.nil
                      go_simp
                      have hS : Hid ((ux.cell? ⟨gm, 0, none⟩ = some (.int .u64 m.ta) ∧ ux.cell? ⟨gm, 1, none⟩ = some (.int .u64 m.rp) ∧ ux.cell? ⟨gm, 2, none⟩ = some (.int .u32 m.id) ∧ ux.cell? ⟨gm, 3, none⟩ = some (.int .u16 m.op) ∧ ux.cell? ⟨gm, 4, none⟩ = some (.int .u16 m.st) ∧ ux.cell? ⟨gm, 5, none⟩ = some (.int .u64 m.p) ∧ ux.cell? ⟨gm, 6, none⟩ = some (.int .u32 m.o) ∧ ux.cell? ⟨gm, 7, none⟩ = some (.int .u8 m.r) ∧ ux.cell? ⟨gm, 8, none⟩ = some (.int .u64 m.c) ∧ ux.cell? ⟨gm, 9, none⟩ = some (.int .u64 m.ar) ∧ ux.cell? ⟨gm, 10, none⟩ = some (.slice so sn sc))) := HMx.out.all
                      refine hKK.out _ _ hS.out (fun _ => ?_)
                      clear hKK
                      clear z0 z1 z2 z3 z4 z5 z6 z7 z8 z9 z10 y0 y1 y2 y3 y4 y5 y6 y7 y8 y9 y10 hux
                      have z0 := HZx.out.z 0
                      have z1 := HZx.out.z 1
                      have z2 := HZx.out.z 2
                      have z3 := HZx.out.z 3
                      have z4 := HZx.out.z 4
                      have z5 := HZx.out.z 5
                      have z6 := HZx.out.z 6
                      have z7 := HZx.out.z 7
                      have z8 := HZx.out.z 8
                      have z9 := HZx.out.z 9
                      have z10 := HZx.out.z 10
                      obtain ⟨y0, y1, y2, y3, y4, y5, y6, y7, y8, y9, y10⟩ := HZx.out.all
                      have fz := foot_lay11 ux gb M2 (.slice bo bn bc)
                      have hmine := HZx.out.lay (m := M2) (D := .slice bo bn bc)
                      obtain ⟨uy, hux⟩ : ∃ q, lay11 ux gb M2 (.slice bo bn bc) = q := ⟨_, rfl⟩
                      rw [hux] at fz hmine
                      unfold lay11 at hux
                      have HZy := hide hmine
                      have HAy := hide (HAx.out.foot fz (by show ¬ ga = gb; exact HNN.out.2.2))
                      have HMy := hide (HMx.out.foot fz (by show ¬ gm = gb; exact HNN.out.2.1.2))
                      have HCy := hide (HCx.out.lay HZx.out HNN.out.2.1.1 fz)
                      have HTy := hide (HTx.out.apa HTB.out fz)
                      have HWy := hide (HWx.out.apa HWB.out fz)
                      clear fz hmine
                      refine wpAnyH_ready (rs := [10]) (by kernel_rfl) (by simp) ?_
                      refine AllReadyH.cons (o := { dst := none, op := Op.store 49 (Operand.tmp 18) (Operand.tmp 105), type := 0, pos := "law.go:156", after := #[{ on := 8, ground := Ground.data }, { on := 6, ground := Ground.data }, { on := 9, ground := Ground.chain }, { on := 0, ground := Ground.phase }, { on := 1, ground := Ground.phase }, { on := 2, ground := Ground.phase }, { on := 3, ground := Ground.phase }, { on := 4, ground := Ground.phase }, { on := 5, ground := Ground.phase }, { on := 6, ground := Ground.phase }, { on := 7, ground := Ground.phase }, { on := 8, ground := Ground.phase }, { on := 9, ground := Ground.phase }], guard := none }) rfl (fun KK hKK => ?_) AllReadyH.nil
                      go_simp
                      have hS : Hid ((uy.cell? ⟨gm, 0, none⟩ = some (.int .u64 m.ta) ∧ uy.cell? ⟨gm, 1, none⟩ = some (.int .u64 m.rp) ∧ uy.cell? ⟨gm, 2, none⟩ = some (.int .u32 m.id) ∧ uy.cell? ⟨gm, 3, none⟩ = some (.int .u16 m.op) ∧ uy.cell? ⟨gm, 4, none⟩ = some (.int .u16 m.st) ∧ uy.cell? ⟨gm, 5, none⟩ = some (.int .u64 m.p) ∧ uy.cell? ⟨gm, 6, none⟩ = some (.int .u32 m.o) ∧ uy.cell? ⟨gm, 7, none⟩ = some (.int .u8 m.r) ∧ uy.cell? ⟨gm, 8, none⟩ = some (.int .u64 m.c) ∧ uy.cell? ⟨gm, 9, none⟩ = some (.int .u64 m.ar) ∧ uy.cell? ⟨gm, 10, none⟩ = some (.slice so sn sc))) := HMy.out.all
                      refine hKK.out _ _ hS.out (fun _ => ?_)
                      clear hKK
                      clear z0 z1 z2 z3 z4 z5 z6 z7 z8 z9 z10 y0 y1 y2 y3 y4 y5 y6 y7 y8 y9 y10 hux
                      refine wpAnyH_done (by kernel_rfl) ?_ _
                      go_wp2_with fail
                      go_meet
                      exact ⟨ga, gb, co, cn, cc, bo, bn, bc, _, _, _, _, _, _, rfl, rfl, HAy.out, HZy.out, HTy.out, HWy.out, HMy.out, HCy.out⟩
                  · obtain ⟨u3, hv⟩ : ∃ u3, u2.alloc (.cells #[.int .u64 0, .int .u64 0, .int .u32 0, .int .u16 0, .int .u16 0, .int .u64 0, .int .u32 0, .int .u8 0, .int .u64 0, .int .u64 0, .slice none 0 0] 49) = u3 := ⟨_, rfl⟩
                    have bv : Below u2.heap.size u2 u3 := hv ▸ below_alloc _ _
                    have HM3 := hide (HM2.out.grow bv)
                    have HC3 := hide (HC2.out.grow bv)
                    have HT3 := hide (Bts.carry HT2.out bv)
                    have HZ3 := hide (HZ2.out.grow bv)
                    obtain ⟨ga, hg⟩ : ∃ g, u2.heap.size = g := ⟨_, rfl⟩
                    have HAN : Hid (w.heap.size ≤ ga ∧ gm ≠ ga) := by show _ ∧ _; rw [← hg]; have := HC2.out.bel.size; have := lt_of_heap HM2.out; omega
                    have HA3 : Hid (MB u3 ga Msg.zero (.slice none 0 0)) := by show MB _ _ _ _; rw [← hg, ← hv]; exact mb_new u2 Msg.zero _
                    have HTA : Hid (Apa co dd ga) := Apa.old HT2.out (Nat.le_of_eq hg)
                    have HNN : Hid ((w.heap.size ≤ ga ∧ gm ≠ ga) ∧ (w.heap.size ≤ gb ∧ gm ≠ gb) ∧ ga ≠ gb) := ⟨HAN.out, HZN.out, by have := lt_of_heap HZ2.out; omega⟩
                    go_simp
                    have hS : Hid ((u3.cell? ⟨gm, 0, none⟩ = some (.int .u64 m.ta) ∧ u3.cell? ⟨gm, 1, none⟩ = some (.int .u64 m.rp) ∧ u3.cell? ⟨gm, 2, none⟩ = some (.int .u32 m.id) ∧ u3.cell? ⟨gm, 3, none⟩ = some (.int .u16 m.op) ∧ u3.cell? ⟨gm, 4, none⟩ = some (.int .u16 m.st) ∧ u3.cell? ⟨gm, 5, none⟩ = some (.int .u64 m.p) ∧ u3.cell? ⟨gm, 6, none⟩ = some (.int .u32 m.o) ∧ u3.cell? ⟨gm, 7, none⟩ = some (.int .u8 m.r) ∧ u3.cell? ⟨gm, 8, none⟩ = some (.int .u64 m.c) ∧ u3.cell? ⟨gm, 9, none⟩ = some (.int .u64 m.ar) ∧ u3.cell? ⟨gm, 10, none⟩ = some (.slice so sn sc))) := HM3.out.all
                    refine hKK.out _ _ hS.out (fun _ => ?_)
                    clear hKK hv bv hg
                    refine wpAnyH_ready (rs := [6]) (by kernel_rfl) (by simp) ?_
                    refine AllReadyH.cons (o := { dst := some 105, op := Op.call { callee := Callee.value (Operand.func 15), args := #[Operand.tmp 102, Operand.tmp 103, Operand.tmp 104], argTypes := #[25, 32, 49] }, type := 49, pos := "law.go:156", after := #[{ on := 3, ground := Ground.data }, { on := 4, ground := Ground.data }, { on := 5, ground := Ground.data }, { on := 2, ground := Ground.chain }], guard := none }) rfl (fun KK hKK => ?_) AllReadyH.nil
                    · go_simp
                      refine (want_any m so sn sc l _ HC3.out.du.y (HBT.out.carry HC3.out.bel) HOKM.out HLM.out HC3.out.gl R HR.out).mono ?_; rintro e u4 ⟨mm, bo, bn, bc, hmm, rfl, hb, hn, E⟩
                      obtain rfl : M2 = mm := HEM.out.symm.trans hmm.symm
                      rw [HDD.out] at hb hn
                      obtain ⟨va2, dv2, nv2, B2⟩ := HC3.out.right E
                      have kk := HC3.out.du.y.kh E
                      have HM4 := hide (HM3.out.kh kk)
                      have HC4 := hide B2
                      have HT4 := hide (Bts.half HT3.out HTN.out HUP.out E)
                      have HW4 := hide hb
                      have HA4 := hide (HA3.out.kh kk)
                      have HWA : Hid (Apa bo dd ga) := Apa.new hn (lt_of_heap HA3.out)
                      have HZ4 := hide (HZ3.out.kh kk)
                      have HWB : Hid (Apa bo dd gb) := Apa.new hn (lt_of_heap HZ3.out)
                      have hS : Hid ((u4.cell? ⟨gm, 0, none⟩ = some (.int .u64 m.ta) ∧ u4.cell? ⟨gm, 1, none⟩ = some (.int .u64 m.rp) ∧ u4.cell? ⟨gm, 2, none⟩ = some (.int .u32 m.id) ∧ u4.cell? ⟨gm, 3, none⟩ = some (.int .u16 m.op) ∧ u4.cell? ⟨gm, 4, none⟩ = some (.int .u16 m.st) ∧ u4.cell? ⟨gm, 5, none⟩ = some (.int .u64 m.p) ∧ u4.cell? ⟨gm, 6, none⟩ = some (.int .u32 m.o) ∧ u4.cell? ⟨gm, 7, none⟩ = some (.int .u8 m.r) ∧ u4.cell? ⟨gm, 8, none⟩ = some (.int .u64 m.c) ∧ u4.cell? ⟨gm, 9, none⟩ = some (.int .u64 m.ar) ∧ u4.cell? ⟨gm, 10, none⟩ = some (.slice so sn sc))) := HM4.out.all
                      refine hKK.out _ _ hS.out (fun _ => ?_)
                      clear hKK kk hb hn E B2 hmm
                      have z0 := HA4.out.z 0
                      have z1 := HA4.out.z 1
                      have z2 := HA4.out.z 2
                      have z3 := HA4.out.z 3
                      have z4 := HA4.out.z 4
                      have z5 := HA4.out.z 5
                      have z6 := HA4.out.z 6
                      have z7 := HA4.out.z 7
                      have z8 := HA4.out.z 8
                      have z9 := HA4.out.z 9
                      have z10 := HA4.out.z 10
                      obtain ⟨y0, y1, y2, y3, y4, y5, y6, y7, y8, y9, y10⟩ := HA4.out.all
                      have fz := foot_lay11 u4 ga M2 (.slice co cn cc)
                      have hmine := HA4.out.lay (m := M2) (D := .slice co cn cc)
                      obtain ⟨ux, hux⟩ : ∃ q, lay11 u4 ga M2 (.slice co cn cc) = q := ⟨_, rfl⟩
                      rw [hux] at fz hmine
                      unfold lay11 at hux
                      have HAx := hide hmine
                      have HZx := hide (HZ4.out.foot fz (by show ¬ gb = ga; exact HNN.out.2.2.symm))
                      have HMx := hide (HM4.out.foot fz (by show ¬ gm = ga; exact HNN.out.1.2))
                      have HCx := hide (HC4.out.lay HA4.out HNN.out.1.1 fz)
                      have HTx := hide (HT4.out.apa HTA.out fz)
                      have HWx := hide (HW4.out.apa HWA.out fz)
                      clear fz hmine
                      refine wpAnyH_ready (rs := [9]) (by kernel_rfl) (by simp) ?_
                      refine AllReadyH.cons (o := { dst := none, op := Op.store 49 (Operand.tmp 17) (Operand.tmp 101), type := 0, pos := "law.go:156", after := #[{ on := 7, ground := Ground.data }, { on := 2, ground := Ground.data }, { on := 6, ground := Ground.chain }, { on := 0, ground := Ground.phase }, { on := 1, ground := Ground.phase }, { on := 2, ground := Ground.phase }, { on := 3, ground := Ground.textOnly Departure.lateStores }, { on := 4, ground := Ground.textOnly Departure.lateStores }, { on := 5, ground := Ground.textOnly Departure.lateStores }, { on := 6, ground := Ground.textOnly Departure.lateStoresUnsure }, { on := 7, ground := Ground.phase }, { on := 8, ground := Ground.phase }], guard := none }) rfl (fun KK hKK => ?_) AllReadyH.nil
                      go_simp
                      have hS : Hid ((ux.cell? ⟨gm, 0, none⟩ = some (.int .u64 m.ta) ∧ ux.cell? ⟨gm, 1, none⟩ = some (.int .u64 m.rp) ∧ ux.cell? ⟨gm, 2, none⟩ = some (.int .u32 m.id) ∧ ux.cell? ⟨gm, 3, none⟩ = some (.int .u16 m.op) ∧ ux.cell? ⟨gm, 4, none⟩ = some (.int .u16 m.st) ∧ ux.cell? ⟨gm, 5, none⟩ = some (.int .u64 m.p) ∧ ux.cell? ⟨gm, 6, none⟩ = some (.int .u32 m.o) ∧ ux.cell? ⟨gm, 7, none⟩ = some (.int .u8 m.r) ∧ ux.cell? ⟨gm, 8, none⟩ = some (.int .u64 m.c) ∧ ux.cell? ⟨gm, 9, none⟩ = some (.int .u64 m.ar) ∧ ux.cell? ⟨gm, 10, none⟩ = some (.slice so sn sc))) := HMx.out.all
                      refine hKK.out _ _ hS.out (fun _ => ?_)
                      clear hKK
                      clear z0 z1 z2 z3 z4 z5 z6 z7 z8 z9 z10 y0 y1 y2 y3 y4 y5 y6 y7 y8 y9 y10 hux
                      have z0 := HZx.out.z 0
                      have z1 := HZx.out.z 1
                      have z2 := HZx.out.z 2
                      have z3 := HZx.out.z 3
                      have z4 := HZx.out.z 4
                      have z5 := HZx.out.z 5
                      have z6 := HZx.out.z 6
                      have z7 := HZx.out.z 7
                      have z8 := HZx.out.z 8
                      have z9 := HZx.out.z 9
                      have z10 := HZx.out.z 10
                      obtain ⟨y0, y1, y2, y3, y4, y5, y6, y7, y8, y9, y10⟩ := HZx.out.all
                      have fz := foot_lay11 ux gb M2 (.slice bo bn bc)
                      have hmine := HZx.out.lay (m := M2) (D := .slice bo bn bc)
                      obtain ⟨uy, hux⟩ : ∃ q, lay11 ux gb M2 (.slice bo bn bc) = q := ⟨_, rfl⟩
                      rw [hux] at fz hmine
                      unfold lay11 at hux
                      have HZy := hide hmine
                      have HAy := hide (HAx.out.foot fz (by show ¬ ga = gb; exact HNN.out.2.2))
                      have HMy := hide (HMx.out.foot fz (by show ¬ gm = gb; exact HNN.out.2.1.2))
                      have HCy := hide (HCx.out.lay HZx.out HNN.out.2.1.1 fz)
                      have HTy := hide (HTx.out.apa HTB.out fz)
                      have HWy := hide (HWx.out.apa HWB.out fz)
                      clear fz hmine
                      refine wpAnyH_ready (rs := [10]) (by kernel_rfl) (by simp) ?_
                      refine AllReadyH.cons (o := { dst := none, op := Op.store 49 (Operand.tmp 18) (Operand.tmp 105), type := 0, pos := "law.go:156", after := #[{ on := 8, ground := Ground.data }, { on := 6, ground := Ground.data }, { on := 9, ground := Ground.chain }, { on := 0, ground := Ground.phase }, { on := 1, ground := Ground.phase }, { on := 2, ground := Ground.phase }, { on := 3, ground := Ground.phase }, { on := 4, ground := Ground.phase }, { on := 5, ground := Ground.phase }, { on := 6, ground := Ground.phase }, { on := 7, ground := Ground.phase }, { on := 8, ground := Ground.phase }, { on := 9, ground := Ground.phase }], guard := none }) rfl (fun KK hKK => ?_) AllReadyH.nil
                      go_simp
                      have hS : Hid ((uy.cell? ⟨gm, 0, none⟩ = some (.int .u64 m.ta) ∧ uy.cell? ⟨gm, 1, none⟩ = some (.int .u64 m.rp) ∧ uy.cell? ⟨gm, 2, none⟩ = some (.int .u32 m.id) ∧ uy.cell? ⟨gm, 3, none⟩ = some (.int .u16 m.op) ∧ uy.cell? ⟨gm, 4, none⟩ = some (.int .u16 m.st) ∧ uy.cell? ⟨gm, 5, none⟩ = some (.int .u64 m.p) ∧ uy.cell? ⟨gm, 6, none⟩ = some (.int .u32 m.o) ∧ uy.cell? ⟨gm, 7, none⟩ = some (.int .u8 m.r) ∧ uy.cell? ⟨gm, 8, none⟩ = some (.int .u64 m.c) ∧ uy.cell? ⟨gm, 9, none⟩ = some (.int .u64 m.ar) ∧ uy.cell? ⟨gm, 10, none⟩ = some (.slice so sn sc))) := HMy.out.all
                      refine hKK.out _ _ hS.out (fun _ => ?_)
                      clear hKK
                      clear z0 z1 z2 z3 z4 z5 z6 z7 z8 z9 z10 y0 y1 y2 y3 y4 y5 y6 y7 y8 y9 y10 hux
                      refine wpAnyH_done (by kernel_rfl) ?_ _
                      go_wp2_with fail
                      go_meet
                      exact ⟨ga, gb, co, cn, cc, bo, bn, bc, _, _, _, _, _, _, rfl, rfl, HAy.out, HZy.out, HTy.out, HWy.out, HMy.out, HCy.out⟩
                · obtain ⟨u2, hv⟩ : ∃ u2, u1.alloc (.cells #[.int .u64 0, .int .u64 0, .int .u32 0, .int .u16 0, .int .u16 0, .int .u64 0, .int .u32 0, .int .u8 0, .int .u64 0, .int .u64 0, .slice none 0 0] 49) = u2 := ⟨_, rfl⟩
                  have bv : Below u1.heap.size u1 u2 := hv ▸ below_alloc _ _
                  have HM2 := hide (HM1.out.grow bv)
                  have HC2 := hide (HC1.out.grow bv)
                  have HZ2 := hide (HZ1.out.grow bv)
                  obtain ⟨ga, hg⟩ : ∃ g, u1.heap.size = g := ⟨_, rfl⟩
                  have HAN : Hid (w.heap.size ≤ ga ∧ gm ≠ ga) := by show _ ∧ _; rw [← hg]; have := HC1.out.bel.size; have := lt_of_heap HM1.out; omega
                  have HA2 : Hid (MB u2 ga Msg.zero (.slice none 0 0)) := by show MB _ _ _ _; rw [← hg, ← hv]; exact mb_new u1 Msg.zero _
                  have HNN : Hid ((w.heap.size ≤ ga ∧ gm ≠ ga) ∧ (w.heap.size ≤ gb ∧ gm ≠ gb) ∧ ga ≠ gb) := ⟨HAN.out, HZN.out, by have := lt_of_heap HZ1.out; omega⟩
                  go_simp
                  have hS : Hid ((u2.cell? ⟨gm, 0, none⟩ = some (.int .u64 m.ta) ∧ u2.cell? ⟨gm, 1, none⟩ = some (.int .u64 m.rp) ∧ u2.cell? ⟨gm, 2, none⟩ = some (.int .u32 m.id) ∧ u2.cell? ⟨gm, 3, none⟩ = some (.int .u16 m.op) ∧ u2.cell? ⟨gm, 4, none⟩ = some (.int .u16 m.st) ∧ u2.cell? ⟨gm, 5, none⟩ = some (.int .u64 m.p) ∧ u2.cell? ⟨gm, 6, none⟩ = some (.int .u32 m.o) ∧ u2.cell? ⟨gm, 7, none⟩ = some (.int .u8 m.r) ∧ u2.cell? ⟨gm, 8, none⟩ = some (.int .u64 m.c) ∧ u2.cell? ⟨gm, 9, none⟩ = some (.int .u64 m.ar) ∧ u2.cell? ⟨gm, 10, none⟩ = some (.slice so sn sc))) := HM2.out.all
                  refine hKK.out _ _ hS.out (fun _ => ?_)
                  clear hKK hv bv hg
                  refine wpAnyH_ready (rs := [2]) (by kernel_rfl) (by simp) ?_
                  refine AllReadyH.cons (o := { dst := some 101, op := Op.call { callee := Callee.value (Operand.func 14), args := #[Operand.tmp 99, Operand.tmp 100], argTypes := #[36, 49] }, type := 49, pos := "law.go:156", after := #[{ on := 0, ground := Ground.data }, { on := 1, ground := Ground.data }], guard := none }) rfl (fun KK hKK => ?_) AllReadyH.nil
                  · go_simp
                    refine (serve_any m so sn sc l _ HC2.out.sr HC2.out.du.x (HBT.out.carry HC2.out.bel) HOKM.out HLM.out HC2.out.gl R HR.out).mono ?_; rintro e u3 ⟨mm, co, cn, cc, hmm, rfl, hb, hn, E⟩
                    obtain rfl : M2 = mm := HEM.out.symm.trans hmm.symm
                    rw [HDD.out] at hb hn
                    obtain ⟨va1, dv1, nv1, B1⟩ := HC2.out.left E
                    have kk := HC2.out.du.x.kh E
                    have HM3 := hide (HM2.out.kh kk)
                    have HC3 := hide B1
                    have HT3 := hide hb
                    have HTN := hide hn
                    have HUP : Hid (∀ j, SvS (A'.upd va' dv' nv') j → j < u2.heap.size) := fun j e => (HC2.out.du.y.up e).2
                    have HA3 := hide (HA2.out.kh kk)
                    have HTA : Hid (Apa co dd ga) := Apa.new hn (lt_of_heap HA2.out)
                    have HZ3 := hide (HZ2.out.kh kk)
                    have HTB : Hid (Apa co dd gb) := Apa.new hn (lt_of_heap HZ2.out)
                    have hS : Hid ((u3.cell? ⟨gm, 0, none⟩ = some (.int .u64 m.ta) ∧ u3.cell? ⟨gm, 1, none⟩ = some (.int .u64 m.rp) ∧ u3.cell? ⟨gm, 2, none⟩ = some (.int .u32 m.id) ∧ u3.cell? ⟨gm, 3, none⟩ = some (.int .u16 m.op) ∧ u3.cell? ⟨gm, 4, none⟩ = some (.int .u16 m.st) ∧ u3.cell? ⟨gm, 5, none⟩ = some (.int .u64 m.p) ∧ u3.cell? ⟨gm, 6, none⟩ = some (.int .u32 m.o) ∧ u3.cell? ⟨gm, 7, none⟩ = some (.int .u8 m.r) ∧ u3.cell? ⟨gm, 8, none⟩ = some (.int .u64 m.c) ∧ u3.cell? ⟨gm, 9, none⟩ = some (.int .u64 m.ar) ∧ u3.cell? ⟨gm, 10, none⟩ = some (.slice so sn sc))) := HM3.out.all
                    refine hKK.out _ _ hS.out (fun _ => ?_)
                    clear hKK kk hb hn E B1 hmm
                    refine wpAnyH_ready (rs := [6]) (by kernel_rfl) (by simp) ?_
                    refine AllReadyH.cons (o := { dst := some 105, op := Op.call { callee := Callee.value (Operand.func 15), args := #[Operand.tmp 102, Operand.tmp 103, Operand.tmp 104], argTypes := #[25, 32, 49] }, type := 49, pos := "law.go:156", after := #[{ on := 3, ground := Ground.data }, { on := 4, ground := Ground.data }, { on := 5, ground := Ground.data }, { on := 2, ground := Ground.chain }], guard := none }) rfl (fun KK hKK => ?_) AllReadyH.nil
                    · go_simp
                      refine (want_any m so sn sc l _ HC3.out.du.y (HBT.out.carry HC3.out.bel) HOKM.out HLM.out HC3.out.gl R HR.out).mono ?_; rintro e u4 ⟨mm, bo, bn, bc, hmm, rfl, hb, hn, E⟩
                      obtain rfl : M2 = mm := HEM.out.symm.trans hmm.symm
                      rw [HDD.out] at hb hn
                      obtain ⟨va2, dv2, nv2, B2⟩ := HC3.out.right E
                      have kk := HC3.out.du.y.kh E
                      have HM4 := hide (HM3.out.kh kk)
                      have HC4 := hide B2
                      have HT4 := hide (Bts.half HT3.out HTN.out HUP.out E)
                      have HW4 := hide hb
                      have HA4 := hide (HA3.out.kh kk)
                      have HWA : Hid (Apa bo dd ga) := Apa.new hn (lt_of_heap HA3.out)
                      have HZ4 := hide (HZ3.out.kh kk)
                      have HWB : Hid (Apa bo dd gb) := Apa.new hn (lt_of_heap HZ3.out)
                      have hS : Hid ((u4.cell? ⟨gm, 0, none⟩ = some (.int .u64 m.ta) ∧ u4.cell? ⟨gm, 1, none⟩ = some (.int .u64 m.rp) ∧ u4.cell? ⟨gm, 2, none⟩ = some (.int .u32 m.id) ∧ u4.cell? ⟨gm, 3, none⟩ = some (.int .u16 m.op) ∧ u4.cell? ⟨gm, 4, none⟩ = some (.int .u16 m.st) ∧ u4.cell? ⟨gm, 5, none⟩ = some (.int .u64 m.p) ∧ u4.cell? ⟨gm, 6, none⟩ = some (.int .u32 m.o) ∧ u4.cell? ⟨gm, 7, none⟩ = some (.int .u8 m.r) ∧ u4.cell? ⟨gm, 8, none⟩ = some (.int .u64 m.c) ∧ u4.cell? ⟨gm, 9, none⟩ = some (.int .u64 m.ar) ∧ u4.cell? ⟨gm, 10, none⟩ = some (.slice so sn sc))) := HM4.out.all
                      refine hKK.out _ _ hS.out (fun _ => ?_)
                      clear hKK kk hb hn E B2 hmm
                      have z0 := HA4.out.z 0
                      have z1 := HA4.out.z 1
                      have z2 := HA4.out.z 2
                      have z3 := HA4.out.z 3
                      have z4 := HA4.out.z 4
                      have z5 := HA4.out.z 5
                      have z6 := HA4.out.z 6
                      have z7 := HA4.out.z 7
                      have z8 := HA4.out.z 8
                      have z9 := HA4.out.z 9
                      have z10 := HA4.out.z 10
                      obtain ⟨y0, y1, y2, y3, y4, y5, y6, y7, y8, y9, y10⟩ := HA4.out.all
                      have fz := foot_lay11 u4 ga M2 (.slice co cn cc)
                      have hmine := HA4.out.lay (m := M2) (D := .slice co cn cc)
                      obtain ⟨ux, hux⟩ : ∃ q, lay11 u4 ga M2 (.slice co cn cc) = q := ⟨_, rfl⟩
                      rw [hux] at fz hmine
                      unfold lay11 at hux
                      have HAx := hide hmine
                      have HZx := hide (HZ4.out.foot fz (by show ¬ gb = ga; exact HNN.out.2.2.symm))
                      have HMx := hide (HM4.out.foot fz (by show ¬ gm = ga; exact HNN.out.1.2))
                      have HCx := hide (HC4.out.lay HA4.out HNN.out.1.1 fz)
                      have HTx := hide (HT4.out.apa HTA.out fz)
                      have HWx := hide (HW4.out.apa HWA.out fz)
                      clear fz hmine
                      refine wpAnyH_ready (rs := [9]) (by kernel_rfl) (by simp) ?_
                      refine AllReadyH.cons (o := { dst := none, op := Op.store 49 (Operand.tmp 17) (Operand.tmp 101), type := 0, pos := "law.go:156", after := #[{ on := 7, ground := Ground.data }, { on := 2, ground := Ground.data }, { on := 6, ground := Ground.chain }, { on := 0, ground := Ground.phase }, { on := 1, ground := Ground.phase }, { on := 2, ground := Ground.phase }, { on := 3, ground := Ground.textOnly Departure.lateStores }, { on := 4, ground := Ground.textOnly Departure.lateStores }, { on := 5, ground := Ground.textOnly Departure.lateStores }, { on := 6, ground := Ground.textOnly Departure.lateStoresUnsure }, { on := 7, ground := Ground.phase }, { on := 8, ground := Ground.phase }], guard := none }) rfl (fun KK hKK => ?_) AllReadyH.nil
                      go_simp
                      have hS : Hid ((ux.cell? ⟨gm, 0, none⟩ = some (.int .u64 m.ta) ∧ ux.cell? ⟨gm, 1, none⟩ = some (.int .u64 m.rp) ∧ ux.cell? ⟨gm, 2, none⟩ = some (.int .u32 m.id) ∧ ux.cell? ⟨gm, 3, none⟩ = some (.int .u16 m.op) ∧ ux.cell? ⟨gm, 4, none⟩ = some (.int .u16 m.st) ∧ ux.cell? ⟨gm, 5, none⟩ = some (.int .u64 m.p) ∧ ux.cell? ⟨gm, 6, none⟩ = some (.int .u32 m.o) ∧ ux.cell? ⟨gm, 7, none⟩ = some (.int .u8 m.r) ∧ ux.cell? ⟨gm, 8, none⟩ = some (.int .u64 m.c) ∧ ux.cell? ⟨gm, 9, none⟩ = some (.int .u64 m.ar) ∧ ux.cell? ⟨gm, 10, none⟩ = some (.slice so sn sc))) := HMx.out.all
                      refine hKK.out _ _ hS.out (fun _ => ?_)
                      clear hKK
                      clear z0 z1 z2 z3 z4 z5 z6 z7 z8 z9 z10 y0 y1 y2 y3 y4 y5 y6 y7 y8 y9 y10 hux
                      have z0 := HZx.out.z 0
                      have z1 := HZx.out.z 1
                      have z2 := HZx.out.z 2
                      have z3 := HZx.out.z 3
                      have z4 := HZx.out.z 4
                      have z5 := HZx.out.z 5
                      have z6 := HZx.out.z 6
                      have z7 := HZx.out.z 7
                      have z8 := HZx.out.z 8
                      have z9 := HZx.out.z 9
                      have z10 := HZx.out.z 10
                      obtain ⟨y0, y1, y2, y3, y4, y5, y6, y7, y8, y9, y10⟩ := HZx.out.all
                      have fz := foot_lay11 ux gb M2 (.slice bo bn bc)
                      have hmine := HZx.out.lay (m := M2) (D := .slice bo bn bc)
                      obtain ⟨uy, hux⟩ : ∃ q, lay11 ux gb M2 (.slice bo bn bc) = q := ⟨_, rfl⟩
                      rw [hux] at fz hmine
                      unfold lay11 at hux
                      have HZy := hide hmine
                      have HAy := hide (HAx.out.foot fz (by show ¬ ga = gb; exact HNN.out.2.2))
                      have HMy := hide (HMx.out.foot fz (by show ¬ gm = gb; exact HNN.out.2.1.2))
                      have HCy := hide (HCx.out.lay HZx.out HNN.out.2.1.1 fz)
                      have HTy := hide (HTx.out.apa HTB.out fz)
                      have HWy := hide (HWx.out.apa HWB.out fz)
                      clear fz hmine
                      refine wpAnyH_ready (rs := [10]) (by kernel_rfl) (by simp) ?_
                      refine AllReadyH.cons (o := { dst := none, op := Op.store 49 (Operand.tmp 18) (Operand.tmp 105), type := 0, pos := "law.go:156", after := #[{ on := 8, ground := Ground.data }, { on := 6, ground := Ground.data }, { on := 9, ground := Ground.chain }, { on := 0, ground := Ground.phase }, { on := 1, ground := Ground.phase }, { on := 2, ground := Ground.phase }, { on := 3, ground := Ground.phase }, { on := 4, ground := Ground.phase }, { on := 5, ground := Ground.phase }, { on := 6, ground := Ground.phase }, { on := 7, ground := Ground.phase }, { on := 8, ground := Ground.phase }, { on := 9, ground := Ground.phase }], guard := none }) rfl (fun KK hKK => ?_) AllReadyH.nil
                      go_simp
                      have hS : Hid ((uy.cell? ⟨gm, 0, none⟩ = some (.int .u64 m.ta) ∧ uy.cell? ⟨gm, 1, none⟩ = some (.int .u64 m.rp) ∧ uy.cell? ⟨gm, 2, none⟩ = some (.int .u32 m.id) ∧ uy.cell? ⟨gm, 3, none⟩ = some (.int .u16 m.op) ∧ uy.cell? ⟨gm, 4, none⟩ = some (.int .u16 m.st) ∧ uy.cell? ⟨gm, 5, none⟩ = some (.int .u64 m.p) ∧ uy.cell? ⟨gm, 6, none⟩ = some (.int .u32 m.o) ∧ uy.cell? ⟨gm, 7, none⟩ = some (.int .u8 m.r) ∧ uy.cell? ⟨gm, 8, none⟩ = some (.int .u64 m.c) ∧ uy.cell? ⟨gm, 9, none⟩ = some (.int .u64 m.ar) ∧ uy.cell? ⟨gm, 10, none⟩ = some (.slice so sn sc))) := HMy.out.all
                      refine hKK.out _ _ hS.out (fun _ => ?_)
                      clear hKK
                      clear z0 z1 z2 z3 z4 z5 z6 z7 z8 z9 z10 y0 y1 y2 y3 y4 y5 y6 y7 y8 y9 y10 hux
                      refine wpAnyH_done (by kernel_rfl) ?_ _
                      go_wp2_with fail
                      go_meet
                      exact ⟨ga, gb, co, cn, cc, bo, bn, bc, _, _, _, _, _, _, rfl, rfl, HAy.out, HZy.out, HTy.out, HWy.out, HMy.out, HCy.out⟩
            case rest =>
              obtain ⟨ga, gb, co, cn, cc, bo, bn, bc, va, dv, nv, va', dv', nv', rfl, rfl, hA9, hZ9, hT9, hW9, hM9, hC9⟩ := hcut
              obtain ⟨po, pc, hdv, hp1, hp2⟩ := hC9.du.x.fd
              obtain ⟨qo, qc, hnv, hq1, hq2⟩ := hC9.du.x.fn
              obtain ⟨po', pc', hdv', hp1', hp2'⟩ := hC9.du.y.fd
              obtain ⟨qo', qc', hnv', hq1', hq2'⟩ := hC9.du.y.fn
              have hdv : dv = _ := hdv
              have hnv : nv = _ := hnv
              have hdv' : dv' = _ := hdv'
              have hnv' : nv' = _ := hnv'
              subst hdv hnv hdv' hnv'
              rename World => wq
              have HA := hide (show MB wq.drew _ _ _ from hA9)
              have HZ := hide (show MB wq.drew _ _ _ from hZ9)
              have HT := hide (show Bts wq.drew _ _ _ _ from hT9)
              have HW := hide (show Bts wq.drew _ _ _ _ from hW9)
              have HM := hide (show MB wq.drew _ _ _ from hM9)
              have HC := hide (hC9.drewN 1)
              have HSM : Hid (sameD M2 M2 dd dd = true) := sameD_iff.2 ⟨rfl, rfl⟩
              have HP := hide (show (fun W => ((W.cell? ⟨ga, 0, none⟩ = some (.int .u64 M2.ta) ∧ W.cell? ⟨ga, 1, none⟩ = some (.int .u64 M2.rp) ∧ W.cell? ⟨ga, 2, none⟩ = some (.int .u32 M2.id) ∧ W.cell? ⟨ga, 3, none⟩ = some (.int .u16 M2.op) ∧ W.cell? ⟨ga, 4, none⟩ = some (.int .u16 M2.st) ∧ W.cell? ⟨ga, 5, none⟩ = some (.int .u64 M2.p) ∧ W.cell? ⟨ga, 6, none⟩ = some (.int .u32 M2.o) ∧ W.cell? ⟨ga, 7, none⟩ = some (.int .u8 M2.r) ∧ W.cell? ⟨ga, 8, none⟩ = some (.int .u64 M2.c) ∧ W.cell? ⟨ga, 9, none⟩ = some (.int .u64 M2.ar) ∧ W.cell? ⟨ga, 10, none⟩ = some (.slice co cn cc)) ∧ (W.cell? ⟨gb, 0, none⟩ = some (.int .u64 M2.ta) ∧ W.cell? ⟨gb, 1, none⟩ = some (.int .u64 M2.rp) ∧ W.cell? ⟨gb, 2, none⟩ = some (.int .u32 M2.id) ∧ W.cell? ⟨gb, 3, none⟩ = some (.int .u16 M2.op) ∧ W.cell? ⟨gb, 4, none⟩ = some (.int .u16 M2.st) ∧ W.cell? ⟨gb, 5, none⟩ = some (.int .u64 M2.p) ∧ W.cell? ⟨gb, 6, none⟩ = some (.int .u32 M2.o) ∧ W.cell? ⟨gb, 7, none⟩ = some (.int .u8 M2.r) ∧ W.cell? ⟨gb, 8, none⟩ = some (.int .u64 M2.c) ∧ W.cell? ⟨gb, 9, none⟩ = some (.int .u64 M2.ar) ∧ W.cell? ⟨gb, 10, none⟩ = some (.slice bo bn bc))) ∧ W.cell? ⟨A.sb, 0, none⟩ = some (.slice po R.s.D.length pc) ∧ W.cell? ⟨A.sb, 1, none⟩ = some (.slice qo R.s.G.length qc) ∧ W.cell? ⟨A'.sb, 0, none⟩ = some (.slice po' R.s.D.length pc') ∧ W.cell? ⟨A'.sb, 1, none⟩ = some (.slice qo' R.s.G.length qc')) wq.drew from ⟨⟨HA.out.all, HZ.out.all⟩, HC.out.du.x.cd, HC.out.du.x.cn, HC.out.du.y.cd, HC.out.du.y.cn⟩)
              have HOL := hide HS2.out.ok
              have HLE : Hid (L.length ≤ i + 3) := HS2.out.len
              clear hA9 hZ9 hT9 hW9 hM9 hC9 HCM HCB HS2
              go_wp2_with fail
              go_region_held (fun W => ((W.cell? ⟨ga, 0, none⟩ = some (.int .u64 M2.ta) ∧ W.cell? ⟨ga, 1, none⟩ = some (.int .u64 M2.rp) ∧ W.cell? ⟨ga, 2, none⟩ = some (.int .u32 M2.id) ∧ W.cell? ⟨ga, 3, none⟩ = some (.int .u16 M2.op) ∧ W.cell? ⟨ga, 4, none⟩ = some (.int .u16 M2.st) ∧ W.cell? ⟨ga, 5, none⟩ = some (.int .u64 M2.p) ∧ W.cell? ⟨ga, 6, none⟩ = some (.int .u32 M2.o) ∧ W.cell? ⟨ga, 7, none⟩ = some (.int .u8 M2.r) ∧ W.cell? ⟨ga, 8, none⟩ = some (.int .u64 M2.c) ∧ W.cell? ⟨ga, 9, none⟩ = some (.int .u64 M2.ar) ∧ W.cell? ⟨ga, 10, none⟩ = some (.slice co cn cc)) ∧ (W.cell? ⟨gb, 0, none⟩ = some (.int .u64 M2.ta) ∧ W.cell? ⟨gb, 1, none⟩ = some (.int .u64 M2.rp) ∧ W.cell? ⟨gb, 2, none⟩ = some (.int .u32 M2.id) ∧ W.cell? ⟨gb, 3, none⟩ = some (.int .u16 M2.op) ∧ W.cell? ⟨gb, 4, none⟩ = some (.int .u16 M2.st) ∧ W.cell? ⟨gb, 5, none⟩ = some (.int .u64 M2.p) ∧ W.cell? ⟨gb, 6, none⟩ = some (.int .u32 M2.o) ∧ W.cell? ⟨gb, 7, none⟩ = some (.int .u8 M2.r) ∧ W.cell? ⟨gb, 8, none⟩ = some (.int .u64 M2.c) ∧ W.cell? ⟨gb, 9, none⟩ = some (.int .u64 M2.ar) ∧ W.cell? ⟨gb, 10, none⟩ = some (.slice bo bn bc))) ∧ W.cell? ⟨A.sb, 0, none⟩ = some (.slice po R.s.D.length pc) ∧ W.cell? ⟨A.sb, 1, none⟩ = some (.slice qo R.s.G.length qc) ∧ W.cell? ⟨A'.sb, 0, none⟩ = some (.slice po' R.s.D.length pc') ∧ W.cell? ⟨A'.sb, 1, none⟩ = some (.slice qo' R.s.G.length qc')) (exact HP.out) (first
                | (go_at_call 16; refine (same_any M2 M2 co cn cc dd bo bn bc dd _ HT.out HW.out).mono ?_; rw [HSM.out]; rintro e wx ⟨rfl, bx⟩; have HA := hide (HA.out.grow bx); have HZ := hide (HZ.out.grow bx); have HM := hide (HM.out.grow bx); have HC := hide (HC.out.grow bx); have HP := hide (show (fun W => ((W.cell? ⟨ga, 0, none⟩ = some (.int .u64 M2.ta) ∧ W.cell? ⟨ga, 1, none⟩ = some (.int .u64 M2.rp) ∧ W.cell? ⟨ga, 2, none⟩ = some (.int .u32 M2.id) ∧ W.cell? ⟨ga, 3, none⟩ = some (.int .u16 M2.op) ∧ W.cell? ⟨ga, 4, none⟩ = some (.int .u16 M2.st) ∧ W.cell? ⟨ga, 5, none⟩ = some (.int .u64 M2.p) ∧ W.cell? ⟨ga, 6, none⟩ = some (.int .u32 M2.o) ∧ W.cell? ⟨ga, 7, none⟩ = some (.int .u8 M2.r) ∧ W.cell? ⟨ga, 8, none⟩ = some (.int .u64 M2.c) ∧ W.cell? ⟨ga, 9, none⟩ = some (.int .u64 M2.ar) ∧ W.cell? ⟨ga, 10, none⟩ = some (.slice co cn cc)) ∧ (W.cell? ⟨gb, 0, none⟩ = some (.int .u64 M2.ta) ∧ W.cell? ⟨gb, 1, none⟩ = some (.int .u64 M2.rp) ∧ W.cell? ⟨gb, 2, none⟩ = some (.int .u32 M2.id) ∧ W.cell? ⟨gb, 3, none⟩ = some (.int .u16 M2.op) ∧ W.cell? ⟨gb, 4, none⟩ = some (.int .u16 M2.st) ∧ W.cell? ⟨gb, 5, none⟩ = some (.int .u64 M2.p) ∧ W.cell? ⟨gb, 6, none⟩ = some (.int .u32 M2.o) ∧ W.cell? ⟨gb, 7, none⟩ = some (.int .u8 M2.r) ∧ W.cell? ⟨gb, 8, none⟩ = some (.int .u64 M2.c) ∧ W.cell? ⟨gb, 9, none⟩ = some (.int .u64 M2.ar) ∧ W.cell? ⟨gb, 10, none⟩ = some (.slice bo bn bc))) ∧ W.cell? ⟨A.sb, 0, none⟩ = some (.slice po R.s.D.length pc) ∧ W.cell? ⟨A.sb, 1, none⟩ = some (.slice qo R.s.G.length qc) ∧ W.cell? ⟨A'.sb, 0, none⟩ = some (.slice po' R.s.D.length pc') ∧ W.cell? ⟨A'.sb, 1, none⟩ = some (.slice qo' R.s.G.length qc')) wx from ⟨⟨HA.out.all, HZ.out.all⟩, HC.out.du.x.cd, HC.out.du.x.cn, HC.out.du.y.cd, HC.out.du.y.cn⟩); clear bx))
              obtain ⟨t0, t1, t2, t3, t4, t5, t6, t7, t8, t9, t10⟩ := HA.out.all
              obtain ⟨k0, k1, k2, k3, k4, k5, k6, k7, k8, k9, k10⟩ := HM.out.all
              by_cases hst : M2.st = 0
              · have es : ((M2.st : Int) == 0) = true := by rw [hst]; rfl
                have hrc : (⟨M2.p, M2.o, M2.r, M2.c⟩ : Cp) = R.c := by rw [← HEM.out] at hst ⊢; exact rpl_c hst
                by_cases h3 : m.op = 3
                · have e3 : ((m.op : Int) == 3) = true := by rw [h3]; rfl
                  have HNEW : Hid ((⟨M2.p, M2.o, M2.r, M2.c⟩ : Cp).ok) := by show Cp.ok _; rw [hrc]; exact HOC.out (.inl h3)
                  clear hst hrc h3
                  obtain ⟨v', w', hr, ho', hf, -⟩ := app_cap M2.p M2.o M2.r M2.c HC.out.row (by have := HLE.out; have := HNA.out; omega) HC.out.bel.size
                  have hB3 := HC.out.app (L' := L ++ [⟨M2.p, M2.o, M2.r, M2.c⟩]) hf (by rw [len_snoc]; exact ho')
                  have HB3 := hide hB3
                  have HRN := hide hr
                  clear hr ho' hf hB3
                  go_wp2_with (at_builtin; refine wpList_append_run rfl _ _ _ rfl _ _ _ _ rfl rfl HRN.out ?_)
                  go_roundg g1
                  case measure => have := HI.out; omega
                  case rel =>
                    refine ⟨i + 1, by go_num, by have := HI.out; omega, R.s, L ++ [⟨M2.p, M2.o, M2.r, M2.c⟩], _, _, _, _, _, _, by rw [len_snoc]; omega, HB3.out.du, HB3.out.sr, HB3.out.row, ?_, by rw [len_snoc]; have := HLE.out; omega, HFW.out, HB3.out.gl⟩
                    intro c hc
                    rcases List.mem_append.1 hc with hc | hc
                    · exact HOL.out c hc
                    · rw [List.mem_singleton.1 hc]; exact HNEW.out
                · have e3 : ((m.op : Int) == 3) = false := by rw [beq_eq_false_iff_ne]; omega
                  by_cases h4 : m.op = 4
                  · have e4 : ((m.op : Int) == 4) = true := by rw [h4]; rfl
                    have HNEW : Hid ((⟨M2.p, M2.o, M2.r, M2.c⟩ : Cp).ok) := by show Cp.ok _; rw [hrc]; exact HOC.out (.inr h4)
                    clear hst hrc h3 h4
                    obtain ⟨v', w', hr, ho', hf, -⟩ := app_cap M2.p M2.o M2.r M2.c HC.out.row (by have := HLE.out; have := HNA.out; omega) HC.out.bel.size
                    have hB3 := HC.out.app (L' := L ++ [⟨M2.p, M2.o, M2.r, M2.c⟩]) hf (by rw [len_snoc]; exact ho')
                    have HB3 := hide hB3
                    have HRN := hide hr
                    clear hr ho' hf hB3
                    go_wp2_with (at_builtin; refine wpList_append_run rfl _ _ _ rfl _ _ _ _ rfl rfl HRN.out ?_)
                    go_roundg g1
                    case measure => have := HI.out; omega
                    case rel =>
                      refine ⟨i + 1, by go_num, by have := HI.out; omega, R.s, L ++ [⟨M2.p, M2.o, M2.r, M2.c⟩], _, _, _, _, _, _, by rw [len_snoc]; omega, HB3.out.du, HB3.out.sr, HB3.out.row, ?_, by rw [len_snoc]; have := HLE.out; omega, HFW.out, HB3.out.gl⟩
                      intro c hc
                      rcases List.mem_append.1 hc with hc | hc
                      · exact HOL.out c hc
                      · rw [List.mem_singleton.1 hc]; exact HNEW.out
                  · have e4 : ((m.op : Int) == 4) = false := by rw [beq_eq_false_iff_ne]; omega
                    clear hst hrc h3 h4
                    go_wp2_with fail
                    go_roundg g1
                    case measure => have := HI.out; omega
                    case rel => exact ⟨i + 1, by go_num, by have := HI.out; omega, R.s, L, _, _, _, _, _, _, HLL.out, HC.out.du, HC.out.sr, HC.out.row, HOL.out, by have := HLE.out; omega, HFW.out, HC.out.gl⟩
              · have es : ((M2.st : Int) == 0) = false := by rw [beq_eq_false_iff_ne]; omega
                clear hst
                go_wp2_with fail
                go_roundg g1
                case measure => have := HI.out; omega
                case rel => exact ⟨i + 1, by go_num, by have := HI.out; omega, R.s, L, _, _, _, _, _, _, HLL.out, HC.out.du, HC.out.sr, HC.out.row, HOL.out, by have := HLE.out; omega, HFW.out, HC.out.gl⟩
end
end Go.Proofs.YtjpgfldppepmiaaDoor
