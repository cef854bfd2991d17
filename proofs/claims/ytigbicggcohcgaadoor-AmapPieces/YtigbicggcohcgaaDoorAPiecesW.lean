/-
  AmapPieces (P10.3): the parts of segments in which addresses lie are what each address says; the first address that is wrong tells why: of addresses below 300: its walk.
-/
import Derived.Test.YtigbicggcohcgaaDoorAAwake
import Derived.Test.YtigbicggcohcgaaDoorABoundsW
import Derived.Test.YtigbicggcohcgaaDoorAMath3
namespace Go.Proofs.YtigbicggcohcgaaDoor
open Go.RowKit
theorem u16_nat {n : Int} (h : (Lit.int .u16 n).wf = true) : ∃ v : Nat, n = (v : Int) ∧ v ≤ 65535 := by
  have := bounds_u16 h; exact ⟨n.toNat, by omega, by omega⟩
/- the last part's size, and what it is set to -/
structure LastP (w : World) (base g n1 : Nat) (p : Pc) (outs : List Pc) (c : Nat) : Prop where
  cell : w.cell? ⟨g, n1 * 3 + 2, none⟩ = some (.int .i64 p.z)
  frozen : w.frozen? ⟨g, n1 * 3 + 2, none⟩ = false
  low : base ≤ g
  next : ∀ z : Int, (w.setCell ⟨g, n1 * 3 + 2, none⟩ (.int .i64 z)).ownsRow base 46 3 (.slice (some ⟨g, 0, none⟩) (n1 + 1) c) (n1 + 1) (cellsP (outs ++ [⟨p.g, p.t, z⟩]))
theorem last_p {w : World} {base n1 c : Nat} {ao : Option Addr} {outs : List Pc} {p : Pc} (h : w.ownsRow base 46 3 (.slice ao (n1 + 1) c) (n1 + 1) (cellsP (outs ++ [p]))) (hl : outs.length = n1) : ∃ g, ao = some ⟨g, 0, none⟩ ∧ LastP w base g n1 p outs c := by
  have h0 := h
  rcases h.2 with ⟨_, h1⟩ | ⟨g, cap, cur, h1, h2, h3, h4, h5, h6, h7⟩
  · omega
  · cases h1
    have hco : (cellsP outs).length = n1 * 3 := by rw [cellsP_len, hl]
    have hc : w.cell? ⟨g, n1 * 3 + 2, none⟩ = some (.int .i64 p.z) := by
      have := h0.cells (g := g) rfl (n1 * 3 + 2) (.int .i64 p.z) (by
        rw [cellsP_append, List.getElem?_append_right (by rw [hco]; omega), hco, show n1 * 3 + 2 - n1 * 3 = 2 by omega]; rfl)
      rw [add0] at this; exact this
    refine ⟨g, rfl, hc, frozen_of_row w g _ _ _ h3, h2, fun z => ⟨?_, .inr ⟨g, c, _, rfl, h2, heap_setCell_same w g (n1 * 3 + 2) _ _ (.int .i64 z) h3, h4, h5, by rw [Array.size_setIfInBounds]; exact h6, ?_⟩⟩⟩
    · rw [cellsP_len, List.length_append, hl]; rfl
    · rw [Array.toList_setIfInBounds, List.take_set, h7, cellsP_append, cellsP_append, List.set_append_right _ _ (by rw [hco]; omega), hco, show n1 * 3 + 2 - n1 * 3 = 2 by omega]
      rfl
def PwRel (w3 : World) (wb : Bool) (L : List Ar) (x s : Nat) (F : Int × List Pc) (gk : Nat) (vk va : Value) (wr : World) : Prop :=
  ∃ (k : Nat) (all : List Pc), k + gk = s ∧ vk = .int .i64 (k : Int) ∧ wr.ownsRow w3.heap.size 46 3 va all.length (cellsP all) ∧ all.length ≤ k ∧ Inv wb L (x : Int) (s : Int) F (k : Int) all ∧ Below w3.heap.size w3 wr
def PeRel (w5 : World) (n gk : Nat) (vi : Value) (wr : World) : Prop := ∃ i : Nat, i + gk = n ∧ vi = .int .i64 (i : Int) ∧ Below w5.heap.size w5 wr
set_option maxRecDepth 20000 in
set_option maxHeartbeats 4000000 in
theorem walk_pieces (ao : Option Addr) (N cap : Nat) (raw : List Ar) (a1 s : Nat) (wb : Bool) (w : World) (hA : Ars w ao N cap raw) (_h1 : a1 ≤ 65535) (hs : s ≤ 255) (hg : Glob w) :
    Calls Tryd.prog 5 #[.slice ao N cap, .int .u16 (a1 : Int), .int .u8 (s : Int), .bool wb] w fun e w' => e = .returned (.bool true) ∧ Below w.heap.size w w' := by
  have HA := hide hA
  have HG := hide hg
  obtain ⟨x, hx⟩ : ∃ x, a1 % 300 = x := ⟨_, rfl⟩
  have hx3 : x ≤ 299 := by omega
  have hxm : (a1 : Int) % 300 = (x : Int) := by omega
  have hxt : (a1 : Int).tmod 300 = (x : Int) := by rw [← hx]; rfl
  have hwx : IntKind.i64.wrap (x : Int) = (x : Int) := wrap_in ⟨by omega, by omega⟩
  have hws : IntKind.i64.wrap (s : Int) = (s : Int) := wrap_in ⟨by omega, by omega⟩
  have HN0 : Hid (Near0 (x : Int) (s : Int)) := ⟨by omega, by omega, by omega, by omega⟩
  clear hA hg hx
  go_enter Tryd.func5, Tryd.ntmps5
  go_wp2_with fail
  refine (awake_any _ HG.out).mono ?_; rintro e w1 ⟨rfl, b1⟩
  have HB1 := hide b1
  have HA1 := hide (HA.out.carry b1)
  clear b1 HA
  go_wp2_with fail
  refine (make_any ao N cap raw _ HA1.out).mono ?_; rintro e w2 ⟨mo, mc, rfl, A2, b2⟩
  have HM2 := hide A2
  have HB2 := hide (below_one HB1.out b2)
  have hgood := make_good raw
  obtain ⟨L, hL⟩ : ∃ L, makeF raw = L := ⟨_, rfl⟩
  rw [hL] at hgood HM2 ⊢
  obtain ⟨m, hm⟩ : ∃ m, L.length = m := ⟨_, rfl⟩
  rw [hm] at HM2 ⊢
  have HGO := hide hgood.1
  have HNE := hide hgood.2
  have HLM := hide hm
  clear A2 b2 HA1 HB1 hgood hL hm
  go_wp2_with fail
  refine (pieces_any (x : Int) (s : Int) wb mo m mc L _ HM2.out (near_ok HGO.out HNE.out) (by have := HGO.out.len; omega) ⟨by omega, by omega⟩).mono ?_; rintro e w3 ⟨po, pc, rfl, A3, b3⟩
  obtain ⟨F, hF⟩ : ∃ F, goF wb L (x : Int) (s : Int) [] = F := ⟨_, rfl⟩
  have hpF : pcsF L (x : Int) (s : Int) wb = F := by unfold pcsF; rw [if_neg (by unfold outA; simp; omega)]; exact hF
  rw [hpF] at A3 ⊢
  have HF := hide hF
  have HB3 := hide (below_one HB2.out b3)
  have HM3 := hide (HM2.out.carry b3)
  have HP3 := hide A3
  clear A3 b3 HB2 HM2 hF hpF hxm hxt hwx hws
  obtain ⟨fk, hfk⟩ : ∃ fk, F.1 = fk := ⟨_, rfl⟩
  obtain ⟨fp, hfp⟩ : ∃ fp, F.2 = fp := ⟨_, rfl⟩
  obtain ⟨fn, hfn⟩ : ∃ fn, fp.length = fn := ⟨_, rfl⟩
  rw [hfp, hfn] at HP3
  rw [hfk, hfp, hfn]
  have HFK := hide hfk
  have HFP := hide hfp
  have HFN := hide hfn
  obtain ⟨er, her⟩ : ∃ er, erN fk = er := ⟨_, rfl⟩
  rw [her]
  have HER := hide her
  clear hfk hfp hfn her
  go_wp2
  go_loopg [14, 15] s (fun gk vk va wr => PwRel w3 wb L x s F gk vk va wr)
  case atStart => exact ⟨0, [], by omega, rfl, ⟨rfl, .inl ⟨rfl, rfl⟩⟩, Nat.le_refl _, .inl ⟨rfl, rfl⟩, Below.refl _ _⟩
  case round =>
    obtain ⟨k, all, hk, rfl, hown, hal, hinv, b4⟩ := hrel
    have HOW := hide hown
    have HAL := hide hal
    have HIN := hide hinv
    have HB4 := hide b4
    obtain ⟨qo, qc, rfl, hlies⟩ := owns_lies hown
    obtain ⟨n, hn⟩ : ∃ n, all.length = n := ⟨_, rfl⟩
    rw [hn] at HOW hlies HAL ⊢
    have HLI := hide hlies
    have HN := hide hn
    clear hown hal hinv b4 hlies hn
    cases gk with
    | zero =>
      obtain rfl : k = s := by omega
      have hlt : ¬ ((k : Int) < (k : Int)) := by omega
      have hdone := HIN.out.done HGO.out HF.out HN0.out
      have e1 : fk = 0 := by rw [← HFK.out, hdone]
      have e2 : fp = all := by rw [← HFP.out, hdone]
      have e3 : fn = n := by rw [← HFN.out, e2]; exact HN.out
      have e4 : er = .nilIface := by rw [← HER.out, e1]; rfl
      subst e4 e3
      rw [e2] at HP3
      have HP4 := hide (HP3.out.carry HB4.out)
      have hnn : ((fn : Int) == (fn : Int)) = true := by simp
      have hpc : pc ≤ 9223372036854775807 := HP4.out.2.2.1
      have hpn : fn ≤ pc := HP4.out.2.1
      have hqc : qc ≤ 9223372036854775807 := HLI.out.2.2.1
      have hqn : fn ≤ qc := HLI.out.2.1
      clear hdone e1 e2
      go_wp2
      go_loopg [119] fn (fun gk vi wq => PeRel wr fn gk vi wq)
      case atStart => exact ⟨0, by omega, rfl, Below.refl _ _⟩
      case round =>
        rename World => wq
        clear hnn
        obtain ⟨i, hi, rfl, b5⟩ := hrel
        have HB5 := hide b5
        clear b5
        cases gk with
        | zero =>
          obtain rfl : i = fn := by omega
          have hlt : ¬ ((i : Int) < (i : Int)) := by omega
          go_wp2
          go_ret
          exact ⟨rfl, HB3.out.trans ((HB4.out.trans (HB5.out.mono HB4.out.size)).mono HB3.out.size)⟩
        | succ g1 =>
          have hlt : (i : Int) < (fn : Int) := by omega
          have hif : i < fn := by omega
          obtain ⟨ad, rfl⟩ := HP4.out.there hif
          obtain ⟨ad', rfl⟩ := Pcs.there (show Pcs wr qo fn qc all from HLI.out) hif
          obtain ⟨y, hy⟩ : ∃ y, all.getD i Pc.zero = y := ⟨_, rfl⟩
          have HE1 := hide ((HP4.out.carry HB5.out).elem i hif)
          have HE2 := hide ((Pcs.carry (show Pcs wr (some ad') fn qc all from HLI.out) HB5.out).elem i hif)
          rw [hy] at HE1 HE2
          have c0 := fun q => (show (wq.drewN q).cell? _ = _ from HE1.out.c0)
          have c1 := fun q => (show (wq.drewN q).cell? _ = _ from HE1.out.c1)
          have c2 := fun q => (show (wq.drewN q).cell? _ = _ from HE1.out.c2)
          have d0 := fun q => (show (wq.drewN q).cell? _ = _ from HE2.out.c0)
          have d1 := fun q => (show (wq.drewN q).cell? _ = _ from HE2.out.c1)
          have d2 := fun q => (show (wq.drewN q).cell? _ = _ from HE2.out.c2)
          have hne : ∀ W, (binOp .neq 46 (.agg #[.int .i64 y.g, .int .i64 y.t, .int .i64 y.z]) (.agg #[.int .i64 y.g, .int .i64 y.t, .int .i64 y.z])).run Tryd.prog W = .ok (.bool false) W := fun W => by rw [neq_pc]; simp
          have hgd := eqGuardP
          clear hy
          go_wp2_with fail
          go_quiet (fail)
          go_wp2
          go_roundg g1
          case measure => omega
          case rel => exact ⟨i + 1, by omega, by go_num, below_drewN HB5.out _⟩
    | succ g1 =>
      have hlt : (k : Int) < (s : Int) := by omega
      have hw : IntKind.i64.wrap ((x : Int) + (k : Int)) = (x : Int) + (k : Int) := wrap_in ⟨by omega, by omega⟩
      have HM4 := hide (HM3.out.carry HB4.out)
      go_wp2_with fail
      refine (find_any ((x : Int) + (k : Int)) mo m mc L _ HM4.out).mono ?_; rintro e w5 ⟨rfl, b5⟩
      have HB5 := hide (HB4.out.trans (b5.mono HB4.out.size))
      have HOW5 := hide (owns_carry HOW.out b5)
      clear b5 HB4 HM4
      rcases find_cases L ((x : Int) + (k : Int)) with ⟨hf, hno⟩ | ⟨i, hi, hf, hh⟩
      · rw [hf]
        simp only
        have hF13 := HIN.out.none HGO.out HF.out HN0.out (by omega) (by omega) hno
        have e1 : fk = 13 := by rw [← HFK.out, hF13]
        have e2 : fp = [] := by rw [← HFP.out, hF13]
        have e3 : fn = 0 := by rw [← HFN.out, e2]; rfl
        have e4 : er = .iface 30 (.int .i64 13) := by rw [← HER.out, e1]; rfl
        subst e4 e3
        have HG6 := hide ((HG.out.grow (HB3.out.trans (HB5.out.mono HB3.out.size)) HG.out.lt).carry (below_alloc w5 (.cells #[.int .i64 Ar.zero.b, .int .i64 Ar.zero.s, .int .i64 Ar.zero.g, .int .i64 Ar.zero.o, .bool Ar.zero.w] 24)))
        have HB6 := hide (below_one (HB3.out.trans (HB5.out.mono HB3.out.size)) (below_alloc w5 (.cells #[.int .i64 Ar.zero.b, .int .i64 Ar.zero.s, .int .i64 Ar.zero.g, .int .i64 Ar.zero.o, .bool Ar.zero.w] 24)))
        clear hf hno hF13 e1 e2
        go_wp2_with fail
        refine (number_errno 13 _ HG6.out).mono ?_; rintro e w7 ⟨rfl, b7⟩
        have HB7 := hide (below_one HB6.out b7)
        clear b7
        go_wp2
        go_ret
        exact ⟨rfl, HB7.out⟩
      · rw [hf]
        simp only
        have hbad := fun hb => HIN.out.bad HGO.out HF.out HN0.out (by omega) (by omega) hi hh hb
        have hnext := fun hb => HIN.out.next HGO.out HF.out HN0.out (by omega) (by omega) hi hh hb
        have hok := HGO.out.get hi
        have hne := HNE.out _ (getD_mem L i hi)
        obtain ⟨f, hff⟩ : ∃ f, L.getD i Ar.zero = f := ⟨_, rfl⟩
        rw [hff] at hbad hnext hok hne ⊢
        have HBAD := hide hbad
        have HNEXT := hide hnext
        have HOKF := hide hok
        have HNEF := hide hne
        obtain ⟨X, hX⟩ : ∃ X, w5.alloc (.cells #[.int .i64 f.b, .int .i64 f.s, .int .i64 f.g, .int .i64 f.o, .bool f.w] 24) = X := ⟨_, rfl⟩
        have BX : BoxA X w5.heap.size f := hX ▸ box_new w5 f
        have belX : Below w5.heap.size w5 X := hX ▸ below_alloc w5 _
        have HB6 := hide (HB5.out.trans (belX.mono HB5.out.size))
        have HOW6 := hide (owns_carry HOW5.out belX)
        obtain ⟨x0, x1, x2, x3, x4⟩ : _ ∧ _ ∧ _ ∧ _ ∧ _ := ⟨BX.c0, BX.c1, BX.c2, BX.c3, BX.c4⟩
        have HW6 := hide (HB3.out.trans (HB6.out.mono HB3.out.size))
        have HG6 := hide (HG.out.grow HW6.out HG.out.lt)
        clear hf hh hi hff hbad hnext hok hne BX belX HOW HOW5 HB5
        obtain ⟨bad, hbadv⟩ : ∃ bad, (wb && !f.w) = bad := ⟨_, rfl⟩
        have HBV := hide hbadv
        go_upto_region 13 with fail
        go_cut [64] from 59 to 63 (fun v wx => v = .bool bad ∧ X = wx)
        case first =>
          cases wb with
          | false =>
            have hb0 : bad = false := by rw [← hbadv]; rfl
            subst hb0
            clear hbadv
            go_wp2_with fail
            go_meet
            exact ⟨rfl, rfl⟩
          | true =>
            rcases Bool.eq_false_or_eq_true f.w with hyw | hyw
            · rw [hyw] at x4 hbadv
              have hb0 : bad = false := by rw [← hbadv]; rfl
              subst hb0
              clear hbadv hyw
              go_wp2_with fail
              go_meet
              exact ⟨rfl, rfl⟩
            · rw [hyw] at x4 hbadv
              have hb0 : bad = true := by rw [← hbadv]; rfl
              subst hb0
              clear hbadv hyw
              go_wp2_with fail
              go_meet
              exact ⟨rfl, rfl⟩
        case rest =>
          obtain ⟨rfl, rfl⟩ := hcut
          clear hbadv
          cases bad with
          | true =>
            have hF2 := HBAD.out (HBV.out)
            have e1 : fk = 2 := by rw [← HFK.out, hF2]
            have e2 : fp = [] := by rw [← HFP.out, hF2]
            have e3 : fn = 0 := by rw [← HFN.out, e2]; rfl
            have e4 : er = .iface 30 (.int .i64 2) := by rw [← HER.out, e1]; rfl
            subst e4 e3
            clear hF2 e1 e2
            go_wp2_with fail
            refine (number_errno 2 _ HG6.out).mono ?_; rintro e w7 ⟨rfl, b7⟩
            have HB7 := hide (below_one HW6.out b7)
            clear b7
            go_wp2
            go_ret
            exact ⟨rfl, HB7.out⟩
          | false =>
            have hnx := HNEXT.out HBV.out
            obtain ⟨cn, hcn⟩ : ∃ cn, (decide ((k : Int) = 0) || decide (f.b = (x : Int) + (k : Int))) = cn := ⟨_, rfl⟩
            have HCN := hide hcn
            go_upto_region 15 with fail
            go_cut [82] from 73 to 81 (fun v wx => v = .bool cn ∧ X = wx)
            case first =>
              clear hnx
              by_cases hk0 : (k : Int) = 0
              · have hq1 : ((k : Int) == 0) = true := by rw [hk0]; rfl
                have hcn1 : cn = true := by rw [← hcn, decide_eq_true hk0]; rfl
                subst hcn1
                clear hcn hk0
                go_wp2_with fail
                go_meet
                exact ⟨rfl, rfl⟩
              · have hq1 : ((k : Int) == 0) = false := by simp; omega
                by_cases hfb : f.b = (x : Int) + (k : Int)
                · have hq2 : (f.b == (x : Int) + (k : Int)) = true := by rw [hfb]; simp
                  have hcn1 : cn = true := by rw [← hcn, decide_eq_true hfb, Bool.or_true]
                  subst hcn1
                  clear hcn hk0 hfb
                  go_wp2_with fail
                  go_meet
                  exact ⟨rfl, rfl⟩
                · have hq2 : (f.b == (x : Int) + (k : Int)) = false := by simp; exact hfb
                  have hcn1 : cn = false := by rw [← hcn, decide_eq_false hk0, decide_eq_false hfb]; rfl
                  subst hcn1
                  clear hcn hk0 hfb
                  go_wp2_with fail
                  go_meet
                  exact ⟨rfl, rfl⟩
            case rest =>
              obtain ⟨rfl, rfl⟩ := hcut
              rcases hnx with ⟨hc, hiv⟩ | ⟨hk0, hfb, hold⟩
              · have HIV := hide hiv
                have hcn1 : cn = true := by
                  rw [← hcn]
                  rcases hc with hc | hc
                  · rw [decide_eq_true hc]; rfl
                  · rw [decide_eq_true hc, Bool.or_true]
                subst hcn1
                clear hiv HBAD HNEXT hc hcn
                have hz2 : ∀ W : World, True := fun _ => trivial
                obtain ⟨t, ht⟩ : ∃ t, f.o + (x : Int) + (k : Int) - f.b = t := ⟨_, rfl⟩
                have h0b := HOKF.out.1
                have h0s := HOKF.out.2.1
                have h0o := HOKF.out.2.2.2.2.1
                have h1o := HNEF.out.2.2
                have h1b := HNEF.out.1
                have hw1 : IntKind.i64.wrap (f.o + (x : Int)) = f.o + (x : Int) := wrap_in ⟨by omega, by omega⟩
                have hw2 : IntKind.i64.wrap (f.o + (x : Int) + (k : Int)) = f.o + (x : Int) + (k : Int) := wrap_in ⟨by omega, by omega⟩
                have hw3 : IntKind.i64.wrap (f.o + (x : Int) + (k : Int) - f.b) = t := by rw [ht]; exact wrap_in ⟨by omega, by omega⟩
                have HIV2 := hide (show Inv wb L (x : Int) (s : Int) F ((k + 1 : Nat) : Int) (all ++ [⟨f.g, t, 0 + 1⟩]) by rw [show ((k + 1 : Nat) : Int) = (k : Int) + 1 by omega, ← ht, show f.o + (x : Int) + (k : Int) - f.b = f.o + ((x : Int) + (k : Int) - f.b) by omega]; exact HIV.out)
                clear h0b h0s h0o h1o h1b ht hz2
                obtain ⟨Y, hY⟩ : ∃ Y, X.alloc (.cells #[.int .i64 f.g, .int .i64 t, .int .i64 0] 46) = Y := ⟨_, rfl⟩
                have belY : Below X.heap.size X Y := hY ▸ below_alloc X _
                have hnews : ∀ j u, (cellsP [⟨f.g, t, 0⟩])[j]? = some u → Y.cell? ((⟨X.heap.size, 0, none⟩ : Addr).add j) = some u := by
                  rw [← hY]; exact World.news_of_block (cs := #[.int .i64 f.g, .int .i64 t, .int .i64 0]) (t := 46) (fr := (0, 0)) (heap_alloc_new X _)
                have HBY := hide (HB6.out.trans (belY.mono HB6.out.size))
                obtain ⟨i0, hi0, hz0, hz1', hz2⟩ := info_parts Tryd.infoP
                have hm1 : n ≤ 255 := by have := HAL.out; omega
                obtain ⟨v7, w7, hrun, hown7, hgr7, _, _⟩ := run_append_own_at (P := Tryd.prog) Y w3.heap.size 42 42 46 i0 _ 3 24 Tryd.underlying42 hi0 hz0 hz1' hz2 rfl (by omega) (.slice qo n qc) n _ (owns_carry HOW6.out belY) ⟨X.heap.size, 0, none⟩ 1 1 (cellsP [⟨f.g, t, 0⟩]) rfl hnews (cellsP_one _) (by unfold maxLen; omega) (by omega) HBY.out.size
                have HB7 : Hid (Below w3.heap.size w3 w7) := by
                  refine HBY.out.grown hgr7 HBY.out.size (fun k e => ?_)
                  rcases HOW6.out.2 with ⟨h, _⟩ | ⟨g, c, cur, h, hbg, _⟩
                  · rw [h] at e; simp [Value.ownBlock] at e
                  · rw [h] at e
                    have : g = k := by simpa [Value.ownBlock] using e
                    omega
                obtain ⟨qo7, qc7, rfl⟩ := owns_slice hown7
                rw [← cellsP_append] at hown7
                obtain ⟨g7, rfl, hl7⟩ := last_p hown7 HN.out
                have l0 : w7.cell? ⟨g7, n * 3 + 2, none⟩ = some (.int .i64 0) := hl7.cell
                have l1 := hl7.frozen
                have HL7 := hide hl7
                have HRUN := hide hrun
                have hcap7 : qc7 ≤ 9223372036854775807 := by
                  obtain ⟨_, _, e, hli⟩ := owns_lies hown7
                  cases e; exact hli.2.2.1
                have hnc7 : n + 1 ≤ qc7 := by
                  obtain ⟨_, _, e, hli⟩ := owns_lies hown7
                  cases e; exact hli.2.1
                have hidx : (n : Int) < (n : Int) + 1 := by omega
                have hww : IntKind.i64.wrap ((n : Int) + 1 - 1) = (n : Int) := by rw [show (n : Int) + 1 - 1 = (n : Int) by omega]; exact wrap_in ⟨by omega, by omega⟩
                clear hrun hown7 hgr7 hi0 hz0 hz1' hz2 hnews belY hl7 hm1
                go_wp2_with (at_builtin; refine wpList_append_run rfl _ _ _ rfl _ _ _ _ rfl rfl HRUN.out ?_)
                go_wp2
                go_roundg g1
                case measure => omega
                case rel =>
                  refine ⟨k + 1, all ++ [⟨f.g, t, 0 + 1⟩], by omega, by go_num, ?_, by rw [List.length_append, HN.out]; have := HAL.out; simp; omega, HIV2.out, ?_⟩
                  · rw [List.length_append, HN.out]
                    exact HL7.out.next 1
                  · exact (foot_set w7 ⟨g7, n * 3 + 2, none⟩ _).below HB7.out.size (fun k e => by rw [e]; exact HL7.out.low) |> HB7.out.trans
              · have hcn1 : cn = false := by rw [← hcn, decide_eq_false hk0, decide_eq_false hfb]; rfl
                subst hcn1
                clear HBAD HNEXT hk0 hfb hcn
                obtain ⟨outs, p, hap, hpz0, hpz1, hiv⟩ := hold
                have HIV := hide (show Inv wb L (x : Int) (s : Int) F ((k + 1 : Nat) : Int) (outs ++ [⟨p.g, p.t, p.z + 1⟩]) by rw [show ((k + 1 : Nat) : Int) = (k : Int) + 1 by omega]; exact hiv)
                obtain ⟨n1, hn1⟩ : ∃ n1, outs.length = n1 := ⟨_, rfl⟩
                have hnn : n = n1 + 1 := by rw [← HN.out, hap, List.length_append, hn1]; rfl
                have hown7 := HOW6.out
                rw [hap, hnn] at hown7
                obtain ⟨g7, hgq, hl7⟩ := last_p hown7 hn1
                subst hgq
                have l0 : X.cell? ⟨g7, n1 * 3 + 2, none⟩ = some (.int .i64 p.z) := hl7.cell
                have l1 := hl7.frozen
                have HL7 := hide hl7
                have HN1 := hide hn1
                have hcap7 : qc ≤ 9223372036854775807 := by
                  obtain ⟨_, _, e, hli⟩ := owns_lies hown7
                  cases e; exact hli.2.2.1
                have hnc7 : n1 + 1 ≤ qc := by
                  obtain ⟨_, _, e, hli⟩ := owns_lies hown7
                  cases e; exact hli.2.1
                have hm1 : n1 ≤ 255 := by have := HAL.out; omega
                have hidx : (n1 : Int) < (n1 : Int) + 1 := by omega
                have hww : IntKind.i64.wrap ((n1 : Int) + 1 - 1) = (n1 : Int) := by rw [show (n1 : Int) + 1 - 1 = (n1 : Int) by omega]; exact wrap_in ⟨by omega, by omega⟩
                have hwz : IntKind.i64.wrap (p.z + 1) = p.z + 1 := wrap_in ⟨by omega, by omega⟩
                have HAL1 := hide (show n1 + 1 ≤ k by have := HAL.out; omega)
                clear hown7 hl7 hap hiv hn1 hm1 hpz0 hpz1 HAL HN HOW6 HIN
                subst hnn
                go_wp2
                go_roundg g1
                case measure => omega
                case rel =>
                  refine ⟨k + 1, outs ++ [⟨p.g, p.t, p.z + 1⟩], by omega, by go_num, ?_, by rw [List.length_append, HN1.out]; have := HAL1.out; simp; omega, HIV.out, ?_⟩
                  · rw [List.length_append, HN1.out]
                    exact HL7.out.next (p.z + 1)
                  · exact (foot_set X ⟨g7, n1 * 3 + 2, none⟩ _).below HB6.out.size (fun k e => by rw [e]; exact HL7.out.low) |> HB6.out.trans
end Go.Proofs.YtigbicggcohcgaaDoor
