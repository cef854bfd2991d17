/-
  AmapAdd (P10.1): an area is added just if it may be, and lies over no other one; a map stays in order: of any area: its walk.
-/
import Derived.Test.YtigbicggcohcgaaDoorAAwake
import Derived.Test.YtigbicggcohcgaaDoorAOpenV
import Derived.Test.YtigbicggcohcgaaDoorAMath2
namespace Go.Proofs.YtigbicggcohcgaaDoor
open Go.RowKit
theorem add13 {L : List Ar} {a : Ar} (h : a.s < 1 ∨ a.b < 0 ∨ 1073741824 < a.b ∨ 1073741824 - a.b < a.s) : addE L a = 13 := by
  unfold addE
  rw [if_pos]
  by_cases c : a.s < 1
  · simp [c]
  · rw [outA_yes (by omega)]; simp
theorem rest_of {L : List Ar} {a : Ar} (h : ¬ (a.s < 1 ∨ a.b < 0 ∨ 1073741824 < a.b ∨ 1073741824 - a.b < a.s)) : addE L a = if decide (a.o < 0) || decide (a.g < 0) then 4 else if L.any (lapA a) then 14 else if 64 ≤ L.length then 5 else 0 := by
  unfold addE
  rw [if_neg]
  rw [show outA a.b a.s = false by unfold outA; simp; omega]
  simp; omega
theorem add4 {L : List Ar} {a : Ar} (h : ¬ (a.s < 1 ∨ a.b < 0 ∨ 1073741824 < a.b ∨ 1073741824 - a.b < a.s)) (h2 : a.o < 0 ∨ a.g < 0) : addE L a = 4 := by
  rw [rest_of h, if_pos (by simpa using h2)]
theorem add_rest {L : List Ar} {a : Ar} (h : ¬ (a.s < 1 ∨ a.b < 0 ∨ 1073741824 < a.b ∨ 1073741824 - a.b < a.s)) (h2 : ¬ (a.o < 0 ∨ a.g < 0)) (hL : ∀ x ∈ L, okA x) : addE L a = if overF a L then 14 else if 64 ≤ L.length then 5 else 0 := by
  rw [rest_of h, if_neg (by simp; omega), overF_lap (by omega) hL]
def atF (p k : Nat) : Nat := if k ≤ p then k else k - 1
def CutA (w : World) (mo : Option Addr) (m mc : Nat) (L : List Ar) (wx : World) : Prop := ∃ a : Ar, Hid a.fit ∧ Hid (BoxA wx w.heap.size a) ∧ Hid (Below w.heap.size w wx) ∧ Hid (Ars wx mo m mc L)
theorem Ars.far {w w' : World} {S : Nat → Prop} {ao : Option Addr} {n cap : Nat} {L : List Ar} (h : Ars w ao n cap L) (f : Foot S w w') (hS : ∀ ad, ao = some ad → ¬ S ad.block) : Ars w' ao n cap L :=
  ⟨h.1, h.2.1, h.2.2.1, h.2.2.2.1, fun ad e j u hu => by
    have hc := h.2.2.2.2 ad e j u hu
    have hl := lt_of_cell hc
    rw [f.cell _ hl (by rw [add_block]; exact hS ad e), hc]⟩
theorem sets_foot (w : World) (g : Nat) (x : Ar) : Foot (fun k => k = g) w (((((w.setCell ⟨g, 0, none⟩ (.int .i64 x.b)).setCell ⟨g, 1, none⟩ (.int .i64 x.s)).setCell ⟨g, 2, none⟩ (.int .i64 x.g)).setCell ⟨g, 3, none⟩ (.int .i64 x.o)).setCell ⟨g, 4, none⟩ (.bool x.w)) :=
  ((((foot_set w ⟨g, 0, none⟩ (.int .i64 x.b)).then (foot_set _ ⟨g, 1, none⟩ (.int .i64 x.s))).then (foot_set _ ⟨g, 2, none⟩ (.int .i64 x.g))).then (foot_set _ ⟨g, 3, none⟩ (.int .i64 x.o))).then (foot_set _ ⟨g, 4, none⟩ (.bool x.w))
def AoRel (w4 : World) (a : Ar) (L : List Ar) (m gk : Nat) (vo vi : Value) (wr : World) : Prop := ∃ i : Nat, i + gk = m ∧ vi = .int .i64 (i : Int) ∧ vo = .bool (overF a (L.take i)) ∧ Below w4.heap.size w4 wr
def AiRel (X : World) (a y : Ar) (ob : Bool) (n gk : Nat) (vo vk : Value) (wr : World) : Prop := ∃ (j : Nat) (k : Int), j + gk = n ∧ k = y.b + (j : Int) ∧ vk = .int .i64 k ∧ vo = .bool (ob || upto a y.b j) ∧ Below X.heap.size X wr
def AnRel (w6 : World) (p m gk : Nat) (va vi : Value) (wr : World) : Prop := ∃ k : Nat, k + gk = m ∧ vi = .int .i64 (k : Int) ∧ va = .int .i64 (atF p k : Nat) ∧ Below w6.heap.size w6 wr
set_option maxRecDepth 20000 in
set_option maxHeartbeats 4000000 in
theorem walk_add (ao : Option Addr) (N cap : Nat) (raw : List Ar) (a0 : Ar) (sm : Bool) (w : World) (hA : Ars w ao N cap raw) (hf : a0.fit) (hg : Glob w) :
    Calls Tryd.prog 3 #[.slice ao N cap, .agg #[.int .i64 a0.b, .int .i64 a0.s, .int .i64 a0.g, .int .i64 a0.o, .bool a0.w], .bool sm] w fun e w' => e = .returned (.bool true) ∧ Below w.heap.size w w' := by
  have HG := hide hg
  have HF0 := hide hf
  obtain ⟨W, hW⟩ : ∃ W, w.alloc (.cells #[.int .i64 a0.b, .int .i64 a0.s, .int .i64 a0.g, .int .i64 a0.o, .bool a0.w] 24) = W := ⟨_, rfl⟩
  have HX0 := hide (show BoxA W w.heap.size a0 from hW ▸ box_new w a0)
  have HB0 := hide (show Below w.heap.size w W from hW ▸ below_alloc w _)
  have HA0 := hide (hA.carry HB0.out)
  clear hA hf hg
  go_enter Tryd.func3, Tryd.ntmps3
  go_wp2_with fail
  refine (awake_any _ (HG.out.grow HB0.out HG.out.lt)).mono ?_; rintro e w1 ⟨rfl, b1⟩
  have HB1 := hide (below_one HB0.out b1)
  have HX1 := hide (HX0.out.carry b1 (Nat.le_refl _))
  have HA1 := hide (HA0.out.carry b1)
  clear b1 HA0 HX0 HB0 hW
  go_wp2_with fail
  refine (make_new ao N cap raw _ HA1.out).mono ?_; rintro e w2 ⟨mo, mc, rfl, A2, b2, n2⟩
  have HNEW := hide (show ∀ ad, mo = some ad → ¬ (ad.block = w.heap.size) from fun ad e h => by have := n2 ad e; have := lt_of_heap HX1.out; omega)
  have HM2 := hide A2
  have HB2 := hide (below_one HB1.out b2)
  have HX2 := hide (HX1.out.carry b2 (Nat.le_refl _))
  have hgood := make_good raw
  obtain ⟨L, hL⟩ : ∃ L, makeF raw = L := ⟨_, rfl⟩
  rw [hL] at hgood HM2 ⊢
  obtain ⟨m, hm⟩ : ∃ m, L.length = m := ⟨_, rfl⟩
  rw [hm] at HM2 ⊢
  have HGO := hide hgood.1
  have HNE := hide hgood.2
  have HLM := hide hm
  have hmc : mc ≤ 9223372036854775807 := HM2.out.2.2.1
  have hmn : m ≤ mc := HM2.out.2.1
  have hm64 : m ≤ 64 := by rw [← hm]; exact hgood.1.len
  clear A2 b2 n2 HA1 HB1 HX1 hgood hL hm
  go_upto_if 22 with fail
  go_cut [] from 23 to 24 (fun wx => CutA w mo m mc L wx)
  case first =>
    cases sm with
    | false =>
      go_wp2_with fail
      go_meet
      exact ⟨a0, HF0, HX2, HB2, HM2⟩
    | true =>
      obtain ⟨x0, x1, x2, x3, x4⟩ : _ ∧ _ ∧ _ ∧ _ ∧ _ := ⟨HX2.out.c0, HX2.out.c1, HX2.out.c2, HX2.out.c3, HX2.out.c4⟩
      go_wp2_with fail
      refine (small_any a0 _).mono ?_; rintro e w3 ⟨rfl, b3⟩
      have HB3 := hide (below_one HB2.out b3)
      have HX3 := hide (HX2.out.carry b3 (Nat.le_refl _))
      have HM3 := hide (HM2.out.carry b3)
      have HSF := hide (small_ok a0).1.fit
      obtain ⟨s, hs⟩ : ∃ s, smallA a0 = s := ⟨_, rfl⟩
      rw [hs] at HSF ⊢
      clear x0 x1 x2 x3 x4 b3 hs HX2 HB2 HM2
      obtain ⟨x0, x1, x2, x3, x4⟩ : _ ∧ _ ∧ _ ∧ _ ∧ _ := ⟨HX3.out.c0, HX3.out.c1, HX3.out.c2, HX3.out.c3, HX3.out.c4⟩
      obtain ⟨z0, z1, z2, z3, z4⟩ : _ ∧ _ ∧ _ ∧ _ ∧ _ := ⟨HX3.out.z 0, HX3.out.z 1, HX3.out.z 2, HX3.out.z 3, HX3.out.z 4⟩
      obtain ⟨Y, hY⟩ : ∃ Y, ((((w3.setCell ⟨w.heap.size, 0, none⟩ (.int .i64 s.b)).setCell ⟨w.heap.size, 1, none⟩ (.int .i64 s.s)).setCell ⟨w.heap.size, 2, none⟩ (.int .i64 s.g)).setCell ⟨w.heap.size, 3, none⟩ (.int .i64 s.o)).setCell ⟨w.heap.size, 4, none⟩ (.bool s.w) = Y := ⟨_, rfl⟩
      have HYB := hide (show BoxA Y w.heap.size s from hY ▸ HX3.out.lay s)
      have HYL := hide (show Below w.heap.size w Y from hY ▸ below_sets HB3.out (Nat.le_refl _) s)
      have HYM := hide (show Ars Y mo m mc L from hY ▸ HM3.out.far (sets_foot w3 w.heap.size s) HNEW.out)
      go_wp2_with fail
      go_meet
      exact ⟨s, HSF, HYB, HYL, HYM⟩
  case rest =>
    clear HX2 HB2 HM2 HNEW HF0
    obtain ⟨w4, rfl⟩ : ∃ x, x = wc := ⟨wc, rfl⟩
    obtain ⟨a, HF, HX4, HB4, HM4⟩ := hcut
    go_wp2
    go_loopg [8, 27] m (fun gk vo vi wr => AoRel w4 a L m gk vo vi wr)
    case atStart => exact ⟨0, by omega, rfl, rfl, Below.refl _ _⟩
    case round =>
      obtain ⟨i, hi, rfl, rfl, b5⟩ := hrel
      have HB5 := hide b5
      clear b5
      cases gk with
      | succ g1 =>
        have hlt : (i : Int) < (m : Int) := by omega
        have him := hide (show i < L.length by have := HLM.out; omega)
        obtain ⟨ad, rfl⟩ := HM4.out.there (k := i) (by omega)
        obtain ⟨c0, c1, c2, c3, c4⟩ := (HM4.out.carry HB5.out).elem i (by omega)
        obtain ⟨y, hy⟩ : ∃ y, L.getD i Ar.zero = y := ⟨_, rfl⟩
        rw [hy] at c0 c1 c2 c3 c4
        have HY := hide hy
        have HOY := hide (hy ▸ HGO.out.get him.out)
        have HNY := hide (hy ▸ HNE.out _ (getD_mem L i him.out))
        have HST := hide (over_take a L i him.out)
        rw [hy] at HST
        obtain ⟨X, hX⟩ : ∃ X, wr.alloc (.cells #[.int .i64 y.b, .int .i64 y.s, .int .i64 y.g, .int .i64 y.o, .bool y.w] 24) = X := ⟨_, rfl⟩
        have BX : BoxA X wr.heap.size y := hX ▸ box_new wr y
        have belX : Below wr.heap.size wr X := hX ▸ below_alloc wr _
        have HBY := hide BX
        have HB6 := hide (HB5.out.trans (belX.mono HB5.out.size))
        obtain ⟨ob, hob⟩ : ∃ ob, overF a (L.take i) = ob := ⟨_, rfl⟩
        rw [hob] at HST ⊢
        obtain ⟨n, hn⟩ : ∃ n, y.s.toNat = n := ⟨_, rfl⟩
        have HNS := hide (show y.s = (n : Int) by have := HOY.out.2.1; omega)
        have hw0 : IntKind.i64.wrap (y.b + y.s) = y.b + y.s := wrap_in ⟨by have := HOY.out.1; have := HOY.out.2.1; omega, by have := HNY.out.1; omega⟩
        obtain ⟨d0, d1⟩ : _ ∧ _ := ⟨BX.c0, BX.c1⟩
        clear hy BX belX hob hn
        go_wp2
        go_loopg [8, 11] n (fun gk vo vk wq => AiRel X a y ob n gk vo vk wq)
        case atStart => exact ⟨0, y.b, by omega, by simp, rfl, by simp [upto], Below.refl _ _⟩
        case round =>
          rename World => wq
          clear d0 d1 c0 c1 c2 c3 c4
          obtain ⟨j, k, hj, hk, rfl, rfl, b7⟩ := hrel
          have HK := hide hk
          have HB7 := hide b7
          have HW7 := hide (HB6.out.trans (b7.mono HB6.out.size))
          have HBY7 := hide (HBY.out.carry b7 (Nat.le_refl _))
          obtain ⟨d0, d1⟩ : _ ∧ _ := ⟨HBY7.out.c0, HBY7.out.c1⟩
          have HX7 := hide (HX4.out.carry HW7.out (Nat.le_refl _))
          obtain ⟨x0, x1, x2, x3, x4⟩ : _ ∧ _ ∧ _ ∧ _ ∧ _ := ⟨HX7.out.c0, HX7.out.c1, HX7.out.c2, HX7.out.c3, HX7.out.c4⟩
          have hkb : 0 ≤ k ∧ k ≤ 229 := by have := HOY.out.1; have := HNY.out.1; have := HNS.out; omega
          have HKB := hide hkb
          have hw1 : IntKind.i64.wrap (k + 1) = k + 1 := wrap_in ⟨by omega, by omega⟩
          have HUP := hide (upto_succ a y.b j)
          rw [← hk] at HUP
          cases gk with
          | zero =>
            have hge : ¬ (k < y.b + y.s) := by have := HNS.out; omega
            have HFIN := hide (show (ob || upto a y.b j) = overF a (L.take (i + 1)) by rw [HST.out]; unfold overX; rw [show y.s.toNat = j by have := HNS.out; omega])
            rw [HFIN.out]
            clear b7 hk hkb
            go_wp2
            go_roundg g1
            case measure => omega
            case rel => exact ⟨i + 1, by omega, by go_num, rfl, HW7.out⟩
          | succ g2 =>
            have hltk : k < y.b + y.s := by have := HNS.out; omega
            obtain ⟨oc, hoc⟩ : ∃ oc, (ob || upto a y.b j) = oc := ⟨_, rfl⟩
            rw [hoc]
            have HNX := hide (show (ob || upto a y.b (j + 1)) = (oc || hasA a k) by rw [HUP.out, ← hoc, Bool.or_assoc])
            clear b7 hk hkb hoc
            cases oc with
            | true =>
              go_wp2
              go_roundg g2
              case measure => omega
              case rel => exact ⟨j + 1, k + 1, by omega, by rw [HK.out]; omega, rfl, by rw [HNX.out]; rfl, HB7.out⟩
            | false =>
              go_wp2_with fail
              refine (lhas_any a k _).mono ?_; rintro e w8 ⟨rfl, b8⟩
              obtain ⟨r, hr⟩ : ∃ r, hasA a k = r := ⟨_, rfl⟩
              rw [hr] at HNX ⊢
              have HB8 := hide (below_one HB7.out b8)
              clear b8 hr x0 x1 x2 x3 x4 d0 d1
              go_wp2
              go_roundg g2
              case measure => omega
              case rel => exact ⟨j + 1, k + 1, by omega, by rw [HK.out]; omega, rfl, by rw [HNX.out]; rfl, HB8.out⟩
      | zero =>
        obtain rfl : i = m := by omega
        have hlt : ¬ ((i : Int) < (i : Int)) := by omega
        rw [List.take_of_length_le (by have := HLM.out; omega)]
        have HB6 := hide (HB4.out.trans (HB5.out.mono HB4.out.size))
        have HX6 := hide (HX4.out.carry HB5.out (Nat.le_refl _))
        have HM6 := hide (HM4.out.carry HB5.out)
        obtain ⟨x0, x1, x2, x3, x4⟩ : _ ∧ _ ∧ _ ∧ _ ∧ _ := ⟨HX6.out.c0, HX6.out.c1, HX6.out.c2, HX6.out.c3, HX6.out.c4⟩
        obtain ⟨ov, hov⟩ : ∃ ov, overF a L = ov := ⟨_, rfl⟩
        rw [hov]
        have HOV := hide hov
        have hb2 := HF.out.1.2
        have hb1 := HF.out.1.1
        clear HB4 HX4 HM4 HB5 hov
        by_cases h1 : a.s < 1
        · clear hb1 hb2
          have HE := hide (show addE L a = 13 from (add13 (by omega)))
          have HL0 := hide (addL_err HE.out (by decide))
          go_wp2_with fail
          refine (add_any a mo i mc L _ HM6.out HF.out (by have := HGO.out.len; omega)).mono ?_; rintro e w7 ⟨ro, rc, rfl, A7, b7⟩
          rw [HE.out, HL0.out, erN_not (by decide)]
          have HB7 := hide (below_one HB6.out b7)
          have HG7 := hide (HG.out.grow HB7.out HG.out.lt)
          clear A7 b7 x0 x1 x2 x3 x4
          go_wp2_with fail
          refine (number_errno 13 _ HG7.out).mono ?_; rintro e w8 ⟨rfl, b8⟩
          have HB8 := hide (below_one HB7.out b8)
          clear b8
          go_wp2
          go_ret
          exact ⟨rfl, HB8.out⟩
        · by_cases h2 : a.b < 0
          · clear hb1 hb2
            have HE := hide (show addE L a = 13 from (add13 (by omega)))
            have HL0 := hide (addL_err HE.out (by decide))
            go_wp2_with fail
            refine (add_any a mo i mc L _ HM6.out HF.out (by have := HGO.out.len; omega)).mono ?_; rintro e w7 ⟨ro, rc, rfl, A7, b7⟩
            rw [HE.out, HL0.out, erN_not (by decide)]
            have HB7 := hide (below_one HB6.out b7)
            have HG7 := hide (HG.out.grow HB7.out HG.out.lt)
            clear A7 b7 x0 x1 x2 x3 x4
            go_wp2_with fail
            refine (number_errno 13 _ HG7.out).mono ?_; rintro e w8 ⟨rfl, b8⟩
            have HB8 := hide (below_one HB7.out b8)
            clear b8
            go_wp2
            go_ret
            exact ⟨rfl, HB8.out⟩
          · by_cases h3 : 1073741824 < a.b
            · clear hb1 hb2
              have HE := hide (show addE L a = 13 from (add13 (by omega)))
              have HL0 := hide (addL_err HE.out (by decide))
              go_wp2_with fail
              refine (add_any a mo i mc L _ HM6.out HF.out (by have := HGO.out.len; omega)).mono ?_; rintro e w7 ⟨ro, rc, rfl, A7, b7⟩
              rw [HE.out, HL0.out, erN_not (by decide)]
              have HB7 := hide (below_one HB6.out b7)
              have HG7 := hide (HG.out.grow HB7.out HG.out.lt)
              clear A7 b7 x0 x1 x2 x3 x4
              go_wp2_with fail
              refine (number_errno 13 _ HG7.out).mono ?_; rintro e w8 ⟨rfl, b8⟩
              have HB8 := hide (below_one HB7.out b8)
              clear b8
              go_wp2
              go_ret
              exact ⟨rfl, HB8.out⟩
            · have hw : IntKind.i64.wrap (1073741824 - a.b) = 1073741824 - a.b := wrap_in ⟨by omega, by omega⟩
              clear hb1 hb2
              by_cases h4 : 1073741824 - a.b < a.s
              · have HE := hide (show addE L a = 13 from (add13 (by omega)))
                have HL0 := hide (addL_err HE.out (by decide))
                go_wp2_with fail
                refine (add_any a mo i mc L _ HM6.out HF.out (by have := HGO.out.len; omega)).mono ?_; rintro e w7 ⟨ro, rc, rfl, A7, b7⟩
                rw [HE.out, HL0.out, erN_not (by decide)]
                have HB7 := hide (below_one HB6.out b7)
                have HG7 := hide (HG.out.grow HB7.out HG.out.lt)
                clear A7 b7 x0 x1 x2 x3 x4
                go_wp2_with fail
                refine (number_errno 13 _ HG7.out).mono ?_; rintro e w8 ⟨rfl, b8⟩
                have HB8 := hide (below_one HB7.out b8)
                clear b8
                go_wp2
                go_ret
                exact ⟨rfl, HB8.out⟩
              · have HN4 := hide (show ¬ (a.s < 1 ∨ a.b < 0 ∨ 1073741824 < a.b ∨ 1073741824 - a.b < a.s) by omega)
                by_cases h5 : a.o < 0
                · have HE := hide (show addE L a = 4 from (add4 HN4.out (by omega)))
                  have HL0 := hide (addL_err HE.out (by decide))
                  go_wp2_with fail
                  refine (add_any a mo i mc L _ HM6.out HF.out (by have := HGO.out.len; omega)).mono ?_; rintro e w7 ⟨ro, rc, rfl, A7, b7⟩
                  rw [HE.out, HL0.out, erN_not (by decide)]
                  have HB7 := hide (below_one HB6.out b7)
                  have HG7 := hide (HG.out.grow HB7.out HG.out.lt)
                  clear A7 b7 x0 x1 x2 x3 x4
                  go_wp2_with fail
                  refine (number_errno 4 _ HG7.out).mono ?_; rintro e w8 ⟨rfl, b8⟩
                  have HB8 := hide (below_one HB7.out b8)
                  clear b8
                  go_wp2
                  go_ret
                  exact ⟨rfl, HB8.out⟩
                · by_cases h6 : a.g < 0
                  · have HE := hide (show addE L a = 4 from (add4 HN4.out (by omega)))
                    have HL0 := hide (addL_err HE.out (by decide))
                    go_wp2_with fail
                    refine (add_any a mo i mc L _ HM6.out HF.out (by have := HGO.out.len; omega)).mono ?_; rintro e w7 ⟨ro, rc, rfl, A7, b7⟩
                    rw [HE.out, HL0.out, erN_not (by decide)]
                    have HB7 := hide (below_one HB6.out b7)
                    have HG7 := hide (HG.out.grow HB7.out HG.out.lt)
                    clear A7 b7 x0 x1 x2 x3 x4
                    go_wp2_with fail
                    refine (number_errno 4 _ HG7.out).mono ?_; rintro e w8 ⟨rfl, b8⟩
                    have HB8 := hide (below_one HB7.out b8)
                    clear b8
                    go_wp2
                    go_ret
                    exact ⟨rfl, HB8.out⟩
                  · have HREST := hide (add_rest HN4.out (by omega) HGO.out.ok)
                    rw [HOV.out] at HREST
                    cases ov with
                    | true =>
                      have HE := hide (show addE L a = 14 from (by rw [HREST.out]; rfl))
                      have HL0 := hide (addL_err HE.out (by decide))
                      go_wp2_with fail
                      refine (add_any a mo i mc L _ HM6.out HF.out (by have := HGO.out.len; omega)).mono ?_; rintro e w7 ⟨ro, rc, rfl, A7, b7⟩
                      rw [HE.out, HL0.out, erN_not (by decide)]
                      have HB7 := hide (below_one HB6.out b7)
                      have HG7 := hide (HG.out.grow HB7.out HG.out.lt)
                      clear A7 b7 x0 x1 x2 x3 x4
                      go_wp2_with fail
                      refine (number_errno 14 _ HG7.out).mono ?_; rintro e w8 ⟨rfl, b8⟩
                      have HB8 := hide (below_one HB7.out b8)
                      clear b8
                      go_wp2
                      go_ret
                      exact ⟨rfl, HB8.out⟩
                    | false =>
                      by_cases h7 : (64 : Int) ≤ (i : Int)
                      · have HE := hide (show addE L a = 5 from (by rw [HREST.out, if_neg (by decide), if_pos (by have := HLM.out; omega)]))
                        have HL0 := hide (addL_err HE.out (by decide))
                        go_wp2_with fail
                        refine (add_any a mo i mc L _ HM6.out HF.out (by have := HGO.out.len; omega)).mono ?_; rintro e w7 ⟨ro, rc, rfl, A7, b7⟩
                        rw [HE.out, HL0.out, erN_not (by decide)]
                        have HB7 := hide (below_one HB6.out b7)
                        have HG7 := hide (HG.out.grow HB7.out HG.out.lt)
                        clear A7 b7 x0 x1 x2 x3 x4
                        go_wp2_with fail
                        refine (number_errno 5 _ HG7.out).mono ?_; rintro e w8 ⟨rfl, b8⟩
                        have HB8 := hide (below_one HB7.out b8)
                        clear b8
                        go_wp2
                        go_ret
                        exact ⟨rfl, HB8.out⟩
                      · have HE := hide (show addE L a = 0 by rw [HREST.out, if_neg (by decide), if_neg (by have := HLM.out; omega)])
                        have HPUT := hide (show addL L a = putA L a by unfold addL; rw [if_pos HE.out])
                        have HGP := hide (HGO.out.put HF.out HE.out)
                        have HPLE := hide (posA_le a.b L)
                        obtain ⟨p, hp⟩ : ∃ p, posA a.b L = p := ⟨_, rfl⟩
                        have HP := hide hp
                        rw [hp] at HPLE
                        obtain ⟨R, hR⟩ : ∃ R, putA L a = R := ⟨_, rfl⟩
                        rw [hR] at HPUT HGP
                        have HRD := hide hR
                        have HRL := hide (show R.length = i + 1 by rw [← hR, putA_ins, len_insA, HLM.out])
                        clear hp hR
                        go_wp2_with fail
                        refine (add_any a mo i mc L _ HM6.out HF.out (by have := HGO.out.len; omega)).mono ?_; rintro e w7 ⟨ro, rc, rfl, A7, b7⟩
                        rw [HPUT.out, HRL.out] at A7
                        rw [HE.out, HPUT.out, HRL.out, erN_zero]
                        have HA7 := hide A7
                        have HB7 := hide (below_one HB6.out b7)
                        have HX7 := hide (HX6.out.carry b7 (Nat.le_refl _))
                        have HM7 := hide (HM6.out.carry b7)
                        clear A7 b7 x0 x1 x2 x3 x4 HB6 HX6 HM6
                        go_wp2_with fail
                        refine (number_nil _).mono ?_; rintro e w8 ⟨rfl, b8⟩
                        have HB8 := hide (below_one HB7.out b8)
                        have HX8 := hide (HX7.out.carry b8 (Nat.le_refl _))
                        have HM8 := hide (HM7.out.carry b8)
                        have HA8 := hide (HA7.out.carry b8)
                        have hrc : rc ≤ 9223372036854775807 := HA8.out.2.2.1
                        have hrn : i + 1 ≤ rc := HA8.out.2.1
                        clear b8 HB7 HX7 HM7 HA7
                        go_wp2
                        go_loopg [15, 116] (i + 1) (fun gk va vi wr => AnRel w8 p (i + 1) gk va vi wr)
                        case atStart => exact ⟨0, by omega, rfl, by simp [atF], Below.refl _ _⟩
                        case round =>
                          rename World => wq
                          obtain ⟨k, hk, rfl, rfl, b9⟩ := hrel
                          have HB9 := hide b9
                          clear b9
                          cases gk with
                          | zero =>
                            obtain rfl : k = i + 1 := by omega
                            have hat : atF p (i + 1) = i := by unfold atF; rw [if_neg (by have := HPLE.out; have := HLM.out; omega)]; rfl
                            rw [hat]
                            go_wp2
                            go_ret
                            exact ⟨rfl, HB8.out.trans (HB9.out.mono HB8.out.size)⟩
                          | succ g1 =>
                            have hlt : (k : Int) < (i : Int) + 1 := by omega
                            have hki : k < i + 1 := by omega
                            obtain ⟨ad, rfl⟩ := HA8.out.there hki
                            obtain ⟨c0, c1, c2, c3, c4⟩ := (HA8.out.carry HB9.out).elem k hki
                            obtain ⟨y, hy⟩ : ∃ y, R.getD k Ar.zero = y := ⟨_, rfl⟩
                            rw [hy] at c0 c1 c2 c3 c4
                            have HY := hide hy
                            obtain ⟨X, hX⟩ : ∃ X, wq.alloc (.cells #[.int .i64 y.b, .int .i64 y.s, .int .i64 y.g, .int .i64 y.o, .bool y.w] 24) = X := ⟨_, rfl⟩
                            have BX : BoxA X wq.heap.size y := hX ▸ box_new wq y
                            have belX : Below wq.heap.size wq X := hX ▸ below_alloc wq _
                            have HW := hide (HB9.out.trans (belX.mono HB9.out.size))
                            have HBY := hide BX
                            have HAX := hide (HX8.out.carry HW.out (Nat.le_refl _))
                            have HMX := hide (HM8.out.carry HW.out)
                            have HNX := hide (HA8.out.carry HW.out)
                            have y0 := fun q => (show (X.drewN q).cell? _ = _ from HBY.out.c0)
                            have x0 := fun q => (show (X.drewN q).cell? _ = _ from HAX.out.c0)
                            have y1 := fun q => (show (X.drewN q).cell? _ = _ from HBY.out.c1)
                            have x1 := fun q => (show (X.drewN q).cell? _ = _ from HAX.out.c1)
                            have y2 := fun q => (show (X.drewN q).cell? _ = _ from HBY.out.c2)
                            have x2 := fun q => (show (X.drewN q).cell? _ = _ from HAX.out.c2)
                            have y3 := fun q => (show (X.drewN q).cell? _ = _ from HBY.out.c3)
                            have x3 := fun q => (show (X.drewN q).cell? _ = _ from HAX.out.c3)
                            have y4 := fun q => (show (X.drewN q).cell? _ = _ from HBY.out.c4)
                            have x4 := fun q => (show (X.drewN q).cell? _ = _ from HAX.out.c4)
                            clear hy BX belX
                            have hgd := eqGuardA
                            obtain ⟨at_, hat⟩ : ∃ t, atF p k = t := ⟨_, rfl⟩
                            rw [hat]
                            have HAT := hide hat
                            have hle : ∀ k1, k = k1 + 1 → ¬ (y.b ≤ (R.getD k1 Ar.zero).b) := fun k1 e => by
                              have h := HGP.out.apart (i := k1) (j := k) (by omega) (by rw [HRL.out]; omega)
                              have o := (HGP.out.get (i := k1) (by rw [HRL.out]; omega)).2.1
                              rw [HY.out] at h; omega
                            have HLE := hide hle
                            clear hat hle
                            have hkp : k < p ∨ k = p ∨ p < k := by omega
                            cases k with
                            | zero =>
                              simp only [Nat.zero_mul, addZ] at c0 c1 c2 c3 c4
                              rcases hkp with hkp | hkp | hkp
                              · have hyl : y = L.getD (0) Ar.zero := by rw [← HY.out, ← HRD.out]; exact put_low (by rw [HP.out]; exact hkp) (posA_le _ _)
                                have hjl : 0 < L.length := by have := HLM.out; have := HPLE.out; omega
                                have hsd : ∀ W, (binOp .eql 24 (.agg #[.int .i64 y.b, .int .i64 y.s, .int .i64 y.g, .int .i64 y.o, .bool y.w]) (.agg #[.int .i64 a.b, .int .i64 a.s, .int .i64 a.g, .int .i64 a.o, .bool a.w])).run Tryd.prog W = .ok (.bool false) W := fun W => by rw [eql_area, show sameA y a = false by rw [hyl]; exact not_in HE.out HF.out hjl]
                                have hss : ∀ W, (binOp .neq 24 (.agg #[.int .i64 y.b, .int .i64 y.s, .int .i64 y.g, .int .i64 y.o, .bool y.w]) (.agg #[.int .i64 y.b, .int .i64 y.s, .int .i64 y.g, .int .i64 y.o, .bool y.w])).run Tryd.prog W = .ok (.bool false) W := fun W => by rw [neq_area, show sameA y y = true from decide_eq_true rfl]; rfl
                                have hat0 : atF p (0) = 0 := by unfold atF; rw [if_pos (by omega)]
                                have hae : at_ = 0 := HAT.out.symm.trans hat0
                                have hai : at_ < i := by have := HLM.out; omega
                                have HATN := hide (show atF p (0 + 1) = at_ + 1 by rw [hae]; unfold atF; rw [if_pos (by omega)])
                                rw [← hae] at hyl
                                obtain ⟨am, rfl⟩ := HMX.out.there (k := at_) hai
                                have HEL := hide (HMX.out.elem at_ hai)
                                rw [← hyl] at HEL
                                have f0 := fun q => (show (X.drewN q).cell? _ = _ from HEL.out.c0)
                                have f1 := fun q => (show (X.drewN q).cell? _ = _ from HEL.out.c1)
                                have f2 := fun q => (show (X.drewN q).cell? _ = _ from HEL.out.c2)
                                have f3 := fun q => (show (X.drewN q).cell? _ = _ from HEL.out.c3)
                                have f4 := fun q => (show (X.drewN q).cell? _ = _ from HEL.out.c4)
                                have hlt2 : (at_ : Int) < (i : Int) := by omega
                                have hge2 : ¬ ((i : Int) ≤ (at_ : Int)) := by omega
                                clear hkp hyl hjl hat0 hae
                                go_wp2_with fail
                                go_quiet (fail)
                                go_wp2_with fail
                                go_quiet (fail)
                                go_wp2
                                go_roundg g1
                                case measure => omega
                                case rel => exact ⟨0 + 1, by omega, by go_num, by rw [HATN.out]; go_num, below_drewN HW.out _⟩
                              · have hse : ∀ W, (binOp .eql 24 (.agg #[.int .i64 y.b, .int .i64 y.s, .int .i64 y.g, .int .i64 y.o, .bool y.w]) (.agg #[.int .i64 a.b, .int .i64 a.s, .int .i64 a.g, .int .i64 a.o, .bool a.w])).run Tryd.prog W = .ok (.bool true) W := fun W => by rw [eql_area, show sameA y a = true from decide_eq_true (by rw [← HY.out, hkp, ← HP.out, ← HRD.out]; exact put_at (posA_le _ _))]
                                have HATN := hide (show atF p (0 + 1) = at_ by rw [← HAT.out]; unfold atF; rw [if_neg (show ¬ (0 + 1 ≤ p) by omega), if_pos (show 0 ≤ p by omega)])
                                clear hkp
                                go_wp2_with fail
                                go_quiet (fail)
                                go_wp2
                                go_roundg g1
                                case measure => omega
                                case rel => exact ⟨0 + 1, by omega, by go_num, by rw [HATN.out], below_drewN HW.out _⟩
                              · have hyl : y = L.getD (0 - 1) Ar.zero := by rw [← HY.out, ← HRD.out]; exact put_high (by rw [HP.out]; exact hkp) (posA_le _ _)
                                have hjl : 0 - 1 < L.length := by have := HLM.out; have := HPLE.out; omega
                                have hsd : ∀ W, (binOp .eql 24 (.agg #[.int .i64 y.b, .int .i64 y.s, .int .i64 y.g, .int .i64 y.o, .bool y.w]) (.agg #[.int .i64 a.b, .int .i64 a.s, .int .i64 a.g, .int .i64 a.o, .bool a.w])).run Tryd.prog W = .ok (.bool false) W := fun W => by rw [eql_area, show sameA y a = false by rw [hyl]; exact not_in HE.out HF.out hjl]
                                have hss : ∀ W, (binOp .neq 24 (.agg #[.int .i64 y.b, .int .i64 y.s, .int .i64 y.g, .int .i64 y.o, .bool y.w]) (.agg #[.int .i64 y.b, .int .i64 y.s, .int .i64 y.g, .int .i64 y.o, .bool y.w])).run Tryd.prog W = .ok (.bool false) W := fun W => by rw [neq_area, show sameA y y = true from decide_eq_true rfl]; rfl
                                have hat0 : atF p (0) = 0 - 1 := by unfold atF; rw [if_neg (by omega)]
                                have hae : at_ = 0 - 1 := HAT.out.symm.trans hat0
                                have hai : at_ < i := by have := HLM.out; omega
                                have HATN := hide (show atF p (0 + 1) = at_ + 1 by rw [hae]; unfold atF; rw [if_neg (by omega)]; omega)
                                rw [← hae] at hyl
                                obtain ⟨am, rfl⟩ := HMX.out.there (k := at_) hai
                                have HEL := hide (HMX.out.elem at_ hai)
                                rw [← hyl] at HEL
                                have f0 := fun q => (show (X.drewN q).cell? _ = _ from HEL.out.c0)
                                have f1 := fun q => (show (X.drewN q).cell? _ = _ from HEL.out.c1)
                                have f2 := fun q => (show (X.drewN q).cell? _ = _ from HEL.out.c2)
                                have f3 := fun q => (show (X.drewN q).cell? _ = _ from HEL.out.c3)
                                have f4 := fun q => (show (X.drewN q).cell? _ = _ from HEL.out.c4)
                                have hlt2 : (at_ : Int) < (i : Int) := by omega
                                have hge2 : ¬ ((i : Int) ≤ (at_ : Int)) := by omega
                                clear hkp hyl hjl hat0 hae
                                go_wp2_with fail
                                go_quiet (fail)
                                go_wp2_with fail
                                go_quiet (fail)
                                go_wp2
                                go_roundg g1
                                case measure => omega
                                case rel => exact ⟨0 + 1, by omega, by go_num, by rw [HATN.out]; go_num, below_drewN HW.out _⟩
                            | succ k1 =>
                              obtain ⟨v, hv⟩ : ∃ v, R.getD k1 Ar.zero = v := ⟨_, rfl⟩
                              have e0 : ∀ q, (X.drewN q).cell? (ad.add (k1 * 5)) = some (.int .i64 v.b) := fun q => by rw [← hv]; exact (HNX.out.elem k1 (by omega)).c0
                              have hle := HLE.out k1 rfl
                              rw [hv] at hle
                              have hw1 : IntKind.i64.wrap ((k1 : Int)) = (k1 : Int) := wrap_in ⟨by omega, by omega⟩
                              have hw2 : IntKind.i64.wrap ((k1 : Int) + 1 - 1) = (k1 : Int) := by rw [show (k1 : Int) + 1 - 1 = (k1 : Int) by omega]; exact hw1
                              have hpos : (0 : Int) < (k1 : Int) + 1 := by omega
                              have hk1 : (k1 : Int) < (i : Int) + 1 := by omega
                              clear hv
                              rcases hkp with hkp | hkp | hkp
                              · have hyl : y = L.getD (k1 + 1) Ar.zero := by rw [← HY.out, ← HRD.out]; exact put_low (by rw [HP.out]; exact hkp) (posA_le _ _)
                                have hjl : k1 + 1 < L.length := by have := HLM.out; have := HPLE.out; omega
                                have hsd : ∀ W, (binOp .eql 24 (.agg #[.int .i64 y.b, .int .i64 y.s, .int .i64 y.g, .int .i64 y.o, .bool y.w]) (.agg #[.int .i64 a.b, .int .i64 a.s, .int .i64 a.g, .int .i64 a.o, .bool a.w])).run Tryd.prog W = .ok (.bool false) W := fun W => by rw [eql_area, show sameA y a = false by rw [hyl]; exact not_in HE.out HF.out hjl]
                                have hss : ∀ W, (binOp .neq 24 (.agg #[.int .i64 y.b, .int .i64 y.s, .int .i64 y.g, .int .i64 y.o, .bool y.w]) (.agg #[.int .i64 y.b, .int .i64 y.s, .int .i64 y.g, .int .i64 y.o, .bool y.w])).run Tryd.prog W = .ok (.bool false) W := fun W => by rw [neq_area, show sameA y y = true from decide_eq_true rfl]; rfl
                                have hat0 : atF p (k1 + 1) = k1 + 1 := by unfold atF; rw [if_pos (by omega)]
                                have hae : at_ = k1 + 1 := HAT.out.symm.trans hat0
                                have hai : at_ < i := by have := HLM.out; omega
                                have HATN := hide (show atF p (k1 + 1 + 1) = at_ + 1 by rw [hae]; unfold atF; rw [if_pos (by omega)])
                                rw [← hae] at hyl
                                obtain ⟨am, rfl⟩ := HMX.out.there (k := at_) hai
                                have HEL := hide (HMX.out.elem at_ hai)
                                rw [← hyl] at HEL
                                have f0 := fun q => (show (X.drewN q).cell? _ = _ from HEL.out.c0)
                                have f1 := fun q => (show (X.drewN q).cell? _ = _ from HEL.out.c1)
                                have f2 := fun q => (show (X.drewN q).cell? _ = _ from HEL.out.c2)
                                have f3 := fun q => (show (X.drewN q).cell? _ = _ from HEL.out.c3)
                                have f4 := fun q => (show (X.drewN q).cell? _ = _ from HEL.out.c4)
                                have hlt2 : (at_ : Int) < (i : Int) := by omega
                                have hge2 : ¬ ((i : Int) ≤ (at_ : Int)) := by omega
                                clear hkp hyl hjl hat0 hae
                                go_wp2_with fail
                                go_quiet (fail)
                                go_wp2_with fail
                                go_quiet (fail)
                                go_wp2
                                go_roundg g1
                                case measure => omega
                                case rel => exact ⟨k1 + 1 + 1, by omega, by go_num, by rw [HATN.out]; go_num, below_drewN HW.out _⟩
                              · have hse : ∀ W, (binOp .eql 24 (.agg #[.int .i64 y.b, .int .i64 y.s, .int .i64 y.g, .int .i64 y.o, .bool y.w]) (.agg #[.int .i64 a.b, .int .i64 a.s, .int .i64 a.g, .int .i64 a.o, .bool a.w])).run Tryd.prog W = .ok (.bool true) W := fun W => by rw [eql_area, show sameA y a = true from decide_eq_true (by rw [← HY.out, hkp, ← HP.out, ← HRD.out]; exact put_at (posA_le _ _))]
                                have HATN := hide (show atF p (k1 + 1 + 1) = at_ by rw [← HAT.out]; unfold atF; rw [if_neg (show ¬ (k1 + 1 + 1 ≤ p) by omega), if_pos (show k1 + 1 ≤ p by omega)]; rfl)
                                clear hkp
                                go_wp2_with fail
                                go_quiet (fail)
                                go_wp2
                                go_roundg g1
                                case measure => omega
                                case rel => exact ⟨k1 + 1 + 1, by omega, by go_num, by rw [HATN.out], below_drewN HW.out _⟩
                              · have hyl : y = L.getD (k1 + 1 - 1) Ar.zero := by rw [← HY.out, ← HRD.out]; exact put_high (by rw [HP.out]; exact hkp) (posA_le _ _)
                                have hjl : k1 + 1 - 1 < L.length := by have := HLM.out; have := HPLE.out; omega
                                have hsd : ∀ W, (binOp .eql 24 (.agg #[.int .i64 y.b, .int .i64 y.s, .int .i64 y.g, .int .i64 y.o, .bool y.w]) (.agg #[.int .i64 a.b, .int .i64 a.s, .int .i64 a.g, .int .i64 a.o, .bool a.w])).run Tryd.prog W = .ok (.bool false) W := fun W => by rw [eql_area, show sameA y a = false by rw [hyl]; exact not_in HE.out HF.out hjl]
                                have hss : ∀ W, (binOp .neq 24 (.agg #[.int .i64 y.b, .int .i64 y.s, .int .i64 y.g, .int .i64 y.o, .bool y.w]) (.agg #[.int .i64 y.b, .int .i64 y.s, .int .i64 y.g, .int .i64 y.o, .bool y.w])).run Tryd.prog W = .ok (.bool false) W := fun W => by rw [neq_area, show sameA y y = true from decide_eq_true rfl]; rfl
                                have hat0 : atF p (k1 + 1) = k1 + 1 - 1 := by unfold atF; rw [if_neg (by omega)]
                                have hae : at_ = k1 + 1 - 1 := HAT.out.symm.trans hat0
                                have hai : at_ < i := by have := HLM.out; omega
                                have HATN := hide (show atF p (k1 + 1 + 1) = at_ + 1 by rw [hae]; unfold atF; rw [if_neg (by omega)]; omega)
                                rw [← hae] at hyl
                                obtain ⟨am, rfl⟩ := HMX.out.there (k := at_) hai
                                have HEL := hide (HMX.out.elem at_ hai)
                                rw [← hyl] at HEL
                                have f0 := fun q => (show (X.drewN q).cell? _ = _ from HEL.out.c0)
                                have f1 := fun q => (show (X.drewN q).cell? _ = _ from HEL.out.c1)
                                have f2 := fun q => (show (X.drewN q).cell? _ = _ from HEL.out.c2)
                                have f3 := fun q => (show (X.drewN q).cell? _ = _ from HEL.out.c3)
                                have f4 := fun q => (show (X.drewN q).cell? _ = _ from HEL.out.c4)
                                have hlt2 : (at_ : Int) < (i : Int) := by omega
                                have hge2 : ¬ ((i : Int) ≤ (at_ : Int)) := by omega
                                clear hkp hyl hjl hat0 hae
                                go_wp2_with fail
                                go_quiet (fail)
                                go_wp2_with fail
                                go_quiet (fail)
                                go_wp2
                                go_roundg g1
                                case measure => omega
                                case rel => exact ⟨k1 + 1 + 1, by omega, by go_num, by rw [HATN.out]; go_num, below_drewN HW.out _⟩
end Go.Proofs.YtigbicggcohcgaaDoor
