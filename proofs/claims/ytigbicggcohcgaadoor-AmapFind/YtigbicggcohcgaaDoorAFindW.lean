/-
  AmapFind (P10.1, P10.2): the area of an address is the one that has it; without it that address has none, and all others stay: its walk.
-/
import Derived.Test.YtigbicggcohcgaaDoorAAwake
import Derived.Test.YtigbicggcohcgaaDoorAOpen
import Derived.Test.YtigbicggcohcgaaDoorAMath2
namespace Go.Proofs.YtigbicggcohcgaaDoor
open Go.RowKit
def FwRel (w2 : World) (x : Int) (L : List Ar) (m gk : Nat) (vb vi : Value) (wr : World) : Prop := ∃ i : Nat, i + gk = m ∧ vi = .int .i64 (i : Int) ∧ vb = .bool (findF (L.take i) x).2 ∧ BoxA wr w2.heap.size (findF (L.take i) x).1 ∧ Below w2.heap.size w2 wr
def EqRel (w6 : World) (m gk : Nat) (vi : Value) (wr : World) : Prop := ∃ i : Nat, i + gk = m ∧ vi = .int .i64 (i : Int) ∧ Below w6.heap.size w6 wr
theorem sameA_self (a : Ar) : sameA a a = true := decide_eq_true rfl
theorem find_i64 {L : List Ar} {x : Int} {f : Ar} (h : findF L x = (f, true)) : ∃ i, i < L.length ∧ L.getD i Ar.zero = f ∧ hasA f x = true := by
  rcases find_cases L x with ⟨h1, _⟩ | ⟨i, hi, h1, h2⟩
  · rw [h1] at h; cases (Prod.mk.inj h).2
  · rw [h1] at h
    have := (Prod.mk.inj h).1
    exact ⟨i, hi, this, by rw [← this]; exact h2⟩
set_option maxRecDepth 20000 in
set_option maxHeartbeats 3200000 in
theorem walk_find (ao : Option Addr) (N cap : Nat) (raw : List Ar) (x : Int) (w : World) (hA : Ars w ao N cap raw) (hx : I64 x) (hg : Glob w) :
    Calls Tryd.prog 4 #[.slice ao N cap, .int .i64 x] w fun e w' => e = .returned (.bool true) ∧ Below w.heap.size w w' := by
  have HA := hide hA
  have HG := hide hg
  have HX := hide hx
  clear hA hg hx
  go_enter Tryd.func4, Tryd.ntmps4
  go_wp2_with fail
  refine (awake_any _ HG.out).mono ?_; rintro e w1 ⟨rfl, b1⟩
  have HB1 := hide b1
  have HA1 := hide (HA.out.carry b1)
  clear b1 HA
  go_wp2_with fail
  refine (make_any ao N cap raw _ HA1.out).mono ?_; rintro e w2 ⟨mo, mc, rfl, A2, b2⟩
  have HM2 := hide A2
  have HB2 := hide (below_one HB1.out b2)
  have hgood := (make_good raw).1
  obtain ⟨L, hL⟩ : ∃ L, makeF raw = L := ⟨_, rfl⟩
  rw [hL] at hgood HM2 ⊢
  obtain ⟨m, hm⟩ : ∃ m, L.length = m := ⟨_, rfl⟩
  rw [hm] at HM2 ⊢
  have HGO := hide hgood
  have HLM := hide hm
  have hmc : mc ≤ 9223372036854775807 := HM2.out.2.2.1
  have hmn : m ≤ mc := HM2.out.2.1
  have HX0 := hide (box_new w2 Ar.zero)
  clear A2 b2 HA1 HB1 hgood hL hm
  go_wp2
  go_loopg [7, 26] m (fun gk vb vi wr => FwRel w2 x L m gk vb vi wr)
  case atStart => exact ⟨0, by omega, rfl, rfl, HX0.out, below_alloc _ _⟩
  case round =>
    clear HX0
    obtain ⟨i, hi, rfl, rfl, bx, b⟩ := hrel
    have HBX := hide bx
    have HB := hide b
    clear bx b
    cases gk with
    | succ g1 =>
      have hlt : (i : Int) < (m : Int) := by omega
      have him := hide (show i < L.length by have := HLM.out; omega)
      obtain ⟨ad, rfl⟩ := HM2.out.there (k := i) (by omega)
      obtain ⟨c0, c1, c2, c3, c4⟩ := (HM2.out.carry HB.out).elem i (by omega)
      obtain ⟨y, hy⟩ : ∃ y, L.getD i Ar.zero = y := ⟨_, rfl⟩
      rw [hy] at c0 c1 c2 c3 c4
      have HY := hide hy
      obtain ⟨X, hX⟩ : ∃ X, wr.alloc (.cells #[.int .i64 y.b, .int .i64 y.s, .int .i64 y.g, .int .i64 y.o, .bool y.w] 24) = X := ⟨_, rfl⟩
      have BX : BoxA X wr.heap.size y := hX ▸ box_new wr y
      have belX : Below wr.heap.size wr X := hX ▸ below_alloc wr _
      have HBY := hide BX
      have HB2' := hide (HB.out.trans (belX.mono HB.out.size))
      have HBX2 := hide (HBX.out.carry belX (Nat.le_refl _))
      obtain ⟨d0, d1, d2, d3, d4⟩ : _ ∧ _ ∧ _ ∧ _ ∧ _ := ⟨BX.c0, BX.c1, BX.c2, BX.c3, BX.c4⟩
      clear hy BX belX HB HBX
      go_wp2_with fail
      refine (lhas_any y x _).mono ?_; rintro e w3 ⟨rfl, b3⟩
      obtain ⟨r, hr⟩ : ∃ r, hasA y x = r := ⟨_, rfl⟩
      rw [hr]
      have HR := hide hr
      have HB3 := hide (HB2'.out.trans (b3.mono HB2'.out.size))
      have HBX3 := hide (HBX2.out.carry b3 (Nat.le_refl _))
      have HBY3 := hide (HBY.out.carry b3 (Nat.le_refl _))
      clear b3 hr c0 c1 c2 c3 c4 d0 d1 d2 d3 d4 HB2' HBX2 HBY hX
      cases r with
      | true =>
        obtain ⟨d0, d1, d2, d3, d4⟩ : _ ∧ _ ∧ _ ∧ _ ∧ _ := ⟨HBY3.out.c0, HBY3.out.c1, HBY3.out.c2, HBY3.out.c3, HBY3.out.c4⟩
        obtain ⟨x0, x1, x2, x3, x4⟩ : _ ∧ _ ∧ _ ∧ _ ∧ _ := ⟨HBX3.out.c0, HBX3.out.c1, HBX3.out.c2, HBX3.out.c3, HBX3.out.c4⟩
        obtain ⟨z0, z1, z2, z3, z4⟩ : _ ∧ _ ∧ _ ∧ _ ∧ _ := ⟨HBX3.out.z 0, HBX3.out.z 1, HBX3.out.z 2, HBX3.out.z 3, HBX3.out.z 4⟩
        have HF := hide (find_take_yes HGO.out HX.out him.out (by rw [HY.out]; exact HR.out))
        obtain ⟨Y, hY⟩ : ∃ Y, ((((w3.setCell ⟨w2.heap.size, 0, none⟩ (.int .i64 y.b)).setCell ⟨w2.heap.size, 1, none⟩ (.int .i64 y.s)).setCell ⟨w2.heap.size, 2, none⟩ (.int .i64 y.g)).setCell ⟨w2.heap.size, 3, none⟩ (.int .i64 y.o)).setCell ⟨w2.heap.size, 4, none⟩ (.bool y.w) = Y := ⟨_, rfl⟩
        have HYB := hide (show BoxA Y w2.heap.size y from hY ▸ HBX3.out.lay y)
        have HYL := hide (show Below w2.heap.size w2 Y from hY ▸ below_sets HB3.out (Nat.le_refl _) y)
        go_wp2
        go_roundg g1
        case measure => omega
        case rel => exact ⟨i + 1, by omega, by go_num, by rw [HF.out], by rw [HF.out, HY.out]; exact HYB.out, HYL.out⟩
      | false =>
        have HF := hide (find_take_no (x := x) him.out (by rw [HY.out]; exact HR.out))
        go_wp2
        go_roundg g1
        case measure => omega
        case rel => exact ⟨i + 1, by omega, by go_num, by rw [HF.out], by rw [HF.out]; exact HBX3.out, HB3.out⟩
    | zero =>
      obtain rfl : i = m := by omega
      have hlt : ¬ ((i : Int) < (i : Int)) := by omega
      rw [List.take_of_length_le (by have := HLM.out; omega)] at HBX ⊢
      obtain ⟨f, fb, hf⟩ : ∃ f fb, findF L x = (f, fb) := ⟨_, _, rfl⟩
      rw [hf] at HBX ⊢
      replace HBX : Hid (BoxA wr w2.heap.size f) := HBX
      simp only
      have HF := hide hf
      have HMr := hide (HM2.out.carry HB.out)
      clear hf
      go_wp2_with fail
      refine (find_any x mo i mc L _ HMr.out).mono ?_; rintro e w3 ⟨rfl, b3⟩
      rw [HF.out]
      simp only
      have HB3 := hide (HB.out.trans (b3.mono HB.out.size))
      have HBX3 := hide (HBX.out.carry b3 (Nat.le_refl _))
      have HM3 := hide (HMr.out.carry b3)
      clear b3 HB HBX HMr
      obtain ⟨X, hX⟩ : ∃ X, w3.alloc (.cells #[.int .i64 f.b, .int .i64 f.s, .int .i64 f.g, .int .i64 f.o, .bool f.w] 24) = X := ⟨_, rfl⟩
      have BX : BoxA X w3.heap.size f := hX ▸ box_new w3 f
      have belX : Below w3.heap.size w3 X := hX ▸ below_alloc w3 _
      have HB4 := hide (HB3.out.trans (belX.mono HB3.out.size))
      have HBX4 := hide (HBX3.out.carry belX (Nat.le_refl _))
      have HM4 := hide (HM3.out.carry belX)
      obtain ⟨d0, d1, d2, d3, d4⟩ : _ ∧ _ ∧ _ ∧ _ ∧ _ := ⟨BX.c0, BX.c1, BX.c2, BX.c3, BX.c4⟩
      obtain ⟨x0, x1, x2, x3, x4⟩ : _ ∧ _ ∧ _ ∧ _ ∧ _ := ⟨HBX4.out.c0, HBX4.out.c1, HBX4.out.c2, HBX4.out.c3, HBX4.out.c4⟩
      have hne : ∀ W, (binOp .neq 24 (.agg #[.int .i64 f.b, .int .i64 f.s, .int .i64 f.g, .int .i64 f.o, .bool f.w]) (.agg #[.int .i64 f.b, .int .i64 f.s, .int .i64 f.g, .int .i64 f.o, .bool f.w])).run Tryd.prog W = .ok (.bool false) W := fun W => by rw [neq_area, sameA_self]; rfl
      have hgd := eqGuardA
      clear BX belX HB3 HBX3 HM3
      have hfb : (fb != fb) = false := by cases fb <;> rfl
      go_wp2_with fail
      refine (remove_any x mo i mc L _ HM4.out (by have := HGO.out.len; omega)).mono ?_; rintro e w5 ⟨hrem, b5⟩
      have HB5 := hide (HB4.out.trans (b5.mono HB4.out.size))
      have HBX5 := hide (HBX4.out.carry b5 (Nat.le_refl _))
      have HM5 := hide (HM4.out.carry b5)
      have HW5 := hide (HB2.out.trans (HB5.out.mono HB2.out.size))
      have HG5 := hide (HG.out.grow HW5.out HG.out.lt)
      clear b5 d0 d1 d2 d3 d4 x0 x1 x2 x3 x4 HB4 HBX4 HM4 hX hne hfb
      obtain ⟨x0, x1, x2, x3, x4⟩ : _ ∧ _ ∧ _ ∧ _ ∧ _ := ⟨HBX5.out.c0, HBX5.out.c1, HBX5.out.c2, HBX5.out.c3, HBX5.out.c4⟩
      rcases hrem with ⟨hno, rfl⟩ | ⟨j, hj, hjb, ro, rc, rfl, AR⟩
      · cases fb with
        | false =>
          clear hno
          go_wp2_with fail
          refine (number_errno 12 _ HG5.out).mono ?_; rintro e w6 ⟨rfl, b6⟩
          have HW6 := hide (below_one HW5.out b6)
          clear b6
          go_wp2
          go_ret
          exact ⟨rfl, HW6.out⟩
        | true =>
          have hfx : ¬ (f.b = x) := by
            obtain ⟨j, hj, e, _⟩ := find_i64 HF.out
            exact hno f (e ▸ getD_mem L j hj)
          clear hno
          go_wp2_with fail
          refine (number_errno 12 _ HG5.out).mono ?_; rintro e w6 ⟨rfl, b6⟩
          have HW6 := hide (below_one HW5.out b6)
          clear b6
          go_wp2
          go_ret
          exact ⟨rfl, HW6.out⟩
      · have hhas : hasA (L.getD j Ar.zero) x = true := (has_iff (HGO.out.get hj) HX.out).2 (by have := (HGO.out.get hj).2.1; omega)
        have hfe := find_at HGO.out HX.out hj hhas
        rw [HF.out] at hfe
        obtain ⟨hff, rfl⟩ := Prod.mk.inj hfe
        have HRF := hide (rem_find HGO.out HX.out hj hhas)
        have HRE := hide (hff ▸ rem_addE HGO.out hj)
        have HRL := hide (hff ▸ rem_addL HGO.out hj)
        have HOK := hide (hff ▸ HGO.out.get hj)
        have HFX := hide (show f.b = x by rw [hff]; exact hjb)
        have hfx : (f.b == x) = true := by rw [HFX.out]; simp
        obtain ⟨R, hR⟩ : ∃ R, remA L j = R := ⟨_, rfl⟩
        replace AR : Ars w5 ro (L.length - 1) rc R := hR ▸ AR
        rw [hR] at HRF HRE HRL
        have HRLEN := hide (show R.length ≤ 1000 by rw [← hR, rem_len hj]; have := HGO.out.len; omega)
        obtain ⟨rn, hrn⟩ : ∃ rn, L.length - 1 = rn := ⟨_, rfl⟩
        rw [hrn] at AR ⊢
        have HAR := hide AR
        clear hhas hfe hff AR hR hrn hjb hj
        go_wp2_with fail
        refine (find_any x ro rn rc R _ HAR.out).mono ?_; rintro e w6 ⟨rfl, b6⟩
        rw [HRF.out]
        simp only
        have HW6 := hide (below_one HW5.out b6)
        have HBX6 := hide (HBX5.out.carry b6 (Nat.le_refl _))
        have HM6 := hide (HM5.out.carry b6)
        have HAR6 := hide (HAR.out.carry b6)
        clear b6 x0 x1 x2 x3 x4 HBX5 HM5 HAR HW5 HB5 hfx
        obtain ⟨X, hX⟩ : ∃ X, w6.alloc (.cells #[.int .i64 Ar.zero.b, .int .i64 Ar.zero.s, .int .i64 Ar.zero.g, .int .i64 Ar.zero.o, .bool Ar.zero.w] 24) = X := ⟨_, rfl⟩
        have belX : Below w6.heap.size w6 X := hX ▸ below_alloc w6 _
        have HW7 := hide (below_one HW6.out belX)
        have HBX7 := hide (HBX6.out.carry belX (Nat.le_refl _))
        have HM7 := hide (HM6.out.carry belX)
        have HAR7 := hide (HAR6.out.carry belX)
        obtain ⟨x0, x1, x2, x3, x4⟩ : _ ∧ _ ∧ _ ∧ _ ∧ _ := ⟨HBX7.out.c0, HBX7.out.c1, HBX7.out.c2, HBX7.out.c3, HBX7.out.c4⟩
        clear belX HW6 HBX6 HM6 HAR6
        go_wp2_with fail
        refine (add_any f ro rn rc R _ HAR7.out HOK.out.fit HRLEN.out).mono ?_; rintro e w8 ⟨qo, qc, rfl, A8, b8⟩
        rw [HRL.out] at A8
        rw [HRE.out, HRL.out, erN_zero, HLM.out]
        rw [HLM.out] at A8
        have HA8 := hide A8
        have HW8 := hide (below_one HW7.out b8)
        have HM8 := hide (HM7.out.carry b8)
        have hqc : qc ≤ 9223372036854775807 := HA8.out.2.2.1
        have hqn : i ≤ qc := HA8.out.2.1
        clear A8 b8 x0 x1 x2 x3 x4 hX HBX7 HM7 HAR7 HW7
        have hii : ((i : Int) == (i : Int)) = true := by simp
        go_wp2
        go_loopg [101] i (fun gk vi wr => EqRel w8 i gk vi wr)
        case atStart => exact ⟨0, by omega, rfl, Below.refl _ _⟩
        case round =>
          rename World => wq
          clear hii
          obtain ⟨k, hk, rfl, b9⟩ := hrel
          have HB9 := hide b9
          clear b9
          cases gk with
          | zero =>
            obtain rfl : k = i := by omega
            have hlt : ¬ ((k : Int) < (k : Int)) := by omega
            go_wp2
            go_ret
            exact ⟨rfl, HW8.out.trans (HB9.out.mono HW8.out.size)⟩
          | succ g1 =>
            have hlt : (k : Int) < (i : Int) := by omega
            have hki : k < i := by omega
            obtain ⟨ad, rfl⟩ := HM8.out.there hki
            obtain ⟨ad', rfl⟩ := HA8.out.there hki
            obtain ⟨y, hy⟩ : ∃ y, L.getD k Ar.zero = y := ⟨_, rfl⟩
            have HE1 := hide ((HM8.out.carry HB9.out).elem k hki)
            have HE2 := hide ((HA8.out.carry HB9.out).elem k hki)
            rw [hy] at HE1 HE2
            have c0 := fun q => (show (wq.drewN q).cell? _ = _ from HE1.out.c0)
            have c1 := fun q => (show (wq.drewN q).cell? _ = _ from HE1.out.c1)
            have c2 := fun q => (show (wq.drewN q).cell? _ = _ from HE1.out.c2)
            have c3 := fun q => (show (wq.drewN q).cell? _ = _ from HE1.out.c3)
            have c4 := fun q => (show (wq.drewN q).cell? _ = _ from HE1.out.c4)
            have d0 := fun q => (show (wq.drewN q).cell? _ = _ from HE2.out.c0)
            have d1 := fun q => (show (wq.drewN q).cell? _ = _ from HE2.out.c1)
            have d2 := fun q => (show (wq.drewN q).cell? _ = _ from HE2.out.c2)
            have d3 := fun q => (show (wq.drewN q).cell? _ = _ from HE2.out.c3)
            have d4 := fun q => (show (wq.drewN q).cell? _ = _ from HE2.out.c4)
            have hne : ∀ W, (binOp .neq 24 (.agg #[.int .i64 y.b, .int .i64 y.s, .int .i64 y.g, .int .i64 y.o, .bool y.w]) (.agg #[.int .i64 y.b, .int .i64 y.s, .int .i64 y.g, .int .i64 y.o, .bool y.w])).run Tryd.prog W = .ok (.bool false) W := fun W => by rw [neq_area, sameA_self]; rfl
            clear hy
            go_wp2_with fail
            go_quiet (fail)
            go_wp2
            go_roundg g1
            case measure => omega
            case rel => exact ⟨k + 1, by omega, by go_num, below_drewN HB9.out _⟩
end Go.Proofs.YtigbicggcohcgaaDoor
