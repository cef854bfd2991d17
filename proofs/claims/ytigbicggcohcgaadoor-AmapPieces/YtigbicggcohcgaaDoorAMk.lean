/-
  The statements' Make, as a contract: a map of areas, as far as they may be added.
-/
import Derived.Test.YtigbicggcohcgaaDoorAMake
namespace Go.Proofs.YtigbicggcohcgaaDoor
open Go.RowKit
def MkEnd (w : World) (L : List Ar) (e : Ending) (w' : World) : Prop := ∃ ro rc, e = .returned (.slice ro L.length rc) ∧ Ars w' ro L.length rc L ∧ Below w.heap.size w w'
def MkNew (w : World) (L : List Ar) (e : Ending) (w' : World) : Prop := ∃ ro rc, e = .returned (.slice ro L.length rc) ∧ Ars w' ro L.length rc L ∧ Below w.heap.size w w' ∧ New w ro
theorem MkNew.plain {w w' : World} {L : List Ar} {e : Ending} : MkNew w L e w' → MkEnd w L e w' := fun ⟨ro, rc, h1, h2, h3, _⟩ => ⟨ro, rc, h1, h2, h3⟩
def MkRel (w : World) (raw : List Ar) (n gk : Nat) (vm vi : Value) (wr : World) : Prop := ∃ (i : Nat) (mo : Option Addr) (mn mc : Nat), i + gk = n ∧ vi = .int .i64 (i : Int) ∧ vm = .slice mo mn mc ∧ Ars wr mo mn mc (makeF (raw.take i)) ∧ Below w.heap.size w wr ∧ New w mo
set_option maxRecDepth 20000 in
set_option maxHeartbeats 1600000 in
theorem make_new (ao : Option Addr) (n cap : Nat) (raw : List Ar) (w : World) (hA : Ars w ao n cap raw) :
    Calls Tryd.prog 9 #[.slice ao n cap] w fun e w' => MkNew w (makeF raw) e w' := by
  have HA := hide hA
  have HN := hide hA.len
  have hnc := hA.2.1
  have hcap : cap ≤ 9223372036854775807 := hA.2.2.1
  clear hA
  go_enter Tryd.func9, Tryd.ntmps9
  go_wp2
  go_loopg [3, 10] n (fun gk vm vi wr => MkRel w raw n gk vm vi wr)
  case atStart => exact ⟨0, none, 0, 0, by omega, rfl, rfl, ars_nil _, Below.refl _ _, new_none _⟩
  case round =>
    obtain ⟨i, mo, mn, mc, hi, rfl, rfl, hM, b, hnw⟩ := hrel
    have HNW := hide hnw
    have HM := hide hM
    have HB := hide b
    clear hM b hnw
    cases gk with
    | zero =>
      obtain rfl : i = n := by omega
      have hlt : ¬ ((i : Int) < (i : Int)) := by omega
      go_wp2
      go_ret
      have h := HM.out
      rw [List.take_of_length_le (by have := HN.out; omega)] at h
      have hl := h.len
      refine ⟨mo, mc, ?_, ?_, HB.out, HNW.out⟩
      · rw [← hl]; rfl
      · rw [← hl]; exact h
    | succ g1 =>
      have hlt : (i : Int) < (n : Int) := by omega
      obtain ⟨ad, rfl⟩ := HA.out.there (k := i) (by omega)
      obtain ⟨c0, c1, c2, c3, c4⟩ := (HA.out.carry HB.out).elem i (by omega)
      have hst := make_take raw i (by have := HN.out; omega)
      obtain ⟨y, hy⟩ : ∃ y, raw.getD i Ar.zero = y := ⟨_, rfl⟩
      rw [hy] at c0 c1 c2 c3 c4 hst
      have hgood := (make_good (raw.take i)).1
      obtain ⟨L, hL⟩ : ∃ L, makeF (raw.take i) = L := ⟨_, rfl⟩
      rw [hL] at hst hgood HM
      have HST := hide hst
      have HGO := hide hgood
      obtain ⟨X, hX⟩ : ∃ X, wr.alloc (.cells #[.int .i64 y.b, .int .i64 y.s, .int .i64 y.g, .int .i64 y.o, .bool y.w] 24) = X := ⟨_, rfl⟩
      have BX : BoxA X wr.heap.size y := hX ▸ box_new wr y
      have belX : Below wr.heap.size wr X := hX ▸ below_alloc wr _
      have HB2 := hide (HB.out.trans (belX.mono HB.out.size))
      have HM2 := hide (HM.out.carry belX)
      obtain ⟨d0, d1, d2, d3, d4⟩ : _ ∧ _ ∧ _ ∧ _ ∧ _ := ⟨BX.c0, BX.c1, BX.c2, BX.c3, BX.c4⟩
      clear hy BX belX HM HB hst hgood hL
      go_wp2_with fail
      refine (small_any y _).mono ?_; rintro e w1 ⟨rfl, b1⟩
      have hfit := (small_ok y).1.fit
      obtain ⟨s, hs⟩ : ∃ s, smallA y = s := ⟨_, rfl⟩
      rw [hs] at hfit ⊢
      have HS := hide hs
      have HF := hide hfit
      have HB3 := hide (HB2.out.trans (b1.mono HB2.out.size))
      have HM3 := hide (HM2.out.carry b1)
      clear b1 c0 c1 c2 c3 c4 d0 d1 d2 d3 d4 hX hs hfit HB2 HM2
      go_wp2_with fail
      refine (add_new s mo mn mc L _ HM3.out HF.out (by have := HGO.out.len; omega)).mono ?_; rintro e w2 ⟨ro, rc, rfl, A2, b2, n2⟩
      have HN2 := hide (New.le n2 HB3.out.size)
      have HB4 := hide (HB3.out.trans (b2.mono HB3.out.size))
      have HM4 := hide (HM3.out.carry b2)
      have HA2 := hide A2
      have hEL : addL L s = if addE L s = 0 then putA L s else [] := rfl
      obtain ⟨K, hK⟩ : ∃ K, addE L s = K := ⟨_, rfl⟩
      obtain ⟨R, hR⟩ : ∃ R, addL L s = R := ⟨_, rfl⟩
      have hST := HST.out
      unfold stepM at hST
      rw [HS.out, hK] at hST
      rw [hR, hK] at hEL
      rw [hR] at HA2
      rw [hR, hK]
      obtain ⟨m, hm⟩ : ∃ m, R.length = m := ⟨_, rfl⟩
      rw [hm] at HA2 ⊢
      clear b2 A2 n2 hK hR HST HS HF HM3 HB3 hm
      by_cases h0 : K = 0
      · subst h0
        rw [if_pos rfl] at hST hEL
        have H5 := hide (hST.trans hEL.symm)
        rw [erN_zero]
        clear hST hEL
        go_wp2
        go_roundg g1
        case measure => omega
        case rel => exact ⟨i + 1, ro, m, rc, by omega, by go_num, rfl, by rw [H5.out]; exact HA2.out, HB4.out, HN2.out⟩
      · rw [if_neg h0] at hST
        have H5 := hide hST
        rw [erN_not h0]
        clear hST hEL h0
        go_wp2
        go_roundg g1
        case measure => omega
        case rel => exact ⟨i + 1, mo, mn, mc, by omega, by go_num, rfl, by rw [H5.out]; exact HM4.out, HB4.out, HNW.out⟩
theorem make_any (ao : Option Addr) (n cap : Nat) (raw : List Ar) (w : World) (hA : Ars w ao n cap raw) :
    Calls Tryd.prog 9 #[.slice ao n cap] w fun e w' => MkEnd w (makeF raw) e w' :=
  (make_new ao n cap raw w hA).mono fun _ _ h => h.plain
end Go.Proofs.YtigbicggcohcgaaDoor
