/-
  TapeOwn (P5.1): a tape does not hang on what becomes of the entries that it was made of; two of the same entries draw the same. No condition: every input that can be read.
-/
import Derived.Test.YtebibihcblmpiaaRows
import Derived.Test.YtebibihcblmpiaaTAwake
import Derived.Test.YtebibihcblmpiaaTRead
import Derived.WalkKit
import Derived.WalkSpells
import Derived.WalkLawsBesides
import Derived.Deep.QuietTactic
import Derived.BigQuiet
import Derived.ProofKit
import Derived.OpenShut
import Derived.ShutString
import Derived.ChangeOld
import Derived.Below
import Derived.SizedLaws
namespace Go.Proofs.Ytebibihcblmpiaa

open Go.RowKit
theorem Touch.refl (g : Nat) (w : World) : Touch g w w := ⟨rfl, rfl, rfl, rfl, fun _ _ => rfl⟩
theorem Touch.trans {g : Nat} {a b c : World} (h : Touch g a b) (k : Touch g b c) : Touch g a c :=
  ⟨k.os.trans h.os, k.tape.trans h.tape, k.output.trans h.output, k.size.trans h.size, fun i hi => (k.block i hi).trans (h.block i hi)⟩
theorem touch_set (w : World) (p : Addr) (v : Value) : Touch p.block w (w.setCell p v) :=
  ⟨rfl, rfl, rfl, by simp [World.setCell], fun k hk => heap_setCell_other _ _ _ _ hk⟩
def u64v (ys : List Int) : List Value := ys.map (Value.int .u64)
theorem u64v_len (ys : List Int) : (u64v ys).length = ys.length := by simp [u64v]
theorem u64v_get (ys : List Int) (j : Nat) (h : j < ys.length) : (u64v ys)[j]? = some (.int .u64 (ys.getD j 0)) := by
  simp [u64v, List.getElem?_eq_getElem h, List.getD_eq_getElem?_getD]
theorem u64v_set (ys : List Int) (j : Nat) (z : Int) : (u64v ys).set j (.int .u64 z) = u64v (ys.set j z) := by simp [u64v, List.map_set]
/- what an append of all entries to nothing owns, as numbers -/
theorem own_u64s {w : World} {B n : Nat} {oo : Option Addr} {cc : Nat} {us : List Nat} (h : w.ownsRow B 26 1 (.slice oo n cc) n (u64v (us.map fun x : Nat => (x : Int)))) (hn : n = us.length) (hv : ∀ j, us.getD j 0 ≤ 18446744073709551615) : U64s w oo n cc us := by
  rcases h.2 with ⟨e, h0⟩ | ⟨g, cap, cur, e, _, _, h1, h2, _, _⟩
  · cases e
    refine ⟨hn, Nat.le_refl _, by decide, fun _ => rfl, (fun ad x => by cases x), hv⟩
  · cases e
    refine ⟨hn, h1, h2, (fun x => by cases x), fun ad x j hj => ?_, hv⟩
    obtain rfl := Option.some.inj x
    rw [add0, h.cellAt j (by omega), u64v_get _ _ (by simpa using hj)]
    simp [List.getD_eq_getElem?_getD, List.getElem?_eq_getElem hj]
theorem own_slice {w : World} {B n : Nat} {v : Value} {xs : List Value} (h : w.ownsRow B 26 1 v n xs) : ∃ oo cc, v = .slice oo n cc ∧ cc ≤ 9223372036854775807 := by
  rcases h.2 with ⟨rfl, rfl⟩ | ⟨g, cap, cur, rfl, _, _, _, h2, _⟩
  · exact ⟨none, 0, rfl, by omega⟩
  · exact ⟨_, _, rfl, h2⟩
theorem own_touch {w w' : World} {B n p : Nat} {v : Value} {xs : List Value} (h : w.ownsRow B 26 1 v n xs) (t : Touch p w w') (hp : ∀ g, v.ownBlock = some g → g ≠ p) : w'.ownsRow B 26 1 v n xs := by
  refine ⟨h.1, ?_⟩
  rcases h.2 with h0 | ⟨g, cap, cur, rfl, hb, hg, r⟩
  · exact .inl h0
  · exact .inr ⟨g, cap, cur, rfl, hb, by rw [t.block g (hp g rfl)]; exact hg, r⟩
theorem own_below {w w' : World} {B n : Nat} {v : Value} {xs : List Value} (h : w.ownsRow B 26 1 v n xs) (b : Below w.heap.size w w') : w'.ownsRow B 26 1 v n xs := by
  refine ⟨h.1, ?_⟩
  rcases h.2 with h0 | ⟨g, cap, cur, rfl, hb, hg, r⟩
  · exact .inl h0
  · exact .inr ⟨g, cap, cur, rfl, hb, by rw [b.block g (lt_of_heap hg)]; exact hg, r⟩
theorem one_u64v (ys : List Int) : ∀ u, u ∈ u64v ys → u.oneCell' = true := by
  intro u h
  obtain ⟨z, _, rfl⟩ := List.mem_map.1 h
  rfl
theorem news {w : World} {ao : Option Addr} {n cap : Nat} {us : List Nat} (h : U64s w ao n cap us) (ad : Addr) (e : ao = some ad) (j : Nat) (u : Value) (hu : (u64v (us.map fun x : Nat => (x : Int)))[j]? = some u) : w.cell? (ad.add j) = some u := by
  have hj : j < us.length := by
    obtain ⟨h1, _⟩ := List.getElem?_eq_some_iff.1 hu
    simpa [u64v] using h1
  rw [h.2.2.2.2.1 ad e j hj, ← hu, u64v_get _ _ (by simpa using hj)]
  simp [List.getD_eq_getElem?_getD, List.getElem?_eq_getElem hj]
theorem tape_stay {wa wr : World} {v : Value} {g b : Nat} {ws : List Nat} {t k : Nat} (T : TapeAt wa g b ws t k) (h1 : ∀ p, v.ownBlock = some p → Touch p wa wr) (h2 : v.ownBlock = none → wr = wa) (hp : ∀ p, v.ownBlock = some p → g ≠ p ∧ b ≠ p) : TapeAt wr g b ws t k := by
  cases e : v.ownBlock with
  | none => rw [h2 e]; exact T
  | some p => exact T.touch (h1 p e) (hp p e).1 (hp p e).2
theorem below_stay {B : Nat} {wa wr : World} {v : Value} (h1 : ∀ p, v.ownBlock = some p → Touch p wa wr) (h2 : v.ownBlock = none → wr = wa) (hp : ∀ p, v.ownBlock = some p → B ≤ p) : Below B wa wr := by
  cases e : v.ownBlock with
  | none => rw [h2 e]; exact Below.refl _ _
  | some p => exact (h1 p e).below (hp p e)
theorem TapeAt.glt {w : World} {g h : Nat} {ws : List Nat} {t k : Nat} (x : TapeAt w g h ws t k) : g < w.heap.size := lt_of_heap x.box
/- the first loop: the entries of one's own turn, nothing else does -/
def Own1 (w wa : World) (v : Value) (n : Nat) (gk : Nat) (i : Value) (wr : World) : Prop :=
  ∃ (k : Nat) (ys : List Int), k + gk = n ∧ i = .int .i64 k ∧ ys.length = n ∧ Hid (wr.ownsRow w.heap.size 26 1 v n (u64v ys)) ∧ Hid (∀ p, v.ownBlock = some p → Touch p wa wr) ∧ Hid (v.ownBlock = none → wr = wa)
/- the second: both tapes are drawn from -/
def Own2 (w : World) (g1 b1 a1 g2 b2 a2 : Nat) (ws : List Nat) (n : Nat) (gk : Nat) (i : Value) (wr : World) : Prop :=
  ∃ k : Nat, k + gk = n ∧ i = .int .i64 k ∧ Hid (TapeAt wr g1 b1 ws k a1) ∧ Hid (TapeAt wr g2 b2 ws k a2) ∧ Hid (Below w.heap.size w wr)
set_option maxRecDepth 100000 in
set_option maxHeartbeats 1600000 in
theorem walk_own (ao : Option Addr) (n cap : Nat) (us : List Nat) (w : World) (hu : U64s w ao n cap us) (hb : n ≤ 17592186043904) :
    Calls Try.prog 5 #[.slice ao n cap] w fun e w' => e = .returned (.bool true) ∧ Below w.heap.size w w' := by
  have HU := hide hu
  have hcm : cap ≤ 9223372036854775807 := hu.2.2.1
  have HN := hide hu.1
  have HL := hide (show (cutN us).length = n by rw [cutN_len]; exact hu.1.symm)
  obtain ⟨i0, hi, hz0, hz1, hz2⟩ : ∃ i0, Try.prog.info? 26 = some i0 ∧ i0.zero = some (.int .u64 0) ∧ i0.size = 1 ∧ i0.bytes = 8 := by
    obtain ⟨i, hi, hzz⟩ := Option.map_eq_some_iff.1 Try.tinfo26
    simp only [Prod.mk.injEq] at hzz
    exact ⟨i, hi, hzz.1, hzz.2.1, hzz.2.2⟩
  clear hu
  go_enter Try.func5, Try.ntmps5
  go_wp2_with fail
  refine (awake_any _).mono ?_; rintro e w1 ⟨rfl, bel1⟩
  have HB1 := hide bel1
  have HU1 := hide (HU.out.carry bel1)
  clear bel1
  cases ao with
  | none =>
    have hn0 : n = 0 := by have := HU.out.2.2.2.1 rfl; have := HU.out.2.1; omega
    have hc0 : cap = 0 := HU.out.2.2.2.1 rfl
    subst hn0
    subst hc0
    have hus : us = [] := List.eq_nil_of_length_eq_zero HN.out.symm
    subst hus
    have HO := hide (show w1.ownsRow w.heap.size 26 1 (.slice none 0 0) 0 (u64v (([] : List Nat).map fun x : Nat => (x : Int))) from World.ownsRow_nil _ _ _ _)
    have HB2 := HB1
    have HU2 := HU1
    have HV := hide (fun p e => HO.out.lt p e)
    go_wp2_with fail
    refine (of_any _ _ _ ([] : List Nat) _ (own_u64s HO.out HN.out HU.out.2.2.2.2.2) hb).mono ?_; rintro e w3 ⟨g1, b1, a1, rfl, T1, _, hg1, hh1, bel3⟩
    have HO3 := hide (own_below HO.out bel3)
    have HB3 := hide (HB2.out.trans (bel3.mono HB2.out.size))
    have HU3 := hide (HU2.out.carry bel3)
    have HT1 := hide T1
    have HX1 := hide (And.intro hg1 hh1)
    clear T1 bel3 hg1 hh1
    go_wp2_with fail
    refine (of_any _ _ _ ([] : List Nat) _ HU3.out hb).mono ?_; rintro e w4 ⟨g2, b2, a2, rfl, T2, _, hg2, hh2, bel4⟩
    have HO4 := hide (own_below HO3.out bel4)
    have HB4 := hide (HB3.out.trans (bel4.mono HB3.out.size))
    have HT3 := hide (HT1.out.carry bel4 HT1.out.glt HT1.out.row.lt)
    have HT2 := hide T2
    have HX2 := hide (And.intro hg2 hh2)
    have HX3 := hide (And.intro HT1.out.glt HT1.out.row.lt)
    clear T2 bel4 hg2 hh2
    go_wp2_with fail
    go_loopg [21] 0 (fun gk i wr => Own1 w w4 (.slice none 0 0) 0 gk i wr)
    case atStart => exact ⟨0, ([] : List Nat).map fun x : Nat => (x : Int), by omega, rfl, by have := HN.out; simp <;> omega, HO4, fun p _ => Touch.refl _ _, fun _ => rfl⟩
    case round =>
      obtain ⟨k, ys, hk, rfl, hys, HOr, HTo, HSt⟩ := hrel
      have HY := hide hys
      clear hys
      cases gk with
      | zero =>
        have hlt : ¬ ((k : Int) < ((0 : Nat) : Int)) := by omega
        have hV1 := fun p e => And.intro (show g1 ≠ p by have := (HV.out p e).2; have := HX1.out.1; omega) (show b1 ≠ p by have := (HV.out p e).2; have := HX1.out.2; omega)
        have hV2 := fun p e => And.intro (show g2 ≠ p by have := (HV.out p e).2; have := HX1.out.1; have := HX2.out.1; have := HX3.out.1; omega) (show b2 ≠ p by have := (HV.out p e).2; have := HX1.out.1; have := HX2.out.2; have := HX3.out.1; omega)
        have HA := hide (tape_stay HT3.out HTo.out HSt.out hV1)
        have HC := hide (tape_stay HT2.out HTo.out HSt.out hV2)
        have HBr := hide (HB4.out.trans (below_stay HTo.out HSt.out (fun p e => (HV.out p e).1)))
        have HG1 := hide (show w.heap.size ≤ g1 from Nat.le_trans HB2.out.size HX1.out.1)
        have HG2 := hide (show w.heap.size ≤ g2 from Nat.le_trans HB3.out.size HX2.out.1)
        clear hV1 hV2
        go_wp2_with fail
        go_loopg [33] 0 (fun gk i wr => Own2 w g1 b1 a1 g2 b2 a2 (cutN ([] : List Nat)) 0 gk i wr)
        case atStart => exact ⟨0, by omega, rfl, HA, HC, HBr⟩
        case round =>
          obtain ⟨j, hj, rfl, HA1, HC1, HD1⟩ := hrel
          cases gk with
          | zero =>
            have hjn : ¬ ((j : Int) < ((0 : Nat) : Int)) := by omega
            have hje : j = 0 := by omega
            subst hje
            go_wp2_with fail
            refine (left_any g1 b1 _ _ a1 _ HA1.out).mono ?_; rintro e w5 ⟨rfl, q5, rfl⟩
            rw [HL.out]
            go_wp2_with fail
            refine (left_any g2 b2 _ _ a2 _ (HC1.out.drewN q5)).mono ?_; rintro e w6 ⟨rfl, q6, rfl⟩
            rw [HL.out]
            go_wp2
            go_ret
            exact ⟨rfl, below_drewN HD1.out _⟩
          | succ gg => omega
      | succ gg => omega
  | some ad =>
    go_wp2_with (at_builtin; refine wpList_append_own _ rfl _ _ 22 rfl w.heap.size 26 i0 (.int .u64 0) 1 8 Try.underlying22 hi hz0 hz1 hz2 rfl (by decide) _ 0 [] rfl (World.ownsRow_nil _ _ _ _) ad n cap (u64v (us.map fun x : Nat => (x : Int))) rfl (by rw [u64v_len]; have := HN.out; simp; omega) ?c1 ?c2 (by unfold maxLen; omega) (by omega) HB1.out.size ?_)
    case c1 => exact fun j u e => news HU1.out ad rfl j u e
    case c2 => exact fun u h => one_u64v _ u h
    intro v' w2 hown hgrow _
    obtain ⟨oo, cc, rfl, hcc⟩ := own_slice hown
    have HO := hide hown
    have HB2 := hide (HB1.out.grown hgrow HB1.out.size (fun k e => by cases e))
    have HU2 := hide (HU1.out.carry ((Below.refl w1.heap.size w1).grown hgrow (Nat.le_refl _) (fun k e => by cases e)))
    clear hown hgrow
    have HV := hide (fun p e => HO.out.lt p e)
    go_wp2_with fail
    refine (of_any _ _ _ us _ (own_u64s HO.out HN.out HU.out.2.2.2.2.2) hb).mono ?_; rintro e w3 ⟨g1, b1, a1, rfl, T1, _, hg1, hh1, bel3⟩
    have HO3 := hide (own_below HO.out bel3)
    have HB3 := hide (HB2.out.trans (bel3.mono HB2.out.size))
    have HU3 := hide (HU2.out.carry bel3)
    have HT1 := hide T1
    have HX1 := hide (And.intro hg1 hh1)
    clear T1 bel3 hg1 hh1
    go_wp2_with fail
    refine (of_any _ _ _ us _ HU3.out hb).mono ?_; rintro e w4 ⟨g2, b2, a2, rfl, T2, _, hg2, hh2, bel4⟩
    have HO4 := hide (own_below HO3.out bel4)
    have HB4 := hide (HB3.out.trans (bel4.mono HB3.out.size))
    have HT3 := hide (HT1.out.carry bel4 HT1.out.glt HT1.out.row.lt)
    have HT2 := hide T2
    have HX2 := hide (And.intro hg2 hh2)
    have HX3 := hide (And.intro HT1.out.glt HT1.out.row.lt)
    clear T2 bel4 hg2 hh2
    go_wp2_with fail
    go_loopg [21] n (fun gk i wr => Own1 w w4 (.slice oo n cc) n gk i wr)
    case atStart => exact ⟨0, us.map fun x : Nat => (x : Int), by omega, rfl, by have := HN.out; simp <;> omega, HO4, fun p _ => Touch.refl _ _, fun _ => rfl⟩
    case round =>
      obtain ⟨k, ys, hk, rfl, hys, HOr, HTo, HSt⟩ := hrel
      have HY := hide hys
      clear hys
      cases gk with
      | zero =>
        have hlt : ¬ ((k : Int) < ((n : Nat) : Int)) := by omega
        have hV1 := fun p e => And.intro (show g1 ≠ p by have := (HV.out p e).2; have := HX1.out.1; omega) (show b1 ≠ p by have := (HV.out p e).2; have := HX1.out.2; omega)
        have hV2 := fun p e => And.intro (show g2 ≠ p by have := (HV.out p e).2; have := HX1.out.1; have := HX2.out.1; have := HX3.out.1; omega) (show b2 ≠ p by have := (HV.out p e).2; have := HX1.out.1; have := HX2.out.2; have := HX3.out.1; omega)
        have HA := hide (tape_stay HT3.out HTo.out HSt.out hV1)
        have HC := hide (tape_stay HT2.out HTo.out HSt.out hV2)
        have HBr := hide (HB4.out.trans (below_stay HTo.out HSt.out (fun p e => (HV.out p e).1)))
        have HG1 := hide (show w.heap.size ≤ g1 from Nat.le_trans HB2.out.size HX1.out.1)
        have HG2 := hide (show w.heap.size ≤ g2 from Nat.le_trans HB3.out.size HX2.out.1)
        clear hV1 hV2
        go_wp2_with fail
        go_loopg [33] n (fun gk i wr => Own2 w g1 b1 a1 g2 b2 a2 (cutN us) n gk i wr)
        case atStart => exact ⟨0, by omega, rfl, HA, HC, HBr⟩
        case round =>
          obtain ⟨j, hj, rfl, HA1, HC1, HD1⟩ := hrel
          cases gk with
          | zero =>
            have hjn : ¬ ((j : Int) < ((n : Nat) : Int)) := by omega
            have hje : j = n := by omega
            subst hje
            go_wp2_with fail
            refine (left_any g1 b1 _ _ a1 _ HA1.out).mono ?_; rintro e w5 ⟨rfl, q5, rfl⟩
            rw [HL.out]
            go_wp2_with fail
            refine (left_any g2 b2 _ _ a2 _ (HC1.out.drewN q5)).mono ?_; rintro e w6 ⟨rfl, q6, rfl⟩
            rw [HL.out]
            go_wp2
            go_ret
            exact ⟨rfl, below_drewN HD1.out _⟩
          | succ gg =>
            have hjn : ((j : Int) < ((n : Nat) : Int)) := by omega
            have hx := HA1.out.word j
            obtain ⟨x, ex⟩ : ∃ x, (cutN us).getD j 0 = x := ⟨_, rfl⟩
            have HX := hide ex
            rw [ex] at hx
            clear ex
            go_wp2_with fail
            refine (draw_at g1 b1 _ j a1 x _ HA1.out (by rw [HL.out]; omega) HX.out).mono ?_; rintro e w5 ⟨rfl, T5, t5⟩
            have HA5 := hide T5
            have HC5 := hide (HC1.out.touch t5 (by have := HX2.out.1; have := HX3.out.1; omega) (by have := HX2.out.2; have := HX3.out.1; omega))
            have HD5 := hide (HD1.out.trans (t5.below HG1.out))
            clear T5 t5
            go_wp2_with fail
            refine (draw_at g2 b2 _ j a2 x _ HC5.out (by rw [HL.out]; omega) HX.out).mono ?_; rintro e w6 ⟨rfl, T6, t6⟩
            have HC6 := hide T6
            have HA6 := hide (HA5.out.touch t6 (by have := HX2.out.1; have := HX3.out.1; omega) (by have := HX2.out.1; have := HX3.out.2; omega))
            have HD6 := hide (HD5.out.trans (t6.below HG2.out))
            clear T6 t6
            go_wp2
            go_roundg gg
            case measure => omega
            case rel => exact ⟨j + 1, by omega, by go_num, HA6, HC6, HD6⟩
      | succ gg =>
        have hlt : ((k : Int) < ((n : Nat) : Int)) := by omega
        rcases HOr.out.2 with ⟨_, h0⟩ | ⟨gp, cp, cur, ev, _, _, _, _, _, _⟩
        · omega
        · cases ev
          have hky : k < ys.length := by rw [HY.out]; omega
          have ck := HOr.out.cellAt k (by omega)
          rw [u64v_get ys k hky] at ck
          have zk := HOr.out.frozenAt k
          generalize ys.getD k 0 = z at ck
          go_wp2
          go_roundg gg
          case measure => omega
          case rel =>
            refine ⟨k + 1, ys.set k (IntKind.u64.wrap (z + 1)), by omega, by go_num, by rw [List.length_set]; exact HY.out, ?_, ?_, ?_⟩
            · have h1 := (HOr.out.stored k (.int .u64 (IntKind.u64.wrap (z + 1)))).1
              rw [u64v_set] at h1
              exact h1
            · intro p e
              obtain rfl : gp = p := Option.some.inj e
              exact (HTo.out gp rfl).trans (touch_set wr ⟨gp, k, none⟩ _)
            · intro e; cases e

end Go.Proofs.Ytebibihcblmpiaa

namespace Go.Proofs.Ytebibihcblmpiaa.tapeOwn
open Go.ChangeShapes Go.WideShapes Go.ChangeAt Go.RowKit
set_option linter.unusedVariables false

theorem own : ownKnob Try.prog.godebug = none := by kernel_rfl
theorem laidOut : laidOutB Try.prog = true := by kernel_rfl

theorem walk (a0 : Option Addr) (len0 cap0 : Nat) (z0 : List Int) (w : World) (w0 : RowOf .u64 w a0 len0 cap0 z0) (s0 : cap0 * 8 ≤ 140737488351232) :
    Calls Try.prog 5 #[.slice a0 len0 cap0] w fun e w' => e = .returned (.bool true) ∧ Below w.heap.size w w' :=
  by obtain ⟨us, hu⟩ := w0.u64s; exact walk_own a0 len0 cap0 us w hu (by have := hu.2.1; omega)

set_option maxRecDepth 100000 in
theorem lifted (os : Os) (started : os.Started) (H : Type) (enc : TypeId × Value → H) :
    ReturnsInHanded {} Try.checked os 5 .any (Rows.tapeOwnSpec.pre6 enc Try.prog Try.f5 Rows.tapeOwnRow.domain false) (Rows.tapeOwnSpec.post enc Try.prog Try.f5 false true false false) := by
  refine returnsInHanded_of_change_sized (C := Try.checked) own started (by kernel_rfl) Try.func5
    (ChangeSpec.witness6 (enc := enc) (C := Try.checked) false ⟨#[], #[.slice none 0 0], []⟩ 8 (by kernel_rfl) (by kernel_rfl) (by kernel_rfl) (by kernel_rfl)) ?_
  intro W base args ds gs before hval0 hW hcnd hsz0 _
  have hval : ∀ (j : Nat) t v, Try.f5.params[j]? = some t → args[j]? = some v → Value.okWide Try.prog W .any base t v := hval0
  have hW' := hW
  obtain ⟨p, q, hA0, hV, rfl, hfz, hnd⟩ := hW
  have hA : DataW.TrodAll enc Try.prog W 0 (fun _ => true) true Try.f5.params.toList args.toList ds p := hA0
  have hsz : (DataW.weightsEach Try.prog (Try.f5.params.toList ++ Rows.tapeOwnSpec.plain.varTypes Try.prog) (ds ++ gs)).all (· ≤ reachBytes) = true := hsz0
  rw [Try.params5] at hA hval hsz
  obtain ⟨v0, vs0, d0, ds0, p0, q0, hargs, rfl, rfl, h0, r0⟩ := trodAll_cons hA
  obtain ⟨rfl, rfl, rfl⟩ := trodAll_nil r0
  obtain rfl : args = #[v0] := by cases args; simp_all
  obtain ⟨rfl, rfl⟩ := trodVars_none hV
  obtain ⟨a0, len0, cap0, rfl⟩ := okWide_slice Try.underlying22 (hval 0 22 v0 rfl rfl)
  have k0 := h0
  have lt0 : ∀ x ∈ p0, x.block < W.heap.size := by obtain ⟨m, hm⟩ := k0; exact DataW.trod_lt m _ _ _ hm
  obtain ⟨z0, w0, s0⟩ : ∃ zs, RowOf .u64 W a0 len0 cap0 zs ∧ cap0 * 8 ≤ 140737488351232 := by
    obtain ⟨fuel, hf⟩ := h0
    rcases open_ints Try.underlying22 Try.underlying26 (by kernel_rfl) hf with ⟨hcs, _⟩ | ⟨x, l, c, zs, hcs, _, hl, hm, hz, hx, hcell, hwz⟩
    · simp [Value.cells] at hcs
      obtain ⟨rfl, rfl, rfl⟩ := hcs
      exact ⟨[], .inl ⟨rfl, rfl, rfl, rfl⟩, by omega⟩
    · simp [Value.cells] at hcs
      obtain ⟨rfl, rfl, rfl⟩ := hcs
      have hd := congrArg Prod.fst hx
      simp only at hd
      subst hd
      have hs := sized_slice hsz (j := 0) (t := 22) (e := 26) rfl rfl Try.underlying22
      rw [bytesOf26] at hs
      simp only [lits, List.length_map, List.length_take, List.length_drop, reachBytes] at hs
      have hz' : zs.length = cap0 := by simpa using hz
      exact ⟨zs, .inr ⟨_, rfl, hl, hm, hz', hcell, hwz⟩, by omega⟩
  clear hA0 hval0
  refine (walk a0 len0 cap0 z0 W w0 s0).mono fun e W' ⟨he, bel⟩ => ?_
  subst he
  exact ⟨_, rfl, _, _, _, [], _, [], hW', trodAll_mk1 (shut_bool Try.underlying4 _), (trodAll_cons_mk (Below.trod laidOut (by kernel_rfl) (of_decide_eq_true (by kernel_rfl)) k0 bel lt0) trodAll_mk0), rfl, bel.frame _, fun h => by cases h⟩

theorem over : Rows.tapeOwnRow.holds Try.pinned (OpenSpec.ofChange Rows.tapeOwnSpec) :=
  OpenClaim.holds_of_wide 5 Try.f5 rfl rfl rfl rfl rfl rfl rfl ⟨rfl, rfl, rfl, rfl, rfl⟩ rfl rfl rfl rfl rfl (by kernel_rfl) Try.func5 (by kernel_rfl)
    (of_decide_eq_true (by kernel_rfl)) (by unfold Func.isWrapper; first | (rw [if_pos (by decide +kernel)]; kernel_rfl) | (rw [if_neg (by decide +kernel)]; exact ⟨rfl, rfl⟩))
    (fun os started H enc _ => lifted os started H enc)
end Go.Proofs.Ytebibihcblmpiaa.tapeOwn

namespace Go.Proofs.Ytebibihcblmpiaa
theorem tapeOwn_holds : Rows.TapeOwnSaid := tapeOwn.over
#print axioms tapeOwn_holds
end Go.Proofs.Ytebibihcblmpiaa
