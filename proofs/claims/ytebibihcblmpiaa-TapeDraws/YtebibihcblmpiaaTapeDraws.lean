/-
  TapeDraws (P5.1): draws are the entries, one after the other, cut to words; behind the last one there is none. No condition: every input that can be read.
-/
import Derived.Test.YtebibihcblmpiaaRows
import Derived.Test.YtebibihcblmpiaaTAwake
import Derived.Test.YtebibihcblmpiaaTRead
import Derived.WalkKit
import Derived.WalkSpells
import Derived.WalkLawsBesides
import Derived.Deep.QuietTactic
import Derived.BigQuiet
import Derived.ProofKit
import Derived.OpenShut
import Derived.ShutString
import Derived.ChangeOld
import Derived.Below
import Derived.SizedLaws
namespace Go.Proofs.Ytebibihcblmpiaa

open Go.RowKit
def DrawsRel (w : World) (g b : Nat) (ws : List Nat) (a q : Nat) (gk : Nat) (i : Value) (wr : World) : Prop :=
  ∃ (k t : Nat), k + gk = q ∧ i = .int .i64 k ∧ t = min k ws.length ∧ Hid (TapeAt wr g b ws t a) ∧ Hid (Below w.heap.size w wr)
theorem and_cut (u : Nat) (hu : u ≤ 18446744073709551615) : bits .and .u64 (u : Int) 281474976710655 = ((u % 281474976710656 : Nat) : Int) := by
  rw [and_word _ (by omega) (by omega), cutF_nat]
set_option maxHeartbeats 1600000 in
theorem walk_draws (ao : Option Addr) (n cap : Nat) (us : List Nat) (q0 q : Nat) (w : World) (hu : U64s w ao n cap us) (hb : n ≤ 17592186043904) (hq0 : q0 ≤ 255) (hq : (q0 : Int) % 40 = (q : Int)) :
    Calls Try.prog 3 #[.slice ao n cap, .int .u8 q0] w fun e w' => e = .returned (.bool true) ∧ Below w.heap.size w w' := by
  have HU := hide hu
  have hcm : cap ≤ 9223372036854775807 := hu.2.2.1
  have HL := hide (show (cutN us).length = n by rw [cutN_len]; exact hu.1.symm)
  clear hu
  go_enter Try.func3, Try.ntmps3
  go_wp2_with fail
  refine (awake_any _).mono ?_; rintro e w1 ⟨rfl, bel1⟩
  go_wp2_with fail
  refine (of_any ao n cap us _ (HU.out.carry bel1) hb).mono ?_; rintro e w2 ⟨g, b, a, rfl, T, _, hg, hh, bel2⟩
  have HT := hide T
  have HB := hide (bel1.trans (bel2.mono bel1.size))
  have HG := hide (Nat.le_trans bel1.size hg)
  clear T hg hh bel1 bel2
  go_wp2_with fail
  go_loopg [6] q (fun gk i wr => DrawsRel w g b (cutN us) a q gk i wr)
  case atStart => exact ⟨0, 0, by omega, rfl, by simp, HT, HB⟩
  case round =>
    obtain ⟨k, t, hk, rfl, ht, HT1, HB1⟩ := hrel
    rw [HL.out] at ht
    cases gk with
    | zero =>
      have hlt : ¬ ((k : Int) < (q : Int)) := by omega
      clear ht
      go_wp2
      go_ret
      exact ⟨rfl, HB1.out⟩
    | succ g1 =>
      have hlt : ((k : Int) < (q : Int)) := by omega
      by_cases hkn : k < n
      · obtain rfl : t = k := by omega
        have hge : ¬ ((n : Int) ≤ (t : Int)) := by omega
        have hkl : t < us.length := by rw [← HU.out.1]; exact hkn
        clear ht
        have hu1 := HU.out.2.2.2.2.2 t
        cases ao with
        | none => have := HU.out.2.2.2.1 rfl; have := HU.out.2.1; omega
        | some ad =>
          obtain ⟨u, eu⟩ : ∃ u, us.getD t 0 = u := ⟨_, rfl⟩
          obtain ⟨x, ex⟩ : ∃ x, u % 281474976710656 = x := ⟨_, rfl⟩
          rw [eu] at hu1
          have hand := and_cut u hu1
          rw [ex] at hand
          have hx : (cutN us).getD t 0 = x := by rw [cutN_get, eu, ex]
          have HX := hide hx
          have HE := hide eu
          clear ex eu hx
          go_wp2_with fail
          refine (draw_at g b _ t a x _ HT1.out (by rw [HL.out]; exact hkn) HX.out).mono ?_; rintro e w6 ⟨rfl, T6, t6⟩
          have HT6 := hide T6
          have HB6 := hide (HB1.out.trans (t6.below HG.out))
          have hce := (HU.out.carry HB6.out).2.2.2.2.1 ad rfl t hkl
          rw [HE.out] at hce
          clear T6 t6
          go_wp2_with fail
          refine (taken_any g b _ _ a _ HT6.out).mono ?_; rintro e w3 ⟨rfl, rfl⟩
          go_wp2_with fail
          refine (left_any g b _ _ a _ HT6.out).mono ?_; rintro e w4 ⟨rfl, q4, rfl⟩
          rw [HL.out]
          go_wp2
          go_roundg g1
          case measure => omega
          case rel => exact ⟨t + 1, t + 1, by omega, by go_num, by have := HL.out; omega, HT6.out.drewN _, below_drewN HB6.out _⟩
      · obtain rfl : t = n := by omega
        have hge : ((t : Int) ≤ (k : Int)) := by omega
        clear ht
        go_wp2_with fail
        refine (draw_no g b (cutN us) a _ (by rw [HL.out]; exact HT1.out)).mono ?_; rintro e w6 ⟨rfl, q6, rfl⟩
        go_wp2_with fail
        refine (is_same 7 _).mono ?_; rintro e w8 ⟨rfl, rfl⟩
        go_wp2_with fail
        refine (taken_any g b _ t a _ (HT1.out.drewN q6)).mono ?_; rintro e w3 ⟨rfl, rfl⟩
        go_wp2_with fail
        refine (left_any g b _ t a _ (HT1.out.drewN q6)).mono ?_; rintro e w4 ⟨rfl, q4, rfl⟩
        rw [HL.out]
        go_wp2
        go_roundg g1
        case measure => omega
        case rel => exact ⟨k + 1, t, by omega, by go_num, by have := HL.out; omega, HT1.out.drewN _, below_drewN HB1.out _⟩

end Go.Proofs.Ytebibihcblmpiaa

namespace Go.Proofs.Ytebibihcblmpiaa.tapeDraws
open Go.ChangeShapes Go.WideShapes Go.ChangeAt Go.RowKit
set_option linter.unusedVariables false

theorem own : ownKnob Try.prog.godebug = none := by kernel_rfl
theorem laidOut : laidOutB Try.prog = true := by kernel_rfl

theorem walk (a0 : Option Addr) (len0 cap0 : Nat) (z0 : List Int) (a1 : Int) (w : World) (w0 : RowOf .u64 w a0 len0 cap0 z0) (s0 : cap0 * 8 ≤ 140737488351232) (w1 : (Lit.int .u8 a1).wf = true) :
    Calls Try.prog 3 #[.slice a0 len0 cap0, .int .u8 a1] w fun e w' => e = .returned (.bool true) ∧ Below w.heap.size w w' :=
  by obtain ⟨us, hu⟩ := w0.u64s; obtain ⟨q, rfl, hq⟩ := u8_nat w1; exact walk_draws a0 len0 cap0 us q (q % 40) w hu (by have := hu.2.1; omega) hq (by omega)

set_option maxRecDepth 100000 in
theorem lifted (os : Os) (started : os.Started) (H : Type) (enc : TypeId × Value → H) :
    ReturnsInHanded {} Try.checked os 3 .any (Rows.tapeDrawsSpec.pre6 enc Try.prog Try.f3 Rows.tapeDrawsRow.domain false) (Rows.tapeDrawsSpec.post enc Try.prog Try.f3 false true false false) := by
  refine returnsInHanded_of_change_sized (C := Try.checked) own started (by kernel_rfl) Try.func3
    (ChangeSpec.witness6 (enc := enc) (C := Try.checked) false ⟨#[], #[.slice none 0 0, .int .u8 0], []⟩ 8 (by kernel_rfl) (by kernel_rfl) (by kernel_rfl) (by kernel_rfl)) ?_
  intro W base args ds gs before hval0 hW hcnd hsz0 _
  have hval : ∀ (j : Nat) t v, Try.f3.params[j]? = some t → args[j]? = some v → Value.okWide Try.prog W .any base t v := hval0
  have hW' := hW
  obtain ⟨p, q, hA0, hV, rfl, hfz, hnd⟩ := hW
  have hA : DataW.TrodAll enc Try.prog W 0 (fun _ => true) true Try.f3.params.toList args.toList ds p := hA0
  have hsz : (DataW.weightsEach Try.prog (Try.f3.params.toList ++ Rows.tapeDrawsSpec.plain.varTypes Try.prog) (ds ++ gs)).all (· ≤ reachBytes) = true := hsz0
  rw [Try.params3] at hA hval hsz
  obtain ⟨v0, vs0, d0, ds0, p0, q0, hargs, rfl, rfl, h0, r0⟩ := trodAll_cons hA
  obtain ⟨v1, vs1, d1, ds1, p1, q1, rfl, rfl, rfl, h1, r1⟩ := trodAll_cons r0
  obtain ⟨rfl, rfl, rfl⟩ := trodAll_nil r1
  obtain rfl : args = #[v0, v1] := by cases args; simp_all
  obtain ⟨rfl, rfl⟩ := trodVars_none hV
  obtain ⟨a0, len0, cap0, rfl⟩ := okWide_slice Try.underlying22 (hval 0 22 v0 rfl rfl)
  have k0 := h0
  have lt0 : ∀ x ∈ p0, x.block < W.heap.size := by obtain ⟨m, hm⟩ := k0; exact DataW.trod_lt m _ _ _ hm
  obtain ⟨z0, w0, s0⟩ : ∃ zs, RowOf .u64 W a0 len0 cap0 zs ∧ cap0 * 8 ≤ 140737488351232 := by
    obtain ⟨fuel, hf⟩ := h0
    rcases open_ints Try.underlying22 Try.underlying26 (by kernel_rfl) hf with ⟨hcs, _⟩ | ⟨x, l, c, zs, hcs, _, hl, hm, hz, hx, hcell, hwz⟩
    · simp [Value.cells] at hcs
      obtain ⟨rfl, rfl, rfl⟩ := hcs
      exact ⟨[], .inl ⟨rfl, rfl, rfl, rfl⟩, by omega⟩
    · simp [Value.cells] at hcs
      obtain ⟨rfl, rfl, rfl⟩ := hcs
      have hd := congrArg Prod.fst hx
      simp only at hd
      subst hd
      have hs := sized_slice hsz (j := 0) (t := 22) (e := 26) rfl rfl Try.underlying22
      rw [bytesOf26] at hs
      simp only [lits, List.length_map, List.length_take, List.length_drop, reachBytes] at hs
      have hz' : zs.length = cap0 := by simpa using hz
      exact ⟨zs, .inr ⟨_, rfl, hl, hm, hz', hcell, hwz⟩, by omega⟩
  obtain ⟨a1, rfl, rfl, rfl, w1⟩ := open_int Try.underlying5 (hval 1 5 v1 rfl rfl) h1
  clear hA0 hval0
  refine (walk a0 len0 cap0 z0 a1 W w0 s0 w1).mono fun e W' ⟨he, bel⟩ => ?_
  subst he
  exact ⟨_, rfl, _, _, _, [], _, [], hW', trodAll_mk1 (shut_bool Try.underlying4 _), (trodAll_cons_mk (Below.trod laidOut (by kernel_rfl) (of_decide_eq_true (by kernel_rfl)) k0 bel lt0) (trodAll_cons_mk (shut_int Try.underlying5 w1) trodAll_mk0)), rfl, bel.frame _, fun h => by cases h⟩

theorem over : Rows.tapeDrawsRow.holds Try.pinned (OpenSpec.ofChange Rows.tapeDrawsSpec) :=
  OpenClaim.holds_of_wide 3 Try.f3 rfl rfl rfl rfl rfl rfl rfl ⟨rfl, rfl, rfl, rfl, rfl⟩ rfl rfl rfl rfl rfl (by kernel_rfl) Try.func3 (by kernel_rfl)
    (of_decide_eq_true (by kernel_rfl)) (by unfold Func.isWrapper; first | (rw [if_pos (by decide +kernel)]; kernel_rfl) | (rw [if_neg (by decide +kernel)]; exact ⟨rfl, rfl⟩))
    (fun os started H enc _ => lifted os started H enc)
end Go.Proofs.Ytebibihcblmpiaa.tapeDraws

namespace Go.Proofs.Ytebibihcblmpiaa
theorem tapeDraws_holds : Rows.TapeDrawsSaid := tapeDraws.over
#print axioms tapeDraws_holds
end Go.Proofs.Ytebibihcblmpiaa
