/-
  OracleNone (P6.1): without a tape there is no answer, and no draw. No condition: every input that can be read.
-/
import Derived.Test.YtckpdgheoacbfaaRows
import Derived.Test.YtckpdgheoacbfaaOLaw
import Derived.Test.YtckpdgheoacbfaaORead
import Derived.WalkKit
import Derived.WalkSpells
import Derived.WalkLawsBesides
import Derived.Deep.QuietTactic
import Derived.BigQuiet
import Derived.ProofKit
import Derived.OpenShut
import Derived.ShutString
import Derived.ChangeOld
import Derived.Below
import Derived.SizedLaws
namespace Go.Proofs.Ytckpdgheoacbfaa

open Go.RowKit
set_option maxHeartbeats 1600000 in
theorem walk_none (f : Int) (i : Nat) (w : World) (hf : -9223372036854775808 ≤ f ∧ f ≤ 9223372036854775807) (hi : i ≤ 18446744073709551615) :
    Calls Try.prog 5 #[.int .i64 f, .int .u64 (i : Int)] w fun e w' => e = .returned (.bool true) ∧ Below w.heap.size w w' := by
  have HF := hide hf
  have HI := hide hi
  clear hf hi
  go_enter Try.func5, Try.ntmps5
  go_wp2_with fail
  refine (awake_any _).mono ?_; rintro e w1 ⟨rfl, bel1⟩
  have HB1 := hide bel1
  clear bel1
  go_wp2_with fail
  refine (oof_any _ ⟨_, rfl⟩ _).mono ?_; rintro e w2 ⟨g, m, rfl, O2, bel2⟩
  have HO := hide O2
  have HB := hide (HB1.out.trans (bel2.mono HB1.out.size))
  clear O2 bel2 HB1
  go_wp2_with fail
  refine (ask_none g m _ _ _ f i _ HO.out HF.out HI.out rfl).mono ?_; rintro e w3 ⟨rfl, q3, rfl⟩
  go_wp2_with fail
  refine (known_no g m _ _ _ _ f i _ (HO.out.drewN q3) HF.out HI.out rfl).mono ?_; rintro e w3 ⟨rfl, q4, rfl⟩
  go_wp2_with fail
  refine (odraw_none g m _ _ _ _ (HO.out.drewN (q3 + q4))).mono ?_; rintro e w3 ⟨rfl, rfl⟩
  go_wp2_with fail
  refine (is_same 7 _).mono ?_; rintro e w8 ⟨rfl, rfl⟩
  go_wp2_with fail
  refine (is_same 7 _).mono ?_; rintro e w8 ⟨rfl, rfl⟩
  go_wp2_with fail
  refine (entries_any g m _ _ _ _ _ (HO.out.drewN (q3 + q4)) (by decide)).mono ?_; rintro e w9 ⟨ao, cap, rfl, hown, bel9⟩
  have HO9 := hide ((HO.out.drewN (q3 + q4)).grow bel9)
  have HB9 := hide ((below_drewN HB.out (q3 + q4)).trans (bel9.mono (below_drewN HB.out (q3 + q4)).size))
  clear hown bel9
  go_wp2_with fail
  refine (oleft_none g m _ _ _ _ HO9.out).mono ?_; rintro e w10 ⟨rfl, rfl⟩
  go_wp2
  go_ret
  exact ⟨rfl, HB9.out⟩

end Go.Proofs.Ytckpdgheoacbfaa

namespace Go.Proofs.Ytckpdgheoacbfaa.oracleNone
open Go.ChangeShapes Go.WideShapes Go.ChangeAt Go.RowKit
set_option linter.unusedVariables false

theorem own : ownKnob Try.prog.godebug = none := by kernel_rfl
theorem laidOut : laidOutB Try.prog = true := by kernel_rfl

theorem walk (a0 : Int) (a1 : Int) (w : World) (w0 : (Lit.int .i64 a0).wf = true) (w1 : (Lit.int .u64 a1).wf = true) :
    Calls Try.prog 5 #[.int .i64 a0, .int .u64 a1] w fun e w' => e = .returned (.bool true) ∧ Below w.heap.size w w' :=
  by obtain ⟨q, rfl, hq⟩ := u64_nat w1; exact walk_none a0 q w (bounds_i64 w0) hq

set_option maxRecDepth 100000 in
theorem lifted (os : Os) (started : os.Started) (H : Type) (enc : TypeId × Value → H) :
    ReturnsInHanded {} Try.checked os 5 .any (Rows.oracleNoneSpec.pre6 enc Try.prog Try.f5 Rows.oracleNoneRow.domain false) (Rows.oracleNoneSpec.post enc Try.prog Try.f5 false true false false) := by
  refine returnsInHanded_of_change (C := Try.checked) own started (by kernel_rfl) Try.func5
    (ChangeSpec.witness6 (enc := enc) (C := Try.checked) false ⟨#[], #[.int .i64 0, .int .u64 0], []⟩ 8 (by kernel_rfl) (by kernel_rfl) (by kernel_rfl) (by kernel_rfl)) ?_
  intro W base args ds gs before hval0 hW hcnd _
  have hval : ∀ (j : Nat) t v, Try.f5.params[j]? = some t → args[j]? = some v → Value.okWide Try.prog W .any base t v := hval0
  have hW' := hW
  obtain ⟨p, q, hA0, hV, rfl, hfz, hnd⟩ := hW
  have hA : DataW.TrodAll enc Try.prog W 0 (fun _ => true) true Try.f5.params.toList args.toList ds p := hA0
  rw [Try.params5] at hA hval
  obtain ⟨v0, vs0, d0, ds0, p0, q0, hargs, rfl, rfl, h0, r0⟩ := trodAll_cons hA
  obtain ⟨v1, vs1, d1, ds1, p1, q1, rfl, rfl, rfl, h1, r1⟩ := trodAll_cons r0
  obtain ⟨rfl, rfl, rfl⟩ := trodAll_nil r1
  obtain rfl : args = #[v0, v1] := by cases args; simp_all
  obtain ⟨rfl, rfl⟩ := trodVars_none hV
  obtain ⟨a0, rfl, rfl, rfl, w0⟩ := open_int Try.underlying3 (hval 0 3 v0 rfl rfl) h0
  obtain ⟨a1, rfl, rfl, rfl, w1⟩ := open_int Try.underlying30 (hval 1 30 v1 rfl rfl) h1
  clear hA0 hval0
  refine (walk a0 a1 W w0 w1).mono fun e W' ⟨he, bel⟩ => ?_
  subst he
  exact ⟨_, rfl, _, _, _, [], _, [], hW', trodAll_mk1 (shut_bool Try.underlying4 _), (trodAll_cons_mk (shut_int Try.underlying3 w0) (trodAll_cons_mk (shut_int Try.underlying30 w1) trodAll_mk0)), rfl, bel.frame _, fun h => by cases h⟩

theorem over : Rows.oracleNoneRow.holds Try.pinned (OpenSpec.ofChange Rows.oracleNoneSpec) :=
  OpenClaim.holds_of_wide 5 Try.f5 rfl rfl rfl rfl rfl rfl rfl ⟨rfl, rfl, rfl, rfl, rfl⟩ rfl rfl rfl rfl rfl (by kernel_rfl) Try.func5 (by kernel_rfl)
    (of_decide_eq_true (by kernel_rfl)) (by unfold Func.isWrapper; first | (rw [if_pos (by decide +kernel)]; kernel_rfl) | (rw [if_neg (by decide +kernel)]; exact ⟨rfl, rfl⟩))
    (fun os started H enc _ => lifted os started H enc)
end Go.Proofs.Ytckpdgheoacbfaa.oracleNone

namespace Go.Proofs.Ytckpdgheoacbfaa
theorem oracleNone_holds : Rows.OracleNoneSaid := oracleNone.over
#print axioms oracleNone_holds
end Go.Proofs.Ytckpdgheoacbfaa
