/-
  PagesCount (P8.1): of as many pages as there are each is given out once; there are none below 0, and none above 4096. No condition: every input that can be read.
-/
import Derived.Test.YtlfophfilehdeaaRows
import Derived.Test.YtlfophfilehdeaaPRead
import Derived.WalkKit
import Derived.WalkSpells
import Derived.WalkLawsBesides
import Derived.Deep.QuietTactic
import Derived.BigQuiet
import Derived.ProofKit
import Derived.OpenShut
import Derived.ShutString
import Derived.ChangeOld
import Derived.Below
import Derived.SizedLaws
namespace Go.Proofs.Ytlfophfilehdeaa

open Go.RowKit
def CountRel (w : World) (m a b n q : Nat) (gk : Nat) (i : Value) (wr : World) : Prop :=
  ∃ k : Nat, k + gk = q ∧ i = .int .i64 k ∧ Hid (MemAt wr m a b n (upF n k) (zeros (n * 64))) ∧ Hid (Below w.heap.size w wr)
set_option maxHeartbeats 1600000 in
theorem walk_count (z : Int) (w : World) (hz : -9223372036854775808 ≤ z ∧ z ≤ 9223372036854775807) :
    Calls Try.prog 5 #[.int .i64 z] w fun e w' => e = .returned (.bool true) ∧ Below w.heap.size w w' := by
  obtain ⟨n, hn⟩ : ∃ n, clampF z = n := ⟨_, rfl⟩
  have h40 : n ≤ 4096 := hn ▸ clampF_le z
  have HN := hide hn
  obtain ⟨q, hq⟩ : ∃ q, min n 20 = q := ⟨_, rfl⟩
  have HQ := hide hq
  have hqn : q ≤ n := by omega
  clear hn hq
  go_enter Try.func5, Try.ntmps5
  go_wp2_with fail
  refine (awake_any _).mono ?_; rintro e w1 ⟨rfl, bel1⟩
  have HB1 := hide bel1
  clear bel1
  go_upto_region 3 with fail
  go_cut [3] from 10 to 13 (fun x wx => x = .int .i64 (n : Int) ∧ wx = w1)
  case first =>
    rcases Int.lt_trichotomy z 0 with h0 | h0 | h0
    · have h1 : z < 4096 := by omega
      have h2 : ¬ (4096 < z) := by omega
      have h3 : ¬ (0 < z) := by omega
      go_wp2_with fail
      go_meet
      case rel => exact ⟨by rw [← HN.out, clampF_low (by omega)]; rfl, rfl⟩
    · subst h0
      go_wp2_with fail
      go_meet
      case rel => exact ⟨by rw [← HN.out, clampF_low (by omega)]; rfl, rfl⟩
    · have h3 : ¬ (z < 0) := by omega
      rcases Int.lt_trichotomy z 4096 with h1 | h1 | h1
      · have h2 : ¬ (4096 < z) := by omega
        go_wp2_with fail
        go_meet
        case rel => exact ⟨by rw [← HN.out, ← clampF_in (by omega) (by omega)], rfl⟩
      · subst h1
        go_wp2_with fail
        go_meet
        case rel => exact ⟨by rw [← HN.out, clampF_high (by omega)]; rfl, rfl⟩
      · have h2 : ¬ (z < 4096) := by omega
        go_wp2_with fail
        go_meet
        case rel => exact ⟨by rw [← HN.out, clampF_high (by omega)]; rfl, rfl⟩
  case rest =>
    obtain ⟨rfl, rfl⟩ := hcut
    go_wp2_with fail
    refine (of_any z _ n HN.out hz).mono ?_; rintro e w2 ⟨m, a, b, rfl, N2⟩
    have H2 := hide N2
    have HB2 := hide (HB1.out.trans (N2.bel.mono HB1.out.size))
    clear N2
    go_wp2_with fail
    refine (left_any m a b n _ _ _ H2.out.mem).mono ?_; rintro e w3 ⟨rfl, rfl⟩
    rw [← upF_zero, upF_left, Nat.sub_zero]
    go_wp2_with fail
    go_loopg [5] q (fun gk i wr => CountRel w m a b n q gk i wr)
    case atStart => exact ⟨0, by omega, rfl, by rw [upF_zero]; exact H2.out.mem, HB2⟩
    case round =>
      obtain ⟨k, hk, rfl, HM, HB⟩ := hrel
      have hq := HQ.out
      have h20 : (n : Int) < 20 ∧ ¬ ((20 : Int) < n) ∨ ¬ ((n : Int) < 20) ∧ (20 : Int) < n ∨ ¬ ((n : Int) < 20) ∧ ¬ ((20 : Int) < n) := by omega
      cases gk with
      | zero =>
        rcases h20 with ⟨h, h'⟩ | ⟨h, h'⟩ | ⟨h, h'⟩
        · have hlt : ¬ ((k : Int) < (n : Int)) := by omega
          clear hq hk
          go_wp2
          go_ret
          exact ⟨rfl, HB.out⟩
        · have hlt : ¬ ((k : Int) < 20) := by omega
          clear hq hk
          go_wp2
          go_ret
          exact ⟨rfl, HB.out⟩
        · have hlt : ¬ ((k : Int) < 20) := by omega
          have hlt2 : ¬ ((k : Int) < n) := by omega
          clear hq hk
          go_wp2
          go_ret
          exact ⟨rfl, HB.out⟩
      | succ g1 =>
        have hlt : ((k : Int) < (n : Int)) := by omega
        have hlt2 : ((k : Int) < 20) := by omega
        have hkn : k < n := by omega
        have HL := hide (show leftF (upF n (k + 1)) = n - (k + 1) from upF_left n (k + 1))
        have hs : ((n - (k + 1) : Nat) : Int) = (n : Int) - k - 1 := by omega
        have HS := hide hs
        have HK := hide hk
        clear hq hs hk
        rcases h20 with ⟨h, h'⟩ | ⟨h, h'⟩ | ⟨h, h'⟩
        all_goals
          go_wp2_with fail
          refine (alloc_yes m a b n k _ _ _ HM.out (upF_low n k (by omega)) hkn).mono ?_; rintro e w4 ⟨rfl, M4, F4⟩
          rw [upF_set n k hkn] at M4
          have H4 := hide M4
          have HB4 := hide (HB.out.trans (F4.below HB.out.size fun x e => by
            have := H2.out.ha; have := H2.out.hb; have := HB1.out.size
            rcases e with e | e <;> omega))
          clear M4 F4
          go_wp2_with fail
          refine (left_any m a b n _ _ _ H4.out).mono ?_; rintro e w5 ⟨rfl, rfl⟩
          rw [HL.out, HS.out]
          go_wp2
          go_roundg g1
          case measure => omega
          case rel => exact ⟨k + 1, by have := HK.out; omega, by go_num, H4, HB4⟩

end Go.Proofs.Ytlfophfilehdeaa

namespace Go.Proofs.Ytlfophfilehdeaa.pagesCount
open Go.ChangeShapes Go.WideShapes Go.ChangeAt Go.RowKit
set_option linter.unusedVariables false

theorem own : ownKnob Try.prog.godebug = none := by kernel_rfl
theorem laidOut : laidOutB Try.prog = true := by kernel_rfl

theorem walk (a0 : Int) (w : World) (w0 : (Lit.int .i64 a0).wf = true) :
    Calls Try.prog 5 #[.int .i64 a0] w fun e w' => e = .returned (.bool true) ∧ Below w.heap.size w w' :=
  by have h0 := bounds_i64 w0; exact walk_count a0 w h0

set_option maxRecDepth 100000 in
theorem lifted (os : Os) (started : os.Started) (H : Type) (enc : TypeId × Value → H) :
    ReturnsInHanded {} Try.checked os 5 .any (Rows.pagesCountSpec.pre6 enc Try.prog Try.f5 Rows.pagesCountRow.domain false) (Rows.pagesCountSpec.post enc Try.prog Try.f5 false true false false) := by
  refine returnsInHanded_of_change (C := Try.checked) own started (by kernel_rfl) Try.func5
    (ChangeSpec.witness6 (enc := enc) (C := Try.checked) false ⟨#[], #[.int .i64 0], []⟩ 8 (by kernel_rfl) (by kernel_rfl) (by kernel_rfl) (by kernel_rfl)) ?_
  intro W base args ds gs before hval0 hW hcnd _
  have hval : ∀ (j : Nat) t v, Try.f5.params[j]? = some t → args[j]? = some v → Value.okWide Try.prog W .any base t v := hval0
  have hW' := hW
  obtain ⟨p, q, hA0, hV, rfl, hfz, hnd⟩ := hW
  have hA : DataW.TrodAll enc Try.prog W 0 (fun _ => true) true Try.f5.params.toList args.toList ds p := hA0
  rw [Try.params5] at hA hval
  obtain ⟨v0, vs0, d0, ds0, p0, q0, hargs, rfl, rfl, h0, r0⟩ := trodAll_cons hA
  obtain ⟨rfl, rfl, rfl⟩ := trodAll_nil r0
  obtain rfl : args = #[v0] := by cases args; simp_all
  obtain ⟨rfl, rfl⟩ := trodVars_none hV
  obtain ⟨a0, rfl, rfl, rfl, w0⟩ := open_int Try.underlying3 (hval 0 3 v0 rfl rfl) h0
  clear hA0 hval0
  refine (walk a0 W w0).mono fun e W' ⟨he, bel⟩ => ?_
  subst he
  exact ⟨_, rfl, _, _, _, [], _, [], hW', trodAll_mk1 (shut_bool Try.underlying4 _), (trodAll_cons_mk (shut_int Try.underlying3 w0) trodAll_mk0), rfl, bel.frame _, fun h => by cases h⟩

theorem over : Rows.pagesCountRow.holds Try.pinned (OpenSpec.ofChange Rows.pagesCountSpec) :=
  OpenClaim.holds_of_wide 5 Try.f5 rfl rfl rfl rfl rfl rfl rfl ⟨rfl, rfl, rfl, rfl, rfl⟩ rfl rfl rfl rfl rfl (by kernel_rfl) Try.func5 (by kernel_rfl)
    (of_decide_eq_true (by kernel_rfl)) (by unfold Func.isWrapper; first | (rw [if_pos (by decide +kernel)]; kernel_rfl) | (rw [if_neg (by decide +kernel)]; exact ⟨rfl, rfl⟩))
    (fun os started H enc _ => lifted os started H enc)
end Go.Proofs.Ytlfophfilehdeaa.pagesCount

namespace Go.Proofs.Ytlfophfilehdeaa
theorem pagesCount_holds : Rows.PagesCountSaid := pagesCount.over
#print axioms pagesCount_holds
end Go.Proofs.Ytlfophfilehdeaa
