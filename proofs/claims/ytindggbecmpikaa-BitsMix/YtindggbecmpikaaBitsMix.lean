/-
  BitsMix (P1.2): what is mixed of two words is what the document says, step by step. No condition: every input that can be read.
-/
import Derived.Test.YtindggbecmpikaaRows
import Derived.Test.YtindggbecmpikaaHex
import Derived.Test.YtindggbecmpikaaRows
import Derived.WalkKit
import Derived.ProofKit
import Derived.OpenShut
namespace Go.Proofs.Ytindggbecmpikaa

open Go.RowKit
theorem u64_lt {n : Int} (h : (Lit.int .u64 n).wf = true) : 0 ≤ n ∧ n < 18446744073709551616 := by have := bounds_u64 h; omega
set_option maxHeartbeats 400000 in
theorem walk_mix (a b : Int) (w0 : 0 ≤ a ∧ a < 18446744073709551616) (w1 : 0 ≤ b ∧ b < 18446744073709551616) (w : World) :
    Calls Try.prog 4 #[.int .u64 a, .int .u64 b] w fun e w' => e = .returned (.bool true) ∧ Grown w w' := by
  obtain ⟨h0, h1⟩ := w0
  obtain ⟨hb0, hb1⟩ := w1
  have c1 := and_word a h0 h1
  have H : Hid _ := first_reckoned a b
  go_enter Try.func4, Try.ntmps4
  go_wp2_with fail
  refine (awake_any _).mono ?_; rintro e wa ⟨rfl, hg⟩
  go_wp2_with fail
  refine (spin_any _ _ _ hb0 hb1 (by omega) (by omega)).mono ?_; rintro e w2 ⟨rfl, rfl⟩
  go_wp2_with fail
  go_loop [5, 6] (fun x i => ∃ k : Nat, k ≤ 3 ∧ i = .int .i64 ((k : Int) + 1) ∧ x = .int .u64 (roundsF k (xorF (cutF a) (turnF b 17)))) (fun _ i => 4 - (intOf i).toNat)
  case atStart => exact ⟨0, by omega, rfl, by rw [H.out]; rfl⟩
  case round =>
    obtain ⟨k, hk, rfl, rfl⟩ := hrel
    have hx0 := roundsF_lo k (xorF (cutF a) (turnF b 17)) (xorF_lo _ _)
    have hx1 := roundsF_hi k (xorF (cutF a) (turnF b 17)) (first_hi a b)
    have HX : Hid _ := round_reckoned ((k : Int) + 1) (roundsF k (xorF (cutF a) (turnF b 17)))
    by_cases hk3 : k < 3
    · have hy0 := addF_lo (mulF (roundsF k (xorF (cutF a) (turnF b 17))) 173961102589771) (turnF (roundsF k (xorF (cutF a) (turnF b 17))) (7 * ((k : Int) + 1)))
      have hy1 := addF_hi (mulF (roundsF k (xorF (cutF a) (turnF b 17))) 173961102589771) (turnF (roundsF k (xorF (cutF a) (turnF b 17))) (7 * ((k : Int) + 1)))
      have c2 : bits .and .u64 (IntKind.u64.wrap (IntKind.u64.wrap (roundsF k (xorF (cutF a) (turnF b 17)) * 173961102589771) + turnF (roundsF k (xorF (cutF a) (turnF b 17))) (7 * ((k : Int) + 1)))) 281474976710655 = addF (mulF (roundsF k (xorF (cutF a) (turnF b 17))) 173961102589771) (turnF (roundsF k (xorF (cutF a) (turnF b 17))) (7 * ((k : Int) + 1))) := by
        rw [and_word _ (wrap_lo _) (wrap_hi _), sum_cut]
      go_wp2_with fail
      refine (spin_any _ _ _ hx0 (by omega) (by omega) (by omega)).mono ?_; rintro e w3 ⟨rfl, rfl⟩
      go_wp2
      go_round
      case rel => exact ⟨k + 1, by omega, by go_num, by rw [HX.out]; rfl⟩
      case measure => simp [intOf]; omega
    · have e3 : k = 3 := by omega
      subst e3
      go_wp2_with fail
      refine (mix_any _ _ _ h0 h1 hb0 hb1).mono ?_; rintro e w3 ⟨rfl, j3, rfl⟩
      have e4 : mixF a b = roundsF 3 (xorF (cutF a) (turnF b 17)) := rfl
      rw [e4]
      clear e4
      go_wp2
      go_ret
      exact ⟨rfl, grown_drewN hg _⟩


end Go.Proofs.Ytindggbecmpikaa

namespace Go.Proofs.Ytindggbecmpikaa.bitsMix
open Go.ChangeShapes Go.WideShapes Go.ChangeAt Go.RowKit
set_option linter.unusedVariables false

theorem own : ownKnob Try.prog.godebug = none := by kernel_rfl

theorem walk (a0 : Int) (a1 : Int) (w0 : (Lit.int .u64 a0).wf = true) (w1 : (Lit.int .u64 a1).wf = true) (w : World) :
    Calls Try.prog 4 #[.int .u64 a0, .int .u64 a1] w fun e w' => e = .returned (.bool true) ∧ Grown w w' :=
  walk_mix a0 a1 (u64_lt w0) (u64_lt w1) w

set_option maxRecDepth 100000 in
theorem lifted (os : Os) (started : os.Started) (H : Type) (enc : TypeId × Value → H) :
    ReturnsInHanded {} Try.checked os 4 .any (Rows.bitsMixSpec.pre6 enc Try.prog Try.f4 Rows.bitsMixRow.domain false) (Rows.bitsMixSpec.post enc Try.prog Try.f4 false true false false) := by
  refine returnsInHanded_of_change (C := Try.checked) own started (by kernel_rfl) Try.func4
    (ChangeSpec.witness6 (enc := enc) (C := Try.checked) false ⟨#[], #[.int .u64 0, .int .u64 0], []⟩ 8 (by kernel_rfl) (by kernel_rfl) (by kernel_rfl) (by kernel_rfl)) ?_
  intro W base args ds gs before hval0 hW hcnd _
  have hval : ∀ (j : Nat) t v, Try.f4.params[j]? = some t → args[j]? = some v → Value.okWide Try.prog W .any base t v := hval0
  have hW' := hW
  obtain ⟨p, q, hA0, hV, rfl, hfz, hnd⟩ := hW
  have hA : DataW.TrodAll enc Try.prog W 0 (fun _ => true) true Try.f4.params.toList args.toList ds p := hA0
  rw [Try.params4] at hA hval
  obtain ⟨v0, vs0, d0, ds0, p0, q0, hargs, rfl, rfl, h0, r0⟩ := trodAll_cons hA
  obtain ⟨v1, vs1, d1, ds1, p1, q1, rfl, rfl, rfl, h1, r1⟩ := trodAll_cons r0
  obtain ⟨rfl, rfl, rfl⟩ := trodAll_nil r1
  obtain rfl : args = #[v0, v1] := by cases args; simp_all
  obtain ⟨rfl, rfl⟩ := trodVars_none hV
  obtain ⟨a0, rfl, rfl, rfl, w0⟩ := open_int Try.underlying22 (hval 0 22 v0 rfl rfl) h0
  obtain ⟨a1, rfl, rfl, rfl, w1⟩ := open_int Try.underlying22 (hval 1 22 v1 rfl rfl) h1
  clear hA0 hval0
  simp only [List.append_nil] at hW'
  refine (walk a0 a1 w0 w1 W).mono fun e W' ⟨he, hg⟩ => ?_
  subst he
  exact ⟨_, rfl, post_of_same (pa := []) (pv := []) hW' (fun _ _ _ => (trodAll_cons_mk (shut_bool Try.underlying4 _) trodAll_mk0)) (fun sp _ => (trodAll_cons_mk (shut_int Try.underlying22 w0) (trodAll_cons_mk (shut_int Try.underlying22 w1) trodAll_mk0))) (fun _ _ => rfl) rfl
    (hg.frame _) hg.2.1 (ok_one (by kernel_rfl) rfl (okWide_bool_mk Try.underlying4 _))⟩

theorem over : Rows.bitsMixRow.holds Try.pinned (OpenSpec.ofChange Rows.bitsMixSpec) :=
  OpenClaim.holds_of_wide 4 Try.f4 rfl rfl rfl rfl rfl rfl rfl ⟨rfl, rfl, rfl, rfl, rfl⟩ rfl rfl rfl rfl rfl (by kernel_rfl) Try.func4 (by kernel_rfl)
    (of_decide_eq_true (by kernel_rfl)) (by unfold Func.isWrapper; first | (rw [if_pos (by decide +kernel)]; kernel_rfl) | (rw [if_neg (by decide +kernel)]; exact ⟨rfl, rfl⟩))
    (fun os started H enc _ => lifted os started H enc)
end Go.Proofs.Ytindggbecmpikaa.bitsMix

namespace Go.Proofs.Ytindggbecmpikaa
theorem bitsMix_holds : Rows.BitsMixSaid := bitsMix.over
#print axioms bitsMix_holds
end Go.Proofs.Ytindggbecmpikaa
