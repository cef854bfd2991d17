/-
  BitsOne (P1.1, P1.2): what is cut off does not matter to Mix and Hex; what is mixed is a word. No condition: every input that can be read.
-/
import Derived.Test.YtindggbecmpikaaRows
import Derived.Test.YtindggbecmpikaaHex
import Derived.Test.YtindggbecmpikaaRows
import Derived.WalkKit
import Derived.ProofKit
import Derived.OpenShut
namespace Go.Proofs.Ytindggbecmpikaa

open Go.RowKit
theorem u64_lt {n : Int} (h : (Lit.int .u64 n).wf = true) : 0 ≤ n ∧ n < 18446744073709551616 := by have := bounds_u64 h; omega
set_option maxHeartbeats 400000 in
theorem walk_one (a b c : Int) (w0 : 0 ≤ a ∧ a < 18446744073709551616) (w1 : 0 ≤ b ∧ b < 18446744073709551616) (hc : 0 ≤ c ∧ c ≤ 65535) (w : World) :
    Calls Try.prog 7 #[.int .u64 a, .int .u64 b, .int .u16 c] w fun e w' => e = .returned (.bool true) ∧ Grown w w' := by
  obtain ⟨h0, h1⟩ := w0
  obtain ⟨hb0, hb1⟩ := w1
  obtain ⟨c0, c1⟩ := hc
  have fl := wrap_lo (a + c * 281474976710656)
  have fh := wrap_hi (a + c * 281474976710656)
  have f1 : cutF (IntKind.u64.wrap (a + c * 281474976710656)) = cutF a := by rw [cut_wrap]; unfold cutF; omega
  have f2 : mixF (IntKind.u64.wrap (a + c * 281474976710656)) b = mixF a b := mixF_cut _ _ _ _ f1 rfl
  have f3 : mixF b (IntKind.u64.wrap (a + c * 281474976710656)) = mixF b a := mixF_cut _ _ _ _ rfl f1
  have ml := mixF_lo a b
  have mh : mixF a b ≤ 281474976710655 := by have := mixF_hi a b; omega
  go_enter Try.func7, Try.ntmps7
  go_wp2_with fail
  refine (awake_any _).mono ?_; rintro e wa ⟨rfl, hg⟩
  go_wp2_with fail
  refine (mix_any _ _ _ fl fh hb0 hb1).mono ?_; rintro e w3 ⟨rfl, j1, rfl⟩
  go_wp2_with fail
  refine (mix_any _ _ _ h0 h1 hb0 hb1).mono ?_; rintro e w3 ⟨rfl, j2, rfl⟩
  go_wp2_with fail
  refine (mix_any _ _ _ hb0 hb1 fl fh).mono ?_; rintro e w3 ⟨rfl, j3, rfl⟩
  go_wp2_with fail
  refine (mix_any _ _ _ hb0 hb1 h0 h1).mono ?_; rintro e w3 ⟨rfl, j4, rfl⟩
  go_wp2_with fail
  refine (mix_any _ _ _ h0 h1 hb0 hb1).mono ?_; rintro e w3 ⟨rfl, j5, rfl⟩
  go_wp2_with fail
  refine (hex_any _ _ fl fh).mono ?_; rintro e w4 ⟨rfl, hg4⟩
  go_wp2_with fail
  refine (hex_any _ _ h0 h1).mono ?_; rintro e w5 ⟨rfl, hg5⟩
  go_wp2
  go_ret
  exact ⟨rfl, grown_trans (grown_trans (grown_drewN hg _) hg4) hg5⟩

end Go.Proofs.Ytindggbecmpikaa

namespace Go.Proofs.Ytindggbecmpikaa.bitsOne
open Go.ChangeShapes Go.WideShapes Go.ChangeAt Go.RowKit
set_option linter.unusedVariables false

theorem own : ownKnob Try.prog.godebug = none := by kernel_rfl

theorem walk (a0 : Int) (a1 : Int) (a2 : Int) (w0 : (Lit.int .u64 a0).wf = true) (w1 : (Lit.int .u64 a1).wf = true) (w2 : (Lit.int .u16 a2).wf = true) (w : World) :
    Calls Try.prog 7 #[.int .u64 a0, .int .u64 a1, .int .u16 a2] w fun e w' => e = .returned (.bool true) ∧ Grown w w' :=
  walk_one a0 a1 a2 (u64_lt w0) (u64_lt w1) (bounds_u16 w2) w

set_option maxRecDepth 100000 in
theorem lifted (os : Os) (started : os.Started) (H : Type) (enc : TypeId × Value → H) :
    ReturnsInHanded {} Try.checked os 7 .any (Rows.bitsOneSpec.pre6 enc Try.prog Try.f7 Rows.bitsOneRow.domain false) (Rows.bitsOneSpec.post enc Try.prog Try.f7 false true false false) := by
  refine returnsInHanded_of_change (C := Try.checked) own started (by kernel_rfl) Try.func7
    (ChangeSpec.witness6 (enc := enc) (C := Try.checked) false ⟨#[], #[.int .u64 0, .int .u64 0, .int .u16 0], []⟩ 8 (by kernel_rfl) (by kernel_rfl) (by kernel_rfl) (by kernel_rfl)) ?_
  intro W base args ds gs before hval0 hW hcnd _
  have hval : ∀ (j : Nat) t v, Try.f7.params[j]? = some t → args[j]? = some v → Value.okWide Try.prog W .any base t v := hval0
  have hW' := hW
  obtain ⟨p, q, hA0, hV, rfl, hfz, hnd⟩ := hW
  have hA : DataW.TrodAll enc Try.prog W 0 (fun _ => true) true Try.f7.params.toList args.toList ds p := hA0
  rw [Try.params7] at hA hval
  obtain ⟨v0, vs0, d0, ds0, p0, q0, hargs, rfl, rfl, h0, r0⟩ := trodAll_cons hA
  obtain ⟨v1, vs1, d1, ds1, p1, q1, rfl, rfl, rfl, h1, r1⟩ := trodAll_cons r0
  obtain ⟨v2, vs2, d2, ds2, p2, q2, rfl, rfl, rfl, h2, r2⟩ := trodAll_cons r1
  obtain ⟨rfl, rfl, rfl⟩ := trodAll_nil r2
  obtain rfl : args = #[v0, v1, v2] := by cases args; simp_all
  obtain ⟨rfl, rfl⟩ := trodVars_none hV
  obtain ⟨a0, rfl, rfl, rfl, w0⟩ := open_int Try.underlying22 (hval 0 22 v0 rfl rfl) h0
  obtain ⟨a1, rfl, rfl, rfl, w1⟩ := open_int Try.underlying22 (hval 1 22 v1 rfl rfl) h1
  obtain ⟨a2, rfl, rfl, rfl, w2⟩ := open_int Try.underlying34 (hval 2 34 v2 rfl rfl) h2
  clear hA0 hval0
  simp only [List.append_nil] at hW'
  refine (walk a0 a1 a2 w0 w1 w2 W).mono fun e W' ⟨he, hg⟩ => ?_
  subst he
  exact ⟨_, rfl, post_of_same (pa := []) (pv := []) hW' (fun _ _ _ => (trodAll_cons_mk (shut_bool Try.underlying4 _) trodAll_mk0)) (fun sp _ => (trodAll_cons_mk (shut_int Try.underlying22 w0) (trodAll_cons_mk (shut_int Try.underlying22 w1) (trodAll_cons_mk (shut_int Try.underlying34 w2) trodAll_mk0)))) (fun _ _ => rfl) rfl
    (hg.frame _) hg.2.1 (ok_one (by kernel_rfl) rfl (okWide_bool_mk Try.underlying4 _))⟩

theorem over : Rows.bitsOneRow.holds Try.pinned (OpenSpec.ofChange Rows.bitsOneSpec) :=
  OpenClaim.holds_of_wide 7 Try.f7 rfl rfl rfl rfl rfl rfl rfl ⟨rfl, rfl, rfl, rfl, rfl⟩ rfl rfl rfl rfl rfl (by kernel_rfl) Try.func7 (by kernel_rfl)
    (of_decide_eq_true (by kernel_rfl)) (by unfold Func.isWrapper; first | (rw [if_pos (by decide +kernel)]; kernel_rfl) | (rw [if_neg (by decide +kernel)]; exact ⟨rfl, rfl⟩))
    (fun os started H enc _ => lifted os started H enc)
end Go.Proofs.Ytindggbecmpikaa.bitsOne

namespace Go.Proofs.Ytindggbecmpikaa
theorem bitsOne_holds : Rows.BitsOneSaid := bitsOne.over
#print axioms bitsOne_holds
end Go.Proofs.Ytindggbecmpikaa
