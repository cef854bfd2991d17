/-
  BitsRound (P1.1): turned there and back a word is what it was; sums, products and turns of what is cut are those of what is not. No condition: every input that can be read.
-/
import Derived.Test.YtindggbecmpikaaRows
import Derived.Test.YtindggbecmpikaaHex
import Derived.Test.YtindggbecmpikaaRows
import Derived.WalkKit
import Derived.ProofKit
import Derived.OpenShut
namespace Go.Proofs.Ytindggbecmpikaa

open Go.RowKit
theorem u64_lt {n : Int} (h : (Lit.int .u64 n).wf = true) : 0 ≤ n ∧ n < 18446744073709551616 := by have := bounds_u64 h; omega
set_option maxHeartbeats 400000 in
theorem walk_round (a b n : Int) (w0 : 0 ≤ a ∧ a < 18446744073709551616) (w1 : 0 ≤ b ∧ b < 18446744073709551616) (hn : -2147483648 ≤ n ∧ n ≤ 2147483647) (w : World) :
    Calls Try.prog 6 #[.int .u64 a, .int .u64 b, .int .i32 n] w fun e w' => e = .returned (.bool true) ∧ Grown w w' := by
  obtain ⟨h0, h1⟩ := w0
  obtain ⟨hb0, hb1⟩ := w1
  obtain ⟨n0, n1⟩ := hn
  have tl := turnF_lo a n
  have th := turnF_hi a n
  have ul := turnF_lo b n
  have uh := turnF_hi b n
  have cl := cutF_lo a
  have ch := cutF_hi a
  have dl := cutF_lo b
  have dh := cutF_hi b
  have xl := xorF_lo (cutF a) (cutF b)
  have xh := xorF_hi (cutF a) (cutF b) ch dh
  have c1 : turnF (turnF a n) (-n) = cutF a := by rw [turnF_twice]; exact turnF_zero _ _ (by omega)
  have c2 : turnF a (n + 48) = turnF a n := turnF_mod _ _ _ (by omega)
  have c3 := addF_cut a b
  have c4 := mulF_cut a b
  have c5 := turnF_xor a b n
  have c6 := xor_u64 (cutF a) (cutF b) cl (by omega) dl (by omega)
  have c7 := xor_u64 (turnF a n) (turnF b n) tl (by omega) ul (by omega)
  go_enter Try.func6, Try.ntmps6
  go_wp2_with fail
  refine (awake_any _).mono ?_; rintro e wa ⟨rfl, hg⟩
  go_wp2_with fail
  refine (turn_any _ _ _ h0 h1).mono ?_; rintro e w3 ⟨rfl, j, rfl⟩
  go_wp2_with fail
  refine (turn_any _ _ _ tl (by omega)).mono ?_; rintro e w3 ⟨rfl, j2, rfl⟩
  go_wp2_with fail
  refine (cut_any _ _ h0 h1).mono ?_; rintro e w2 ⟨rfl, rfl⟩
  go_wp2_with fail
  refine (turn_any _ _ _ h0 h1).mono ?_; rintro e w3 ⟨rfl, j3, rfl⟩
  go_wp2_with fail
  refine (turn_any _ _ _ h0 h1).mono ?_; rintro e w3 ⟨rfl, j4, rfl⟩
  go_wp2_with fail
  refine (cut_any _ _ h0 h1).mono ?_; rintro e w2 ⟨rfl, rfl⟩
  go_wp2_with fail
  refine (add_any _ _ _).mono ?_; rintro e w2 ⟨rfl, rfl⟩
  go_wp2_with fail
  refine (add_any _ _ _).mono ?_; rintro e w2 ⟨rfl, rfl⟩
  go_wp2_with fail
  refine (cut_any _ _ hb0 hb1).mono ?_; rintro e w2 ⟨rfl, rfl⟩
  go_wp2_with fail
  refine (mul_any _ _ _).mono ?_; rintro e w2 ⟨rfl, rfl⟩
  go_wp2_with fail
  refine (mul_any _ _ _).mono ?_; rintro e w2 ⟨rfl, rfl⟩
  go_wp2_with fail
  refine (cut_any _ _ h0 h1).mono ?_; rintro e w2 ⟨rfl, rfl⟩
  go_wp2_with fail
  refine (cut_any _ _ hb0 hb1).mono ?_; rintro e w2 ⟨rfl, rfl⟩
  go_wp2_with fail
  refine (turn_any _ _ _ xl (by omega)).mono ?_; rintro e w3 ⟨rfl, j5, rfl⟩
  go_wp2_with fail
  refine (turn_any _ _ _ h0 h1).mono ?_; rintro e w3 ⟨rfl, j6, rfl⟩
  go_wp2_with fail
  refine (turn_any _ _ _ hb0 hb1).mono ?_; rintro e w3 ⟨rfl, j7, rfl⟩
  go_wp2
  go_ret
  exact ⟨rfl, grown_drewN hg _⟩


end Go.Proofs.Ytindggbecmpikaa

namespace Go.Proofs.Ytindggbecmpikaa.bitsRound
open Go.ChangeShapes Go.WideShapes Go.ChangeAt Go.RowKit
set_option linter.unusedVariables false

theorem own : ownKnob Try.prog.godebug = none := by kernel_rfl

theorem walk (a0 : Int) (a1 : Int) (a2 : Int) (w0 : (Lit.int .u64 a0).wf = true) (w1 : (Lit.int .u64 a1).wf = true) (w2 : (Lit.int .i32 a2).wf = true) (w : World) :
    Calls Try.prog 6 #[.int .u64 a0, .int .u64 a1, .int .i32 a2] w fun e w' => e = .returned (.bool true) ∧ Grown w w' :=
  walk_round a0 a1 a2 (u64_lt w0) (u64_lt w1) (bounds_i32 w2) w

set_option maxRecDepth 100000 in
theorem lifted (os : Os) (started : os.Started) (H : Type) (enc : TypeId × Value → H) :
    ReturnsInHanded {} Try.checked os 6 .any (Rows.bitsRoundSpec.pre6 enc Try.prog Try.f6 Rows.bitsRoundRow.domain false) (Rows.bitsRoundSpec.post enc Try.prog Try.f6 false true false false) := by
  refine returnsInHanded_of_change (C := Try.checked) own started (by kernel_rfl) Try.func6
    (ChangeSpec.witness6 (enc := enc) (C := Try.checked) false ⟨#[], #[.int .u64 0, .int .u64 0, .int .i32 0], []⟩ 8 (by kernel_rfl) (by kernel_rfl) (by kernel_rfl) (by kernel_rfl)) ?_
  intro W base args ds gs before hval0 hW hcnd _
  have hval : ∀ (j : Nat) t v, Try.f6.params[j]? = some t → args[j]? = some v → Value.okWide Try.prog W .any base t v := hval0
  have hW' := hW
  obtain ⟨p, q, hA0, hV, rfl, hfz, hnd⟩ := hW
  have hA : DataW.TrodAll enc Try.prog W 0 (fun _ => true) true Try.f6.params.toList args.toList ds p := hA0
  rw [Try.params6] at hA hval
  obtain ⟨v0, vs0, d0, ds0, p0, q0, hargs, rfl, rfl, h0, r0⟩ := trodAll_cons hA
  obtain ⟨v1, vs1, d1, ds1, p1, q1, rfl, rfl, rfl, h1, r1⟩ := trodAll_cons r0
  obtain ⟨v2, vs2, d2, ds2, p2, q2, rfl, rfl, rfl, h2, r2⟩ := trodAll_cons r1
  obtain ⟨rfl, rfl, rfl⟩ := trodAll_nil r2
  obtain rfl : args = #[v0, v1, v2] := by cases args; simp_all
  obtain ⟨rfl, rfl⟩ := trodVars_none hV
  obtain ⟨a0, rfl, rfl, rfl, w0⟩ := open_int Try.underlying22 (hval 0 22 v0 rfl rfl) h0
  obtain ⟨a1, rfl, rfl, rfl, w1⟩ := open_int Try.underlying22 (hval 1 22 v1 rfl rfl) h1
  obtain ⟨a2, rfl, rfl, rfl, w2⟩ := open_int Try.underlying21 (hval 2 21 v2 rfl rfl) h2
  clear hA0 hval0
  simp only [List.append_nil] at hW'
  refine (walk a0 a1 a2 w0 w1 w2 W).mono fun e W' ⟨he, hg⟩ => ?_
  subst he
  exact ⟨_, rfl, post_of_same (pa := []) (pv := []) hW' (fun _ _ _ => (trodAll_cons_mk (shut_bool Try.underlying4 _) trodAll_mk0)) (fun sp _ => (trodAll_cons_mk (shut_int Try.underlying22 w0) (trodAll_cons_mk (shut_int Try.underlying22 w1) (trodAll_cons_mk (shut_int Try.underlying21 w2) trodAll_mk0)))) (fun _ _ => rfl) rfl
    (hg.frame _) hg.2.1 (ok_one (by kernel_rfl) rfl (okWide_bool_mk Try.underlying4 _))⟩

theorem over : Rows.bitsRoundRow.holds Try.pinned (OpenSpec.ofChange Rows.bitsRoundSpec) :=
  OpenClaim.holds_of_wide 6 Try.f6 rfl rfl rfl rfl rfl rfl rfl ⟨rfl, rfl, rfl, rfl, rfl⟩ rfl rfl rfl rfl rfl (by kernel_rfl) Try.func6 (by kernel_rfl)
    (of_decide_eq_true (by kernel_rfl)) (by unfold Func.isWrapper; first | (rw [if_pos (by decide +kernel)]; kernel_rfl) | (rw [if_neg (by decide +kernel)]; exact ⟨rfl, rfl⟩))
    (fun os started H enc _ => lifted os started H enc)
end Go.Proofs.Ytindggbecmpikaa.bitsRound

namespace Go.Proofs.Ytindggbecmpikaa
theorem bitsRound_holds : Rows.BitsRoundSaid := bitsRound.over
#print axioms bitsRound_holds
end Go.Proofs.Ytindggbecmpikaa
