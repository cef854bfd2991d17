/-
  TokenApart (P7.1): of a tape whose entries are unlike, a secret s checks for unlike rights are unlike; an edited rights field is found out. No condition: every input that can be read.
-/
import Derived.Test.YtdpdbiciagplkaaRows
import Derived.Test.YtdpdbiciagplkaaKRead
import Derived.WalkKit
import Derived.WalkSpells
import Derived.WalkLawsBesides
import Derived.Deep.QuietTactic
import Derived.BigQuiet
import Derived.ProofKit
import Derived.OpenShut
import Derived.ShutString
import Derived.ChangeOld
import Derived.Below
import Derived.SizedLaws
namespace Go.Proofs.Ytdpdbiciagplkaa

open Go.RowKit
/- two unlike entries, below the secret: checks of unlike rights are unlike -/
theorem xor_inj (s r o : Nat) (h : s ^^^ r = s ^^^ o) : r = o := by
  have := congrArg (s ^^^ ·) h
  simpa [← Nat.xor_assoc] using this
theorem apart_facts (a b s r o : Nat) (hab : a ≠ b) (has : a ≠ s) (hs : s < 281474976710656) {X Y : Ans} (hX : ofF [a, b] 0 [] s r = X) (hY : ofF [a, b] X.t X.es s o = Y) : X.ok = true ∧ Y.ok = true ∧ (X.x = Y.x ↔ r = o) ∧ X.es.length ≤ 1 ∧ Y.es.length ≤ 2 := by
  have hm : s % 281474976710656 = s := Nat.mod_eq_of_lt hs
  subst hX
  subst hY
  by_cases h1 : r = 255
  · subst h1
    rw [of_owner]
    by_cases h2 : o = 255
    · subst h2
      rw [of_owner]; simp
    · have e : ofF [a, b] 0 [] s o = ⟨a, true, 1, [⟨1, s ^^^ o, a⟩]⟩ := by unfold ofF; rw [if_neg h2, hm]; rfl
      rw [e, hm]
      simp
      exact ⟨fun h => (has h.symm).elim, fun h => (h2 h.symm).elim⟩
  · have e1 : ofF [a, b] 0 [] s r = ⟨a, true, 1, [⟨1, s ^^^ r, a⟩]⟩ := by unfold ofF; rw [if_neg h1, hm]; rfl
    rw [e1]
    by_cases h2 : o = 255
    · subst h2
      rw [of_owner, hm]
      simp
      exact ⟨fun h => (has h).elim, fun h => (h1 h).elim⟩
    · by_cases h3 : r = o
      · subst h3
        have e2 : ofF [a, b] 1 [⟨1, s ^^^ r, a⟩] s r = ⟨a, true, 1, [⟨1, s ^^^ r, a⟩]⟩ := by
          have := of_again [a, b] 0 [] s r
          rw [e1] at this
          exact this
        rw [e2]; simp
      · have h4 : ¬ (s ^^^ r = s ^^^ o) := fun h => h3 (xor_inj _ _ _ h)
        have e2 : ofF [a, b] 1 [⟨1, s ^^^ r, a⟩] s o = ⟨b, true, 2, [⟨1, s ^^^ r, a⟩, ⟨1, s ^^^ o, b⟩]⟩ := by
          have hf : findE [⟨1, s ^^^ r, a⟩] 1 (s ^^^ o) = none := by
            have := findE_snoc [] ⟨1, s ^^^ r, a⟩ 1 (s ^^^ o)
            rw [List.nil_append] at this
            rw [this, findE_nil, if_neg (fun h => h4 h.2)]; rfl
          unfold ofF; rw [if_neg h2, hm]; unfold ansF; rw [hf]; rfl
        rw [e2]
        simp
        exact ⟨fun h => (hab h).elim, fun h => (h3 h).elim⟩
theorem or47 (p : Nat) (hp : p < 281474976710656) : bits .or .u64 (p : Int) 140737488355328 = ((p ||| 140737488355328 : Nat) : Int) ∧ 140737488355328 ≤ p ||| 140737488355328 ∧ p ||| 140737488355328 < 281474976710656 := by
  refine ⟨?_, Nat.right_le_or, ?_⟩
  · have := u64_or (p : Int) 140737488355328 (by omega) (by omega) (by omega) (by omega)
    simpa using this
  · have h1 : p < 2 ^ 48 := hp
    exact Nat.or_lt_two_pow h1 (by decide)
theorem row_ab (w : World) (a b : Nat) : RowN (w.alloc (.cells #[.int .u64 (a : Int), .int .u64 (b : Int)] 23)) .u64 23 w.heap.size [a, b] := heap_alloc_new _ _
theorem u64s_ab (w : World) (a b : Nat) (ha : a < 281474976710656) (hb : b < 281474976710656) : U64s (w.alloc (.cells #[.int .u64 (a : Int), .int .u64 (b : Int)] 23)) (some ⟨w.heap.size, 0, none⟩) 2 2 [a, b] :=
  (row_ab w a b).u64s (show 2 ≤ maxLen from by decide) (fun j => by
    rcases j with _ | _ | j <;> simp <;> omega)
theorem cutN_ab (a b : Nat) (ha : a < 281474976710656) (hb : b < 281474976710656) : cutN [a, b] = [a, b] := by
  simp [cutN, Nat.mod_eq_of_lt ha, Nat.mod_eq_of_lt hb]
set_option maxHeartbeats 1600000 in
theorem walk_apart (u f s r o : Nat) (w : World) (hu : u ≤ 18446744073709551615) (hf : f ≤ 255) (hs : s ≤ 255) (hr : r ≤ 255) (ho : o ≤ 255) :
    Calls Try.prog 4 #[.int .u64 (u : Int), .int .u8 (f : Int), .int .u8 (s : Int), .int .u8 (r : Int), .int .u8 (o : Int)] w fun e w' => e = .returned (.bool true) ∧ Below w.heap.size w w' := by
  obtain ⟨p, hp⟩ : ∃ p, u % 281474976710656 = p := ⟨_, rfl⟩
  have hpl : p < 281474976710656 := by omega
  have hand : bits .and .u64 (u : Int) 281474976710655 = (p : Int) := by rw [and_word _ (by omega) (by omega), cutF_nat, hp]
  obtain ⟨hor, ho1, ho2⟩ := or47 p hpl
  obtain ⟨S, hS⟩ : ∃ S, p ||| 140737488355328 = S := ⟨_, rfl⟩
  rw [hS] at hor ho1 ho2
  clear hS hp hpl
  obtain ⟨a, ha⟩ : ∃ a, f * 1048576 + 1 = a := ⟨_, rfl⟩
  obtain ⟨b, hb⟩ : ∃ b, s * 1048576 + 2 = b := ⟨_, rfl⟩
  have ea : (f : Int) * 1048576 + 1 = (a : Int) := by omega
  have eb : (s : Int) * 1048576 + 2 = (b : Int) := by omega
  have HA := hide (show a < 281474976710656 by omega)
  have HBb := hide (show b < 281474976710656 by omega)
  obtain ⟨X, hX⟩ : ∃ X, ofF [a, b] 0 [] S r = X := ⟨_, rfl⟩
  obtain ⟨Y, hY⟩ : ∃ Y, ofF [a, b] X.t X.es S o = Y := ⟨_, rfl⟩
  have hag : ofF [a, b] Y.t Y.es S o = Y := by rw [← hY]; exact of_again _ _ _ _ _
  have HF := hide (apart_facts a b S r o (by omega) (by omega) ho2 hX hY)
  have HX := hide hX
  have HY := hide hY
  have HAg := hide hag
  have HS := hide (show S ≤ 18446744073709551615 by omega)
  have HR := hide hr
  have HO := hide ho
  clear ha hb hX hY hag hr ho ho1 ho2 hu
  obtain ⟨x, ok, t', es'⟩ := X
  obtain ⟨y, ok2, t2, es2⟩ := Y
  obtain ⟨h1, h2, h3, h4, h5⟩ := HF.out
  simp only at h1 h2 h3 h4 h5
  subst h1; subst h2
  have H3 := hide h3
  have H4 := hide h4
  have H5 := hide h5
  clear h3 h4 h5 HF
  go_enter Try.func4, Try.ntmps4
  go_wp2_with fail
  refine (awake_any _).mono ?_; rintro e w1 ⟨rfl, bel1⟩
  have HB1 := hide bel1
  clear bel1
  go_wp2_with fail
  refine (of_any _ _ _ [a, b] _ (u64s_ab w1 a b HA.out HBb.out) (by omega)).mono ?_; rintro e w2 ⟨c, h, k, rfl, T, _, hc, hh, bel⟩
  rw [cutN_ab a b HA.out HBb.out] at T
  have b1 : Below w.heap.size w (w1.alloc (.cells #[.int .u64 (a : Int), .int .u64 (b : Int)] 23)) := HB1.out.alloc HB1.out.size _
  have HT : Hid (TapeAt w2 c h [a, b] 0 k) := T
  have HN := hide (And.intro b1 (And.intro hc (And.intro hh bel)))
  clear T bel b1 hc hh HB1
  go_wp2_with fail
  refine (oof_any _ ⟨_, rfl⟩ _).mono ?_; rintro e w3 ⟨g, m, rfl, O3, bel3⟩
  have HK := hide (Tk.made HN.out.1 HT.out HN.out.2.1 HN.out.2.2.1 HN.out.2.2.2 O3 bel3)
  clear O3 bel3 HN HT
  go_wp2_with fail
  refine (tof_any w _ g m c h k _ [a, b] 0 [] S r _ HK.out HS.out HR.out (by decide)).mono ?_
  rw [HX.out]
  rintro e w4 ⟨rfl, L⟩
  obtain ⟨v4, T4, _, _⟩ := L
  have HK4 := hide T4
  clear T4 HX HK
  simp only [erV]
  go_wp2_with fail
  refine (tof_any w _ g m c h k _ [a, b] t' es' S o _ HK4.out HS.out HO.out (by have := H4.out; omega)).mono ?_
  rw [show ofF [a, b] t' es' S o = _ from HY.out]
  rintro e w5 ⟨rfl, L⟩
  obtain ⟨v5, T5, _, _⟩ := L
  have HK5 := hide T5
  clear T5 HY HK4
  simp only [erV]
  go_wp2_with fail
  refine (tgood_any w _ g m c h k _ [a, b] t2 es2 S 0 0 o x _ HK5.out HS.out HO.out (by have := H5.out; omega)).mono ?_
  rw [show ofF [a, b] t2 es2 S o = _ from HAg.out]
  rintro e w6 ⟨rfl, L⟩
  obtain ⟨v6, T6, _, _⟩ := L
  have HK6 := hide T6
  clear T6 HK5 HAg
  simp only [erV]
  have hg : goodF ⟨y, true, t2, es2⟩ x = decide (x = y) := by simp [goodF]
  rw [hg]
  by_cases hxy : x = y
  · have hro := H3.out.1 hxy
    subst hxy
    subst hro
    rw [decide_eq_true rfl]
    go_wp2
    go_ret
    exact ⟨rfl, HK6.out.new.bel⟩
  · have hro : ((r : Int) == (o : Int)) = false := by
      have : ¬ ((r : Int) = (o : Int)) := fun e => hxy (H3.out.2 (by omega))
      simp [this]
    have hxi : ((x : Int) == (y : Int)) = false := by
      have : ¬ ((x : Int) = (y : Int)) := by omega
      simp [this]
    rw [decide_eq_false hxy]
    go_wp2
    go_ret
    exact ⟨rfl, HK6.out.new.bel⟩

end Go.Proofs.Ytdpdbiciagplkaa

namespace Go.Proofs.Ytdpdbiciagplkaa.tokenApart
open Go.ChangeShapes Go.WideShapes Go.ChangeAt Go.RowKit
set_option linter.unusedVariables false

theorem own : ownKnob Try.prog.godebug = none := by kernel_rfl
theorem laidOut : laidOutB Try.prog = true := by kernel_rfl

theorem walk (a0 : Int) (a1 : Int) (a2 : Int) (a3 : Int) (a4 : Int) (w : World) (w0 : (Lit.int .u64 a0).wf = true) (w1 : (Lit.int .u8 a1).wf = true) (w2 : (Lit.int .u8 a2).wf = true) (w3 : (Lit.int .u8 a3).wf = true) (w4 : (Lit.int .u8 a4).wf = true) :
    Calls Try.prog 4 #[.int .u64 a0, .int .u8 a1, .int .u8 a2, .int .u8 a3, .int .u8 a4] w fun e w' => e = .returned (.bool true) ∧ Below w.heap.size w w' :=
  by obtain ⟨q0, rfl, h0⟩ := u64_nat w0; obtain ⟨q1, rfl, h1⟩ := u8_nat w1; obtain ⟨q2, rfl, h2⟩ := u8_nat w2; obtain ⟨q3, rfl, h3⟩ := u8_nat w3; obtain ⟨q4, rfl, h4⟩ := u8_nat w4; exact walk_apart q0 q1 q2 q3 q4 w h0 h1 h2 h3 h4

set_option maxRecDepth 100000 in
theorem lifted (os : Os) (started : os.Started) (H : Type) (enc : TypeId × Value → H) :
    ReturnsInHanded {} Try.checked os 4 .any (Rows.tokenApartSpec.pre6 enc Try.prog Try.f4 Rows.tokenApartRow.domain false) (Rows.tokenApartSpec.post enc Try.prog Try.f4 false true false false) := by
  refine returnsInHanded_of_change (C := Try.checked) own started (by kernel_rfl) Try.func4
    (ChangeSpec.witness6 (enc := enc) (C := Try.checked) false ⟨#[], #[.int .u64 0, .int .u8 0, .int .u8 0, .int .u8 0, .int .u8 0], []⟩ 8 (by kernel_rfl) (by kernel_rfl) (by kernel_rfl) (by kernel_rfl)) ?_
  intro W base args ds gs before hval0 hW hcnd _
  have hval : ∀ (j : Nat) t v, Try.f4.params[j]? = some t → args[j]? = some v → Value.okWide Try.prog W .any base t v := hval0
  have hW' := hW
  obtain ⟨p, q, hA0, hV, rfl, hfz, hnd⟩ := hW
  have hA : DataW.TrodAll enc Try.prog W 0 (fun _ => true) true Try.f4.params.toList args.toList ds p := hA0
  rw [Try.params4] at hA hval
  obtain ⟨v0, vs0, d0, ds0, p0, q0, hargs, rfl, rfl, h0, r0⟩ := trodAll_cons hA
  obtain ⟨v1, vs1, d1, ds1, p1, q1, rfl, rfl, rfl, h1, r1⟩ := trodAll_cons r0
  obtain ⟨v2, vs2, d2, ds2, p2, q2, rfl, rfl, rfl, h2, r2⟩ := trodAll_cons r1
  obtain ⟨v3, vs3, d3, ds3, p3, q3, rfl, rfl, rfl, h3, r3⟩ := trodAll_cons r2
  obtain ⟨v4, vs4, d4, ds4, p4, q4, rfl, rfl, rfl, h4, r4⟩ := trodAll_cons r3
  obtain ⟨rfl, rfl, rfl⟩ := trodAll_nil r4
  obtain rfl : args = #[v0, v1, v2, v3, v4] := by cases args; simp_all
  obtain ⟨rfl, rfl⟩ := trodVars_none hV
  obtain ⟨a0, rfl, rfl, rfl, w0⟩ := open_int Try.underlying23 (hval 0 23 v0 rfl rfl) h0
  obtain ⟨a1, rfl, rfl, rfl, w1⟩ := open_int Try.underlying5 (hval 1 5 v1 rfl rfl) h1
  obtain ⟨a2, rfl, rfl, rfl, w2⟩ := open_int Try.underlying5 (hval 2 5 v2 rfl rfl) h2
  obtain ⟨a3, rfl, rfl, rfl, w3⟩ := open_int Try.underlying5 (hval 3 5 v3 rfl rfl) h3
  obtain ⟨a4, rfl, rfl, rfl, w4⟩ := open_int Try.underlying5 (hval 4 5 v4 rfl rfl) h4
  clear hA0 hval0
  refine (walk a0 a1 a2 a3 a4 W w0 w1 w2 w3 w4).mono fun e W' ⟨he, bel⟩ => ?_
  subst he
  exact ⟨_, rfl, _, _, _, [], _, [], hW', trodAll_mk1 (shut_bool Try.underlying4 _), (trodAll_cons_mk (shut_int Try.underlying23 w0) (trodAll_cons_mk (shut_int Try.underlying5 w1) (trodAll_cons_mk (shut_int Try.underlying5 w2) (trodAll_cons_mk (shut_int Try.underlying5 w3) (trodAll_cons_mk (shut_int Try.underlying5 w4) trodAll_mk0))))), rfl, bel.frame _, fun h => by cases h⟩

theorem over : Rows.tokenApartRow.holds Try.pinned (OpenSpec.ofChange Rows.tokenApartSpec) :=
  OpenClaim.holds_of_wide 4 Try.f4 rfl rfl rfl rfl rfl rfl rfl ⟨rfl, rfl, rfl, rfl, rfl⟩ rfl rfl rfl rfl rfl (by kernel_rfl) Try.func4 (by kernel_rfl)
    (of_decide_eq_true (by kernel_rfl)) (by unfold Func.isWrapper; first | (rw [if_pos (by decide +kernel)]; kernel_rfl) | (rw [if_neg (by decide +kernel)]; exact ⟨rfl, rfl⟩))
    (fun os started H enc _ => lifted os started H enc)
end Go.Proofs.Ytdpdbiciagplkaa.tokenApart

namespace Go.Proofs.Ytdpdbiciagplkaa
theorem tokenApart_holds : Rows.TokenApartSaid := tokenApart.over
#print axioms tokenApart_holds
end Go.Proofs.Ytdpdbiciagplkaa
