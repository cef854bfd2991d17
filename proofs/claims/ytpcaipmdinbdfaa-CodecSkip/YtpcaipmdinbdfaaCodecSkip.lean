/-
  CodecSkip (P2.3): the place behind fields is the sum of their sizes, if all are there. No condition: every input that can be read.
-/
import Derived.Test.YtpcaipmdinbdfaaRows
import Derived.Test.YtpcaipmdinbdfaaRead
import Derived.WalkKit
import Derived.WalkSpells
import Derived.WalkLawsBesides
import Derived.Deep.QuietTactic
import Derived.BigQuiet
import Derived.ProofKit
import Derived.OpenShut
import Derived.ShutString
import Derived.ChangeOld
import Derived.Below
import Derived.SizedLaws
namespace Go.Proofs.Ytpcaipmdinbdfaa

open Go.RowKit
def SkRel (r : Option Nat) (n sn : Nat) (zs : List Int) (x g i : Value) : Prop :=
  (∃ (k : Nat) (y : Int), k ≤ sn ∧ i = .int .i64 k ∧ x = .int .i64 y ∧ g = .bool false ∧ Hid (r = none)) ∨
  ∃ k p : Nat, k ≤ sn ∧ p ≤ n ∧ i = .int .i64 k ∧ x = .int .i64 p ∧ g = .bool true ∧ Hid (r = skipF n p (zs.drop k))
theorem skipV_eq (r : Option Nat) : skipV r = .tuple #[.int .i64 (r.getD 0 : Nat), .bool r.isSome] := by cases r <;> rfl
set_option maxHeartbeats 1600000 in
theorem walk_skip_in (ao : Option Addr) (n cap q : Nat) (so : Option Addr) (sn scap : Nat) (zs : List Int) (w : World) (hn : n ≤ 9223372036854775807) (hs : Ints w so sn scap zs) (hq : q ≤ n) :
    Calls Try.prog 6 #[.slice ao n cap, .int .i64 q, .slice so sn scap] w fun e w' => e = .returned (.bool true) ∧ Below w.heap.size w w' := by
  have HS : Hid (Ints w so sn scap zs) := hs
  have hsc : scap ≤ 9223372036854775807 := HS.out.2.2.1
  have hsn : sn ≤ scap := HS.out.2.1
  obtain ⟨r, hr⟩ : ∃ r, r = skipF n q zs := ⟨_, rfl⟩
  have hsk : skipA n q zs = r := by unfold skipA; rw [if_pos (by omega), hr]; rfl
  have HR : Hid (skipV (skipA n q zs) = .tuple #[.int .i64 (r.getD 0 : Nat), .bool r.isSome]) := by show skipV (skipA n q zs) = _; rw [hsk, skipV_eq]
  obtain ⟨t, ht⟩ : ∃ t, t = r.getD 0 := ⟨_, rfl⟩
  obtain ⟨o, ho⟩ : ∃ o, o = r.isSome := ⟨_, rfl⟩
  rw [← ht, ← ho] at HR
  have HT : Hid (t = r.getD 0) := ht
  have HO : Hid (o = r.isSome) := ho
  have HQ : Hid (r = skipF n q zs) := hr
  clear hs hr hsk ht ho
  go_enter Try.func6, Try.ntmps6
  go_wp2_with fail
  refine (awake_any _).mono ?_; rintro e w1 ⟨rfl, bel1⟩
  have HS1 : Hid (Ints w1 so sn scap zs) := HS.out.carry bel1
  go_wp2_with fail
  refine (skip_any ao n cap q so sn scap zs _ hn HS1.out).mono ?_; rintro e w2 ⟨rfl, rfl⟩
  rw [HR.out]
  go_wp2_with fail
  go_loop [9, 10, 11] (fun x g i => SkRel r n sn zs x g i) (fun _ _ i => sn - (intOf i).toNat)
  case atStart => exact .inr ⟨0, q, Nat.zero_le _, by omega, rfl, rfl, rfl, HQ⟩
  case round =>
    rcases hrel with ⟨k, y, hk, rfl, rfl, rfl, HN⟩ | ⟨k, p, hk, hp, rfl, rfl, rfl, HF⟩
    · have e0 := HN.out
      have e1 := HT.out
      have e2 := HO.out
      subst e0
      obtain rfl : t = 0 := e1
      obtain rfl : o = false := e2
      by_cases hkn : k < sn
      all_goals go_wp2
      all_goals go_ret
      all_goals exact ⟨rfl, bel1⟩
    · by_cases hkn : k < sn
      · have hkl : k < zs.length := by have := HS.out.1; omega
        have hd := skipF_drop n p k zs hkl
        cases so with
        | none => have := HS.out.2.2.2.1 rfl; omega
        | some sd =>
          have hce := HS1.out.2.2.2.2 sd rfl k hkl
          generalize hz : zs.getD k 0 = z at hce hd
          clear hz
          by_cases hz0 : 0 ≤ z
          · obtain ⟨y, rfl⟩ := Int.eq_ofNat_of_zero_le hz0
            rw [Int.toNat_natCast] at hd
            have HD : Hid _ := hd
            clear hd
            by_cases hz1 : (y : Int) ≤ (n : Int) - p
            · go_wp2
              go_round
              case rel => exact .inr ⟨k + 1, p + y, by omega, by omega, by go_num, by go_num, rfl, HF.out.trans (HD.out.trans (if_pos ⟨hz0, hz1⟩))⟩
              case measure => simp [intOf]; omega
            · go_wp2
              go_round
              case rel => exact .inl ⟨k + 1, p, by omega, by go_num, rfl, rfl, HF.out.trans (HD.out.trans (if_neg (by omega)))⟩
              case measure => simp [intOf]; omega
          · have HD : Hid _ := hd
            clear hd
            go_wp2
            go_round
            case rel => exact .inl ⟨k + 1, p, by omega, by go_num, rfl, rfl, HF.out.trans (HD.out.trans (if_neg (by omega)))⟩
            case measure => simp [intOf]; omega
      · have e0 : r = some p := by rw [HF.out, List.drop_of_length_le (by have := HS.out.1; omega)]; rfl
        have e1 := HT.out
        have e2 := HO.out
        rw [e0] at e1 e2
        obtain rfl : t = p := e1
        obtain rfl : o = true := e2
        clear e0
        go_wp2
        go_ret
        exact ⟨rfl, bel1⟩
set_option maxHeartbeats 1600000 in
theorem walk_skip_out (ao : Option Addr) (n cap : Nat) (p : Int) (so : Option Addr) (sn scap : Nat) (zs : List Int) (w : World) (hn : n ≤ 9223372036854775807) (hs : Ints w so sn scap zs) (hp : ¬ (0 ≤ p ∧ p ≤ (n : Int))) :
    Calls Try.prog 6 #[.slice ao n cap, .int .i64 p, .slice so sn scap] w fun e w' => e = .returned (.bool true) ∧ Below w.heap.size w w' := by
  have HS : Hid (Ints w so sn scap zs) := hs
  have hsc : scap ≤ 9223372036854775807 := HS.out.2.2.1
  have hsn : sn ≤ scap := HS.out.2.1
  have HR : Hid (skipA n p zs = none) := if_neg hp
  rcases (show p < 0 ∨ (0 ≤ p ∧ (n : Int) < p) from by omega) with h | ⟨h0, h⟩
  all_goals clear hs hp
  all_goals go_enter Try.func6, Try.ntmps6
  all_goals go_wp2_with fail
  all_goals (refine (awake_any _).mono ?_; rintro e w1 ⟨rfl, bel1⟩)
  all_goals have HS1 : Hid (Ints w1 so sn scap zs) := HS.out.carry bel1
  all_goals go_wp2_with fail
  all_goals (refine (skip_any ao n cap p so sn scap zs _ hn HS1.out).mono ?_; rintro e w2 ⟨rfl, rfl⟩)
  all_goals rw [HR.out]
  all_goals simp only [skipV]
  all_goals by_cases hk : 0 < sn
  all_goals go_wp2_with fail
  all_goals (refine wp_loop_rounds 1 ?_; rw [rounds_succ])
  all_goals go_wp2
  all_goals go_ret
  all_goals first | exact ⟨rfl, bel1⟩ | exact ⟨by rw [decide_eq_false (show ¬ p ≤ (n : Int) from by omega)]; rfl, bel1⟩
theorem walk_skip (ao : Option Addr) (n cap : Nat) (p : Int) (so : Option Addr) (sn scap : Nat) (zs : List Int) (w : World) (hn : n ≤ 9223372036854775807) (hs : Ints w so sn scap zs) :
    Calls Try.prog 6 #[.slice ao n cap, .int .i64 p, .slice so sn scap] w fun e w' => e = .returned (.bool true) ∧ Below w.heap.size w w' := by
  by_cases h : 0 ≤ p ∧ p ≤ (n : Int)
  · obtain ⟨q, rfl⟩ := Int.eq_ofNat_of_zero_le h.1
    exact walk_skip_in ao n cap q so sn scap zs w hn hs (by omega)
  · exact walk_skip_out ao n cap p so sn scap zs w hn hs h

end Go.Proofs.Ytpcaipmdinbdfaa

namespace Go.Proofs.Ytpcaipmdinbdfaa.codecSkip
open Go.ChangeShapes Go.WideShapes Go.ChangeAt Go.RowKit
set_option linter.unusedVariables false

theorem own : ownKnob Try.prog.godebug = none := by kernel_rfl
theorem laidOut : laidOutB Try.prog = true := by kernel_rfl

theorem walk (a0 : Option Addr) (len0 cap0 : Nat) (z0 : List Int) (a1 : Int) (a2 : Option Addr) (len2 cap2 : Nat) (z2 : List Int) (w : World) (w0 : RowOf .u8 w a0 len0 cap0 z0) (w1 : (Lit.int .i64 a1).wf = true) (w2 : RowOf .i64 w a2 len2 cap2 z2) :
    Calls Try.prog 6 #[.slice a0 len0 cap0, .int .i64 a1, .slice a2 len2 cap2] w fun e w' => e = .returned (.bool true) ∧ Below w.heap.size w w' :=
  walk_skip a0 len0 cap0 a1 a2 len2 cap2 _ w (Nat.le_trans w0.lens.1 w0.lens.2) w2.ints

set_option maxRecDepth 100000 in
theorem lifted (os : Os) (started : os.Started) (H : Type) (enc : TypeId × Value → H) :
    ReturnsInHanded {} Try.checked os 6 .any (Rows.codecSkipSpec.pre6 enc Try.prog Try.f6 Rows.codecSkipRow.domain false) (Rows.codecSkipSpec.post enc Try.prog Try.f6 false true false false) := by
  refine returnsInHanded_of_change (C := Try.checked) own started (by kernel_rfl) Try.func6
    (ChangeSpec.witness6 (enc := enc) (C := Try.checked) false ⟨#[], #[.slice none 0 0, .int .i64 0, .slice none 0 0], []⟩ 8 (by kernel_rfl) (by kernel_rfl) (by kernel_rfl) (by kernel_rfl)) ?_
  intro W base args ds gs before hval0 hW hcnd _
  have hval : ∀ (j : Nat) t v, Try.f6.params[j]? = some t → args[j]? = some v → Value.okWide Try.prog W .any base t v := hval0
  have hW' := hW
  obtain ⟨p, q, hA0, hV, rfl, hfz, hnd⟩ := hW
  have hA : DataW.TrodAll enc Try.prog W 0 (fun _ => true) true Try.f6.params.toList args.toList ds p := hA0
  rw [Try.params6] at hA hval
  obtain ⟨v0, vs0, d0, ds0, p0, q0, hargs, rfl, rfl, h0, r0⟩ := trodAll_cons hA
  obtain ⟨v1, vs1, d1, ds1, p1, q1, rfl, rfl, rfl, h1, r1⟩ := trodAll_cons r0
  obtain ⟨v2, vs2, d2, ds2, p2, q2, rfl, rfl, rfl, h2, r2⟩ := trodAll_cons r1
  obtain ⟨rfl, rfl, rfl⟩ := trodAll_nil r2
  obtain rfl : args = #[v0, v1, v2] := by cases args; simp_all
  obtain ⟨rfl, rfl⟩ := trodVars_none hV
  obtain ⟨a0, len0, cap0, rfl⟩ := okWide_slice Try.underlying22 (hval 0 22 v0 rfl rfl)
  have k0 := h0
  have lt0 : ∀ x ∈ p0, x.block < W.heap.size := by obtain ⟨m, hm⟩ := k0; exact DataW.trod_lt m _ _ _ hm
  obtain ⟨z0, w0, s0⟩ : ∃ zs, RowOf .u8 W a0 len0 cap0 zs ∧ True := by
    obtain ⟨fuel, hf⟩ := h0
    rcases open_ints Try.underlying22 Try.underlying5 (by kernel_rfl) hf with ⟨hcs, _⟩ | ⟨x, l, c, zs, hcs, _, hl, hm, hz, hx, hcell, hwz⟩
    · simp [Value.cells] at hcs
      obtain ⟨rfl, rfl, rfl⟩ := hcs
      exact ⟨[], .inl ⟨rfl, rfl, rfl, rfl⟩, trivial⟩
    · simp [Value.cells] at hcs
      obtain ⟨rfl, rfl, rfl⟩ := hcs
      exact ⟨zs, .inr ⟨_, rfl, hl, hm, by simpa using hz, hcell, hwz⟩, trivial⟩
  obtain ⟨a1, rfl, rfl, rfl, w1⟩ := open_int Try.underlying3 (hval 1 3 v1 rfl rfl) h1
  obtain ⟨a2, len2, cap2, rfl⟩ := okWide_slice Try.underlying36 (hval 2 36 v2 rfl rfl)
  have k2 := h2
  have lt2 : ∀ x ∈ p2, x.block < W.heap.size := by obtain ⟨m, hm⟩ := k2; exact DataW.trod_lt m _ _ _ hm
  obtain ⟨z2, w2, s2⟩ : ∃ zs, RowOf .i64 W a2 len2 cap2 zs ∧ True := by
    obtain ⟨fuel, hf⟩ := h2
    rcases open_ints Try.underlying36 Try.underlying3 (by kernel_rfl) hf with ⟨hcs, _⟩ | ⟨x, l, c, zs, hcs, _, hl, hm, hz, hx, hcell, hwz⟩
    · simp [Value.cells] at hcs
      obtain ⟨rfl, rfl, rfl⟩ := hcs
      exact ⟨[], .inl ⟨rfl, rfl, rfl, rfl⟩, trivial⟩
    · simp [Value.cells] at hcs
      obtain ⟨rfl, rfl, rfl⟩ := hcs
      exact ⟨zs, .inr ⟨_, rfl, hl, hm, by simpa using hz, hcell, hwz⟩, trivial⟩
  clear hA0 hval0
  refine (walk a0 len0 cap0 z0 a1 a2 len2 cap2 z2 W w0 w1 w2).mono fun e W' ⟨he, bel⟩ => ?_
  subst he
  exact ⟨_, rfl, _, _, _, [], _, [], hW', trodAll_mk1 (shut_bool Try.underlying4 _), (trodAll_cons_mk (Below.trod laidOut (by kernel_rfl) (of_decide_eq_true (by kernel_rfl)) k0 bel lt0) (trodAll_cons_mk (shut_int Try.underlying3 w1) (trodAll_cons_mk (Below.trod laidOut (by kernel_rfl) (of_decide_eq_true (by kernel_rfl)) k2 bel lt2) trodAll_mk0))), rfl, bel.frame _, fun h => by cases h⟩

theorem over : Rows.codecSkipRow.holds Try.pinned (OpenSpec.ofChange Rows.codecSkipSpec) :=
  OpenClaim.holds_of_wide 6 Try.f6 rfl rfl rfl rfl rfl rfl rfl ⟨rfl, rfl, rfl, rfl, rfl⟩ rfl rfl rfl rfl rfl (by kernel_rfl) Try.func6 (by kernel_rfl)
    (of_decide_eq_true (by kernel_rfl)) (by unfold Func.isWrapper; first | (rw [if_pos (by decide +kernel)]; kernel_rfl) | (rw [if_neg (by decide +kernel)]; exact ⟨rfl, rfl⟩))
    (fun os started H enc _ => lifted os started H enc)
end Go.Proofs.Ytpcaipmdinbdfaa.codecSkip

namespace Go.Proofs.Ytpcaipmdinbdfaa
theorem codecSkip_holds : Rows.CodecSkipSaid := codecSkip.over
#print axioms codecSkip_holds
end Go.Proofs.Ytpcaipmdinbdfaa
