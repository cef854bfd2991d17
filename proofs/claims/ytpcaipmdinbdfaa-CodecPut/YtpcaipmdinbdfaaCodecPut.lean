/-
  CodecPut (P2.1): a number's bytes are what the document says; what they are laid behind stays. No condition: every input that can be read.
-/
import Derived.Test.YtpcaipmdinbdfaaRows
import Derived.Test.YtpcaipmdinbdfaaMore
import Derived.WalkKit
import Derived.WalkSpells
import Derived.WalkLawsBesides
import Derived.Deep.QuietTactic
import Derived.BigQuiet
import Derived.ProofKit
import Derived.OpenShut
import Derived.ShutString
import Derived.ChangeOld
import Derived.Below
import Derived.SizedLaws
namespace Go.Proofs.Ytpcaipmdinbdfaa

open Go.RowKit
set_option maxHeartbeats 800000 in
theorem walk_put_no (ao : Option Addr) (n cap : Nat) (v m : Int) (l : List UInt8) (w : World) (hb : Bts w ao n cap l) (hr : n ≤ 140737488351232) (hm : ¬ (1 ≤ m ∧ m ≤ 8)) :
    Calls Try.prog 3 #[.slice ao n cap, .int .u64 v, .int .i64 m] w fun e w' => e = .returned (.bool true) ∧ Below w.heap.size w w' := by
  have HB : Hid (Bts w ao n cap l) := hb
  clear hb
  have HM : Hid (¬ (1 ≤ m ∧ m ≤ 8)) := hm
  rcases (show m < 1 ∨ (1 ≤ m ∧ 8 < m) from by omega) with h | ⟨h1, h⟩
  all_goals clear hm
  all_goals go_enter Try.func3, Try.ntmps3
  all_goals go_wp2_with fail
  all_goals (refine (awake_any _).mono ?_; rintro e w1 ⟨rfl, bel1⟩)
  all_goals have HB1 : Hid (Bts w1 ao n cap l) := HB.out.carry bel1
  all_goals go_wp2_with fail
  all_goals (refine (put_no ao n cap v m l _ HB1.out (by omega) HM.out).mono ?_; rintro e w2 ⟨co, cc, rfl, hb2, bel2⟩)
  all_goals have c1 := conv_bts hb2
  all_goals have c2 := conv_bts (HB1.out.carry bel2)
  all_goals have b2 : Below w.heap.size w w2 := bel1.trans (bel2.mono bel1.size)
  all_goals clear bel2 hb2
  all_goals go_wp2
  all_goals go_ret
  all_goals exact ⟨rfl, b2⟩
set_option maxHeartbeats 1600000 in
theorem walk_put_yes (ao : Option Addr) (n cap v m : Nat) (l : List UInt8) (w : World) (hb : Bts w ao n cap l) (hr : n ≤ 140737488351232) (h1 : 1 ≤ m) (h8 : m ≤ 8) (hv : v ≤ 18446744073709551615) :
    Calls Try.prog 3 #[.slice ao n cap, .int .u64 v, .int .i64 m] w fun e w' => e = .returned (.bool true) ∧ Below w.heap.size w w' := by
  have HB : Hid (Bts w ao n cap l) := hb
  clear hb
  go_enter Try.func3, Try.ntmps3
  go_wp2_with fail
  refine (awake_any _).mono ?_; rintro e w1 ⟨rfl, bel1⟩
  have HB1 : Hid (Bts w1 ao n cap l) := HB.out.carry bel1
  go_wp2_with fail
  refine (put_yes ao n cap v m l _ HB1.out (by omega) h1 h8 hv).mono ?_; rintro e w2 ⟨rfl, hown, bel2⟩
  obtain ⟨po, pc, hpv, hb2⟩ := owns_bts hown
  obtain ⟨rfl, _, rfl⟩ := Value.slice.inj hpv
  have b2 : Below w.heap.size w w2 := bel1.trans (bel2.mono bel1.size)
  have hf := hb2.first n HB.out.1
  have c1 := fun k => conv_bts (hf.drewN k)
  have c2 := fun k => conv_bts ((HB1.out.carry bel2).drewN k)
  have HB2 : Hid (Bts w2 (some ⟨w1.heap.size, 0, none⟩) (n + m) (n + m) (l ++ putF v m)) := hb2
  clear hown hpv hb2 hf bel2
  go_wp2
  go_quiet (fail)
  have HN : Hid (Bts (w2.drewN nq) (some ⟨w1.heap.size, n, none⟩) m m (putF v m)) := bts_last HB2.out HB.out.1
  have HL : Hid (numF (putF v m) = v % 256 ^ m) := numF_putF v m
  clear c1 c2 HB1 HB2
  rcases (show m = 1 ∨ m = 2 ∨ m = 3 ∨ m = 4 ∨ m = 5 ∨ m = 6 ∨ m = 7 ∨ m = 8 from by omega) with rfl | rfl | rfl | rfl | rfl | rfl | rfl | rfl
  all_goals go_wp2_with fail
  all_goals (refine (number_any _ _ _ _ _ HN.out (by omega)).mono ?_; rintro e w3 ⟨rfl, rfl⟩)
  all_goals rw [HL.out]
  all_goals first | rw [low1] | rw [low2] | rw [low3] | rw [low4] | rw [low5] | rw [low6] | rw [low7] | rw [low8 v hv]
  all_goals go_wp2
  all_goals go_ret
  all_goals exact ⟨rfl, below_drewN b2 _⟩
theorem walk_put (ao : Option Addr) (n cap v : Nat) (m : Int) (l : List UInt8) (w : World) (hb : Bts w ao n cap l) (hr : n ≤ 140737488351232) (hv : v ≤ 18446744073709551615) :
    Calls Try.prog 3 #[.slice ao n cap, .int .u64 v, .int .i64 m] w fun e w' => e = .returned (.bool true) ∧ Below w.heap.size w w' := by
  by_cases h : 1 ≤ m ∧ m ≤ 8
  · obtain ⟨k, rfl⟩ := Int.eq_ofNat_of_zero_le (show 0 ≤ m by omega)
    exact walk_put_yes ao n cap v k l w hb hr (by omega) (by omega) hv
  · exact walk_put_no ao n cap v m l w hb hr h

end Go.Proofs.Ytpcaipmdinbdfaa

namespace Go.Proofs.Ytpcaipmdinbdfaa.codecPut
open Go.ChangeShapes Go.WideShapes Go.ChangeAt Go.RowKit
set_option linter.unusedVariables false

theorem own : ownKnob Try.prog.godebug = none := by kernel_rfl
theorem laidOut : laidOutB Try.prog = true := by kernel_rfl

theorem walk (a0 : Option Addr) (len0 cap0 : Nat) (z0 : List Int) (a1 : Int) (a2 : Int) (w : World) (w0 : RowOf .u8 w a0 len0 cap0 z0) (s0 : cap0 * 1 ≤ 140737488351232) (w1 : (Lit.int .u64 a1).wf = true) (w2 : (Lit.int .i64 a2).wf = true) :
    Calls Try.prog 3 #[.slice a0 len0 cap0, .int .u64 a1, .int .i64 a2] w fun e w' => e = .returned (.bool true) ∧ Below w.heap.size w w' :=
  by obtain ⟨l, hl⟩ := w0.bytes; obtain ⟨v, rfl, hv⟩ := u64_nat w1; exact walk_put a0 len0 cap0 v a2 l w hl (by have := hl.2.1; omega) hv

set_option maxRecDepth 100000 in
theorem lifted (os : Os) (started : os.Started) (H : Type) (enc : TypeId × Value → H) :
    ReturnsInHanded {} Try.checked os 3 .any (Rows.codecPutSpec.pre6 enc Try.prog Try.f3 Rows.codecPutRow.domain false) (Rows.codecPutSpec.post enc Try.prog Try.f3 false true false false) := by
  refine returnsInHanded_of_change_sized (C := Try.checked) own started (by kernel_rfl) Try.func3
    (ChangeSpec.witness6 (enc := enc) (C := Try.checked) false ⟨#[], #[.slice none 0 0, .int .u64 0, .int .i64 0], []⟩ 8 (by kernel_rfl) (by kernel_rfl) (by kernel_rfl) (by kernel_rfl)) ?_
  intro W base args ds gs before hval0 hW hcnd hsz0 _
  have hval : ∀ (j : Nat) t v, Try.f3.params[j]? = some t → args[j]? = some v → Value.okWide Try.prog W .any base t v := hval0
  have hW' := hW
  obtain ⟨p, q, hA0, hV, rfl, hfz, hnd⟩ := hW
  have hA : DataW.TrodAll enc Try.prog W 0 (fun _ => true) true Try.f3.params.toList args.toList ds p := hA0
  have hsz : (DataW.weightsEach Try.prog (Try.f3.params.toList ++ Rows.codecPutSpec.plain.varTypes Try.prog) (ds ++ gs)).all (· ≤ reachBytes) = true := hsz0
  rw [Try.params3] at hA hval hsz
  obtain ⟨v0, vs0, d0, ds0, p0, q0, hargs, rfl, rfl, h0, r0⟩ := trodAll_cons hA
  obtain ⟨v1, vs1, d1, ds1, p1, q1, rfl, rfl, rfl, h1, r1⟩ := trodAll_cons r0
  obtain ⟨v2, vs2, d2, ds2, p2, q2, rfl, rfl, rfl, h2, r2⟩ := trodAll_cons r1
  obtain ⟨rfl, rfl, rfl⟩ := trodAll_nil r2
  obtain rfl : args = #[v0, v1, v2] := by cases args; simp_all
  obtain ⟨rfl, rfl⟩ := trodVars_none hV
  obtain ⟨a0, len0, cap0, rfl⟩ := okWide_slice Try.underlying22 (hval 0 22 v0 rfl rfl)
  have k0 := h0
  have lt0 : ∀ x ∈ p0, x.block < W.heap.size := by obtain ⟨m, hm⟩ := k0; exact DataW.trod_lt m _ _ _ hm
  obtain ⟨z0, w0, s0⟩ : ∃ zs, RowOf .u8 W a0 len0 cap0 zs ∧ cap0 * 1 ≤ 140737488351232 := by
    obtain ⟨fuel, hf⟩ := h0
    rcases open_ints Try.underlying22 Try.underlying5 (by kernel_rfl) hf with ⟨hcs, _⟩ | ⟨x, l, c, zs, hcs, _, hl, hm, hz, hx, hcell, hwz⟩
    · simp [Value.cells] at hcs
      obtain ⟨rfl, rfl, rfl⟩ := hcs
      exact ⟨[], .inl ⟨rfl, rfl, rfl, rfl⟩, by omega⟩
    · simp [Value.cells] at hcs
      obtain ⟨rfl, rfl, rfl⟩ := hcs
      have hd := congrArg Prod.fst hx
      simp only at hd
      subst hd
      have hs := sized_slice hsz (j := 0) (t := 22) (e := 5) rfl rfl Try.underlying22
      rw [bytesOf5] at hs
      simp only [lits, List.length_map, List.length_take, List.length_drop, reachBytes] at hs
      have hz' : zs.length = cap0 := by simpa using hz
      exact ⟨zs, .inr ⟨_, rfl, hl, hm, hz', hcell, hwz⟩, by omega⟩
  obtain ⟨a1, rfl, rfl, rfl, w1⟩ := open_int Try.underlying23 (hval 1 23 v1 rfl rfl) h1
  obtain ⟨a2, rfl, rfl, rfl, w2⟩ := open_int Try.underlying3 (hval 2 3 v2 rfl rfl) h2
  clear hA0 hval0
  refine (walk a0 len0 cap0 z0 a1 a2 W w0 s0 w1 w2).mono fun e W' ⟨he, bel⟩ => ?_
  subst he
  exact ⟨_, rfl, _, _, _, [], _, [], hW', trodAll_mk1 (shut_bool Try.underlying4 _), (trodAll_cons_mk (Below.trod laidOut (by kernel_rfl) (of_decide_eq_true (by kernel_rfl)) k0 bel lt0) (trodAll_cons_mk (shut_int Try.underlying23 w1) (trodAll_cons_mk (shut_int Try.underlying3 w2) trodAll_mk0))), rfl, bel.frame _, fun h => by cases h⟩

theorem over : Rows.codecPutRow.holds Try.pinned (OpenSpec.ofChange Rows.codecPutSpec) :=
  OpenClaim.holds_of_wide 3 Try.f3 rfl rfl rfl rfl rfl rfl rfl ⟨rfl, rfl, rfl, rfl, rfl⟩ rfl rfl rfl rfl rfl (by kernel_rfl) Try.func3 (by kernel_rfl)
    (of_decide_eq_true (by kernel_rfl)) (by unfold Func.isWrapper; first | (rw [if_pos (by decide +kernel)]; kernel_rfl) | (rw [if_neg (by decide +kernel)]; exact ⟨rfl, rfl⟩))
    (fun os started H enc _ => lifted os started H enc)
end Go.Proofs.Ytpcaipmdinbdfaa.codecPut

namespace Go.Proofs.Ytpcaipmdinbdfaa
theorem codecPut_holds : Rows.CodecPutSaid := codecPut.over
#print axioms codecPut_holds
end Go.Proofs.Ytpcaipmdinbdfaa
