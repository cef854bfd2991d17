/-
  CodecGet (P2.1): the number at a place is what its bytes say; there is none, where they are not all there. No condition: every input that can be read.
-/
import Derived.Test.YtpcaipmdinbdfaaRows
import Derived.Test.YtpcaipmdinbdfaaRead
import Derived.WalkKit
import Derived.WalkSpells
import Derived.WalkLawsBesides
import Derived.Deep.QuietTactic
import Derived.BigQuiet
import Derived.ProofKit
import Derived.OpenShut
import Derived.ShutString
import Derived.ChangeOld
import Derived.Below
import Derived.SizedLaws
namespace Go.Proofs.Ytpcaipmdinbdfaa


open Go.RowKit
set_option maxHeartbeats 800000 in
theorem walk_get_yes (ao : Option Addr) (n cap p m : Nat) (l : List UInt8) (w : World) (hb : Bts w ao n cap l) (h1 : 1 ≤ m) (h8 : m ≤ 8) (hp : p + m ≤ n) :
    Calls Try.prog 4 #[.slice ao n cap, .int .i64 p, .int .i64 m] w fun e w' => e = .returned (.bool true) ∧ Below w.heap.size w w' := by
  have HB : Hid (Bts w ao n cap l) := hb
  clear hb
  have hcm : cap ≤ 9223372036854775807 := HB.out.2.2.1
  have hnc : n ≤ cap := HB.out.2.1
  cases ao with
  | none => have := HB.out.none rfl; omega
  | some ad =>
    go_enter Try.func4, Try.ntmps4
    go_wp2_with fail
    refine (awake_any _).mono ?_; rintro e w1 ⟨rfl, bel1⟩
    have HB1 : Hid (Bts w1 (some ad) n cap l) := HB.out.carry bel1
    go_wp2_with fail
    refine (get_yes (some ad) n cap p m l _ HB1.out h1 h8 hp).mono ?_; rintro e w2 ⟨rfl, bel2⟩
    have HB2 : Hid (Bts w2 (some ad) n cap l) := HB1.out.carry bel2
    have b2 : Below w.heap.size w w2 := bel1.trans (bel2.mono bel1.size)
    clear bel2
    go_wp2_with fail
    refine (number_any (some (ad.add p)) m (cap - p) ((l.drop p).take m) _ (HB2.out.add p m (by omega)) (by omega)).mono ?_; rintro e w3 ⟨rfl, rfl⟩
    go_wp2
    go_ret
    exact ⟨rfl, b2⟩
set_option maxHeartbeats 1600000 in
theorem walk_get_no (ao : Option Addr) (n cap : Nat) (p m : Int) (w : World) (hn : n ≤ 9223372036854775807) (hno : ¬ (1 ≤ m ∧ m ≤ 8 ∧ 0 ≤ p ∧ p ≤ (n : Int) ∧ m ≤ (n : Int) - p)) :
    Calls Try.prog 4 #[.slice ao n cap, .int .i64 p, .int .i64 m] w fun e w' => e = .returned (.bool true) ∧ Below w.heap.size w w' := by
  have HN : Hid (¬ (1 ≤ m ∧ m ≤ 8 ∧ 0 ≤ p ∧ p ≤ (n : Int) ∧ m ≤ (n : Int) - p)) := hno
  rcases (show m < 1 ∨ (1 ≤ m ∧ 8 < m) ∨ (1 ≤ m ∧ m ≤ 8 ∧ p < 0) ∨ (1 ≤ m ∧ m ≤ 8 ∧ 0 ≤ p ∧ (n : Int) < p) ∨ (1 ≤ m ∧ m ≤ 8 ∧ 0 ≤ p ∧ p ≤ (n : Int) ∧ (n : Int) - p < m) from by omega) with h | ⟨h1, h⟩ | ⟨h1, h2, h⟩ | ⟨h1, h2, h3, h⟩ | ⟨h1, h2, h3, h4, h⟩
  all_goals clear hno
  all_goals go_enter Try.func4, Try.ntmps4
  all_goals go_wp2_with fail
  all_goals (refine (awake_any _).mono ?_; rintro e w1 ⟨rfl, bel1⟩)
  all_goals go_wp2_with fail
  all_goals (refine (get_no ao n cap p m _ hn HN.out).mono ?_; rintro e w2 ⟨rfl, bel2⟩)
  all_goals have b2 : Below w.heap.size w w2 := bel1.trans (bel2.mono bel1.size)
  all_goals clear bel2
  all_goals go_wp2
  all_goals go_ret
  all_goals exact ⟨rfl, b2⟩
theorem walk_get (ao : Option Addr) (n cap : Nat) (p m : Int) (l : List UInt8) (w : World) (hb : Bts w ao n cap l) :
    Calls Try.prog 4 #[.slice ao n cap, .int .i64 p, .int .i64 m] w fun e w' => e = .returned (.bool true) ∧ Below w.heap.size w w' := by
  by_cases h : 1 ≤ m ∧ m ≤ 8 ∧ 0 ≤ p ∧ p ≤ (n : Int) ∧ m ≤ (n : Int) - p
  · obtain ⟨q, rfl⟩ := Int.eq_ofNat_of_zero_le h.2.2.1
    obtain ⟨k, rfl⟩ := Int.eq_ofNat_of_zero_le (show 0 ≤ m by omega)
    exact walk_get_yes ao n cap q k l w hb (by omega) (by omega) (by omega)
  · exact walk_get_no ao n cap p m w (Nat.le_trans hb.2.1 hb.2.2.1) h

end Go.Proofs.Ytpcaipmdinbdfaa

namespace Go.Proofs.Ytpcaipmdinbdfaa.codecGet
open Go.ChangeShapes Go.WideShapes Go.ChangeAt Go.RowKit
set_option linter.unusedVariables false

theorem own : ownKnob Try.prog.godebug = none := by kernel_rfl
theorem laidOut : laidOutB Try.prog = true := by kernel_rfl

theorem walk (a0 : Option Addr) (len0 cap0 : Nat) (z0 : List Int) (a1 : Int) (a2 : Int) (w : World) (w0 : RowOf .u8 w a0 len0 cap0 z0) (w1 : (Lit.int .i64 a1).wf = true) (w2 : (Lit.int .i64 a2).wf = true) :
    Calls Try.prog 4 #[.slice a0 len0 cap0, .int .i64 a1, .int .i64 a2] w fun e w' => e = .returned (.bool true) ∧ Below w.heap.size w w' :=
  by obtain ⟨l, hl⟩ := w0.bytes; exact walk_get a0 len0 cap0 a1 a2 l w hl

set_option maxRecDepth 100000 in
theorem lifted (os : Os) (started : os.Started) (H : Type) (enc : TypeId × Value → H) :
    ReturnsInHanded {} Try.checked os 4 .any (Rows.codecGetSpec.pre6 enc Try.prog Try.f4 Rows.codecGetRow.domain false) (Rows.codecGetSpec.post enc Try.prog Try.f4 false true false false) := by
  refine returnsInHanded_of_change (C := Try.checked) own started (by kernel_rfl) Try.func4
    (ChangeSpec.witness6 (enc := enc) (C := Try.checked) false ⟨#[], #[.slice none 0 0, .int .i64 0, .int .i64 0], []⟩ 8 (by kernel_rfl) (by kernel_rfl) (by kernel_rfl) (by kernel_rfl)) ?_
  intro W base args ds gs before hval0 hW hcnd _
  have hval : ∀ (j : Nat) t v, Try.f4.params[j]? = some t → args[j]? = some v → Value.okWide Try.prog W .any base t v := hval0
  have hW' := hW
  obtain ⟨p, q, hA0, hV, rfl, hfz, hnd⟩ := hW
  have hA : DataW.TrodAll enc Try.prog W 0 (fun _ => true) true Try.f4.params.toList args.toList ds p := hA0
  rw [Try.params4] at hA hval
  obtain ⟨v0, vs0, d0, ds0, p0, q0, hargs, rfl, rfl, h0, r0⟩ := trodAll_cons hA
  obtain ⟨v1, vs1, d1, ds1, p1, q1, rfl, rfl, rfl, h1, r1⟩ := trodAll_cons r0
  obtain ⟨v2, vs2, d2, ds2, p2, q2, rfl, rfl, rfl, h2, r2⟩ := trodAll_cons r1
  obtain ⟨rfl, rfl, rfl⟩ := trodAll_nil r2
  obtain rfl : args = #[v0, v1, v2] := by cases args; simp_all
  obtain ⟨rfl, rfl⟩ := trodVars_none hV
  obtain ⟨a0, len0, cap0, rfl⟩ := okWide_slice Try.underlying22 (hval 0 22 v0 rfl rfl)
  have k0 := h0
  have lt0 : ∀ x ∈ p0, x.block < W.heap.size := by obtain ⟨m, hm⟩ := k0; exact DataW.trod_lt m _ _ _ hm
  obtain ⟨z0, w0, s0⟩ : ∃ zs, RowOf .u8 W a0 len0 cap0 zs ∧ True := by
    obtain ⟨fuel, hf⟩ := h0
    rcases open_ints Try.underlying22 Try.underlying5 (by kernel_rfl) hf with ⟨hcs, _⟩ | ⟨x, l, c, zs, hcs, _, hl, hm, hz, hx, hcell, hwz⟩
    · simp [Value.cells] at hcs
      obtain ⟨rfl, rfl, rfl⟩ := hcs
      exact ⟨[], .inl ⟨rfl, rfl, rfl, rfl⟩, trivial⟩
    · simp [Value.cells] at hcs
      obtain ⟨rfl, rfl, rfl⟩ := hcs
      exact ⟨zs, .inr ⟨_, rfl, hl, hm, by simpa using hz, hcell, hwz⟩, trivial⟩
  obtain ⟨a1, rfl, rfl, rfl, w1⟩ := open_int Try.underlying3 (hval 1 3 v1 rfl rfl) h1
  obtain ⟨a2, rfl, rfl, rfl, w2⟩ := open_int Try.underlying3 (hval 2 3 v2 rfl rfl) h2
  clear hA0 hval0
  refine (walk a0 len0 cap0 z0 a1 a2 W w0 w1 w2).mono fun e W' ⟨he, bel⟩ => ?_
  subst he
  exact ⟨_, rfl, _, _, _, [], _, [], hW', trodAll_mk1 (shut_bool Try.underlying4 _), (trodAll_cons_mk (Below.trod laidOut (by kernel_rfl) (of_decide_eq_true (by kernel_rfl)) k0 bel lt0) (trodAll_cons_mk (shut_int Try.underlying3 w1) (trodAll_cons_mk (shut_int Try.underlying3 w2) trodAll_mk0))), rfl, bel.frame _, fun h => by cases h⟩

theorem over : Rows.codecGetRow.holds Try.pinned (OpenSpec.ofChange Rows.codecGetSpec) :=
  OpenClaim.holds_of_wide 4 Try.f4 rfl rfl rfl rfl rfl rfl rfl ⟨rfl, rfl, rfl, rfl, rfl⟩ rfl rfl rfl rfl rfl (by kernel_rfl) Try.func4 (by kernel_rfl)
    (of_decide_eq_true (by kernel_rfl)) (by unfold Func.isWrapper; first | (rw [if_pos (by decide +kernel)]; kernel_rfl) | (rw [if_neg (by decide +kernel)]; exact ⟨rfl, rfl⟩))
    (fun os started H enc _ => lifted os started H enc)
end Go.Proofs.Ytpcaipmdinbdfaa.codecGet

namespace Go.Proofs.Ytpcaipmdinbdfaa
theorem codecGet_holds : Rows.CodecGetSaid := codecGet.over
#print axioms codecGet_holds
end Go.Proofs.Ytpcaipmdinbdfaa
