/-
  MatchPorts (P20.1, P20.2): a request goes to no thread that waits at another port, and a thread gets no request to another one. No condition: every input that can be read.
-/
import Derived.Test.YtfjchchjdjjepaaRows
import Derived.Test.YtfjchchjdjjepaaJPortsW
import Derived.WalkKit
import Derived.WalkSpells
import Derived.WalkLawsBesides
import Derived.Deep.QuietTactic
import Derived.BigQuiet
import Derived.ProofKit
import Derived.OpenShut
import Derived.ShutString
import Derived.ChangeOld
import Derived.Below
import Derived.SizedLaws
namespace Go.Proofs.Ytfjchchjdjjepaa


end Go.Proofs.Ytfjchchjdjjepaa

namespace Go.Proofs.Ytfjchchjdjjepaa.matchPorts
open Go.ChangeShapes Go.WideShapes Go.ChangeAt Go.RowKit
set_option linter.unusedVariables false

theorem own : ownKnob Try.prog.godebug = none := by kernel_rfl
theorem laidOut : laidOutB Try.prog = true := by kernel_rfl

theorem walk (a0 : Int) (a1 : Int) (y2 : Ms) (w : World) (w0 : (Lit.int .u64 a0).wf = true) (w1 : (Lit.int .u64 a1).wf = true) (w2 : y2.has w) (s2 : y2.sn ≤ 140737488351232) :
    Calls Try.prog 5 #[.int .u64 a0, .int .u64 a1, .agg #[.int .u64 y2.ta, .int .u64 y2.rp, .int .u32 y2.id, .int .u16 y2.op, .int .u16 y2.st, .int .u64 y2.p, .int .u32 y2.o, .int .u8 y2.r, .int .u64 y2.c, .int .u64 y2.ar, .slice y2.so y2.sn y2.sc]] w fun e w' => e = .returned (.bool true) ∧ Below w.heap.size w w' :=
  walk_ports a0 a1 y2 w w2 s2

set_option maxRecDepth 100000 in
theorem lifted (os : Os) (started : os.Started) (H : Type) (enc : TypeId × Value → H) :
    ReturnsInHanded {} Try.checked os 5 .any (Rows.matchPortsSpec.pre6 enc Try.prog Try.f5 Rows.matchPortsRow.domain false) (Rows.matchPortsSpec.post enc Try.prog Try.f5 false true false false) := by
  refine returnsInHanded_of_change_sized (C := Try.checked) own started (by kernel_rfl) Try.func5
    (ChangeSpec.witness6 (enc := enc) (C := Try.checked) false ⟨#[], #[.int .u64 0, .int .u64 0, .agg #[.int .u64 0, .int .u64 0, .int .u32 0, .int .u16 0, .int .u16 0, .int .u64 0, .int .u32 0, .int .u8 0, .int .u64 0, .int .u64 0, .slice none 0 0]], []⟩ 8 (by kernel_rfl) (by kernel_rfl) (by kernel_rfl) (by kernel_rfl)) ?_
  intro W base args ds gs before hval0 hW hcnd hsz0 _
  have hval : ∀ (j : Nat) t v, Try.f5.params[j]? = some t → args[j]? = some v → Value.okWide Try.prog W .any base t v := hval0
  have hW' := hW
  obtain ⟨p, q, hA0, hV, rfl, hfz, hnd⟩ := hW
  have hA : DataW.TrodAll enc Try.prog W 0 (fun _ => true) true Try.f5.params.toList args.toList ds p := hA0
  have hsz : (DataW.weightsEach Try.prog (Try.f5.params.toList ++ Rows.matchPortsSpec.plain.varTypes Try.prog) (ds ++ gs)).all (· ≤ reachBytes) = true := hsz0
  rw [Try.params5] at hA hval hsz
  obtain ⟨v0, vs0, d0, ds0, p0, q0, hargs, rfl, rfl, h0, r0⟩ := trodAll_cons hA
  obtain ⟨v1, vs1, d1, ds1, p1, q1, rfl, rfl, rfl, h1, r1⟩ := trodAll_cons r0
  obtain ⟨v2, vs2, d2, ds2, p2, q2, rfl, rfl, rfl, h2, r2⟩ := trodAll_cons r1
  obtain ⟨rfl, rfl, rfl⟩ := trodAll_nil r2
  obtain rfl : args = #[v0, v1, v2] := by cases args; simp_all
  obtain ⟨rfl, rfl⟩ := trodVars_none hV
  obtain ⟨a0, rfl, rfl, rfl, w0⟩ := open_int Try.underlying22 (hval 0 22 v0 rfl rfl) h0
  obtain ⟨a1, rfl, rfl, rfl, w1⟩ := open_int Try.underlying22 (hval 1 22 v1 rfl rfl) h1
  have k2 := h2
  have lt2 : ∀ x ∈ p2, x.block < W.heap.size := by obtain ⟨m, hm⟩ := k2; exact DataW.trod_lt m _ _ _ hm
  obtain ⟨y2, rfl, w2, s2⟩ : ∃ y : Ms, v2 = .agg #[.int .u64 y.ta, .int .u64 y.rp, .int .u32 y.id, .int .u16 y.op, .int .u16 y.st, .int .u64 y.p, .int .u32 y.o, .int .u8 y.r, .int .u64 y.c, .int .u64 y.ar, .slice y.so y.sn y.sc] ∧ y.has W ∧ y.sn ≤ 140737488351232 := by
    obtain ⟨y, e, hb, hd⟩ := open_msg (hval 2 35 v2 rfl rfl) h2
    refine ⟨y, e, hb, ?_⟩
    rcases hd with h0 | ⟨n, hn, hle⟩
    · omega
    · have hw : n ≤ reachBytes := by
        have := List.all_eq_true.1 hsz _ (DataW.weights_mem_each (j := 2) (t := 35) rfl rfl n hn)
        simpa using this
      unfold reachBytes at hw
      omega
  clear hA0 hval0
  refine (walk a0 a1 y2 W w0 w1 w2 s2).mono fun e W' ⟨he, bel⟩ => ?_
  subst he
  exact ⟨_, rfl, _, _, _, [], _, [], hW', trodAll_mk1 (shut_bool Try.underlying4 _), (trodAll_cons_mk (shut_int Try.underlying22 w0) (trodAll_cons_mk (shut_int Try.underlying22 w1) (trodAll_cons_mk (Below.trod laidOut (by kernel_rfl) (of_decide_eq_true (by kernel_rfl)) k2 bel lt2) trodAll_mk0))), rfl, bel.frame _, fun h => by cases h⟩

theorem over : Rows.matchPortsRow.holds Try.pinned (OpenSpec.ofChange Rows.matchPortsSpec) :=
  OpenClaim.holds_of_wide 5 Try.f5 rfl rfl rfl rfl rfl rfl rfl ⟨rfl, rfl, rfl, rfl, rfl⟩ rfl rfl rfl rfl rfl (by kernel_rfl) Try.func5 (by kernel_rfl)
    (of_decide_eq_true (by kernel_rfl)) (by unfold Func.isWrapper; first | (rw [if_pos (by decide +kernel)]; kernel_rfl) | (rw [if_neg (by decide +kernel)]; exact ⟨rfl, rfl⟩))
    (fun os started H enc _ => lifted os started H enc)
end Go.Proofs.Ytfjchchjdjjepaa.matchPorts

namespace Go.Proofs.Ytfjchchjdjjepaa
theorem matchPorts_holds : Rows.MatchPortsSaid := matchPorts.over
#print axioms matchPorts_holds
end Go.Proofs.Ytfjchchjdjjepaa
