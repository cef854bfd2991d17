/-
  ServedOnce (P22.1): however often a request comes, it is new once, as long as not too many others have come; behind its reply it is answered as it was. No condition: every input that can be read.
-/
import Derived.Test.YtnkfdnmaocfjnaaRows
import Derived.Test.YtnkfdnmaocfjnaaNOnceW
import Derived.WalkKit
import Derived.WalkSpells
import Derived.WalkLawsBesides
import Derived.Deep.QuietTactic
import Derived.BigQuiet
import Derived.ProofKit
import Derived.OpenShut
import Derived.ShutString
import Derived.ChangeOld
import Derived.Below
import Derived.SizedLaws
namespace Go.Proofs.Ytnkfdnmaocfjnaa


end Go.Proofs.Ytnkfdnmaocfjnaa

namespace Go.Proofs.Ytnkfdnmaocfjnaa.servedOnce
open Go.ChangeShapes Go.WideShapes Go.ChangeAt Go.RowKit
set_option linter.unusedVariables false

theorem own : ownKnob Try.prog.godebug = none := by kernel_rfl
theorem laidOut : laidOutB Try.prog = true := by kernel_rfl

theorem walk (y0 : Ms) (y1 : Ms) (a2 : Int) (a3 : Int) (w : World) (w0 : y0.has w) (s0 : y0.sn ≤ 140737488351232) (w1 : y1.has w) (s1 : y1.sn ≤ 140737488351232) (w2 : (Lit.int .u8 a2).wf = true) (w3 : (Lit.int .u8 a3).wf = true) :
    Calls Try.prog 3 #[.agg #[.int .u64 y0.ta, .int .u64 y0.rp, .int .u32 y0.id, .int .u16 y0.op, .int .u16 y0.st, .int .u64 y0.p, .int .u32 y0.o, .int .u8 y0.r, .int .u64 y0.c, .int .u64 y0.ar, .slice y0.so y0.sn y0.sc], .agg #[.int .u64 y1.ta, .int .u64 y1.rp, .int .u32 y1.id, .int .u16 y1.op, .int .u16 y1.st, .int .u64 y1.p, .int .u32 y1.o, .int .u8 y1.r, .int .u64 y1.c, .int .u64 y1.ar, .slice y1.so y1.sn y1.sc], .int .u8 a2, .int .u8 a3] w fun e w' => e = .returned (.bool true) ∧ Below w.heap.size w w' :=
  by obtain ⟨q, rfl, _⟩ := u8_nat w2; obtain ⟨r, rfl, _⟩ := u8_nat w3; exact walk_once y0 y1 q r w w1 (by omega)

set_option maxRecDepth 100000 in
theorem lifted (os : Os) (started : os.Started) (H : Type) (enc : TypeId × Value → H) :
    ReturnsInHanded {} Try.checked os 3 .any (Rows.servedOnceSpec.pre6 enc Try.prog Try.f3 Rows.servedOnceRow.domain false) (Rows.servedOnceSpec.post enc Try.prog Try.f3 false true false false) := by
  refine returnsInHanded_of_change_sized (C := Try.checked) own started (by kernel_rfl) Try.func3
    (ChangeSpec.witness6 (enc := enc) (C := Try.checked) false ⟨#[], #[.agg #[.int .u64 0, .int .u64 0, .int .u32 0, .int .u16 0, .int .u16 0, .int .u64 0, .int .u32 0, .int .u8 0, .int .u64 0, .int .u64 0, .slice none 0 0], .agg #[.int .u64 0, .int .u64 0, .int .u32 0, .int .u16 0, .int .u16 0, .int .u64 0, .int .u32 0, .int .u8 0, .int .u64 0, .int .u64 0, .slice none 0 0], .int .u8 0, .int .u8 0], []⟩ 8 (by kernel_rfl) (by kernel_rfl) (by kernel_rfl) (by kernel_rfl)) ?_
  intro W base args ds gs before hval0 hW hcnd hsz0 _
  have hval : ∀ (j : Nat) t v, Try.f3.params[j]? = some t → args[j]? = some v → Value.okWide Try.prog W .any base t v := hval0
  have hW' := hW
  obtain ⟨p, q, hA0, hV, rfl, hfz, hnd⟩ := hW
  have hA : DataW.TrodAll enc Try.prog W 0 (fun _ => true) true Try.f3.params.toList args.toList ds p := hA0
  have hsz : (DataW.weightsEach Try.prog (Try.f3.params.toList ++ Rows.servedOnceSpec.plain.varTypes Try.prog) (ds ++ gs)).all (· ≤ reachBytes) = true := hsz0
  rw [Try.params3] at hA hval hsz
  obtain ⟨v0, vs0, d0, ds0, p0, q0, hargs, rfl, rfl, h0, r0⟩ := trodAll_cons hA
  obtain ⟨v1, vs1, d1, ds1, p1, q1, rfl, rfl, rfl, h1, r1⟩ := trodAll_cons r0
  obtain ⟨v2, vs2, d2, ds2, p2, q2, rfl, rfl, rfl, h2, r2⟩ := trodAll_cons r1
  obtain ⟨v3, vs3, d3, ds3, p3, q3, rfl, rfl, rfl, h3, r3⟩ := trodAll_cons r2
  obtain ⟨rfl, rfl, rfl⟩ := trodAll_nil r3
  obtain rfl : args = #[v0, v1, v2, v3] := by cases args; simp_all
  obtain ⟨rfl, rfl⟩ := trodVars_none hV
  have k0 := h0
  have lt0 : ∀ x ∈ p0, x.block < W.heap.size := by obtain ⟨m, hm⟩ := k0; exact DataW.trod_lt m _ _ _ hm
  obtain ⟨y0, rfl, w0, s0⟩ : ∃ y : Ms, v0 = .agg #[.int .u64 y.ta, .int .u64 y.rp, .int .u32 y.id, .int .u16 y.op, .int .u16 y.st, .int .u64 y.p, .int .u32 y.o, .int .u8 y.r, .int .u64 y.c, .int .u64 y.ar, .slice y.so y.sn y.sc] ∧ y.has W ∧ y.sn ≤ 140737488351232 := by
    obtain ⟨y, e, hb, hd⟩ := open_msg (hval 0 29 v0 rfl rfl) h0
    refine ⟨y, e, hb, ?_⟩
    rcases hd with h0 | ⟨n, hn, hle⟩
    · omega
    · have hw : n ≤ reachBytes := by
        have := List.all_eq_true.1 hsz _ (DataW.weights_mem_each (j := 0) (t := 29) rfl rfl n hn)
        simpa using this
      unfold reachBytes at hw
      omega
  have k1 := h1
  have lt1 : ∀ x ∈ p1, x.block < W.heap.size := by obtain ⟨m, hm⟩ := k1; exact DataW.trod_lt m _ _ _ hm
  obtain ⟨y1, rfl, w1, s1⟩ : ∃ y : Ms, v1 = .agg #[.int .u64 y.ta, .int .u64 y.rp, .int .u32 y.id, .int .u16 y.op, .int .u16 y.st, .int .u64 y.p, .int .u32 y.o, .int .u8 y.r, .int .u64 y.c, .int .u64 y.ar, .slice y.so y.sn y.sc] ∧ y.has W ∧ y.sn ≤ 140737488351232 := by
    obtain ⟨y, e, hb, hd⟩ := open_msg (hval 1 29 v1 rfl rfl) h1
    refine ⟨y, e, hb, ?_⟩
    rcases hd with h0 | ⟨n, hn, hle⟩
    · omega
    · have hw : n ≤ reachBytes := by
        have := List.all_eq_true.1 hsz _ (DataW.weights_mem_each (j := 1) (t := 29) rfl rfl n hn)
        simpa using this
      unfold reachBytes at hw
      omega
  obtain ⟨a2, rfl, rfl, rfl, w2⟩ := open_int Try.underlying5 (hval 2 5 v2 rfl rfl) h2
  obtain ⟨a3, rfl, rfl, rfl, w3⟩ := open_int Try.underlying5 (hval 3 5 v3 rfl rfl) h3
  clear hA0 hval0
  refine (walk y0 y1 a2 a3 W w0 s0 w1 s1 w2 w3).mono fun e W' ⟨he, bel⟩ => ?_
  subst he
  exact ⟨_, rfl, _, _, _, [], _, [], hW', trodAll_mk1 (shut_bool Try.underlying4 _), (trodAll_cons_mk (Below.trod laidOut (by kernel_rfl) (of_decide_eq_true (by kernel_rfl)) k0 bel lt0) (trodAll_cons_mk (Below.trod laidOut (by kernel_rfl) (of_decide_eq_true (by kernel_rfl)) k1 bel lt1) (trodAll_cons_mk (shut_int Try.underlying5 w2) (trodAll_cons_mk (shut_int Try.underlying5 w3) trodAll_mk0)))), rfl, bel.frame _, fun h => by cases h⟩

theorem over : Rows.servedOnceRow.holds Try.pinned (OpenSpec.ofChange Rows.servedOnceSpec) :=
  OpenClaim.holds_of_wide 3 Try.f3 rfl rfl rfl rfl rfl rfl rfl ⟨rfl, rfl, rfl, rfl, rfl⟩ rfl rfl rfl rfl rfl (by kernel_rfl) Try.func3 (by kernel_rfl)
    (of_decide_eq_true (by kernel_rfl)) (by unfold Func.isWrapper; first | (rw [if_pos (by decide +kernel)]; kernel_rfl) | (rw [if_neg (by decide +kernel)]; exact ⟨rfl, rfl⟩))
    (fun os started H enc _ => lifted os started H enc)
end Go.Proofs.Ytnkfdnmaocfjnaa.servedOnce

namespace Go.Proofs.Ytnkfdnmaocfjnaa
theorem servedOnce_holds : Rows.ServedOnceSaid := servedOnce.over
#print axioms servedOnce_holds
end Go.Proofs.Ytnkfdnmaocfjnaa
