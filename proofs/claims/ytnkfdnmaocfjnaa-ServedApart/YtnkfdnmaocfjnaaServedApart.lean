/-
  ServedApart (P22.1, P22.2): requests of unlike numbers, or to be answered to unlike ports, are unlike: each has its own reply. No condition: every input that can be read.
-/
import Derived.Test.YtnkfdnmaocfjnaaRows
import Derived.Test.YtnkfdnmaocfjnaaNApartW
import Derived.WalkKit
import Derived.WalkSpells
import Derived.WalkLawsBesides
import Derived.Deep.QuietTactic
import Derived.BigQuiet
import Derived.ProofKit
import Derived.OpenShut
import Derived.ShutString
import Derived.ChangeOld
import Derived.Below
import Derived.SizedLaws
namespace Go.Proofs.Ytnkfdnmaocfjnaa


end Go.Proofs.Ytnkfdnmaocfjnaa

namespace Go.Proofs.Ytnkfdnmaocfjnaa.servedApart
open Go.ChangeShapes Go.WideShapes Go.ChangeAt Go.RowKit
set_option linter.unusedVariables false

theorem own : ownKnob Try.prog.godebug = none := by kernel_rfl
theorem laidOut : laidOutB Try.prog = true := by kernel_rfl

theorem walk (y0 : Ms) (y1 : Ms) (y2 : Ms) (y3 : Ms) (w : World) (w0 : y0.has w) (s0 : y0.sn ≤ 140737488351232) (w1 : y1.has w) (s1 : y1.sn ≤ 140737488351232) (w2 : y2.has w) (s2 : y2.sn ≤ 140737488351232) (w3 : y3.has w) (s3 : y3.sn ≤ 140737488351232) :
    Calls Try.prog 4 #[.agg #[.int .u64 y0.ta, .int .u64 y0.rp, .int .u32 y0.id, .int .u16 y0.op, .int .u16 y0.st, .int .u64 y0.p, .int .u32 y0.o, .int .u8 y0.r, .int .u64 y0.c, .int .u64 y0.ar, .slice y0.so y0.sn y0.sc], .agg #[.int .u64 y1.ta, .int .u64 y1.rp, .int .u32 y1.id, .int .u16 y1.op, .int .u16 y1.st, .int .u64 y1.p, .int .u32 y1.o, .int .u8 y1.r, .int .u64 y1.c, .int .u64 y1.ar, .slice y1.so y1.sn y1.sc], .agg #[.int .u64 y2.ta, .int .u64 y2.rp, .int .u32 y2.id, .int .u16 y2.op, .int .u16 y2.st, .int .u64 y2.p, .int .u32 y2.o, .int .u8 y2.r, .int .u64 y2.c, .int .u64 y2.ar, .slice y2.so y2.sn y2.sc], .agg #[.int .u64 y3.ta, .int .u64 y3.rp, .int .u32 y3.id, .int .u16 y3.op, .int .u16 y3.st, .int .u64 y3.p, .int .u32 y3.o, .int .u8 y3.r, .int .u64 y3.c, .int .u64 y3.ar, .slice y3.so y3.sn y3.sc]] w fun e w' => e = .returned (.bool true) ∧ Below w.heap.size w w' :=
  walk_apart y0 y1 y2 y3 w w2 w3 (by omega) (by omega)

set_option maxRecDepth 100000 in
theorem lifted (os : Os) (started : os.Started) (H : Type) (enc : TypeId × Value → H) :
    ReturnsInHanded {} Try.checked os 4 .any (Rows.servedApartSpec.pre6 enc Try.prog Try.f4 Rows.servedApartRow.domain false) (Rows.servedApartSpec.post enc Try.prog Try.f4 false true false false) := by
  refine returnsInHanded_of_change_sized (C := Try.checked) own started (by kernel_rfl) Try.func4
    (ChangeSpec.witness6 (enc := enc) (C := Try.checked) false ⟨#[], #[.agg #[.int .u64 0, .int .u64 0, .int .u32 0, .int .u16 0, .int .u16 0, .int .u64 0, .int .u32 0, .int .u8 0, .int .u64 0, .int .u64 0, .slice none 0 0], .agg #[.int .u64 0, .int .u64 0, .int .u32 0, .int .u16 0, .int .u16 0, .int .u64 0, .int .u32 0, .int .u8 0, .int .u64 0, .int .u64 0, .slice none 0 0], .agg #[.int .u64 0, .int .u64 0, .int .u32 0, .int .u16 0, .int .u16 0, .int .u64 0, .int .u32 0, .int .u8 0, .int .u64 0, .int .u64 0, .slice none 0 0], .agg #[.int .u64 0, .int .u64 0, .int .u32 0, .int .u16 0, .int .u16 0, .int .u64 0, .int .u32 0, .int .u8 0, .int .u64 0, .int .u64 0, .slice none 0 0]], []⟩ 8 (by kernel_rfl) (by kernel_rfl) (by kernel_rfl) (by kernel_rfl)) ?_
  intro W base args ds gs before hval0 hW hcnd hsz0 _
  have hval : ∀ (j : Nat) t v, Try.f4.params[j]? = some t → args[j]? = some v → Value.okWide Try.prog W .any base t v := hval0
  have hW' := hW
  obtain ⟨p, q, hA0, hV, rfl, hfz, hnd⟩ := hW
  have hA : DataW.TrodAll enc Try.prog W 0 (fun _ => true) true Try.f4.params.toList args.toList ds p := hA0
  have hsz : (DataW.weightsEach Try.prog (Try.f4.params.toList ++ Rows.servedApartSpec.plain.varTypes Try.prog) (ds ++ gs)).all (· ≤ reachBytes) = true := hsz0
  rw [Try.params4] at hA hval hsz
  obtain ⟨v0, vs0, d0, ds0, p0, q0, hargs, rfl, rfl, h0, r0⟩ := trodAll_cons hA
  obtain ⟨v1, vs1, d1, ds1, p1, q1, rfl, rfl, rfl, h1, r1⟩ := trodAll_cons r0
  obtain ⟨v2, vs2, d2, ds2, p2, q2, rfl, rfl, rfl, h2, r2⟩ := trodAll_cons r1
  obtain ⟨v3, vs3, d3, ds3, p3, q3, rfl, rfl, rfl, h3, r3⟩ := trodAll_cons r2
  obtain ⟨rfl, rfl, rfl⟩ := trodAll_nil r3
  obtain rfl : args = #[v0, v1, v2, v3] := by cases args; simp_all
  obtain ⟨rfl, rfl⟩ := trodVars_none hV
  have k0 := h0
  have lt0 : ∀ x ∈ p0, x.block < W.heap.size := by obtain ⟨m, hm⟩ := k0; exact DataW.trod_lt m _ _ _ hm
  obtain ⟨y0, rfl, w0, s0⟩ : ∃ y : Ms, v0 = .agg #[.int .u64 y.ta, .int .u64 y.rp, .int .u32 y.id, .int .u16 y.op, .int .u16 y.st, .int .u64 y.p, .int .u32 y.o, .int .u8 y.r, .int .u64 y.c, .int .u64 y.ar, .slice y.so y.sn y.sc] ∧ y.has W ∧ y.sn ≤ 140737488351232 := by
    obtain ⟨y, e, hb, hd⟩ := open_msg (hval 0 29 v0 rfl rfl) h0
    refine ⟨y, e, hb, ?_⟩
    rcases hd with h0 | ⟨n, hn, hle⟩
    · omega
    · have hw : n ≤ reachBytes := by
        have := List.all_eq_true.1 hsz _ (DataW.weights_mem_each (j := 0) (t := 29) rfl rfl n hn)
        simpa using this
      unfold reachBytes at hw
      omega
  have k1 := h1
  have lt1 : ∀ x ∈ p1, x.block < W.heap.size := by obtain ⟨m, hm⟩ := k1; exact DataW.trod_lt m _ _ _ hm
  obtain ⟨y1, rfl, w1, s1⟩ : ∃ y : Ms, v1 = .agg #[.int .u64 y.ta, .int .u64 y.rp, .int .u32 y.id, .int .u16 y.op, .int .u16 y.st, .int .u64 y.p, .int .u32 y.o, .int .u8 y.r, .int .u64 y.c, .int .u64 y.ar, .slice y.so y.sn y.sc] ∧ y.has W ∧ y.sn ≤ 140737488351232 := by
    obtain ⟨y, e, hb, hd⟩ := open_msg (hval 1 29 v1 rfl rfl) h1
    refine ⟨y, e, hb, ?_⟩
    rcases hd with h0 | ⟨n, hn, hle⟩
    · omega
    · have hw : n ≤ reachBytes := by
        have := List.all_eq_true.1 hsz _ (DataW.weights_mem_each (j := 1) (t := 29) rfl rfl n hn)
        simpa using this
      unfold reachBytes at hw
      omega
  have k2 := h2
  have lt2 : ∀ x ∈ p2, x.block < W.heap.size := by obtain ⟨m, hm⟩ := k2; exact DataW.trod_lt m _ _ _ hm
  obtain ⟨y2, rfl, w2, s2⟩ : ∃ y : Ms, v2 = .agg #[.int .u64 y.ta, .int .u64 y.rp, .int .u32 y.id, .int .u16 y.op, .int .u16 y.st, .int .u64 y.p, .int .u32 y.o, .int .u8 y.r, .int .u64 y.c, .int .u64 y.ar, .slice y.so y.sn y.sc] ∧ y.has W ∧ y.sn ≤ 140737488351232 := by
    obtain ⟨y, e, hb, hd⟩ := open_msg (hval 2 29 v2 rfl rfl) h2
    refine ⟨y, e, hb, ?_⟩
    rcases hd with h0 | ⟨n, hn, hle⟩
    · omega
    · have hw : n ≤ reachBytes := by
        have := List.all_eq_true.1 hsz _ (DataW.weights_mem_each (j := 2) (t := 29) rfl rfl n hn)
        simpa using this
      unfold reachBytes at hw
      omega
  have k3 := h3
  have lt3 : ∀ x ∈ p3, x.block < W.heap.size := by obtain ⟨m, hm⟩ := k3; exact DataW.trod_lt m _ _ _ hm
  obtain ⟨y3, rfl, w3, s3⟩ : ∃ y : Ms, v3 = .agg #[.int .u64 y.ta, .int .u64 y.rp, .int .u32 y.id, .int .u16 y.op, .int .u16 y.st, .int .u64 y.p, .int .u32 y.o, .int .u8 y.r, .int .u64 y.c, .int .u64 y.ar, .slice y.so y.sn y.sc] ∧ y.has W ∧ y.sn ≤ 140737488351232 := by
    obtain ⟨y, e, hb, hd⟩ := open_msg (hval 3 29 v3 rfl rfl) h3
    refine ⟨y, e, hb, ?_⟩
    rcases hd with h0 | ⟨n, hn, hle⟩
    · omega
    · have hw : n ≤ reachBytes := by
        have := List.all_eq_true.1 hsz _ (DataW.weights_mem_each (j := 3) (t := 29) rfl rfl n hn)
        simpa using this
      unfold reachBytes at hw
      omega
  clear hA0 hval0
  refine (walk y0 y1 y2 y3 W w0 s0 w1 s1 w2 s2 w3 s3).mono fun e W' ⟨he, bel⟩ => ?_
  subst he
  exact ⟨_, rfl, _, _, _, [], _, [], hW', trodAll_mk1 (shut_bool Try.underlying4 _), (trodAll_cons_mk (Below.trod laidOut (by kernel_rfl) (of_decide_eq_true (by kernel_rfl)) k0 bel lt0) (trodAll_cons_mk (Below.trod laidOut (by kernel_rfl) (of_decide_eq_true (by kernel_rfl)) k1 bel lt1) (trodAll_cons_mk (Below.trod laidOut (by kernel_rfl) (of_decide_eq_true (by kernel_rfl)) k2 bel lt2) (trodAll_cons_mk (Below.trod laidOut (by kernel_rfl) (of_decide_eq_true (by kernel_rfl)) k3 bel lt3) trodAll_mk0)))), rfl, bel.frame _, fun h => by cases h⟩

theorem over : Rows.servedApartRow.holds Try.pinned (OpenSpec.ofChange Rows.servedApartSpec) :=
  OpenClaim.holds_of_wide 4 Try.f4 rfl rfl rfl rfl rfl rfl rfl ⟨rfl, rfl, rfl, rfl, rfl⟩ rfl rfl rfl rfl rfl (by kernel_rfl) Try.func4 (by kernel_rfl)
    (of_decide_eq_true (by kernel_rfl)) (by unfold Func.isWrapper; first | (rw [if_pos (by decide +kernel)]; kernel_rfl) | (rw [if_neg (by decide +kernel)]; exact ⟨rfl, rfl⟩))
    (fun os started H enc _ => lifted os started H enc)
end Go.Proofs.Ytnkfdnmaocfjnaa.servedApart

namespace Go.Proofs.Ytnkfdnmaocfjnaa
theorem servedApart_holds : Rows.ServedApartSaid := servedApart.over
#print axioms servedApart_holds
end Go.Proofs.Ytnkfdnmaocfjnaa
