/-
  CapsEncode: a capability's bytes are what the document says; one that may not be has none.
-/
import Derived.Test.YtmbjgndajlomnaaRows
import Derived.Test.YtmbjgndajlomnaaMore
import Derived.Test.YtmbjgndajlomnaaRead
import Derived.WalkKit
import Derived.WalkSpells
import Derived.WalkLawsBesides
import Derived.Deep.QuietTactic
import Derived.BigQuiet
import Derived.ProofKit
import Derived.OpenShut
import Derived.ShutString
import Derived.ChangeOld
import Derived.Below
import Derived.SizedLaws
namespace Go.Proofs.Ytmbjgndajlomnaa

open Go.RowKit
theorem below_one {w w1 : World} (h : Below w.heap.size w w1) {w2 : World} (k : Below w1.heap.size w1 w2) : Below w.heap.size w w2 := h.trans (k.mono h.size)
set_option maxHeartbeats 1600000 in
theorem walk_encode (p o r c : Nat) (w : World) (hp : p ≤ 18446744073709551615) (ho : o ≤ 4294967295) (hr : r ≤ 255) (hc : c ≤ 18446744073709551615) :
    Calls Try.prog 3 #[.agg #[.int .u64 p, .int .u32 o, .int .u8 r, .int .u64 c]] w fun e w' => e = .returned (.bool true) ∧ Below w.heap.size w w' := by
  obtain ⟨p', ep⟩ : ∃ x, p % 281474976710656 = x := ⟨_, rfl⟩
  obtain ⟨o', eo⟩ : ∃ x, o % 16777216 = x := ⟨_, rfl⟩
  obtain ⟨c', ec⟩ : ∃ x, c % 281474976710656 = x := ⟨_, rfl⟩
  have hp' : p' ≤ 281474976710655 := by omega
  have ho' : o' ≤ 16777215 := by omega
  have hc' : c' ≤ 281474976710655 := by omega
  have EP : Hid _ := ep
  have EO : Hid _ := eo
  have EC : Hid _ := ec
  have hm' := mayD_true hp' ho' hc'
  clear ep eo ec
  have HT : Hid (Below w.heap.size w (w.alloc (.cells #[.int .u64 p, .int .u32 o, .int .u8 r, .int .u64 c] 25))) := below_alloc _ _
  have HX : Hid (Box (w.alloc (.cells #[.int .u64 p, .int .u32 o, .int .u8 r, .int .u64 c] 25)) w.heap.size p o r c) := box_new w p o r c
  go_enter Try.func3, Try.ntmps3
  go_wp2_with fail
  refine (awake_any _).mono ?_; rintro e w1 ⟨rfl, bel1⟩
  have b1 : Below w.heap.size w w1 := below_one HT.out bel1
  have HX1 : Hid (Box w1 w.heap.size p o r c) := HX.out.carry bel1
  clear HT HX bel1
  obtain ⟨k0, k1, k2, k3⟩ := HX1.out
  go_wp2_with fail
  refine (make_at p o r c p' o' c' _ hp ho hr hc EP.out EO.out EC.out).mono ?_; rintro e w2 ⟨rfl, bel2⟩
  have b2 : Below w.heap.size w w2 := below_one b1 bel2
  have HX2 : Hid (Box w2 w.heap.size p o r c) := HX1.out.carry bel2
  clear bel2 b1 HX1 k0 k1 k2 k3
  go_wp2
  have bb : Below w.heap.size w (w2.alloc (.cells #[.int .u64 p', .int .u32 o', .int .u8 r, .int .u64 c'] 25)).drew := (b2.alloc b2.size _).drew
  have hS : Hid (Box (w2.alloc (.cells #[.int .u64 p', .int .u32 o', .int .u8 r, .int .u64 c'] 25)).drew w.heap.size p o r c ∧ Box (w2.alloc (.cells #[.int .u64 p', .int .u32 o', .int .u8 r, .int .u64 c'] 25)).drew w2.heap.size p' o' r c') := ⟨HX2.out.carry (below_alloc _ _).drew, box_new _ _ _ _ _⟩
  go_region_held (fun w' => (w'.cell? ⟨w.heap.size, 0, none⟩ = some (.int .u64 p) ∧ w'.cell? ⟨w.heap.size, 1, none⟩ = some (.int .u32 o) ∧ w'.cell? ⟨w.heap.size, 2, none⟩ = some (.int .u8 r) ∧ w'.cell? ⟨w.heap.size, 3, none⟩ = some (.int .u64 c)) ∧
      (w'.cell? ⟨w2.heap.size, 0, none⟩ = some (.int .u64 p') ∧ w'.cell? ⟨w2.heap.size, 1, none⟩ = some (.int .u32 o') ∧ w'.cell? ⟨w2.heap.size, 2, none⟩ = some (.int .u8 r) ∧ w'.cell? ⟨w2.heap.size, 3, none⟩ = some (.int .u64 c')))
    (exact hS.out)
    (first
      | (go_at_call 10; refine (may_at _ _ _ _ _ (by omega) (by omega) hr (by omega)).mono ?_; rintro e wx ⟨rfl, bel⟩; have bb := below_one bb bel; have hS : Hid (Box wx w.heap.size p o r c ∧ Box wx w2.heap.size p' o' r c') := ⟨hS.out.1.carry bel, hS.out.2.carry bel⟩; clear bel)
      | (go_at_call 11; refine (own_may _ _ _ _ _ hp ho hr hc).mono ?_; rintro e wx ⟨rfl, bel⟩; have bb := below_one bb bel; have hS : Hid (Box wx w.heap.size p o r c ∧ Box wx w2.heap.size p' o' r c') := ⟨hS.out.1.carry bel, hS.out.2.carry bel⟩; clear bel)
      | (go_at_call 12; refine (encode_yes _ _ _ _ _ hp' ho' hr hc').mono ?_; rintro e wx ⟨ge, rfl, hge, howne, bel⟩; have bb := below_one bb bel; have hS : Hid (Box wx w.heap.size p o r c ∧ Box wx w2.heap.size p' o' r c') := ⟨hS.out.1.carry bel, hS.out.2.carry bel⟩; have hbe : Hid (Bts wx (some ⟨ge, 0, none⟩) 16 16 (capF p' o' r c')) := owns_at howne; have cve := conv_bts hbe.out; clear bel)
      | (go_at_call 13; have hold := hbe; refine (own_bytes _ _ _ _ _ hp' ho' hr hc').mono ?_; rintro e wx ⟨gf, cf, rfl, hgf, hownf, bel⟩; have bb := below_one bb bel; have hS : Hid (Box wx w.heap.size p o r c ∧ Box wx w2.heap.size p' o' r c') := ⟨hS.out.1.carry bel, hS.out.2.carry bel⟩; have cvf := conv_bts (owns_at hownf); have cve := conv_bts (hbe.out.carry bel); clear bel))
  all_goals obtain ⟨⟨k0, k1, k2, k3⟩, _⟩ := hS.out
  all_goals go_wp2_with fail
  all_goals (refine (own_may _ _ _ _ _ hp ho hr hc).mono ?_; rintro e wy ⟨rfl, bel⟩)
  all_goals have bb := below_one bb bel
  all_goals obtain ⟨k0, k1, k2, k3⟩ := hS.out.1.carry bel
  all_goals clear bel
  all_goals by_cases hm : p ≤ 281474976710655 ∧ o ≤ 16777215 ∧ c ≤ 281474976710655
  all_goals first
    | (have hd := mayD_true hm.1 hm.2.1 hm.2.2; rw [hd]; clear hm; go_wp2; go_ret; exact ⟨rfl, bb⟩)
    | (have hd := mayD_false hm; rw [hd]; have HM : Hid _ := hm; clear hm; go_wp2_with fail; refine (encode_no _ _ _ _ _ hp ho hr hc HM.out).mono ?_; rintro e wz ⟨rfl, bel⟩; have bb := below_one bb bel; go_wp2; go_ret; exact ⟨rfl, bb⟩)

end Go.Proofs.Ytmbjgndajlomnaa

namespace Go.Proofs.Ytmbjgndajlomnaa.capsEncode
open Go.ChangeShapes Go.WideShapes Go.ChangeAt Go.RowKit
set_option linter.unusedVariables false

theorem own : ownKnob Try.prog.godebug = none := by kernel_rfl
theorem laidOut : laidOutB Try.prog = true := by kernel_rfl

theorem walk (p0 o0 r0 c0 : Nat) (w : World) (w0 : p0 ≤ 18446744073709551615) (x0 : o0 ≤ 4294967295) (y0 : r0 ≤ 255) (u0 : c0 ≤ 18446744073709551615) :
    Calls Try.prog 3 #[.agg #[.int .u64 p0, .int .u32 o0, .int .u8 r0, .int .u64 c0]] w fun e w' => e = .returned (.bool true) ∧ Below w.heap.size w w' :=
  walk_encode p0 o0 r0 c0 w w0 x0 y0 u0

set_option maxRecDepth 100000 in
theorem lifted (os : Os) (started : os.Started) (H : Type) (enc : TypeId × Value → H) :
    ReturnsInHanded {} Try.checked os 3 .any (Rows.capsEncodeSpec.pre6 enc Try.prog Try.f3 Rows.capsEncodeRow.domain false) (Rows.capsEncodeSpec.post enc Try.prog Try.f3 false true false false) := by
  refine returnsInHanded_of_change (C := Try.checked) own started (by kernel_rfl) Try.func3
    (ChangeSpec.witness6 (enc := enc) (C := Try.checked) false ⟨#[], #[.agg #[.int .u64 0, .int .u32 0, .int .u8 0, .int .u64 0]], []⟩ 8 (by kernel_rfl) (by kernel_rfl) (by kernel_rfl) (by kernel_rfl)) ?_
  intro W base args ds gs before hval0 hW hcnd _
  have hval : ∀ (j : Nat) t v, Try.f3.params[j]? = some t → args[j]? = some v → Value.okWide Try.prog W .any base t v := hval0
  have hW' := hW
  obtain ⟨p, q, hA0, hV, rfl, hfz, hnd⟩ := hW
  have hA : DataW.TrodAll enc Try.prog W 0 (fun _ => true) true Try.f3.params.toList args.toList ds p := hA0
  rw [Try.params3] at hA hval
  obtain ⟨v0, vs0, d0, ds0, p0, q0, hargs, rfl, rfl, h0, r0⟩ := trodAll_cons hA
  obtain ⟨rfl, rfl, rfl⟩ := trodAll_nil r0
  obtain rfl : args = #[v0] := by cases args; simp_all
  obtain ⟨rfl, rfl⟩ := trodVars_none hV
  have k0 := h0
  have lt0 : ∀ x ∈ p0, x.block < W.heap.size := by obtain ⟨m, hm⟩ := k0; exact DataW.trod_lt m _ _ _ hm
  obtain ⟨q0, o0, r0', c0, rfl, w0, x0, y0, u0⟩ := open_cap (hval 0 25 v0 rfl rfl) h0
  clear hA0 hval0
  refine (walk q0 o0 r0' c0 W w0 x0 y0 u0).mono fun e W' ⟨he, bel⟩ => ?_
  subst he
  exact ⟨_, rfl, _, _, _, [], _, [], hW', trodAll_mk1 (shut_bool Try.underlying4 _), (trodAll_cons_mk (Below.trod laidOut (by kernel_rfl) (of_decide_eq_true (by kernel_rfl)) k0 bel lt0) trodAll_mk0), rfl, bel.frame _, fun h => by cases h⟩

theorem over : Rows.capsEncodeRow.holds Try.pinned (OpenSpec.ofChange Rows.capsEncodeSpec) :=
  OpenClaim.holds_of_wide 3 Try.f3 rfl rfl rfl rfl rfl rfl rfl ⟨rfl, rfl, rfl, rfl, rfl⟩ rfl rfl rfl rfl rfl (by kernel_rfl) Try.func3 (by kernel_rfl)
    (of_decide_eq_true (by kernel_rfl)) (by unfold Func.isWrapper; first | (rw [if_pos (by decide +kernel)]; kernel_rfl) | (rw [if_neg (by decide +kernel)]; exact ⟨rfl, rfl⟩))
    (fun os started H enc _ => lifted os started H enc)
end Go.Proofs.Ytmbjgndajlomnaa.capsEncode

namespace Go.Proofs.Ytmbjgndajlomnaa
theorem capsEncode_holds : Rows.CapsEncodeSaid := capsEncode.over
#print axioms capsEncode_holds
end Go.Proofs.Ytmbjgndajlomnaa
