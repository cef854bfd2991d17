/-
  CapsRights: which rights a capability has is what its bits say.
-/
import Derived.Test.YtmbjgndajlomnaaRows
import Derived.Test.YtmbjgndajlomnaaNums
import Derived.Test.YtmbjgndajlomnaaRead
import Derived.WalkKit
import Derived.WalkSpells
import Derived.WalkLawsBesides
import Derived.Deep.QuietTactic
import Derived.BigQuiet
import Derived.ProofKit
import Derived.OpenShut
import Derived.ShutString
import Derived.ChangeOld
import Derived.Below
import Derived.SizedLaws
namespace Go.Proofs.Ytmbjgndajlomnaa

open Go.RowKit
theorem below_one {w w1 : World} (h : Below w.heap.size w w1) {w2 : World} (k : Below w1.heap.size w1 w2) : Below w.heap.size w w2 := h.trans (k.mono h.size)
/- is each of the first k bits of n in r? -/
def hasF (r n : Nat) : Nat → Bool
  | 0 => true
  | k + 1 => hasF r n k && !(decide (n / 2 ^ k % 2 = 1) && decide (r / 2 ^ k % 2 = 0))
theorem hasF_iff (r n k : Nat) : hasF r n k = true ↔ ∀ i, i < k → n.testBit i = true → r.testBit i = true := by
  induction k with
  | zero => simp [hasF]
  | succ k ih =>
    simp only [hasF, Bool.and_eq_true, ih, Bool.not_eq_true', Bool.and_eq_false_iff, decide_eq_false_iff_not]
    constructor
    · rintro ⟨h1, h2⟩ i hi hb
      by_cases hk : i < k
      · exact h1 i hk hb
      · obtain rfl : i = k := by omega
        rw [Nat.testBit_eq_decide_div_mod_eq, decide_eq_true_iff] at hb ⊢
        omega
    · intro h
      refine ⟨fun i hi => h i (by omega), ?_⟩
      have := h k (by omega)
      rw [Nat.testBit_eq_decide_div_mod_eq, Nat.testBit_eq_decide_div_mod_eq, decide_eq_true_iff, decide_eq_true_iff] at this
      omega
theorem hasF_and (r n : Nat) (hn : n ≤ 255) : (((r &&& n : Nat) : Int) == (n : Int)) = hasF r n 8 := by
  rw [Bool.eq_iff_iff, hasF_iff, beq_iff_eq]
  constructor
  · intro h i hi hb
    have e : r &&& n = n := by omega
    rw [← e, Nat.testBit_and, Bool.and_eq_true] at hb
    exact hb.1
  · intro h
    have e : r &&& n = n := by
      apply Nat.eq_of_testBit_eq
      intro i
      rw [Nat.testBit_and]
      by_cases hi : i < 8
      · cases hb : n.testBit i with
        | false => simp
        | true => simp [h i hi hb]
      · have : n.testBit i = false := Nat.testBit_lt_two_pow (by have : 2 ^ 8 ≤ 2 ^ i := Nat.pow_le_pow_right (by omega) (by omega); omega)
        simp [this]
    rw [e]
theorem and_255 (r : Nat) (h : r ≤ 255) : r &&& 255 = r := by
  rw [show (255 : Nat) = 2 ^ 8 - 1 from by decide, Nat.and_two_pow_sub_one_eq_mod]; omega
theorem has_at (p o r c v : Nat) (q : Bool) (w : World) (hr : r ≤ 255) (hv : v ≤ 255) (hq : (((r &&& v : Nat) : Int) == (v : Int)) = q) :
    Calls Try.prog 15 #[.agg #[.int .u64 p, .int .u32 o, .int .u8 r, .int .u64 c], .int .u8 v] w fun e w' => e = .returned (.bool q) ∧ Below w.heap.size w w' :=
  (has_any p o r c v w hr hv).mono fun _ _ h => ⟨by rw [h.1, hq], by rw [h.2]; exact below_alloc _ _⟩
theorem owns_at' (p o r c : Nat) (q : Bool) (w : World) (hq : ((r : Int) == 255) = q) :
    Calls Try.prog 16 #[.agg #[.int .u64 p, .int .u32 o, .int .u8 r, .int .u64 c]] w fun e w' => e = .returned (.bool q) ∧ Below w.heap.size w w' :=
  (owns_any p o r c w).mono fun _ _ h => ⟨by rw [h.1, hq], by rw [h.2]; exact below_alloc _ _⟩
def RightsRel (r n : Nat) (x5 x6 x7 x8 : Value) : Prop := ∃ k : Nat, k ≤ 8 ∧ x8 = .int .i64 k ∧ x5 = .bool (hasF r n k) ∧ x6 = .int .u8 (r / 2 ^ k : Nat) ∧ x7 = .int .u8 (n / 2 ^ k : Nat)
set_option maxHeartbeats 1600000 in
theorem walk_rights (p o r c n : Nat) (w : World) (hr : r ≤ 255) (hn : n ≤ 255) :
    Calls Try.prog 5 #[.agg #[.int .u64 p, .int .u32 o, .int .u8 r, .int .u64 c], .int .u8 n] w fun e w' => e = .returned (.bool true) ∧ Below w.heap.size w w' := by
  have HT : Hid (Below w.heap.size w (w.alloc (.cells #[.int .u64 p, .int .u32 o, .int .u8 r, .int .u64 c] 25))) := below_alloc _ _
  have HX : Hid (Box (w.alloc (.cells #[.int .u64 p, .int .u32 o, .int .u8 r, .int .u64 c] 25)) w.heap.size p o r c) := box_new w p o r c
  obtain ⟨q, hq⟩ : ∃ q : Bool, ((r : Int) == 255) = q := ⟨_, rfl⟩
  have HQ : Hid (((r : Int) == 255) = q) := hq
  have HQ2 : Hid ((((r &&& 255 : Nat) : Int) == ((255 : Nat) : Int)) = q) := by rw [and_255 r hr]; exact hq
  have HN : Hid _ := hasF_and r n hn
  have HZ : Hid ((((r &&& 0 : Nat) : Int) == ((0 : Nat) : Int)) = true) := by show (((r &&& 0 : Nat) : Int) == ((0 : Nat) : Int)) = true; simp
  clear hq
  go_enter Try.func5, Try.ntmps5
  go_wp2_with fail
  refine (awake_any _).mono ?_; rintro e w1 ⟨rfl, bel1⟩
  have b1 : Below w.heap.size w w1 := below_one HT.out bel1
  have HX1 : Hid (Box w1 w.heap.size p o r c) := HX.out.carry bel1
  clear HT HX bel1
  obtain ⟨k0, k1, k2, k3⟩ := HX1.out
  go_wp2
  go_loop [5, 6, 7, 8] (fun x5 x6 x7 x8 => RightsRel r n x5 x6 x7 x8) (fun _ _ _ i => 8 - (intOf i).toNat)
  case atStart => exact ⟨0, by omega, rfl, rfl, by simp, by simp⟩
  case round =>
    obtain ⟨k, hk, rfl, rfl, rfl, rfl⟩ := hrel
    by_cases hk8 : k < 8
    · have hrk : r / 2 ^ k ≤ 255 := Nat.le_trans (Nat.div_le_self _ _) hr
      have hnk : n / 2 ^ k ≤ 255 := Nat.le_trans (Nat.div_le_self _ _) hn
      have HS : Hid (hasF r n (k + 1) = (hasF r n k && !(decide (n / 2 ^ k % 2 = 1) && decide (r / 2 ^ k % 2 = 0)))) := rfl
      have HR1 : Hid (r / 2 ^ (k + 1) = r / 2 ^ k / 2) := by show r / 2 ^ (k + 1) = r / 2 ^ k / 2; rw [Nat.pow_succ, Nat.div_div_eq_div_mul]
      have HN1 : Hid (n / 2 ^ (k + 1) = n / 2 ^ k / 2) := by show n / 2 ^ (k + 1) = n / 2 ^ k / 2; rw [Nat.pow_succ, Nat.div_div_eq_div_mul]
      generalize hx : hasF r n k = m at HS ⊢
      generalize ha : r / 2 ^ k = a at hrk HS HR1 ⊢
      generalize hb : n / 2 ^ k = b at hnk HS HN1 ⊢
      clear hx ha hb
      by_cases h1 : b % 2 = 1
      · have h1' : (b : Int) % 2 = 1 := by omega
        by_cases h2 : a % 2 = 0
        · have h2' : (a : Int) % 2 = 0 := by omega
          go_wp2
          go_round
          case rel => exact ⟨k + 1, by omega, by go_num, by rw [HS.out, decide_eq_true h1, decide_eq_true h2]; simp, by rw [HR1.out]; simp, by rw [HN1.out]; simp⟩
          case measure => simp [intOf]; omega
        · have h2' : ¬ (a : Int) % 2 = 0 := by omega
          go_wp2
          go_round
          case rel => exact ⟨k + 1, by omega, by go_num, by rw [HS.out, decide_eq_false h2]; simp, by rw [HR1.out]; simp, by rw [HN1.out]; simp⟩
          case measure => simp [intOf]; omega
      · have h1' : ¬ (b : Int) % 2 = 1 := by omega
        go_wp2
        go_round
        case rel => exact ⟨k + 1, by omega, by go_num, by rw [HS.out, decide_eq_false h1]; simp, by rw [HR1.out]; simp, by rw [HN1.out]; simp⟩
        case measure => simp [intOf]; omega
    · obtain rfl : k = 8 := by omega
      generalize hasF r n 8 = m at HN ⊢
      go_wp2
      have bb : Below w.heap.size w w1.drew := b1.drew
      have hS : Hid (Box w1.drew w.heap.size p o r c) := HX1
      have hq : ((r : Int) == 255) = q := HQ.out
      go_region_held (fun w' => w'.cell? ⟨w.heap.size, 0, none⟩ = some (.int .u64 p) ∧ w'.cell? ⟨w.heap.size, 1, none⟩ = some (.int .u32 o) ∧ w'.cell? ⟨w.heap.size, 2, none⟩ = some (.int .u8 r) ∧ w'.cell? ⟨w.heap.size, 3, none⟩ = some (.int .u64 c))
        (exact hS.out)
        (first
          | (go_at_call 16; refine (owns_at' p o r c q _ HQ.out).mono ?_; rintro e wx ⟨rfl, bel⟩; have bb := below_one bb bel; have hS : Hid (Box wx w.heap.size p o r c) := hS.out.carry bel; clear bel)
          | (go_at_call_of 15 (Value.int IntKind.u8 255); refine (has_at p o r c 255 q _ hr (by omega) HQ2.out).mono ?_; rintro e wx ⟨rfl, bel⟩; have bb := below_one bb bel; have hS : Hid (Box wx w.heap.size p o r c) := hS.out.carry bel; clear bel)
          | (go_at_call_of 15 (Value.int IntKind.u8 0); refine (has_at p o r c 0 true _ hr (by omega) HZ.out).mono ?_; rintro e wx ⟨rfl, bel⟩; have bb := below_one bb bel; have hS : Hid (Box wx w.heap.size p o r c) := hS.out.carry bel; clear bel)
          | (go_at_call 15; refine (has_at p o r c n m _ hr hn HN.out).mono ?_; rintro e wx ⟨rfl, bel⟩; have bb := below_one bb bel; have hS : Hid (Box wx w.heap.size p o r c) := hS.out.carry bel; clear bel))
      all_goals go_wp2
      all_goals go_ret
      all_goals exact ⟨rfl, bb⟩

end Go.Proofs.Ytmbjgndajlomnaa

namespace Go.Proofs.Ytmbjgndajlomnaa.capsRights
open Go.ChangeShapes Go.WideShapes Go.ChangeAt Go.RowKit
set_option linter.unusedVariables false

theorem own : ownKnob Try.prog.godebug = none := by kernel_rfl
theorem laidOut : laidOutB Try.prog = true := by kernel_rfl

theorem walk (p0 o0 r0 c0 : Nat) (a1 : Int) (w : World) (w0 : p0 ≤ 18446744073709551615) (x0 : o0 ≤ 4294967295) (y0 : r0 ≤ 255) (u0 : c0 ≤ 18446744073709551615) (w1 : (Lit.int .u8 a1).wf = true) :
    Calls Try.prog 5 #[.agg #[.int .u64 p0, .int .u32 o0, .int .u8 r0, .int .u64 c0], .int .u8 a1] w fun e w' => e = .returned (.bool true) ∧ Below w.heap.size w w' :=
  by obtain ⟨v, rfl, hv⟩ := u8_nat w1; exact walk_rights p0 o0 r0 c0 v w y0 hv

set_option maxRecDepth 100000 in
theorem lifted (os : Os) (started : os.Started) (H : Type) (enc : TypeId × Value → H) :
    ReturnsInHanded {} Try.checked os 5 .any (Rows.capsRightsSpec.pre6 enc Try.prog Try.f5 Rows.capsRightsRow.domain false) (Rows.capsRightsSpec.post enc Try.prog Try.f5 false true false false) := by
  refine returnsInHanded_of_change (C := Try.checked) own started (by kernel_rfl) Try.func5
    (ChangeSpec.witness6 (enc := enc) (C := Try.checked) false ⟨#[], #[.agg #[.int .u64 0, .int .u32 0, .int .u8 0, .int .u64 0], .int .u8 0], []⟩ 8 (by kernel_rfl) (by kernel_rfl) (by kernel_rfl) (by kernel_rfl)) ?_
  intro W base args ds gs before hval0 hW hcnd _
  have hval : ∀ (j : Nat) t v, Try.f5.params[j]? = some t → args[j]? = some v → Value.okWide Try.prog W .any base t v := hval0
  have hW' := hW
  obtain ⟨p, q, hA0, hV, rfl, hfz, hnd⟩ := hW
  have hA : DataW.TrodAll enc Try.prog W 0 (fun _ => true) true Try.f5.params.toList args.toList ds p := hA0
  rw [Try.params5] at hA hval
  obtain ⟨v0, vs0, d0, ds0, p0, q0, hargs, rfl, rfl, h0, r0⟩ := trodAll_cons hA
  obtain ⟨v1, vs1, d1, ds1, p1, q1, rfl, rfl, rfl, h1, r1⟩ := trodAll_cons r0
  obtain ⟨rfl, rfl, rfl⟩ := trodAll_nil r1
  obtain rfl : args = #[v0, v1] := by cases args; simp_all
  obtain ⟨rfl, rfl⟩ := trodVars_none hV
  have k0 := h0
  have lt0 : ∀ x ∈ p0, x.block < W.heap.size := by obtain ⟨m, hm⟩ := k0; exact DataW.trod_lt m _ _ _ hm
  obtain ⟨q0, o0, r0', c0, rfl, w0, x0, y0, u0⟩ := open_cap (hval 0 25 v0 rfl rfl) h0
  obtain ⟨a1, rfl, rfl, rfl, w1⟩ := open_int Try.underlying5 (hval 1 5 v1 rfl rfl) h1
  clear hA0 hval0
  refine (walk q0 o0 r0' c0 a1 W w0 x0 y0 u0 w1).mono fun e W' ⟨he, bel⟩ => ?_
  subst he
  exact ⟨_, rfl, _, _, _, [], _, [], hW', trodAll_mk1 (shut_bool Try.underlying4 _), (trodAll_cons_mk (Below.trod laidOut (by kernel_rfl) (of_decide_eq_true (by kernel_rfl)) k0 bel lt0) (trodAll_cons_mk (shut_int Try.underlying5 w1) trodAll_mk0)), rfl, bel.frame _, fun h => by cases h⟩

theorem over : Rows.capsRightsRow.holds Try.pinned (OpenSpec.ofChange Rows.capsRightsSpec) :=
  OpenClaim.holds_of_wide 5 Try.f5 rfl rfl rfl rfl rfl rfl rfl ⟨rfl, rfl, rfl, rfl, rfl⟩ rfl rfl rfl rfl rfl (by kernel_rfl) Try.func5 (by kernel_rfl)
    (of_decide_eq_true (by kernel_rfl)) (by unfold Func.isWrapper; first | (rw [if_pos (by decide +kernel)]; kernel_rfl) | (rw [if_neg (by decide +kernel)]; exact ⟨rfl, rfl⟩))
    (fun os started H enc _ => lifted os started H enc)
end Go.Proofs.Ytmbjgndajlomnaa.capsRights

namespace Go.Proofs.Ytmbjgndajlomnaa
theorem capsRights_holds : Rows.CapsRightsSaid := capsRights.over
#print axioms capsRights_holds
end Go.Proofs.Ytmbjgndajlomnaa
