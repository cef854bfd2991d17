/-
  CodecTwo (P2.1): two numbers that go into as many bytes have the same bytes just if they are the same. No condition: every input that can be read.
-/
import Derived.Test.YtpcaipmdinbdfaaRows
import Derived.Test.YtpcaipmdinbdfaaMore
import Derived.WalkKit
import Derived.WalkSpells
import Derived.WalkLawsBesides
import Derived.Deep.QuietTactic
import Derived.BigQuiet
import Derived.Deep.RegionHeld
import Derived.Deep.CutRange
import Derived.ProofKit
import Derived.OpenShut
import Derived.ShutString
import Derived.ChangeOld
import Derived.Below
import Derived.SizedLaws
namespace Go.Proofs.Ytpcaipmdinbdfaa

open Go.RowKit
theorem put_at (v m : Nat) (x : Int) (w : World) (hx : x = (m : Int)) (h1 : 1 ≤ m) (h8 : m ≤ 8) (hv : v ≤ 18446744073709551615) :
    Calls Try.prog 10 #[.slice none 0 0, .int .u64 v, .int .i64 x] w fun e w' => ∃ co cc, e = .returned (.slice co m cc) ∧ Bts w' co m cc (putF v m) ∧ Below w.heap.size w w' := by
  subst hx
  refine (put_yes none 0 0 v m [] w (bts_nil w) (by omega) h1 h8 hv).mono ?_
  rintro e w' ⟨rfl, hown, bel⟩
  obtain ⟨po, pc, hpv, hb⟩ := owns_bts hown
  obtain ⟨rfl, _, rfl⟩ := Value.slice.inj hpv
  rw [Nat.zero_add, List.nil_append] at hb
  exact ⟨_, _, by rw [Nat.zero_add], hb, bel⟩
theorem take_all (l : List UInt8) (m : Nat) (h : l.length = m) : (l.drop 0).take m = l := by rw [List.drop_zero, List.take_of_length_le (by omega)]
theorem get_at (co : Option Addr) (m cc : Nat) (v : Nat) (x : Int) (w : World) (hx : x = (m : Int)) (hb : Bts w co m cc (putF v m)) (h1 : 1 ≤ m) (h8 : m ≤ 8) (hv : v < 256 ^ m) :
    Calls Try.prog 12 #[.slice co m cc, .int .i64 0, .int .i64 x] w fun e w' => e = .returned (.tuple #[.int .u64 (v : Nat), .bool true]) ∧ Below w.heap.size w w' := by
  subst hx
  refine (get_yes co m cc 0 m _ w hb h1 h8 (by omega)).mono ?_
  rintro e w' ⟨rfl, bel⟩
  rw [take_all _ _ (putF_len v m), numF_putF, Nat.mod_eq_of_lt hv]
  exact ⟨rfl, bel⟩
theorem str_list (l : List UInt8) : (str l).toList = l := by
  unfold str; exact ByteArray.toList_eq _
theorem str_eq (a b m : Nat) (ha : a < 256 ^ m) (hb : b < 256 ^ m) : (((str (putF a m)).toList == (str (putF b m)).toList) == ((a : Int) == (b : Int))) = true := by
  rw [str_list, str_list]
  by_cases h : a = b
  · subst h; simp
  · have h1 : ¬ putF a m = putF b m := fun e => h (putF_inj a b m ha hb e)
    have h2 : ¬ (a : Int) = (b : Int) := by omega
    rw [beq_eq_false_iff_ne.2 h1, beq_eq_false_iff_ne.2 h2]; rfl
theorem below_two {B : Nat} {w w3 wx wy : World} (b3 : Below B w w3) (hB : B ≤ w3.heap.size) (b1 : Below w3.drew.heap.size w3.drew wx) (b2 : Below wx.heap.size wx wy) : Below B w wy :=
  (b3.drew.trans (b1.mono hB)).trans (b2.mono (Nat.le_trans hB b1.size))
set_option maxHeartbeats 3200000 in
theorem walk_two_eight (a b : Nat) (n : Nat) (w : World) (ha : a ≤ 18446744073709551615) (hb : b ≤ 18446744073709551615) (hn : n ≤ 255) (hj : (n : Int) % 8 = 7) :
    Calls Try.prog 8 #[.int .u64 a, .int .u64 b, .int .u8 n] w fun e w' => e = .returned (.bool true) ∧ Below w.heap.size w w' := by
  have HVA : Hid (a < 256 ^ 8) := by show a < 256 ^ 8; omega
  have HVB : Hid (b < 256 ^ 8) := by show b < 256 ^ 8; omega
  have HEQ : Hid _ := str_eq a b 8 HVA.out HVB.out
  go_enter Try.func8, Try.ntmps8
  go_wp2_with fail
  refine (awake_any _).mono ?_; rintro e w1 ⟨rfl, bel1⟩
  go_wp2_with fail
  refine (put_at a 8 _ _ (by omega) (by omega) (by omega) (by omega)).mono ?_; rintro e w2 ⟨co, cc, rfl, hb2, bel2⟩
  have b2 : Below w.heap.size w w2 := bel1.trans (bel2.mono bel1.size)
  have HB2 : Hid (Bts w2 co 8 cc (putF a 8)) := hb2
  clear bel2 hb2
  go_wp2_with fail
  refine (get_at co 8 cc a _ _ (by omega) HB2.out (by omega) (by omega) HVA.out).mono ?_; rintro e w3 ⟨rfl, bel3⟩
  have b3 : Below w.heap.size w w3 := b2.trans (bel3.mono b2.size)
  clear bel3 HB2 b2 bel1
  go_wp2_with fail
  go_region_held (fun _ => True) (trivial) (first | (go_at_call 10; have hb0 := hb1; refine (put_at _ 8 _ _ (by omega) (by omega) (by omega) (by omega)).mono ?_; rintro e wy ⟨c2, k2, rfl, hb2, bel2⟩; have cv2 := conv_bts hb2; have cv1 := conv_bts (hb1.carry bel2)) | (go_at_call 10; refine (put_at _ 8 _ _ (by omega) (by omega) (by omega) (by omega)).mono ?_; rintro e wx ⟨c1, k1, rfl, hb1, bel1⟩; have cv1 := conv_bts hb1))
  all_goals go_wp2
  all_goals go_ret
  all_goals exact ⟨by rw [HEQ.out]; rfl, below_two b3 b3.size bel1 bel2⟩
set_option maxHeartbeats 3200000 in
theorem walk_two_less (a b j : Nat) (n : Nat) (w : World) (ha : a ≤ 18446744073709551615) (hb : b ≤ 18446744073709551615) (hn : n ≤ 255) (hj : (n : Int) % 8 = (j : Int)) (hj7 : j < 7) (c d : Nat) (hc : a % 256 ^ (j + 1) = c) (hd : b % 256 ^ (j + 1) = d) (hc1 : c ≤ 18446744073709551615) (hd1 : d ≤ 18446744073709551615) :
    Calls Try.prog 8 #[.int .u64 a, .int .u64 b, .int .u8 n] w fun e w' => e = .returned (.bool true) ∧ Below w.heap.size w w' := by
  have HC : Hid (a % 256 ^ (j + 1) = c) := hc
  have HD : Hid (b % 256 ^ (j + 1) = d) := hd
  have HVA : Hid (c < 256 ^ (j + 1)) := by show c < _; rw [← hc]; exact Nat.mod_lt _ (Nat.pow_pos (by omega))
  have HVB : Hid (d < 256 ^ (j + 1)) := by show d < _; rw [← hd]; exact Nat.mod_lt _ (Nat.pow_pos (by omega))
  have HEQ : Hid _ := str_eq c d (j + 1) HVA.out HVB.out
  clear hc hd
  go_enter Try.func8, Try.ntmps8
  go_wp2_with fail
  refine (awake_any _).mono ?_; rintro e w1 ⟨rfl, bel1⟩
  go_wp2_with fail
  go_cut [0, 1] from 18 to 27 (fun x y wx => x = .int .u64 (c : Int) ∧ y = .int .u64 (d : Int) ∧ ∃ q, wx = w1.drewN q)
  case first =>
    rcases (show j = 0 ∨ j = 1 ∨ j = 2 ∨ j = 3 ∨ j = 4 ∨ j = 5 ∨ j = 6 from by omega) with rfl | rfl | rfl | rfl | rfl | rfl | rfl
    all_goals go_quiet (fail)
    all_goals go_wp2_with fail
    all_goals go_meet
    all_goals exact ⟨congrArg (Value.int .u64) (by rw [← HC.out]; first | exact (low1 a).symm | exact (low2 a).symm | exact (low3 a).symm | exact (low4 a).symm | exact (low5 a).symm | exact (low6 a).symm | exact (low7 a).symm), congrArg (Value.int .u64) (by rw [← HD.out]; first | exact (low1 b).symm | exact (low2 b).symm | exact (low3 b).symm | exact (low4 b).symm | exact (low5 b).symm | exact (low6 b).symm | exact (low7 b).symm), _, rfl⟩
  case rest =>
    obtain ⟨rfl, rfl, q, rfl⟩ := hcut
    have bel2 : Below w.heap.size w (w1.drewN q) := below_drewN bel1 q
    clear bel1
    go_wp2_with fail
    refine (put_at c (j + 1) _ _ (by omega) (by omega) (by omega) (by omega)).mono ?_; rintro e w2 ⟨co, cc, rfl, hb2, bel3⟩
    have b2 : Below w.heap.size w w2 := bel2.trans (bel3.mono bel2.size)
    have HB2 : Hid (Bts w2 co (j + 1) cc (putF c (j + 1))) := hb2
    clear bel3 hb2
    go_wp2_with fail
    refine (get_at co (j + 1) cc c _ _ (by omega) HB2.out (by omega) (by omega) HVA.out).mono ?_; rintro e w3 ⟨rfl, bel3⟩
    have b3 : Below w.heap.size w w3 := b2.trans (bel3.mono b2.size)
    clear bel3 HB2 b2 bel2
    go_wp2_with fail
    go_region_held (fun _ => True) (trivial) (first | (go_at_call 10; have hb0 := hb1; refine (put_at _ (j + 1) _ _ (by omega) (by omega) (by omega) (by omega)).mono ?_; rintro e wy ⟨c2, k2, rfl, hb2, bel2⟩; have cv2 := conv_bts hb2; have cv1 := conv_bts (hb1.carry bel2)) | (go_at_call 10; refine (put_at _ (j + 1) _ _ (by omega) (by omega) (by omega) (by omega)).mono ?_; rintro e wx ⟨c1, k1, rfl, hb1, bel1⟩; have cv1 := conv_bts hb1))
    all_goals go_wp2
    all_goals go_ret
    all_goals exact ⟨by rw [HEQ.out]; rfl, below_two b3 b3.size bel1 bel2⟩
theorem walk_two (a b n : Nat) (w : World) (ha : a ≤ 18446744073709551615) (hb : b ≤ 18446744073709551615) (hn : n ≤ 255) :
    Calls Try.prog 8 #[.int .u64 a, .int .u64 b, .int .u8 n] w fun e w' => e = .returned (.bool true) ∧ Below w.heap.size w w' := by
  by_cases h : n % 8 = 7
  · exact walk_two_eight a b n w ha hb hn (by omega)
  · exact walk_two_less a b (n % 8) n w ha hb hn (by omega) (by omega) _ _ rfl rfl (Nat.le_trans (Nat.mod_le _ _) ha) (Nat.le_trans (Nat.mod_le _ _) hb)
theorem u8_nat {n : Int} (h : (Lit.int .u8 n).wf = true) : ∃ v : Nat, n = (v : Int) ∧ v ≤ 255 := by
  have := bounds_u8 h; exact ⟨n.toNat, by omega, by omega⟩

end Go.Proofs.Ytpcaipmdinbdfaa

namespace Go.Proofs.Ytpcaipmdinbdfaa.codecTwo
open Go.ChangeShapes Go.WideShapes Go.ChangeAt Go.RowKit
set_option linter.unusedVariables false

theorem own : ownKnob Try.prog.godebug = none := by kernel_rfl
theorem laidOut : laidOutB Try.prog = true := by kernel_rfl

theorem walk (a0 : Int) (a1 : Int) (a2 : Int) (w : World) (w0 : (Lit.int .u64 a0).wf = true) (w1 : (Lit.int .u64 a1).wf = true) (w2 : (Lit.int .u8 a2).wf = true) :
    Calls Try.prog 8 #[.int .u64 a0, .int .u64 a1, .int .u8 a2] w fun e w' => e = .returned (.bool true) ∧ Below w.heap.size w w' :=
  by obtain ⟨a, rfl, ha⟩ := u64_nat w0; obtain ⟨b, rfl, hb⟩ := u64_nat w1; obtain ⟨n, rfl, hn⟩ := u8_nat w2; exact walk_two a b n w ha hb hn

set_option maxRecDepth 100000 in
theorem lifted (os : Os) (started : os.Started) (H : Type) (enc : TypeId × Value → H) :
    ReturnsInHanded {} Try.checked os 8 .any (Rows.codecTwoSpec.pre6 enc Try.prog Try.f8 Rows.codecTwoRow.domain false) (Rows.codecTwoSpec.post enc Try.prog Try.f8 false true false false) := by
  refine returnsInHanded_of_change (C := Try.checked) own started (by kernel_rfl) Try.func8
    (ChangeSpec.witness6 (enc := enc) (C := Try.checked) false ⟨#[], #[.int .u64 0, .int .u64 0, .int .u8 0], []⟩ 8 (by kernel_rfl) (by kernel_rfl) (by kernel_rfl) (by kernel_rfl)) ?_
  intro W base args ds gs before hval0 hW hcnd _
  have hval : ∀ (j : Nat) t v, Try.f8.params[j]? = some t → args[j]? = some v → Value.okWide Try.prog W .any base t v := hval0
  have hW' := hW
  obtain ⟨p, q, hA0, hV, rfl, hfz, hnd⟩ := hW
  have hA : DataW.TrodAll enc Try.prog W 0 (fun _ => true) true Try.f8.params.toList args.toList ds p := hA0
  rw [Try.params8] at hA hval
  obtain ⟨v0, vs0, d0, ds0, p0, q0, hargs, rfl, rfl, h0, r0⟩ := trodAll_cons hA
  obtain ⟨v1, vs1, d1, ds1, p1, q1, rfl, rfl, rfl, h1, r1⟩ := trodAll_cons r0
  obtain ⟨v2, vs2, d2, ds2, p2, q2, rfl, rfl, rfl, h2, r2⟩ := trodAll_cons r1
  obtain ⟨rfl, rfl, rfl⟩ := trodAll_nil r2
  obtain rfl : args = #[v0, v1, v2] := by cases args; simp_all
  obtain ⟨rfl, rfl⟩ := trodVars_none hV
  obtain ⟨a0, rfl, rfl, rfl, w0⟩ := open_int Try.underlying23 (hval 0 23 v0 rfl rfl) h0
  obtain ⟨a1, rfl, rfl, rfl, w1⟩ := open_int Try.underlying23 (hval 1 23 v1 rfl rfl) h1
  obtain ⟨a2, rfl, rfl, rfl, w2⟩ := open_int Try.underlying5 (hval 2 5 v2 rfl rfl) h2
  clear hA0 hval0
  refine (walk a0 a1 a2 W w0 w1 w2).mono fun e W' ⟨he, bel⟩ => ?_
  subst he
  exact ⟨_, rfl, _, _, _, [], _, [], hW', trodAll_mk1 (shut_bool Try.underlying4 _), (trodAll_cons_mk (shut_int Try.underlying23 w0) (trodAll_cons_mk (shut_int Try.underlying23 w1) (trodAll_cons_mk (shut_int Try.underlying5 w2) trodAll_mk0))), rfl, bel.frame _, fun h => by cases h⟩

theorem over : Rows.codecTwoRow.holds Try.pinned (OpenSpec.ofChange Rows.codecTwoSpec) :=
  OpenClaim.holds_of_wide 8 Try.f8 rfl rfl rfl rfl rfl rfl rfl ⟨rfl, rfl, rfl, rfl, rfl⟩ rfl rfl rfl rfl rfl (by kernel_rfl) Try.func8 (by kernel_rfl)
    (of_decide_eq_true (by kernel_rfl)) (by unfold Func.isWrapper; first | (rw [if_pos (by decide +kernel)]; kernel_rfl) | (rw [if_neg (by decide +kernel)]; exact ⟨rfl, rfl⟩))
    (fun os started H enc _ => lifted os started H enc)
end Go.Proofs.Ytpcaipmdinbdfaa.codecTwo

namespace Go.Proofs.Ytpcaipmdinbdfaa
theorem codecTwo_holds : Rows.CodecTwoSaid := codecTwo.over
#print axioms codecTwo_holds
end Go.Proofs.Ytpcaipmdinbdfaa
