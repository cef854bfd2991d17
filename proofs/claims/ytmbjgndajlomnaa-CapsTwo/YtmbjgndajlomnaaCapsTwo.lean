/-
  CapsTwo: two capabilities that may be have the same bytes just if they are the same: a bit that is turned in the bytes makes another one.
-/
import Derived.Test.YtmbjgndajlomnaaRows
import Derived.Test.YtmbjgndajlomnaaFlip
import Derived.Test.YtmbjgndajlomnaaRead
import Derived.Deep.DrawnRows
import Derived.Deep.CutRange
import Derived.WalkKit
import Derived.WalkSpells
import Derived.WalkLawsBesides
import Derived.Deep.QuietTactic
import Derived.BigQuiet
import Derived.ProofKit
import Derived.OpenShut
import Derived.ShutString
import Derived.ChangeOld
import Derived.Below
import Derived.SizedLaws
namespace Go.Proofs.Ytmbjgndajlomnaa

open Go.RowKit
attribute [local go_sem ↓] Go.wp_at_zero Go.wp_at_succ
def TwoRel (w : World) (p o r c p2 o2 r2 c2 : Nat) (x7 x8 : Value) (wx : World) : Prop :=
  ∃ gx gy, x7 = .pointer (some ⟨gx, 0, none⟩) ∧ x8 = .pointer (some ⟨gy, 0, none⟩) ∧ Hid (Box wx gx p o r c) ∧ Hid (Box wx gy p2 o2 r2 c2) ∧ Hid (Below w.heap.size w wx)
theorem two_one (w3 : World) (p o r c p2 o2 r2 c2 : Nat) (w : World) (b : Below w.heap.size w w3) : TwoRel w p o r c p2 o2 r2 c2 (.pointer (some ⟨w3.heap.size, 0, none⟩)) (.pointer (some ⟨w3.heap.size + 1, 0, none⟩)) ((w3.alloc (.cells #[.int .u64 p, .int .u32 o, .int .u8 r, .int .u64 c] 25)).alloc (.cells #[.int .u64 p2, .int .u32 o2, .int .u8 r2, .int .u64 c2] 25)) := by
  refine ⟨_, _, rfl, rfl, (box_new w3 p o r c).carry (below_alloc _ _), ?_, (b.alloc b.size _).alloc (b.alloc b.size _).size _⟩
  have h := box_new (w3.alloc (.cells #[.int .u64 p, .int .u32 o, .int .u8 r, .int .u64 c] 25)) p2 o2 r2 c2
  rw [show (w3.alloc (.cells #[.int .u64 p, .int .u32 o, .int .u8 r, .int .u64 c] 25)).heap.size = w3.heap.size + 1 from by simp] at h
  exact h
theorem two_other (w3 : World) (p o r c p2 o2 r2 c2 : Nat) (w : World) (b : Below w.heap.size w w3) : TwoRel w p o r c p2 o2 r2 c2 (.pointer (some ⟨w3.heap.size + 1, 0, none⟩)) (.pointer (some ⟨w3.heap.size, 0, none⟩)) ((w3.alloc (.cells #[.int .u64 p2, .int .u32 o2, .int .u8 r2, .int .u64 c2] 25)).alloc (.cells #[.int .u64 p, .int .u32 o, .int .u8 r, .int .u64 c] 25)) := by
  obtain ⟨gx, gy, e1, e2, h1, h2, h3⟩ := two_one w3 p2 o2 r2 c2 p o r c w b
  exact ⟨gy, gx, e2, e1, h2, h1, h3⟩
theorem make_is (p o r c p' o' c' : Nat) (w : World) (hp : p ≤ 18446744073709551615) (ho : o ≤ 4294967295) (hr : r ≤ 255) (hc : c ≤ 18446744073709551615) (ep : p % 281474976710656 = p') (eo : o % 16777216 = o') (ec : c % 281474976710656 = c') :
    Calls Try.prog 9 #[.agg #[.int .u64 p, .int .u32 o, .int .u8 r, .int .u64 c]] w fun e w' => e = .returned (.agg #[.int .u64 p', .int .u32 o', .int .u8 r, .int .u64 c']) ∧
      w' = (w.alloc (.cells #[.int .u64 p, .int .u32 o, .int .u8 r, .int .u64 c] 25)).alloc (.cells #[.int .u64 p', .int .u32 o', .int .u8 r, .int .u64 c'] 25) := by
  subst ep; subst eo; subst ec
  exact make_any p o r c w hp ho hr hc
set_option maxHeartbeats 3200000 in
theorem walk_two (p o r c p2 o2 r2 c2 n : Nat) (w : World) (hp : p ≤ 18446744073709551615) (ho : o ≤ 4294967295) (hr : r ≤ 255) (hc : c ≤ 18446744073709551615) (hp2 : p2 ≤ 18446744073709551615) (ho2 : o2 ≤ 4294967295) (hr2 : r2 ≤ 255) (hc2 : c2 ≤ 18446744073709551615) (hn : n ≤ 255) :
    Calls Try.prog 7 #[.agg #[.int .u64 p, .int .u32 o, .int .u8 r, .int .u64 c], .agg #[.int .u64 p2, .int .u32 o2, .int .u8 r2, .int .u64 c2], .int .u8 n] w fun e w' => e = .returned (.bool true) ∧ Below w.heap.size w w' := by
  obtain ⟨p', ep⟩ : ∃ x, p % 281474976710656 = x := ⟨_, rfl⟩
  obtain ⟨o', eo⟩ : ∃ x, o % 16777216 = x := ⟨_, rfl⟩
  obtain ⟨c', ec⟩ : ∃ x, c % 281474976710656 = x := ⟨_, rfl⟩
  have hp' : p' ≤ 281474976710655 := by omega
  have ho' : o' ≤ 16777215 := by omega
  have hc' : c' ≤ 281474976710655 := by omega
  obtain ⟨p2', ep2⟩ : ∃ x, p2 % 281474976710656 = x := ⟨_, rfl⟩
  obtain ⟨o2', eo2⟩ : ∃ x, o2 % 16777216 = x := ⟨_, rfl⟩
  obtain ⟨c2', ec2⟩ : ∃ x, c2 % 281474976710656 = x := ⟨_, rfl⟩
  have hp2' : p2' ≤ 281474976710655 := by omega
  have ho2' : o2' ≤ 16777215 := by omega
  have hc2' : c2' ≤ 281474976710655 := by omega
  have EP : Hid _ := ep
  have EO : Hid _ := eo
  have EC : Hid _ := ec
  have EP2 : Hid _ := ep2
  have EO2 : Hid _ := eo2
  have EC2 : Hid _ := ec2
  have hg := eqGuard25
  clear ep eo ec ep2 eo2 ec2
  have HT : Hid (Below w.heap.size w ((w.alloc (.cells #[.int .u64 p, .int .u32 o, .int .u8 r, .int .u64 c] 25)).alloc (.cells #[.int .u64 p2, .int .u32 o2, .int .u8 r2, .int .u64 c2] 25))) := below_one (below_alloc _ _) (below_alloc _ _)
  have HX : Hid (TwoRel w p o r c p2 o2 r2 c2 (.pointer (some ⟨w.heap.size, 0, none⟩)) (.pointer (some ⟨w.heap.size + 1, 0, none⟩)) ((w.alloc (.cells #[.int .u64 p, .int .u32 o, .int .u8 r, .int .u64 c] 25)).alloc (.cells #[.int .u64 p2, .int .u32 o2, .int .u8 r2, .int .u64 c2] 25))) := two_one w p o r c p2 o2 r2 c2 w (Below.refl _ _)
  go_enter Try.func7, Try.ntmps7
  go_wp2_with fail
  refine (awake_any _).mono ?_; rintro e w1 ⟨rfl, bel1⟩
  have b1 : Below w.heap.size w w1 := below_one HT.out bel1
  have hS : Hid (Box w1 w.heap.size p o r c ∧ Box w1 (w.heap.size + 1) p2 o2 r2 c2) := by
    obtain ⟨gx, gy, e1, e2, h1, h2, h3⟩ := HX.out
    cases e1; cases e2
    exact (⟨h1.out.carry bel1, h2.out.carry bel1⟩ : Box w1 w.heap.size p o r c ∧ Box w1 (w.heap.size + 1) p2 o2 r2 c2)
  clear HT HX bel1
  go_wp2_with fail
  go_cut [7, 8] from 14 to 17 (fun x y wx => TwoRel w p' o' r c' p2' o2' r2 c2' x y wx)
  case first =>
    go_region_held (fun w' => (w'.cell? ⟨w.heap.size, 0, none⟩ = some (.int .u64 p) ∧ w'.cell? ⟨w.heap.size, 1, none⟩ = some (.int .u32 o) ∧ w'.cell? ⟨w.heap.size, 2, none⟩ = some (.int .u8 r) ∧ w'.cell? ⟨w.heap.size, 3, none⟩ = some (.int .u64 c)) ∧
      (w'.cell? ⟨w.heap.size + 1, 0, none⟩ = some (.int .u64 p2) ∧ w'.cell? ⟨w.heap.size + 1, 1, none⟩ = some (.int .u32 o2) ∧ w'.cell? ⟨w.heap.size + 1, 2, none⟩ = some (.int .u8 r2) ∧ w'.cell? ⟨w.heap.size + 1, 3, none⟩ = some (.int .u64 c2)))
      (first | exact hS.out | exact ⟨hS.out.1.carry (by go_grown), hS.out.2.carry (by go_grown)⟩)
      (first
        | (go_at_call_of 9 (Value.int IntKind.u64 (p : Int)); refine (make_is p o r c p' o' c' _ hp ho hr hc EP.out EO.out EC.out).mono ?_; rintro e wx ⟨rfl, rfl⟩)
        | (go_at_call_of 9 (Value.int IntKind.u64 (p2 : Int)); refine (make_is p2 o2 r2 c2 p2' o2' c2' _ hp2 ho2 hr2 hc2 EP2.out EO2.out EC2.out).mono ?_; rintro e wx ⟨rfl, rfl⟩))
    all_goals go_wp2_with fail
    all_goals go_meet
    all_goals exact ⟨_, _, rfl, rfl, by refine ⟨?_, ?_, ?_, ?_⟩ <;> simp [go_sem], by refine ⟨?_, ?_, ?_, ?_⟩ <;> simp [go_sem], by have hsz := b1.size; show Below _ _ _; go_grown⟩
  case rest =>
    clear hS b1
    obtain ⟨gx, gy, rfl, rfl, HBX, HBY, HB⟩ := hcut
    obtain ⟨k0, k1, k2, k3⟩ := HBX.out
    go_wp2_with fail
    refine (encode_yes p' o' r c' _ hp' ho' hr hc').mono ?_; rintro e w3 ⟨g, rfl, hgl, hown, bel3⟩
    have b3 : Below w.heap.size w w3 := below_one HB.out bel3
    have HX3 : Hid (Box w3 gx p' o' r c') := HBX.out.carry bel3
    have HY3 : Hid (Box w3 gy p2' o2' r2 c2') := HBY.out.carry bel3
    have hnx : g ≠ gx := by have := lt_of_cell HBX.out.1; show g ≠ gx; intro e; subst e; exact absurd this (Nat.not_lt.2 hgl)
    have hny : g ≠ gy := by have := lt_of_cell HBY.out.1; show g ≠ gy; intro e; subst e; exact absurd this (Nat.not_lt.2 hgl)
    have hgw : w.heap.size ≤ g := Nat.le_trans HB.out.size hgl
    have HO : Hid (w3.ownsRow wc.heap.size 5 1 (.slice (some ⟨g, 0, none⟩) 16 16) 16 (cellsB (capF p' o' r c'))) := hown
    have HNX : Hid _ := hnx
    have HNY : Hid _ := hny
    clear hown bel3 HBX HBY HB k0 k1 k2 k3 hgl hnx hny
    have hin : n / 8 % 16 < 16 := Nat.mod_lt _ (by omega)
    obtain ⟨a, ha, ha255⟩ := bt_nat (capF p' o' r c') (n / 8 % 16)
    have hcl : w3.cell? ⟨g, n / 8 % 16, none⟩ = some (.int .u8 (a : Int)) := by
      have h := (owns_at HO.out).2.2.2.2 _ rfl (n / 8 % 16) (by rw [capF_len]; exact hin)
      rw [addr0, ha] at h; exact h
    have hfr : w3.frozen? ⟨g, n / 8 % 16, none⟩ = false := owns_free HO.out _
    have HA : Hid _ := ha
    clear ha
    go_upto_region 7 with fail
    go_cut [9] from 23 to 33 (fun x wx => FlipRel w3 g (n / 8 % 16) a x wx)
    case first =>
      have hn8 : n % 8 < 8 := Nat.mod_lt _ (by omega)
      obtain ⟨k, hk⟩ : ∃ k, n % 8 = k := ⟨_, rfl⟩
      have hki : (n : Int) % 8 = (k : Int) := by omega
      rw [hk] at hn8
      have f1 := flip_ne a k ha255 hn8
      have x1 := u8_xor_nat a (2 ^ k) (by omega) (by have : 2 ^ k < 2 ^ 8 := Nat.pow_lt_pow_right (by omega) hn8; omega)
      clear hk
      rcases (show k = 0 ∨ k = 1 ∨ k = 2 ∨ k = 3 ∨ k = 4 ∨ k = 5 ∨ k = 6 ∨ k = 7 from by omega) with rfl | rfl | rfl | rfl | rfl | rfl | rfl | rfl
      all_goals simp only [Nat.reducePow] at f1 x1
      all_goals have F1 : Hid _ := f1
      all_goals clear f1
      all_goals go_wp2_with fail
      all_goals go_meet
      all_goals exact ⟨rfl, _, F1.out.1, fun e => F1.out.2 (by omega), congrArg (fun z => w3.setCell ⟨g, n / 8 % 16, none⟩ (.int .u8 z)) x1⟩
    case rest =>
      obtain ⟨rfl, v, hv, HNE, hw4⟩ := hcut
      have HW : Hid _ := hw4
      clear hw4 hcl hfr
      have b4 : Below w.heap.size w wc := by rw [HW.out]; exact b3.setCell hgw _
      have HX4 : Hid (Box wc gx p' o' r c') := by rw [HW.out]; exact HX3.out.set _ HNX.out
      have HY4 : Hid (Box wc gy p2' o2' r2 c2') := by rw [HW.out]; exact HY3.out.set _ HNY.out
      obtain ⟨l', el⟩ : ∃ x, (capF p' o' r c').set (n / 8 % 16) (UInt8.ofNat v) = x := ⟨_, rfl⟩
      have HB4 : Hid (Bts wc (some ⟨g, 0, none⟩) 16 16 l') := by rw [HW.out, ← el]; exact bts_set (owns_at HO.out) hv
      have HLN : Hid (l' ≠ capF p' o' r c') := by rw [← el]; exact set_ne _ _ _ (by rw [capF_len]; exact hin) hv (by rw [HA.out]; exact HNE.out)
      clear HW HX3 HY3 b3 HO HNE el HA HNX HNY
      obtain ⟨P, eP⟩ : ∃ x, numF ((l'.drop 0).take 6) = x := ⟨_, rfl⟩
      obtain ⟨O, eO⟩ : ∃ x, numF ((l'.drop 6).take 3) = x := ⟨_, rfl⟩
      obtain ⟨R, eR⟩ : ∃ x, numF ((l'.drop 9).take 1) = x := ⟨_, rfl⟩
      obtain ⟨C, eC⟩ : ∃ x, numF ((l'.drop 10).take 6) = x := ⟨_, rfl⟩
      have hZ : ¬ ((P : Int) = p' ∧ (O : Int) = o' ∧ (R : Int) = r ∧ (C : Int) = c') := by
        rintro ⟨z1, z2, z3, z4⟩
        refine HLN.out ?_
        have hb := cap_back l' HB4.out.1.symm
        rw [eP, eO, eR, eC, show P = p' from by omega, show O = o' from by omega, show R = r from by omega, show C = c' from by omega] at hb
        exact hb.symm
      have hN : ∀ wx, (binOp .neq 25 (.agg #[.int .u64 P, .int .u32 O, .int .u8 R, .int .u64 C]) (.agg #[.int .u64 p', .int .u32 o', .int .u8 r, .int .u64 c'])).run Try.prog wx = .ok (.bool true) wx := by
        intro wx; rw [neq_cap, decide_eq_false hZ]; rfl
      obtain ⟨q, hq⟩ : ∃ q : Bool, decide (capF p' o' r c' = capF p2' o2' r2 c2') = q := ⟨_, rfl⟩
      have HE1 : Hid ((((str (capF p' o' r c')).toList == (str (capF p2' o2' r2 c2')).toList) == q) = true) := by
        rw [str_list, str_list, ← hq]
        by_cases h : capF p' o' r c' = capF p2' o2' r2 c2'
        · rw [h, decide_eq_true rfl, BEq.rfl]; rfl
        · rw [beq_eq_false_iff_ne.2 h, decide_eq_false h]; rfl
      have hE2 : ∀ wx, (binOp .eql 25 (.agg #[.int .u64 p', .int .u32 o', .int .u8 r, .int .u64 c']) (.agg #[.int .u64 p2', .int .u32 o2', .int .u8 r2, .int .u64 c2'])).run Try.prog wx = .ok (.bool q) wx := by
        intro wx; rw [eql_cap, ← hq]
        congr 2
        apply decide_eq_decide.2
        constructor
        · rintro ⟨z1, z2, z3, z4⟩
          rw [show p' = p2' from by omega, show o' = o2' from by omega, show r = r2 from by omega, show c' = c2' from by omega]
        · intro h
          obtain ⟨z1, z2, z3, z4⟩ := capF_inj _ _ _ _ _ _ _ _ hp' ho' hr hc' hp2' ho2' hr2 hc2' h
          exact ⟨by omega, by omega, by omega, by omega⟩
      have E1 : Hid _ := eP
      have E2 : Hid _ := eO
      have E3 : Hid _ := eR
      have E4 : Hid _ := eC
      clear eP eO eR eC hZ HLN hq
      go_wp2_with fail
      refine (decode_yes _ _ _ _ HB4.out P O R C E1.out E2.out E3.out E4.out).mono ?_; rintro e w5 ⟨rfl, bel5⟩
      have b5 : Below w.heap.size w w5 := below_one b4 bel5
      have HX5 : Hid (Box w5 gx p' o' r c') := HX4.out.carry bel5
      have HY5 : Hid (Box w5 gy p2' o2' r2 c2') := HY4.out.carry bel5
      clear bel5 b4 HX4 HY4 HB4 E1 E2 E3 E4
      go_wp2
      have HT5 : Hid (Below w5.heap.size w5 (w5.alloc (.cells #[.int .u64 P, .int .u32 O, .int .u8 R, .int .u64 C] 25)).drew) := (below_alloc _ _).drew
      have bb : Below w.heap.size w (w5.alloc (.cells #[.int .u64 P, .int .u32 O, .int .u8 R, .int .u64 C] 25)).drew := below_one b5 HT5.out
      have hS : Hid (Box (w5.alloc (.cells #[.int .u64 P, .int .u32 O, .int .u8 R, .int .u64 C] 25)).drew gx p' o' r c' ∧ Box (w5.alloc (.cells #[.int .u64 P, .int .u32 O, .int .u8 R, .int .u64 C] 25)).drew gy p2' o2' r2 c2' ∧ Box (w5.alloc (.cells #[.int .u64 P, .int .u32 O, .int .u8 R, .int .u64 C] 25)).drew w5.heap.size P O R C) := ⟨HX5.out.carry HT5.out, HY5.out.carry HT5.out, box_new w5 P O R C⟩
      clear HT5 b5 HX5 HY5
      go_region_held (fun w' => (w'.cell? ⟨gx, 0, none⟩ = some (.int .u64 p') ∧ w'.cell? ⟨gx, 1, none⟩ = some (.int .u32 o') ∧ w'.cell? ⟨gx, 2, none⟩ = some (.int .u8 r) ∧ w'.cell? ⟨gx, 3, none⟩ = some (.int .u64 c')) ∧
        (w'.cell? ⟨gy, 0, none⟩ = some (.int .u64 p2') ∧ w'.cell? ⟨gy, 1, none⟩ = some (.int .u32 o2') ∧ w'.cell? ⟨gy, 2, none⟩ = some (.int .u8 r2) ∧ w'.cell? ⟨gy, 3, none⟩ = some (.int .u64 c2')) ∧
        (w'.cell? ⟨w5.heap.size, 0, none⟩ = some (.int .u64 P) ∧ w'.cell? ⟨w5.heap.size, 1, none⟩ = some (.int .u32 O) ∧ w'.cell? ⟨w5.heap.size, 2, none⟩ = some (.int .u8 R) ∧ w'.cell? ⟨w5.heap.size, 3, none⟩ = some (.int .u64 C)))
        (exact hS.out)
        (first
          | (go_at_call 12; have hold := hbe; refine (encode_yes p2' o2' r2 c2' _ hp2' ho2' hr2 hc2').mono ?_; rintro e wx ⟨gf, rfl, hgf, hownf, bel⟩; have bb := below_one bb bel; have hS : Hid (Box wx gx p' o' r c' ∧ Box wx gy p2' o2' r2 c2' ∧ Box wx w5.heap.size P O R C) := ⟨hS.out.1.carry bel, hS.out.2.1.carry bel, hS.out.2.2.carry bel⟩; have cvf := conv_bts (owns_at hownf); have cve := conv_bts (hbe.out.carry bel); clear bel)
          | (go_at_call 12; refine (encode_yes p' o' r c' _ hp' ho' hr hc').mono ?_; rintro e wx ⟨ge, rfl, hge, howne, bel⟩; have bb := below_one bb bel; have hS : Hid (Box wx gx p' o' r c' ∧ Box wx gy p2' o2' r2 c2' ∧ Box wx w5.heap.size P O R C) := ⟨hS.out.1.carry bel, hS.out.2.1.carry bel, hS.out.2.2.carry bel⟩; have hbe : Hid (Bts wx (some ⟨ge, 0, none⟩) 16 16 (capF p' o' r c')) := owns_at howne; have cve := conv_bts hbe.out; clear bel))
      all_goals go_wp2
      all_goals go_ret
      all_goals exact ⟨by rw [HE1.out]; rfl, bb⟩

end Go.Proofs.Ytmbjgndajlomnaa

namespace Go.Proofs.Ytmbjgndajlomnaa.capsTwo
open Go.ChangeShapes Go.WideShapes Go.ChangeAt Go.RowKit
set_option linter.unusedVariables false

theorem own : ownKnob Try.prog.godebug = none := by kernel_rfl
theorem laidOut : laidOutB Try.prog = true := by kernel_rfl

theorem walk (p0 o0 r0 c0 : Nat) (p1 o1 r1 c1 : Nat) (a2 : Int) (w : World) (w0 : p0 ≤ 18446744073709551615) (x0 : o0 ≤ 4294967295) (y0 : r0 ≤ 255) (u0 : c0 ≤ 18446744073709551615) (w1 : p1 ≤ 18446744073709551615) (x1 : o1 ≤ 4294967295) (y1 : r1 ≤ 255) (u1 : c1 ≤ 18446744073709551615) (w2 : (Lit.int .u8 a2).wf = true) :
    Calls Try.prog 7 #[.agg #[.int .u64 p0, .int .u32 o0, .int .u8 r0, .int .u64 c0], .agg #[.int .u64 p1, .int .u32 o1, .int .u8 r1, .int .u64 c1], .int .u8 a2] w fun e w' => e = .returned (.bool true) ∧ Below w.heap.size w w' :=
  by obtain ⟨v, rfl, hv⟩ := u8_nat w2; exact walk_two p0 o0 r0 c0 p1 o1 r1 c1 v w w0 x0 y0 u0 w1 x1 y1 u1 hv

set_option maxRecDepth 100000 in
theorem lifted (os : Os) (started : os.Started) (H : Type) (enc : TypeId × Value → H) :
    ReturnsInHanded {} Try.checked os 7 .any (Rows.capsTwoSpec.pre6 enc Try.prog Try.f7 Rows.capsTwoRow.domain false) (Rows.capsTwoSpec.post enc Try.prog Try.f7 false true false false) := by
  refine returnsInHanded_of_change (C := Try.checked) own started (by kernel_rfl) Try.func7
    (ChangeSpec.witness6 (enc := enc) (C := Try.checked) false ⟨#[], #[.agg #[.int .u64 0, .int .u32 0, .int .u8 0, .int .u64 0], .agg #[.int .u64 0, .int .u32 0, .int .u8 0, .int .u64 0], .int .u8 0], []⟩ 8 (by kernel_rfl) (by kernel_rfl) (by kernel_rfl) (by kernel_rfl)) ?_
  intro W base args ds gs before hval0 hW hcnd _
  have hval : ∀ (j : Nat) t v, Try.f7.params[j]? = some t → args[j]? = some v → Value.okWide Try.prog W .any base t v := hval0
  have hW' := hW
  obtain ⟨p, q, hA0, hV, rfl, hfz, hnd⟩ := hW
  have hA : DataW.TrodAll enc Try.prog W 0 (fun _ => true) true Try.f7.params.toList args.toList ds p := hA0
  rw [Try.params7] at hA hval
  obtain ⟨v0, vs0, d0, ds0, p0, q0, hargs, rfl, rfl, h0, r0⟩ := trodAll_cons hA
  obtain ⟨v1, vs1, d1, ds1, p1, q1, rfl, rfl, rfl, h1, r1⟩ := trodAll_cons r0
  obtain ⟨v2, vs2, d2, ds2, p2, q2, rfl, rfl, rfl, h2, r2⟩ := trodAll_cons r1
  obtain ⟨rfl, rfl, rfl⟩ := trodAll_nil r2
  obtain rfl : args = #[v0, v1, v2] := by cases args; simp_all
  obtain ⟨rfl, rfl⟩ := trodVars_none hV
  have k0 := h0
  have lt0 : ∀ x ∈ p0, x.block < W.heap.size := by obtain ⟨m, hm⟩ := k0; exact DataW.trod_lt m _ _ _ hm
  obtain ⟨q0, o0, r0', c0, rfl, w0, x0, y0, u0⟩ := open_cap (hval 0 25 v0 rfl rfl) h0
  have k1 := h1
  have lt1 : ∀ x ∈ p1, x.block < W.heap.size := by obtain ⟨m, hm⟩ := k1; exact DataW.trod_lt m _ _ _ hm
  obtain ⟨q1, o1, r1', c1, rfl, w1, x1, y1, u1⟩ := open_cap (hval 1 25 v1 rfl rfl) h1
  obtain ⟨a2, rfl, rfl, rfl, w2⟩ := open_int Try.underlying5 (hval 2 5 v2 rfl rfl) h2
  clear hA0 hval0
  refine (walk q0 o0 r0' c0 q1 o1 r1' c1 a2 W w0 x0 y0 u0 w1 x1 y1 u1 w2).mono fun e W' ⟨he, bel⟩ => ?_
  subst he
  exact ⟨_, rfl, _, _, _, [], _, [], hW', trodAll_mk1 (shut_bool Try.underlying4 _), (trodAll_cons_mk (Below.trod laidOut (by kernel_rfl) (of_decide_eq_true (by kernel_rfl)) k0 bel lt0) (trodAll_cons_mk (Below.trod laidOut (by kernel_rfl) (of_decide_eq_true (by kernel_rfl)) k1 bel lt1) (trodAll_cons_mk (shut_int Try.underlying5 w2) trodAll_mk0))), rfl, bel.frame _, fun h => by cases h⟩

theorem over : Rows.capsTwoRow.holds Try.pinned (OpenSpec.ofChange Rows.capsTwoSpec) :=
  OpenClaim.holds_of_wide 7 Try.f7 rfl rfl rfl rfl rfl rfl rfl ⟨rfl, rfl, rfl, rfl, rfl⟩ rfl rfl rfl rfl rfl (by kernel_rfl) Try.func7 (by kernel_rfl)
    (of_decide_eq_true (by kernel_rfl)) (by unfold Func.isWrapper; first | (rw [if_pos (by decide +kernel)]; kernel_rfl) | (rw [if_neg (by decide +kernel)]; exact ⟨rfl, rfl⟩))
    (fun os started H enc _ => lifted os started H enc)
end Go.Proofs.Ytmbjgndajlomnaa.capsTwo

namespace Go.Proofs.Ytmbjgndajlomnaa
theorem capsTwo_holds : Rows.CapsTwoSaid := capsTwo.over
#print axioms capsTwo_holds
end Go.Proofs.Ytmbjgndajlomnaa
