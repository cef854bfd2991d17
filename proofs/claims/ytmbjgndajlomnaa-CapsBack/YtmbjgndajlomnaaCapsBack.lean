/-
  CapsBack: a capability is read of its bytes; sixteen bytes are those of the capability that is read of them; others are none's.
-/
import Derived.Test.YtmbjgndajlomnaaRows
import Derived.Test.YtmbjgndajlomnaaNums
import Derived.Test.YtmbjgndajlomnaaRead
import Derived.Deep.DrawnRows
import Derived.WalkKit
import Derived.WalkSpells
import Derived.WalkLawsBesides
import Derived.Deep.QuietTactic
import Derived.BigQuiet
import Derived.ProofKit
import Derived.OpenShut
import Derived.ShutString
import Derived.ChangeOld
import Derived.Below
import Derived.SizedLaws
namespace Go.Proofs.Ytmbjgndajlomnaa

open Go.RowKit
attribute [local go_sem ↓] Go.wp_at_zero Go.wp_at_succ
theorem below_one {w w1 : World} (h : Below w.heap.size w w1) {w2 : World} (k : Below w1.heap.size w1 w2) : Below w.heap.size w w2 := h.trans (k.mono h.size)
theorem below_drewN {B : Nat} {a w : World} (h : Below B a w) (k : Nat) : Below B a (w.drewN k) := ⟨h.os, h.tape, h.output, h.size, h.block⟩
set_option maxRecDepth 100000 in
set_option maxHeartbeats 16000000 in
theorem walk_back_yes (p o r c : Nat) (ao : Option Addr) (cap : Nat) (l : List UInt8) (w : World) (hp : p ≤ 18446744073709551615) (ho : o ≤ 4294967295) (hr : r ≤ 255) (hc : c ≤ 18446744073709551615) (hb : Bts w ao 16 cap l) :
    Calls Try.prog 4 #[.agg #[.int .u64 p, .int .u32 o, .int .u8 r, .int .u64 c], .slice ao 16 cap] w fun e w' => e = .returned (.bool true) ∧ Below w.heap.size w w' := by
  obtain ⟨p', ep⟩ : ∃ x, p % 281474976710656 = x := ⟨_, rfl⟩
  obtain ⟨o', eo⟩ : ∃ x, o % 16777216 = x := ⟨_, rfl⟩
  obtain ⟨c', ec⟩ : ∃ x, c % 281474976710656 = x := ⟨_, rfl⟩
  have hp' : p' ≤ 281474976710655 := by omega
  have ho' : o' ≤ 16777215 := by omega
  have hc' : c' ≤ 281474976710655 := by omega
  have EP : Hid _ := ep
  have EO : Hid _ := eo
  have EC : Hid _ := ec
  obtain ⟨P, eP⟩ : ∃ x, numF ((l.drop 0).take 6) = x := ⟨_, rfl⟩
  obtain ⟨O, eO⟩ : ∃ x, numF ((l.drop 6).take 3) = x := ⟨_, rfl⟩
  obtain ⟨R, eR⟩ : ∃ x, numF ((l.drop 9).take 1) = x := ⟨_, rfl⟩
  obtain ⟨C, eC⟩ : ∃ x, numF ((l.drop 10).take 6) = x := ⟨_, rfl⟩
  have hP : P ≤ 281474976710655 := by rw [← eP]; exact num6 _ _
  have hO : O ≤ 16777215 := by rw [← eO]; exact num3 _ _
  have hR : R ≤ 255 := by rw [← eR]; exact num1 _ _
  have hC : C ≤ 281474976710655 := by rw [← eC]; exact num6 _ _
  have HL : Hid (capF P O R C = l) := by rw [← eP, ← eO, ← eR, ← eC]; exact cap_back l hb.1.symm
  have E1 : Hid _ := eP
  have E2 : Hid _ := eO
  have E3 : Hid _ := eR
  have E4 : Hid _ := eC
  have hmy := mayD_true hP hO hC
  have hg := eqGuard25
  have hN : ∀ wx, (binOp .neq 25 (.agg #[.int .u64 p', .int .u32 o', .int .u8 r, .int .u64 c']) (.agg #[.int .u64 p', .int .u32 o', .int .u8 r, .int .u64 c'])).run Try.prog wx = .ok (.bool false) wx := by
    intro wx; rw [neq_cap]; simp
  have HB : Hid (Bts w ao 16 cap l) := hb
  clear ep eo ec eP eO eR eC hb
  have HT : Hid (Below w.heap.size w (w.alloc (.cells #[.int .u64 p, .int .u32 o, .int .u8 r, .int .u64 c] 25))) := below_alloc _ _
  have HX : Hid (Box (w.alloc (.cells #[.int .u64 p, .int .u32 o, .int .u8 r, .int .u64 c] 25)) w.heap.size p o r c) := box_new w p o r c
  go_enter Try.func4, Try.ntmps4
  go_wp2_with fail
  refine (awake_any _).mono ?_; rintro e w1 ⟨rfl, bel1⟩
  have b1 : Below w.heap.size w w1 := below_one HT.out bel1
  have HX1 : Hid (Box w1 w.heap.size p o r c) := HX.out.carry bel1
  have HB1 : Hid (Bts w1 ao 16 cap l) := (HB.out.carry HT.out).carry bel1
  clear HT HX bel1 HB
  obtain ⟨k0, k1, k2, k3⟩ := HX1.out
  go_wp2_with fail
  refine (make_at p o r c p' o' c' _ hp ho hr hc EP.out EO.out EC.out).mono ?_; rintro e w2 ⟨rfl, bel2⟩
  have b2 : Below w.heap.size w w2 := below_one b1 bel2
  have HX2 : Hid (Box w2 w.heap.size p o r c) := HX1.out.carry bel2
  have HB2 : Hid (Bts w2 ao 16 cap l) := HB1.out.carry bel2
  clear bel2 b1 HX1 HB1 k0 k1 k2 k3
  go_wp2_with fail
  refine (own_bytes p' o' r c' _ hp' ho' hr hc').mono ?_; rintro e w3 ⟨gf, cf, rfl, hgf, hownf, bel3⟩
  have b3 : Below w.heap.size w w3 := below_one b2 bel3
  have HX3 : Hid (Box w3 w.heap.size p o r c) := HX2.out.carry bel3
  have HB3 : Hid (Bts w3 ao 16 cap l) := HB2.out.carry bel3
  have HF3 : Hid (Bts w3 (some ⟨gf, 0, none⟩) 16 cf (capF p' o' r c')) := owns_at hownf
  clear bel3 b2 HX2 HB2 hownf hgf
  go_wp2_with fail
  refine (decode_yes _ _ _ _ HF3.out p' o' r c' (cap_port _ _ _ _ hp') (cap_object _ _ _ _ ho') (cap_rights _ _ _ _ hr) (cap_check _ _ _ _ hc')).mono ?_; rintro e w4 ⟨rfl, bel4⟩
  have b4 : Below w.heap.size w w4 := below_one b3 bel4
  have HX4 : Hid (Box w4 w.heap.size p o r c) := HX3.out.carry bel4
  have HB4 : Hid (Bts w4 ao 16 cap l) := HB3.out.carry bel4
  clear bel4 b3 HX3 HB3 HF3
  have HT4 : Hid (Below w4.heap.size w4 (w4.alloc (.cells #[.int .u64 p', .int .u32 o', .int .u8 r, .int .u64 c'] 25))) := below_alloc _ _
  have HV4 : Hid (Box (w4.alloc (.cells #[.int .u64 p', .int .u32 o', .int .u8 r, .int .u64 c'] 25)) w4.heap.size p' o' r c') := box_new _ _ _ _ _
  go_wp2_with fail
  refine (decode_yes _ _ _ _ (HB4.out.carry HT4.out) P O R C E1.out E2.out E3.out E4.out).mono ?_; rintro e w5 ⟨rfl, bel5⟩
  have b5 : Below w.heap.size w w5 := below_one (below_one b4 HT4.out) bel5
  have HX5 : Hid (Box w5 w.heap.size p o r c) := (HX4.out.carry HT4.out).carry bel5
  have HV5 : Hid (Box w5 w4.heap.size p' o' r c') := HV4.out.carry bel5
  have HB5 : Hid (Bts w5 ao 16 cap l) := (HB4.out.carry HT4.out).carry bel5
  clear bel5 b4 HX4 HB4 HT4 HV4
  go_wp2
  have HT5 : Hid (Below w5.heap.size w5 (w5.alloc (.cells #[.int .u64 P, .int .u32 O, .int .u8 R, .int .u64 C] 25)).drew) := (below_alloc _ _).drew
  have bb : Below w.heap.size w (w5.alloc (.cells #[.int .u64 P, .int .u32 O, .int .u8 R, .int .u64 C] 25)).drew := below_one b5 HT5.out
  have hS : Hid (Box (w5.alloc (.cells #[.int .u64 P, .int .u32 O, .int .u8 R, .int .u64 C] 25)).drew w.heap.size p o r c ∧ Box (w5.alloc (.cells #[.int .u64 P, .int .u32 O, .int .u8 R, .int .u64 C] 25)).drew w4.heap.size p' o' r c') := ⟨HX5.out.carry HT5.out, HV5.out.carry HT5.out⟩
  have hY : Hid (Box (w5.alloc (.cells #[.int .u64 P, .int .u32 O, .int .u8 R, .int .u64 C] 25)).drew w5.heap.size P O R C) := box_new w5 _ _ _ _
  have hB : Hid (Bts (w5.alloc (.cells #[.int .u64 P, .int .u32 O, .int .u8 R, .int .u64 C] 25)).drew ao 16 cap l) := HB5.out.carry HT5.out
  clear HT5 b5 HX5 HV5 HB5
  go_region_held (fun w' => (w'.cell? ⟨w.heap.size, 0, none⟩ = some (.int .u64 p) ∧ w'.cell? ⟨w.heap.size, 1, none⟩ = some (.int .u32 o) ∧ w'.cell? ⟨w.heap.size, 2, none⟩ = some (.int .u8 r) ∧ w'.cell? ⟨w.heap.size, 3, none⟩ = some (.int .u64 c)) ∧
      (w'.cell? ⟨w4.heap.size, 0, none⟩ = some (.int .u64 p') ∧ w'.cell? ⟨w4.heap.size, 1, none⟩ = some (.int .u32 o') ∧ w'.cell? ⟨w4.heap.size, 2, none⟩ = some (.int .u8 r) ∧ w'.cell? ⟨w4.heap.size, 3, none⟩ = some (.int .u64 c')))
    (exact hS.out)
    (first
      | (go_at_call 9; refine (make_at p o r c p' o' c' _ hp ho hr hc EP.out EO.out EC.out).mono ?_; rintro e wx ⟨rfl, bel⟩; have bb := below_one bb bel; have hS : Hid (Box wx w.heap.size p o r c ∧ Box wx w4.heap.size p' o' r c') := ⟨hS.out.1.carry bel, hS.out.2.carry bel⟩; have hY : Hid (Box wx w5.heap.size P O R C) := hY.out.carry bel; have hB : Hid (Bts wx ao 16 cap l) := hB.out.carry bel; clear bel))
  go_wp2
  have bb : Below w.heap.size w wx.drew := bb.drew
  have hY : Hid (Box wx.drew w5.heap.size P O R C) := hY
  have hB : Hid (Bts wx.drew ao 16 cap l) := hB
  have cvb := conv_bts hB.out
  clear hS
  obtain ⟨k0, k1, k2, k3⟩ := hY.out
  have hu : undef = Value.tuple #[] := rfl
  first
    | (go_region_with (first
      | (go_at_call 11; refine (own_may P O R C _ (by omega) (by omega) hR (by omega)).mono ?_; rintro e wy ⟨rfl, bel⟩; have bb := below_one bb bel; have hY : Hid (Box wy w5.heap.size P O R C) := hY.out.carry bel; have hB : Hid (Bts wy ao 16 cap l) := hB.out.carry bel; have cvb := conv_bts hB.out; obtain ⟨k0, k1, k2, k3⟩ := hY.out; clear bel)
      | (go_at_call 13; refine (own_bytes P O R C _ hP hO hR hC).mono ?_; rintro e wy ⟨gh, ch, rfl, hgh, hownh, bel⟩; have bb := below_one bb bel; have hY : Hid (Box wy w5.heap.size P O R C) := hY.out.carry bel; have hB : Hid (Bts wy ao 16 cap l) := hB.out.carry bel; have cvb := conv_bts hB.out; have cvh := conv_bts (owns_at hownh); rw [HL.out] at cvh; clear bel)))
    | fail
  all_goals go_wp2
  all_goals go_ret
  all_goals exact ⟨rfl, bb⟩
set_option maxHeartbeats 3200000 in
theorem walk_back_no (p o r c : Nat) (ao : Option Addr) (n cap : Nat) (w : World) (hp : p ≤ 18446744073709551615) (ho : o ≤ 4294967295) (hr : r ≤ 255) (hc : c ≤ 18446744073709551615) (hn : n ≤ 9223372036854775807) (hne : n ≠ 16) :
    Calls Try.prog 4 #[.agg #[.int .u64 p, .int .u32 o, .int .u8 r, .int .u64 c], .slice ao n cap] w fun e w' => e = .returned (.bool true) ∧ Below w.heap.size w w' := by
  obtain ⟨p', ep⟩ : ∃ x, p % 281474976710656 = x := ⟨_, rfl⟩
  obtain ⟨o', eo⟩ : ∃ x, o % 16777216 = x := ⟨_, rfl⟩
  obtain ⟨c', ec⟩ : ∃ x, c % 281474976710656 = x := ⟨_, rfl⟩
  have hp' : p' ≤ 281474976710655 := by omega
  have ho' : o' ≤ 16777215 := by omega
  have hc' : c' ≤ 281474976710655 := by omega
  have EP : Hid _ := ep
  have EO : Hid _ := eo
  have EC : Hid _ := ec
  have hne' : ¬ (n : Int) = 16 := by omega
  have HNE : Hid _ := hne
  have hg := eqGuard25
  have hN : ∀ wx, (binOp .neq 25 (.agg #[.int .u64 p', .int .u32 o', .int .u8 r, .int .u64 c']) (.agg #[.int .u64 p', .int .u32 o', .int .u8 r, .int .u64 c'])).run Try.prog wx = .ok (.bool false) wx := by
    intro wx; rw [neq_cap]; simp
  have hE : ∀ wx, (binOp .eql 25 (.agg #[.int .u64 0, .int .u32 0, .int .u8 0, .int .u64 0]) (.agg #[.int .u64 0, .int .u32 0, .int .u8 0, .int .u64 0])).run Try.prog wx = .ok (.bool true) wx := by
    intro wx; rw [eql_cap]; simp
  clear ep eo ec hne
  have HT : Hid (Below w.heap.size w (w.alloc (.cells #[.int .u64 p, .int .u32 o, .int .u8 r, .int .u64 c] 25))) := below_alloc _ _
  have HX : Hid (Box (w.alloc (.cells #[.int .u64 p, .int .u32 o, .int .u8 r, .int .u64 c] 25)) w.heap.size p o r c) := box_new w p o r c
  go_enter Try.func4, Try.ntmps4
  go_wp2_with fail
  refine (awake_any _).mono ?_; rintro e w1 ⟨rfl, bel1⟩
  have b1 : Below w.heap.size w w1 := below_one HT.out bel1
  have HX1 : Hid (Box w1 w.heap.size p o r c) := HX.out.carry bel1
  clear HT HX bel1
  obtain ⟨k0, k1, k2, k3⟩ := HX1.out
  go_wp2_with fail
  refine (make_at p o r c p' o' c' _ hp ho hr hc EP.out EO.out EC.out).mono ?_; rintro e w2 ⟨rfl, bel2⟩
  have b2 : Below w.heap.size w w2 := below_one b1 bel2
  have HX2 : Hid (Box w2 w.heap.size p o r c) := HX1.out.carry bel2
  clear bel2 b1 HX1 k0 k1 k2 k3
  go_wp2_with fail
  refine (own_bytes p' o' r c' _ hp' ho' hr hc').mono ?_; rintro e w3 ⟨gf, cf, rfl, hgf, hownf, bel3⟩
  have b3 : Below w.heap.size w w3 := below_one b2 bel3
  have HX3 : Hid (Box w3 w.heap.size p o r c) := HX2.out.carry bel3
  have HF3 : Hid (Bts w3 (some ⟨gf, 0, none⟩) 16 cf (capF p' o' r c')) := owns_at hownf
  clear bel3 b2 HX2 hownf hgf
  go_wp2_with fail
  refine (decode_yes _ _ _ _ HF3.out p' o' r c' (cap_port _ _ _ _ hp') (cap_object _ _ _ _ ho') (cap_rights _ _ _ _ hr) (cap_check _ _ _ _ hc')).mono ?_; rintro e w4 ⟨rfl, bel4⟩
  have b4 : Below w.heap.size w w4 := below_one b3 bel4
  have HX4 : Hid (Box w4 w.heap.size p o r c) := HX3.out.carry bel4
  clear bel4 b3 HX3 HF3
  have HT4 : Hid (Below w4.heap.size w4 (w4.alloc (.cells #[.int .u64 p', .int .u32 o', .int .u8 r, .int .u64 c'] 25))) := below_alloc _ _
  have HV4 : Hid (Box (w4.alloc (.cells #[.int .u64 p', .int .u32 o', .int .u8 r, .int .u64 c'] 25)) w4.heap.size p' o' r c') := box_new _ _ _ _ _
  go_wp2_with fail
  refine (decode_no _ _ _ _ hn HNE.out).mono ?_; rintro e w5 ⟨rfl, bel5⟩
  have b5 : Below w.heap.size w w5 := below_one (below_one b4 HT4.out) bel5
  have HX5 : Hid (Box w5 w.heap.size p o r c) := (HX4.out.carry HT4.out).carry bel5
  have HV5 : Hid (Box w5 w4.heap.size p' o' r c') := HV4.out.carry bel5
  clear bel5 b4 HX4 HT4 HV4
  go_wp2
  have HT5 : Hid (Below w5.heap.size w5 (w5.alloc (.cells #[.int .u64 0, .int .u32 0, .int .u8 0, .int .u64 0] 25)).drew) := (below_alloc _ _).drew
  have bb : Below w.heap.size w (w5.alloc (.cells #[.int .u64 0, .int .u32 0, .int .u8 0, .int .u64 0] 25)).drew := below_one b5 HT5.out
  have hS : Hid (Box (w5.alloc (.cells #[.int .u64 0, .int .u32 0, .int .u8 0, .int .u64 0] 25)).drew w.heap.size p o r c ∧ Box (w5.alloc (.cells #[.int .u64 0, .int .u32 0, .int .u8 0, .int .u64 0] 25)).drew w4.heap.size p' o' r c') := ⟨HX5.out.carry HT5.out, HV5.out.carry HT5.out⟩
  have hY : Hid (Box (w5.alloc (.cells #[.int .u64 0, .int .u32 0, .int .u8 0, .int .u64 0] 25)).drew w5.heap.size 0 0 0 0) := box_new w5 0 0 0 0
  clear HT5 b5 HX5 HV5
  go_region_held (fun w' => (w'.cell? ⟨w.heap.size, 0, none⟩ = some (.int .u64 p) ∧ w'.cell? ⟨w.heap.size, 1, none⟩ = some (.int .u32 o) ∧ w'.cell? ⟨w.heap.size, 2, none⟩ = some (.int .u8 r) ∧ w'.cell? ⟨w.heap.size, 3, none⟩ = some (.int .u64 c)) ∧
      (w'.cell? ⟨w4.heap.size, 0, none⟩ = some (.int .u64 p') ∧ w'.cell? ⟨w4.heap.size, 1, none⟩ = some (.int .u32 o') ∧ w'.cell? ⟨w4.heap.size, 2, none⟩ = some (.int .u8 r) ∧ w'.cell? ⟨w4.heap.size, 3, none⟩ = some (.int .u64 c')))
    (exact hS.out)
    (first
      | (go_at_call 9; refine (make_at p o r c p' o' c' _ hp ho hr hc EP.out EO.out EC.out).mono ?_; rintro e wx ⟨rfl, bel⟩; have bb := below_one bb bel; have hS : Hid (Box wx w.heap.size p o r c ∧ Box wx w4.heap.size p' o' r c') := ⟨hS.out.1.carry bel, hS.out.2.carry bel⟩; have hY : Hid (Box wx w5.heap.size 0 0 0 0) := hY.out.carry bel; clear bel))
  go_wp2
  clear hS
  obtain ⟨k0, k1, k2, k3⟩ := hY.out
  go_quiet (fail)
  go_wp2
  go_ret
  exact ⟨rfl, below_drewN bb _⟩
theorem walk_back (p o r c : Nat) (ao : Option Addr) (n cap : Nat) (l : List UInt8) (w : World) (hp : p ≤ 18446744073709551615) (ho : o ≤ 4294967295) (hr : r ≤ 255) (hc : c ≤ 18446744073709551615) (hb : Bts w ao n cap l) :
    Calls Try.prog 4 #[.agg #[.int .u64 p, .int .u32 o, .int .u8 r, .int .u64 c], .slice ao n cap] w fun e w' => e = .returned (.bool true) ∧ Below w.heap.size w w' := by
  by_cases h : n = 16
  · subst h; exact walk_back_yes p o r c ao cap l w hp ho hr hc hb
  · exact walk_back_no p o r c ao n cap w hp ho hr hc (Nat.le_trans hb.2.1 hb.2.2.1) h

end Go.Proofs.Ytmbjgndajlomnaa

namespace Go.Proofs.Ytmbjgndajlomnaa.capsBack
open Go.ChangeShapes Go.WideShapes Go.ChangeAt Go.RowKit
set_option linter.unusedVariables false

theorem own : ownKnob Try.prog.godebug = none := by kernel_rfl
theorem laidOut : laidOutB Try.prog = true := by kernel_rfl

theorem walk (p0 o0 r0 c0 : Nat) (a1 : Option Addr) (len1 cap1 : Nat) (z1 : List Int) (w : World) (w0 : p0 ≤ 18446744073709551615) (x0 : o0 ≤ 4294967295) (y0 : r0 ≤ 255) (u0 : c0 ≤ 18446744073709551615) (w1 : RowOf .u8 w a1 len1 cap1 z1) :
    Calls Try.prog 4 #[.agg #[.int .u64 p0, .int .u32 o0, .int .u8 r0, .int .u64 c0], .slice a1 len1 cap1] w fun e w' => e = .returned (.bool true) ∧ Below w.heap.size w w' :=
  by obtain ⟨l, hl⟩ := w1.bytes; exact walk_back p0 o0 r0 c0 a1 len1 cap1 l w w0 x0 y0 u0 hl

set_option maxRecDepth 100000 in
theorem lifted (os : Os) (started : os.Started) (H : Type) (enc : TypeId × Value → H) :
    ReturnsInHanded {} Try.checked os 4 .any (Rows.capsBackSpec.pre6 enc Try.prog Try.f4 Rows.capsBackRow.domain false) (Rows.capsBackSpec.post enc Try.prog Try.f4 false true false false) := by
  refine returnsInHanded_of_change (C := Try.checked) own started (by kernel_rfl) Try.func4
    (ChangeSpec.witness6 (enc := enc) (C := Try.checked) false ⟨#[], #[.agg #[.int .u64 0, .int .u32 0, .int .u8 0, .int .u64 0], .slice none 0 0], []⟩ 8 (by kernel_rfl) (by kernel_rfl) (by kernel_rfl) (by kernel_rfl)) ?_
  intro W base args ds gs before hval0 hW hcnd _
  have hval : ∀ (j : Nat) t v, Try.f4.params[j]? = some t → args[j]? = some v → Value.okWide Try.prog W .any base t v := hval0
  have hW' := hW
  obtain ⟨p, q, hA0, hV, rfl, hfz, hnd⟩ := hW
  have hA : DataW.TrodAll enc Try.prog W 0 (fun _ => true) true Try.f4.params.toList args.toList ds p := hA0
  rw [Try.params4] at hA hval
  obtain ⟨v0, vs0, d0, ds0, p0, q0, hargs, rfl, rfl, h0, r0⟩ := trodAll_cons hA
  obtain ⟨v1, vs1, d1, ds1, p1, q1, rfl, rfl, rfl, h1, r1⟩ := trodAll_cons r0
  obtain ⟨rfl, rfl, rfl⟩ := trodAll_nil r1
  obtain rfl : args = #[v0, v1] := by cases args; simp_all
  obtain ⟨rfl, rfl⟩ := trodVars_none hV
  have k0 := h0
  have lt0 : ∀ x ∈ p0, x.block < W.heap.size := by obtain ⟨m, hm⟩ := k0; exact DataW.trod_lt m _ _ _ hm
  obtain ⟨q0, o0, r0', c0, rfl, w0, x0, y0, u0⟩ := open_cap (hval 0 25 v0 rfl rfl) h0
  obtain ⟨a1, len1, cap1, rfl⟩ := okWide_slice Try.underlying29 (hval 1 29 v1 rfl rfl)
  have k1 := h1
  have lt1 : ∀ x ∈ p1, x.block < W.heap.size := by obtain ⟨m, hm⟩ := k1; exact DataW.trod_lt m _ _ _ hm
  obtain ⟨z1, w1, s1⟩ : ∃ zs, RowOf .u8 W a1 len1 cap1 zs ∧ True := by
    obtain ⟨fuel, hf⟩ := h1
    rcases open_ints Try.underlying29 Try.underlying5 (by kernel_rfl) hf with ⟨hcs, _⟩ | ⟨x, l, c, zs, hcs, _, hl, hm, hz, hx, hcell, hwz⟩
    · simp [Value.cells] at hcs
      obtain ⟨rfl, rfl, rfl⟩ := hcs
      exact ⟨[], .inl ⟨rfl, rfl, rfl, rfl⟩, trivial⟩
    · simp [Value.cells] at hcs
      obtain ⟨rfl, rfl, rfl⟩ := hcs
      exact ⟨zs, .inr ⟨_, rfl, hl, hm, by simpa using hz, hcell, hwz⟩, trivial⟩
  clear hA0 hval0
  refine (walk q0 o0 r0' c0 a1 len1 cap1 z1 W w0 x0 y0 u0 w1).mono fun e W' ⟨he, bel⟩ => ?_
  subst he
  exact ⟨_, rfl, _, _, _, [], _, [], hW', trodAll_mk1 (shut_bool Try.underlying4 _), (trodAll_cons_mk (Below.trod laidOut (by kernel_rfl) (of_decide_eq_true (by kernel_rfl)) k0 bel lt0) (trodAll_cons_mk (Below.trod laidOut (by kernel_rfl) (of_decide_eq_true (by kernel_rfl)) k1 bel lt1) trodAll_mk0)), rfl, bel.frame _, fun h => by cases h⟩

theorem over : Rows.capsBackRow.holds Try.pinned (OpenSpec.ofChange Rows.capsBackSpec) :=
  OpenClaim.holds_of_wide 4 Try.f4 rfl rfl rfl rfl rfl rfl rfl ⟨rfl, rfl, rfl, rfl, rfl⟩ rfl rfl rfl rfl rfl (by kernel_rfl) Try.func4 (by kernel_rfl)
    (of_decide_eq_true (by kernel_rfl)) (by unfold Func.isWrapper; first | (rw [if_pos (by decide +kernel)]; kernel_rfl) | (rw [if_neg (by decide +kernel)]; exact ⟨rfl, rfl⟩))
    (fun os started H enc _ => lifted os started H enc)
end Go.Proofs.Ytmbjgndajlomnaa.capsBack

namespace Go.Proofs.Ytmbjgndajlomnaa
theorem capsBack_holds : Rows.CapsBackSaid := capsBack.over
#print axioms capsBack_holds
end Go.Proofs.Ytmbjgndajlomnaa
