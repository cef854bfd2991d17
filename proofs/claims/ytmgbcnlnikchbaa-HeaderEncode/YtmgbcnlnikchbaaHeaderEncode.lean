/-
  HeaderEncode: a message's bytes are what the document says; one that may not be has none.
-/
import Derived.Test.YtmgbcnlnikchbaaRows
import Derived.Test.YtmgbcnlnikchbaaHMay
import Derived.Test.YtmgbcnlnikchbaaHAwake
import Derived.Test.YtmgbcnlnikchbaaHOpen
import Derived.WalkKit
import Derived.WalkSpells
import Derived.WalkLawsBesides
import Derived.Deep.QuietTactic
import Derived.BigQuiet
import Derived.ProofKit
import Derived.OpenShut
import Derived.ShutString
import Derived.ChangeOld
import Derived.Below
import Derived.SizedLaws
namespace Go.Proofs.Ytmgbcnlnikchbaa

open Go.RowKit
set_option maxHeartbeats 4000000 in
theorem walk_hencode (m : Msg) (ao : Option Addr) (n cap : Nat) (l : List UInt8) (w : World) (hm : m.ok) (hb : Bts w ao n cap l) :
    Calls Try.prog 3 #[.agg #[.int .u64 m.ta, .int .u64 m.rp, .int .u32 m.id, .int .u16 m.op, .int .u16 m.st, .int .u64 m.p, .int .u32 m.o, .int .u8 m.r, .int .u64 m.c, .int .u64 m.ar, .slice ao n cap]] w fun e w' => e = .returned (.bool true) ∧ Below w.heap.size w w' := by
  obtain ⟨m', hm'⟩ : ∃ x, m.made = x := ⟨_, rfl⟩
  obtain ⟨k, hk⟩ : ∃ x, min n 4096 = x := ⟨_, rfl⟩
  have HG : Hid (m'.good) := by show m'.good; rw [← hm']; exact Msg.made_good hm
  have hk4 : k ≤ 4096 := by omega
  have hn63 : n ≤ 9223372036854775807 := Nat.le_trans hb.2.1 hb.2.2.1
  have hne1 : IntKind.i64.wrap (46 + (k : Int)) = 46 + (k : Int) := IntWalk.i64_in _ (by omega)
  obtain ⟨L, hL⟩ : ∃ x, msgF m' (l.take 4096) = x := ⟨_, rfl⟩
  have HL : Hid _ := hL
  have HM : Hid _ := hm'
  have HK : Hid _ := hk
  have HO : Hid (m.ok) := hm
  have HB : Hid (Bts w ao n cap l) := hb
  clear hb hm' hk hm hL
  have HT : Hid (Below w.heap.size w (w.alloc (.cells #[.int .u64 m.ta, .int .u64 m.rp, .int .u32 m.id, .int .u16 m.op, .int .u16 m.st, .int .u64 m.p, .int .u32 m.o, .int .u8 m.r, .int .u64 m.c, .int .u64 m.ar, .slice ao n cap] 29))) := below_alloc _ _
  have HX : Hid (MBox (w.alloc (.cells #[.int .u64 m.ta, .int .u64 m.rp, .int .u32 m.id, .int .u16 m.op, .int .u16 m.st, .int .u64 m.p, .int .u32 m.o, .int .u8 m.r, .int .u64 m.c, .int .u64 m.ar, .slice ao n cap] 29)) w.heap.size m (.slice ao n cap)) := mbox_new w m _
  go_enter Try.func3, Try.ntmps3
  go_wp2_with fail
  refine (awake_any _).mono ?_; rintro e w1 ⟨rfl, bel1⟩
  have b1 : Below w.heap.size w w1 := below_one HT.out bel1
  have HX1 : Hid (MBox w1 w.heap.size m (.slice ao n cap)) := HX.out.carry bel1
  clear HT HX bel1
  obtain ⟨k0, k1, k2, k3, k4, k5, k6, k7, k8, k9, k10⟩ := HX1.out
  go_wp2_with fail
  refine (hmake_at m ao n cap l _ HO.out (HB.out.carry b1) m' HM.out k HK.out).mono ?_; rintro e w2 ⟨co, cc, rfl, hb2, hn2, bel2⟩
  have b2 : Below w.heap.size w w2 := below_one b1 bel2
  have HX2 : Hid (MBox w2 w.heap.size m (.slice ao n cap)) := HX1.out.carry bel2
  have HD2 : Hid (Bts w2 co k cc (l.take 4096)) := hb2
  clear bel2 b1 HX1 hb2 hn2
  clear k0 k1 k2 k3 k4 k5 k6 k7 k8 k9 k10
  have HT3 : Hid (Below w2.heap.size w2 (w2.alloc (.cells #[.int .u64 m'.ta, .int .u64 m'.rp, .int .u32 m'.id, .int .u16 m'.op, .int .u16 m'.st, .int .u64 m'.p, .int .u32 m'.o, .int .u8 m'.r, .int .u64 m'.c, .int .u64 m'.ar, .slice co k cc] 29))) := below_alloc _ _
  have HY3 : Hid (MBox (w2.alloc (.cells #[.int .u64 m'.ta, .int .u64 m'.rp, .int .u32 m'.id, .int .u16 m'.op, .int .u16 m'.st, .int .u64 m'.p, .int .u32 m'.o, .int .u8 m'.r, .int .u64 m'.c, .int .u64 m'.ar, .slice co k cc] 29)) w2.heap.size m' (.slice co k cc)) := mbox_new w2 m' _
  go_wp2_with fail
  refine (hencode_yes m' co k cc (l.take 4096) _ HG.out (HD2.out.carry HT3.out) hk4).mono ?_; rintro e w4 ⟨cb, ccb, rfl, hb4, bel4⟩
  rw [HL.out] at hb4
  have b4 : Below w.heap.size w w4 := below_one (below_one b2 HT3.out) bel4
  have HX4 : Hid (MBox w4 w.heap.size m (.slice ao n cap)) := (HX2.out.carry HT3.out).carry bel4
  have HY4 : Hid (MBox w4 w2.heap.size m' (.slice co k cc)) := HY3.out.carry bel4
  have HD4 : Hid (Bts w4 co k cc (l.take 4096)) := (HD2.out.carry HT3.out).carry bel4
  have HB4 : Hid (Bts w4 cb (46 + k) ccb L) := hb4
  have hc4 : ccb ≤ 9223372036854775807 := hb4.2.2.1
  clear bel4 b2 HX2 HD2 HT3 HY3 hb4
  have bb := b4.drew
  have hS : Hid (MBox w4.drew w.heap.size m (.slice ao n cap) ∧ MBox w4.drew w2.heap.size m' (.slice co k cc) ∧ Bts w4.drew cb (46 + k) ccb L ∧ Bts w4.drew co k cc (l.take 4096)) := ⟨HX4.out.drew, HY4.out.drew, HB4.out.drew, HD4.out.drew⟩
  clear HX4 HY4 HB4 HD4 b4
  go_wp2_with fail
  go_region_held (fun w' => (w'.cell? ⟨w.heap.size, 0, none⟩ = some (.int .u64 m.ta) ∧ w'.cell? ⟨w.heap.size, 1, none⟩ = some (.int .u64 m.rp) ∧ w'.cell? ⟨w.heap.size, 2, none⟩ = some (.int .u32 m.id) ∧ w'.cell? ⟨w.heap.size, 3, none⟩ = some (.int .u16 m.op) ∧ w'.cell? ⟨w.heap.size, 4, none⟩ = some (.int .u16 m.st) ∧ w'.cell? ⟨w.heap.size, 5, none⟩ = some (.int .u64 m.p) ∧ w'.cell? ⟨w.heap.size, 6, none⟩ = some (.int .u32 m.o) ∧ w'.cell? ⟨w.heap.size, 7, none⟩ = some (.int .u8 m.r) ∧ w'.cell? ⟨w.heap.size, 8, none⟩ = some (.int .u64 m.c) ∧ w'.cell? ⟨w.heap.size, 9, none⟩ = some (.int .u64 m.ar) ∧ w'.cell? ⟨w.heap.size, 10, none⟩ = some (.slice ao n cap)) ∧ (w'.cell? ⟨w2.heap.size, 0, none⟩ = some (.int .u64 m'.ta) ∧ w'.cell? ⟨w2.heap.size, 1, none⟩ = some (.int .u64 m'.rp) ∧ w'.cell? ⟨w2.heap.size, 2, none⟩ = some (.int .u32 m'.id) ∧ w'.cell? ⟨w2.heap.size, 3, none⟩ = some (.int .u16 m'.op) ∧ w'.cell? ⟨w2.heap.size, 4, none⟩ = some (.int .u16 m'.st) ∧ w'.cell? ⟨w2.heap.size, 5, none⟩ = some (.int .u64 m'.p) ∧ w'.cell? ⟨w2.heap.size, 6, none⟩ = some (.int .u32 m'.o) ∧ w'.cell? ⟨w2.heap.size, 7, none⟩ = some (.int .u8 m'.r) ∧ w'.cell? ⟨w2.heap.size, 8, none⟩ = some (.int .u64 m'.c) ∧ w'.cell? ⟨w2.heap.size, 9, none⟩ = some (.int .u64 m'.ar) ∧ w'.cell? ⟨w2.heap.size, 10, none⟩ = some (.slice co k cc)) ∧ (convert 27 9 (.slice cb (46 + k) ccb)).run Try.prog w' = .ok (.string (str L)) w') (exact ⟨hS.out.1, hS.out.2.1, conv_bts hS.out.2.2.1⟩)
    (first
      | (go_at_call 10; refine (hwant_yes m' co k cc (l.take 4096) _ HG.out hS.out.2.2.2 hk4).mono ?_; rintro e wx ⟨cw, ccw, rfl, hbw, hnw, bel⟩; rw [HL.out] at hbw; have bb := below_one bb bel; have hS : Hid (MBox wx w.heap.size m (.slice ao n cap) ∧ MBox wx w2.heap.size m' (.slice co k cc) ∧ Bts wx cb (46 + k) ccb L ∧ Bts wx co k cc (l.take 4096)) := ⟨hS.out.1.carry bel, hS.out.2.1.carry bel, hS.out.2.2.1.carry bel, hS.out.2.2.2.carry bel⟩; have cvw := conv_bts hbw; clear bel hbw hnw)
      | (go_at_call 11; refine (hmay_any m ao n cap _ HO.out hn63).mono ?_; rintro e wx ⟨rfl, bel⟩; have bb := below_one bb bel; have hS : Hid (MBox wx w.heap.size m (.slice ao n cap) ∧ MBox wx w2.heap.size m' (.slice co k cc) ∧ Bts wx cb (46 + k) ccb L ∧ Bts wx co k cc (l.take 4096)) := ⟨hS.out.1.carry bel, hS.out.2.1.carry bel, hS.out.2.2.1.carry bel, hS.out.2.2.2.carry bel⟩; clear bel)
      | (go_at_call 12; refine (hown_may m ao n cap l _ HO.out (HB.out.carry bb)).mono ?_; rintro e wx ⟨rfl, bel⟩; have bb := below_one bb bel; have hS : Hid (MBox wx w.heap.size m (.slice ao n cap) ∧ MBox wx w2.heap.size m' (.slice co k cc) ∧ Bts wx cb (46 + k) ccb L ∧ Bts wx co k cc (l.take 4096)) := ⟨hS.out.1.carry bel, hS.out.2.1.carry bel, hS.out.2.2.1.carry bel, hS.out.2.2.2.carry bel⟩; clear bel))
  have HX5 := hide hS.out.1
  clear hS
  obtain ⟨k0, k1, k2, k3, k4, k5, k6, k7, k8, k9, k10⟩ := HX5.out
  obtain ⟨q, hq⟩ : ∃ q, hmayD m n = q := ⟨_, rfl⟩
  have HQ : Hid _ := hq
  clear hq
  cases q with
  | true =>
    have HN : Hid (m.good ∧ n ≤ 4096) := by
      obtain ⟨o0, o1, o2, o3, o4, o5, o6, o7, o8, o9⟩ := HO.out
      obtain ⟨d0, d1, ⟨d2, d3, d4⟩, d5⟩ := of_decide_eq_true HQ.out
      exact ⟨⟨d0, d1, o2, o3, o4, d2, d3, o7, d4, o9⟩, d5⟩
    go_wp2_with fail
    refine (hencode_yes m ao n cap l _ HN.out.1 (HB.out.carry bb) HN.out.2).mono ?_; rintro e w6 ⟨c6, cc6, rfl, hb6, bel6⟩
    have b6 := below_one bb bel6
    have HX6 := hide (HX5.out.carry bel6)
    clear bel6 hb6 bb HX5
    clear k0 k1 k2 k3 k4 k5 k6 k7 k8 k9 k10
    obtain ⟨k0, k1, k2, k3, k4, k5, k6, k7, k8, k9, k10⟩ := HX6.out
    go_wp2_with fail
    refine (hown_may m ao n cap l _ HO.out (HB.out.carry b6)).mono ?_; rintro e w7 ⟨rfl, bel7⟩
    rw [HQ.out]
    go_wp2
    go_ret
    exact ⟨rfl, below_one b6 bel7⟩
  | false =>
    go_wp2_with fail
    refine (hencode_no m ao n cap _ HO.out hn63 HQ.out).mono ?_; rintro e w6 ⟨rfl, bel6⟩
    have b6 := below_one bb bel6
    have HX6 := hide (HX5.out.carry bel6)
    clear bel6 bb HX5
    clear k0 k1 k2 k3 k4 k5 k6 k7 k8 k9 k10
    obtain ⟨k0, k1, k2, k3, k4, k5, k6, k7, k8, k9, k10⟩ := HX6.out
    go_wp2_with fail
    refine (hown_may m ao n cap l _ HO.out (HB.out.carry b6)).mono ?_; rintro e w7 ⟨rfl, bel7⟩
    rw [HQ.out]
    go_wp2_with fail
    refine (is_same 8 _).mono ?_; rintro e w8 ⟨rfl, rfl⟩
    go_wp2
    go_ret
    exact ⟨rfl, below_one b6 bel7⟩

end Go.Proofs.Ytmgbcnlnikchbaa

namespace Go.Proofs.Ytmgbcnlnikchbaa.headerEncode
open Go.ChangeShapes Go.WideShapes Go.ChangeAt Go.RowKit
set_option linter.unusedVariables false

theorem own : ownKnob Try.prog.godebug = none := by kernel_rfl
theorem laidOut : laidOutB Try.prog = true := by kernel_rfl

theorem walk (m0 : Msg) (a0 : Option Addr) (len0 cap0 : Nat) (z0 : List Int) (w : World) (w0 : m0.ok) (x0 : RowOf .u8 w a0 len0 cap0 z0) :
    Calls Try.prog 3 #[.agg #[.int .u64 m0.ta, .int .u64 m0.rp, .int .u32 m0.id, .int .u16 m0.op, .int .u16 m0.st, .int .u64 m0.p, .int .u32 m0.o, .int .u8 m0.r, .int .u64 m0.c, .int .u64 m0.ar, .slice a0 len0 cap0]] w fun e w' => e = .returned (.bool true) ∧ Below w.heap.size w w' :=
  by obtain ⟨l, hl⟩ := x0.bytes; exact walk_hencode m0 a0 len0 cap0 l w w0 hl

set_option maxRecDepth 100000 in
theorem lifted (os : Os) (started : os.Started) (H : Type) (enc : TypeId × Value → H) :
    ReturnsInHanded {} Try.checked os 3 .any (Rows.headerEncodeSpec.pre6 enc Try.prog Try.f3 Rows.headerEncodeRow.domain false) (Rows.headerEncodeSpec.post enc Try.prog Try.f3 false true false false) := by
  refine returnsInHanded_of_change (C := Try.checked) own started (by kernel_rfl) Try.func3
    (ChangeSpec.witness6 (enc := enc) (C := Try.checked) false ⟨#[], #[.agg #[.int .u64 0, .int .u64 0, .int .u32 0, .int .u16 0, .int .u16 0, .int .u64 0, .int .u32 0, .int .u8 0, .int .u64 0, .int .u64 0, .slice none 0 0]], []⟩ 8 (by kernel_rfl) (by kernel_rfl) (by kernel_rfl) (by kernel_rfl)) ?_
  intro W base args ds gs before hval0 hW hcnd _
  have hval : ∀ (j : Nat) t v, Try.f3.params[j]? = some t → args[j]? = some v → Value.okWide Try.prog W .any base t v := hval0
  have hW' := hW
  obtain ⟨p, q, hA0, hV, rfl, hfz, hnd⟩ := hW
  have hA : DataW.TrodAll enc Try.prog W 0 (fun _ => true) true Try.f3.params.toList args.toList ds p := hA0
  rw [Try.params3] at hA hval
  obtain ⟨v0, vs0, d0, ds0, p0, q0, hargs, rfl, rfl, h0, r0⟩ := trodAll_cons hA
  obtain ⟨rfl, rfl, rfl⟩ := trodAll_nil r0
  obtain rfl : args = #[v0] := by cases args; simp_all
  obtain ⟨rfl, rfl⟩ := trodVars_none hV
  have k0 := h0
  have lt0 : ∀ x ∈ p0, x.block < W.heap.size := by obtain ⟨m, hm⟩ := k0; exact DataW.trod_lt m _ _ _ hm
  obtain ⟨m0, a0, len0, cap0, z0, rfl, w0, x0⟩ := open_msg (hval 0 29 v0 rfl rfl) h0
  clear hA0 hval0
  refine (walk m0 a0 len0 cap0 z0 W w0 x0).mono fun e W' ⟨he, bel⟩ => ?_
  subst he
  exact ⟨_, rfl, _, _, _, [], _, [], hW', trodAll_mk1 (shut_bool Try.underlying4 _), (trodAll_cons_mk (Below.trod laidOut (by kernel_rfl) (of_decide_eq_true (by kernel_rfl)) k0 bel lt0) trodAll_mk0), rfl, bel.frame _, fun h => by cases h⟩

theorem over : Rows.headerEncodeRow.holds Try.pinned (OpenSpec.ofChange Rows.headerEncodeSpec) :=
  OpenClaim.holds_of_wide 3 Try.f3 rfl rfl rfl rfl rfl rfl rfl ⟨rfl, rfl, rfl, rfl, rfl⟩ rfl rfl rfl rfl rfl (by kernel_rfl) Try.func3 (by kernel_rfl)
    (of_decide_eq_true (by kernel_rfl)) (by unfold Func.isWrapper; first | (rw [if_pos (by decide +kernel)]; kernel_rfl) | (rw [if_neg (by decide +kernel)]; exact ⟨rfl, rfl⟩))
    (fun os started H enc _ => lifted os started H enc)
end Go.Proofs.Ytmgbcnlnikchbaa.headerEncode

namespace Go.Proofs.Ytmgbcnlnikchbaa
theorem headerEncode_holds : Rows.HeaderEncodeSaid := headerEncode.over
#print axioms headerEncode_holds
end Go.Proofs.Ytmgbcnlnikchbaa
