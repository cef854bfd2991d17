/-
  HeaderBack: a message is read of its bytes; bytes that are read are those of what is read of them; others are none's.
-/
import Derived.Test.YtmgbcnlnikchbaaRows
import Derived.Test.YtmgbcnlnikchbaaHMay
import Derived.Test.YtmgbcnlnikchbaaHAwake
import Derived.Test.YtmgbcnlnikchbaaHOpen
import Derived.Test.YtmgbcnlnikchbaaHMath
import Derived.Test.YtmgbcnlnikchbaaHDecY
import Derived.WalkKit
import Derived.WalkSpells
import Derived.WalkLawsBesides
import Derived.Deep.QuietTactic
import Derived.BigQuiet
import Derived.ProofKit
import Derived.OpenShut
import Derived.ShutString
import Derived.ChangeOld
import Derived.Below
import Derived.SizedLaws
namespace Go.Proofs.Ytmgbcnlnikchbaa

open Go.RowKit
theorem readD_false_or {l : List UInt8} (h : readD l = true) : ∃ x, numF ((l.drop 44).take 2) = x ∧ x ≤ 4096 ∧ l.length = 46 + x := by
  obtain ⟨h1, h2, h3⟩ := of_decide_eq_true h
  exact ⟨_, rfl, h2, h3⟩
theorem good_may {m : Msg} {n : Nat} (h : m.good) (hn : n ≤ 4096) : hmayD m n = true := decide_eq_true ⟨h.1, h.2.1, ⟨h.2.2.2.2.2.1, h.2.2.2.2.2.2.1, h.2.2.2.2.2.2.2.2.1⟩, hn⟩
set_option maxHeartbeats 4000000 in
theorem walk_back (m : Msg) (ao : Option Addr) (n cap : Nat) (l : List UInt8) (bo : Option Addr) (nb capb : Nat) (r : List UInt8) (w : World) (hm : m.ok) (ha : Bts w ao n cap l) (hb : Bts w bo nb capb r) :
    Calls Try.prog 4 #[.agg #[.int .u64 m.ta, .int .u64 m.rp, .int .u32 m.id, .int .u16 m.op, .int .u16 m.st, .int .u64 m.p, .int .u32 m.o, .int .u8 m.r, .int .u64 m.c, .int .u64 m.ar, .slice ao n cap], .slice bo nb capb] w fun e w' => e = .returned (.bool true) ∧ Below w.heap.size w w' := by
  obtain ⟨m', hm'⟩ : ∃ x, m.made = x := ⟨_, rfl⟩
  obtain ⟨k, hk⟩ : ∃ x, min n 4096 = x := ⟨_, rfl⟩
  have hg : m'.good := by rw [← hm']; exact Msg.made_good hm
  obtain ⟨L, hL⟩ : ∃ x, msgF m' (l.take 4096) = x := ⟨_, rfl⟩
  have hlk : (l.take 4096).length = k := by rw [List.length_take, ← ha.1, ← hk]; omega
  have hk4 : k ≤ 4096 := by omega
  have HP : Hid (partsF L = m') := by show partsF L = m'; rw [← hL]; exact msg_parts m' _ hg
  have HNU : Hid (numF ((L.drop 44).take 2) = k) := by show numF ((L.drop 44).take 2) = k; rw [← hL, msg_num _ _ (by omega), hlk]
  have HDT : Hid (L.drop 46 = l.take 4096) := by show L.drop 46 = _; rw [← hL]; exact msg_data _ _
  have HS1 : Hid (sameD m' m' (l.take 4096) (l.take 4096) = true) := sameD_iff.2 ⟨rfl, rfl⟩
  have HG : Hid (m'.good) := hg
  have HL : Hid _ := hL
  have HM : Hid _ := hm'
  have HK : Hid _ := hk
  have HO : Hid (m.ok) := hm
  have HA : Hid (Bts w ao n cap l) := ha
  have HB : Hid (Bts w bo nb capb r) := hb
  have hnb : nb ≤ 9223372036854775807 := Nat.le_trans hb.2.1 hb.2.2.1
  clear hb ha hm' hk hm hL hlk hg
  have HT : Hid (Below w.heap.size w (w.alloc (.cells #[.int .u64 m.ta, .int .u64 m.rp, .int .u32 m.id, .int .u16 m.op, .int .u16 m.st, .int .u64 m.p, .int .u32 m.o, .int .u8 m.r, .int .u64 m.c, .int .u64 m.ar, .slice ao n cap] 29))) := below_alloc _ _
  have HX : Hid (MBox (w.alloc (.cells #[.int .u64 m.ta, .int .u64 m.rp, .int .u32 m.id, .int .u16 m.op, .int .u16 m.st, .int .u64 m.p, .int .u32 m.o, .int .u8 m.r, .int .u64 m.c, .int .u64 m.ar, .slice ao n cap] 29)) w.heap.size m (.slice ao n cap)) := mbox_new w m _
  go_enter Try.func4, Try.ntmps4
  go_wp2_with fail
  refine (awake_any _).mono ?_; rintro e w1 ⟨rfl, bel1⟩
  have b1 : Below w.heap.size w w1 := below_one HT.out bel1
  have HX1 : Hid (MBox w1 w.heap.size m (.slice ao n cap)) := HX.out.carry bel1
  clear HT HX bel1
  obtain ⟨k0, k1, k2, k3, k4, k5, k6, k7, k8, k9, k10⟩ := HX1.out
  go_wp2_with fail
  refine (hmake_at m ao n cap l _ HO.out (HA.out.carry b1) m' HM.out k HK.out).mono ?_; rintro e w2 ⟨co, cc, rfl, hb2, hn2, bel2⟩
  have b2 : Below w.heap.size w w2 := below_one b1 bel2
  have HX2 : Hid (MBox w2 w.heap.size m (.slice ao n cap)) := HX1.out.carry bel2
  have HD2 : Hid (Bts w2 co k cc (l.take 4096)) := hb2
  clear bel2 b1 HX1 hb2 hn2
  clear k0 k1 k2 k3 k4 k5 k6 k7 k8 k9 k10
  go_wp2_with fail
  refine (hwant_yes m' co k cc (l.take 4096) _ HG.out HD2.out hk4).mono ?_; rintro e w3 ⟨cb, ccb, rfl, hb3, hn3, bel3⟩
  rw [HL.out] at hb3
  have b3 : Below w.heap.size w w3 := below_one b2 bel3
  have HX3 : Hid (MBox w3 w.heap.size m (.slice ao n cap)) := HX2.out.carry bel3
  have HB3 : Hid (Bts w3 cb (46 + k) ccb L) := hb3
  clear bel3 b2 HX2 HD2 hb3 hn3
  go_wp2_with fail
  refine (hdecode_yes cb (46 + k) ccb L _ HB3.out m' HP.out k HNU.out hk4 rfl).mono ?_; rintro e w4 ⟨cd, ccd, rfl, hb4, hn4, bel4⟩
  rw [HDT.out] at hb4
  have b4 : Below w.heap.size w w4 := below_one b3 bel4
  have HX4 : Hid (MBox w4 w.heap.size m (.slice ao n cap)) := HX3.out.carry bel4
  have HD4 : Hid (Bts w4 cd k ccd (l.take 4096)) := hb4
  clear bel4 b3 HX3 HB3 hb4 hn4
  have HT5 : Hid (Below w4.heap.size w4 (w4.alloc (.cells #[.int .u64 m'.ta, .int .u64 m'.rp, .int .u32 m'.id, .int .u16 m'.op, .int .u16 m'.st, .int .u64 m'.p, .int .u32 m'.o, .int .u8 m'.r, .int .u64 m'.c, .int .u64 m'.ar, .slice cd k ccd] 29)).drew) := (below_alloc _ _).drew
  have bb : Below w.heap.size w (w4.alloc (.cells #[.int .u64 m'.ta, .int .u64 m'.rp, .int .u32 m'.id, .int .u16 m'.op, .int .u16 m'.st, .int .u64 m'.p, .int .u32 m'.o, .int .u8 m'.r, .int .u64 m'.c, .int .u64 m'.ar, .slice cd k ccd] 29)).drew := below_one b4 HT5.out
  have hS : Hid (MBox (w4.alloc (.cells #[.int .u64 m'.ta, .int .u64 m'.rp, .int .u32 m'.id, .int .u16 m'.op, .int .u16 m'.st, .int .u64 m'.p, .int .u32 m'.o, .int .u8 m'.r, .int .u64 m'.c, .int .u64 m'.ar, .slice cd k ccd] 29)).drew w.heap.size m (.slice ao n cap) ∧ MBox (w4.alloc (.cells #[.int .u64 m'.ta, .int .u64 m'.rp, .int .u32 m'.id, .int .u16 m'.op, .int .u16 m'.st, .int .u64 m'.p, .int .u32 m'.o, .int .u8 m'.r, .int .u64 m'.c, .int .u64 m'.ar, .slice cd k ccd] 29)).drew w4.heap.size m' (.slice cd k ccd)) := ⟨HX4.out.carry HT5.out, (mbox_new w4 m' _).drew⟩
  have HD5 := hide (HD4.out.carry HT5.out)
  clear HT5 HX4 HD4 b4
  go_wp2_with fail
  go_region_held (fun w' => (w'.cell? ⟨w.heap.size, 0, none⟩ = some (.int .u64 m.ta) ∧ w'.cell? ⟨w.heap.size, 1, none⟩ = some (.int .u64 m.rp) ∧ w'.cell? ⟨w.heap.size, 2, none⟩ = some (.int .u32 m.id) ∧ w'.cell? ⟨w.heap.size, 3, none⟩ = some (.int .u16 m.op) ∧ w'.cell? ⟨w.heap.size, 4, none⟩ = some (.int .u16 m.st) ∧ w'.cell? ⟨w.heap.size, 5, none⟩ = some (.int .u64 m.p) ∧ w'.cell? ⟨w.heap.size, 6, none⟩ = some (.int .u32 m.o) ∧ w'.cell? ⟨w.heap.size, 7, none⟩ = some (.int .u8 m.r) ∧ w'.cell? ⟨w.heap.size, 8, none⟩ = some (.int .u64 m.c) ∧ w'.cell? ⟨w.heap.size, 9, none⟩ = some (.int .u64 m.ar) ∧ w'.cell? ⟨w.heap.size, 10, none⟩ = some (.slice ao n cap)) ∧ (w'.cell? ⟨w4.heap.size, 0, none⟩ = some (.int .u64 m'.ta) ∧ w'.cell? ⟨w4.heap.size, 1, none⟩ = some (.int .u64 m'.rp) ∧ w'.cell? ⟨w4.heap.size, 2, none⟩ = some (.int .u32 m'.id) ∧ w'.cell? ⟨w4.heap.size, 3, none⟩ = some (.int .u16 m'.op) ∧ w'.cell? ⟨w4.heap.size, 4, none⟩ = some (.int .u16 m'.st) ∧ w'.cell? ⟨w4.heap.size, 5, none⟩ = some (.int .u64 m'.p) ∧ w'.cell? ⟨w4.heap.size, 6, none⟩ = some (.int .u32 m'.o) ∧ w'.cell? ⟨w4.heap.size, 7, none⟩ = some (.int .u8 m'.r) ∧ w'.cell? ⟨w4.heap.size, 8, none⟩ = some (.int .u64 m'.c) ∧ w'.cell? ⟨w4.heap.size, 9, none⟩ = some (.int .u64 m'.ar) ∧ w'.cell? ⟨w4.heap.size, 10, none⟩ = some (.slice cd k ccd))) (exact ⟨hS.out.1, hS.out.2⟩)
    (first
      | (go_at_call 8; refine (hmake_at m ao n cap l _ HO.out (HA.out.carry bb) m' HM.out k HK.out).mono ?_; rintro e wx ⟨ce, cce, rfl, hbe, hne, bel⟩; have bb := below_one bb bel; have hS := hide (And.intro (hS.out.1.carry bel) (hS.out.2.carry bel)); have HD5 := hide (HD5.out.carry bel); have HE5 := hide hbe; clear bel hbe hne)
      | (go_at_call 15; refine (same_any m' m' cd k ccd (l.take 4096) ce k cce (l.take 4096) _ HD5.out HE5.out).mono ?_; rintro e wx ⟨rfl, bel⟩; rw [HS1.out]; have bb := below_one bb bel; have hS := hide (And.intro (hS.out.1.carry bel) (hS.out.2.carry bel)); clear bel))
  clear hS HD5 HE5
  cases hrd : readD r with
  | false =>
    have HRD : Hid _ := hrd
    clear hrd
    go_wp2_with fail
    refine (hdecode_no bo nb capb r _ (HB.out.carry bb) HRD.out).mono ?_; rintro e w6 ⟨rfl, bel6⟩
    have b6 := below_one bb bel6
    have HT7 : Hid (Below w6.heap.size w6 (w6.alloc (.cells #[.int .u64 0, .int .u64 0, .int .u32 0, .int .u16 0, .int .u16 0, .int .u64 0, .int .u32 0, .int .u8 0, .int .u64 0, .int .u64 0, .slice none 0 0] 29))) := below_alloc _ _
    have b7 := below_one b6 HT7.out
    clear bel6 bb HT7
    go_wp2_with fail
    refine (is_same 8 _).mono ?_; rintro e w8 ⟨rfl, rfl⟩
    go_wp2_with fail
    refine (same_any Msg.zero Msg.zero none 0 0 [] none 0 0 [] _ (bts_nil _) (bts_nil _)).mono ?_; rintro e w9 ⟨rfl, bel9⟩
    rw [show sameD Msg.zero Msg.zero [] [] = true from sameD_iff.2 ⟨rfl, rfl⟩]
    have b9 := below_one b7 bel9
    clear bel9 b7
    go_wp2_with fail
    refine (read_any bo nb capb r _ (HB.out.carry b9)).mono ?_; rintro e w10 ⟨rfl, bel10⟩
    rw [HRD.out]
    go_wp2
    go_ret
    exact ⟨rfl, below_one b9 bel10⟩
  | true =>
    obtain ⟨x, hx, hx4, hlr⟩ := readD_false_or hrd
    obtain ⟨y, hy⟩ : ∃ y, partsF r = y := ⟨_, rfl⟩
    have HY : Hid _ := hy
    have HX5 : Hid _ := hx
    have HGY : Hid (y.good) := by show y.good; rw [← hy]; exact partsF_good r
    have HBK : Hid (msgF y (r.drop 46) = r) := by show msgF y (r.drop 46) = r; rw [← hy]; exact msg_back r x hx hlr
    have HNB : Hid (nb = 46 + x) := by show nb = 46 + x; rw [HB.out.1, hlr]
    clear hrd hx hlr hy
    go_wp2_with fail
    refine (hdecode_yes bo nb capb r _ (HB.out.carry bb) y HY.out x HX5.out hx4 HNB.out).mono ?_; rintro e w6 ⟨cy, ccy, rfl, hb6, hn6, bel6⟩
    have b6 := below_one bb bel6
    have HT7 : Hid (Below w6.heap.size w6 (w6.alloc (.cells #[.int .u64 y.ta, .int .u64 y.rp, .int .u32 y.id, .int .u16 y.op, .int .u16 y.st, .int .u64 y.p, .int .u32 y.o, .int .u8 y.r, .int .u64 y.c, .int .u64 y.ar, .slice cy x ccy] 29)).drew) := (below_alloc _ _).drew
    have hS : Hid (MBox (w6.alloc (.cells #[.int .u64 y.ta, .int .u64 y.rp, .int .u32 y.id, .int .u16 y.op, .int .u16 y.st, .int .u64 y.p, .int .u32 y.o, .int .u8 y.r, .int .u64 y.c, .int .u64 y.ar, .slice cy x ccy] 29)).drew w6.heap.size y (.slice cy x ccy) ∧ Bts (w6.alloc (.cells #[.int .u64 y.ta, .int .u64 y.rp, .int .u32 y.id, .int .u16 y.op, .int .u16 y.st, .int .u64 y.p, .int .u32 y.o, .int .u8 y.r, .int .u64 y.c, .int .u64 y.ar, .slice cy x ccy] 29)).drew bo nb capb r ∧ Bts (w6.alloc (.cells #[.int .u64 y.ta, .int .u64 y.rp, .int .u32 y.id, .int .u16 y.op, .int .u16 y.st, .int .u64 y.p, .int .u32 y.o, .int .u8 y.r, .int .u64 y.c, .int .u64 y.ar, .slice cy x ccy] 29)).drew cy x ccy (r.drop 46)) := ⟨(mbox_new w6 y _).drew, HB.out.carry (below_one b6 HT7.out), Bts.carry hb6 HT7.out⟩
    have bb := below_one b6 HT7.out
    clear bel6 b6 HT7 hb6 hn6
    have hmy := good_may HGY.out hx4
    go_wp2_with fail
    go_region_held (fun w' => (w'.cell? ⟨w6.heap.size, 0, none⟩ = some (.int .u64 y.ta) ∧ w'.cell? ⟨w6.heap.size, 1, none⟩ = some (.int .u64 y.rp) ∧ w'.cell? ⟨w6.heap.size, 2, none⟩ = some (.int .u32 y.id) ∧ w'.cell? ⟨w6.heap.size, 3, none⟩ = some (.int .u16 y.op) ∧ w'.cell? ⟨w6.heap.size, 4, none⟩ = some (.int .u16 y.st) ∧ w'.cell? ⟨w6.heap.size, 5, none⟩ = some (.int .u64 y.p) ∧ w'.cell? ⟨w6.heap.size, 6, none⟩ = some (.int .u32 y.o) ∧ w'.cell? ⟨w6.heap.size, 7, none⟩ = some (.int .u8 y.r) ∧ w'.cell? ⟨w6.heap.size, 8, none⟩ = some (.int .u64 y.c) ∧ w'.cell? ⟨w6.heap.size, 9, none⟩ = some (.int .u64 y.ar) ∧ w'.cell? ⟨w6.heap.size, 10, none⟩ = some (.slice cy x ccy)) ∧ (convert 27 9 (.slice bo nb capb)).run Try.prog w' = .ok (.string (str r)) w') (exact ⟨hS.out.1, conv_bts hS.out.2.1⟩)
      (first
        | (go_at_call 12; refine (hown_may y cy x ccy (r.drop 46) _ (Msg.good_ok HGY.out) hS.out.2.2).mono ?_; rintro e wx ⟨rfl, bel⟩; rw [hmy]; have bb := below_one bb bel; have hS := hide (And.intro (hS.out.1.carry bel) (And.intro (hS.out.2.1.carry bel) (hS.out.2.2.carry bel))); clear bel)
        | (go_at_call 10; refine (hwant_yes y cy x ccy (r.drop 46) _ HGY.out hS.out.2.2 hx4).mono ?_; rintro e wx ⟨cw, ccw, rfl, hbw, hnw, bel⟩; rw [HBK.out] at hbw; have bb := below_one bb bel; have hS := hide (And.intro (hS.out.1.carry bel) (And.intro (hS.out.2.1.carry bel) (hS.out.2.2.carry bel))); have cvw := conv_bts hbw; clear bel hbw hnw))
    go_wp2
    go_ret
    exact ⟨rfl, bb⟩

end Go.Proofs.Ytmgbcnlnikchbaa

namespace Go.Proofs.Ytmgbcnlnikchbaa.headerBack
open Go.ChangeShapes Go.WideShapes Go.ChangeAt Go.RowKit
set_option linter.unusedVariables false

theorem own : ownKnob Try.prog.godebug = none := by kernel_rfl
theorem laidOut : laidOutB Try.prog = true := by kernel_rfl

theorem walk (m0 : Msg) (a0 : Option Addr) (len0 cap0 : Nat) (z0 : List Int) (a1 : Option Addr) (len1 cap1 : Nat) (z1 : List Int) (w : World) (w0 : m0.ok) (x0 : RowOf .u8 w a0 len0 cap0 z0) (w1 : RowOf .u8 w a1 len1 cap1 z1) :
    Calls Try.prog 4 #[.agg #[.int .u64 m0.ta, .int .u64 m0.rp, .int .u32 m0.id, .int .u16 m0.op, .int .u16 m0.st, .int .u64 m0.p, .int .u32 m0.o, .int .u8 m0.r, .int .u64 m0.c, .int .u64 m0.ar, .slice a0 len0 cap0], .slice a1 len1 cap1] w fun e w' => e = .returned (.bool true) ∧ Below w.heap.size w w' :=
  by obtain ⟨l, hl⟩ := x0.bytes; obtain ⟨r, hr⟩ := w1.bytes; exact walk_back m0 a0 len0 cap0 l a1 len1 cap1 r w w0 hl hr

set_option maxRecDepth 100000 in
theorem lifted (os : Os) (started : os.Started) (H : Type) (enc : TypeId × Value → H) :
    ReturnsInHanded {} Try.checked os 4 .any (Rows.headerBackSpec.pre6 enc Try.prog Try.f4 Rows.headerBackRow.domain false) (Rows.headerBackSpec.post enc Try.prog Try.f4 false true false false) := by
  refine returnsInHanded_of_change (C := Try.checked) own started (by kernel_rfl) Try.func4
    (ChangeSpec.witness6 (enc := enc) (C := Try.checked) false ⟨#[], #[.agg #[.int .u64 0, .int .u64 0, .int .u32 0, .int .u16 0, .int .u16 0, .int .u64 0, .int .u32 0, .int .u8 0, .int .u64 0, .int .u64 0, .slice none 0 0], .slice none 0 0], []⟩ 8 (by kernel_rfl) (by kernel_rfl) (by kernel_rfl) (by kernel_rfl)) ?_
  intro W base args ds gs before hval0 hW hcnd _
  have hval : ∀ (j : Nat) t v, Try.f4.params[j]? = some t → args[j]? = some v → Value.okWide Try.prog W .any base t v := hval0
  have hW' := hW
  obtain ⟨p, q, hA0, hV, rfl, hfz, hnd⟩ := hW
  have hA : DataW.TrodAll enc Try.prog W 0 (fun _ => true) true Try.f4.params.toList args.toList ds p := hA0
  rw [Try.params4] at hA hval
  obtain ⟨v0, vs0, d0, ds0, p0, q0, hargs, rfl, rfl, h0, r0⟩ := trodAll_cons hA
  obtain ⟨v1, vs1, d1, ds1, p1, q1, rfl, rfl, rfl, h1, r1⟩ := trodAll_cons r0
  obtain ⟨rfl, rfl, rfl⟩ := trodAll_nil r1
  obtain rfl : args = #[v0, v1] := by cases args; simp_all
  obtain ⟨rfl, rfl⟩ := trodVars_none hV
  have k0 := h0
  have lt0 : ∀ x ∈ p0, x.block < W.heap.size := by obtain ⟨m, hm⟩ := k0; exact DataW.trod_lt m _ _ _ hm
  obtain ⟨m0, a0, len0, cap0, z0, rfl, w0, x0⟩ := open_msg (hval 0 29 v0 rfl rfl) h0
  obtain ⟨a1, len1, cap1, rfl⟩ := okWide_slice Try.underlying27 (hval 1 27 v1 rfl rfl)
  have k1 := h1
  have lt1 : ∀ x ∈ p1, x.block < W.heap.size := by obtain ⟨m, hm⟩ := k1; exact DataW.trod_lt m _ _ _ hm
  obtain ⟨z1, w1, s1⟩ : ∃ zs, RowOf .u8 W a1 len1 cap1 zs ∧ True := by
    obtain ⟨fuel, hf⟩ := h1
    rcases open_ints Try.underlying27 Try.underlying5 (by kernel_rfl) hf with ⟨hcs, _⟩ | ⟨x, l, c, zs, hcs, _, hl, hm, hz, hx, hcell, hwz⟩
    · simp [Value.cells] at hcs
      obtain ⟨rfl, rfl, rfl⟩ := hcs
      exact ⟨[], .inl ⟨rfl, rfl, rfl, rfl⟩, trivial⟩
    · simp [Value.cells] at hcs
      obtain ⟨rfl, rfl, rfl⟩ := hcs
      exact ⟨zs, .inr ⟨_, rfl, hl, hm, by simpa using hz, hcell, hwz⟩, trivial⟩
  clear hA0 hval0
  refine (walk m0 a0 len0 cap0 z0 a1 len1 cap1 z1 W w0 x0 w1).mono fun e W' ⟨he, bel⟩ => ?_
  subst he
  exact ⟨_, rfl, _, _, _, [], _, [], hW', trodAll_mk1 (shut_bool Try.underlying4 _), (trodAll_cons_mk (Below.trod laidOut (by kernel_rfl) (of_decide_eq_true (by kernel_rfl)) k0 bel lt0) (trodAll_cons_mk (Below.trod laidOut (by kernel_rfl) (of_decide_eq_true (by kernel_rfl)) k1 bel lt1) trodAll_mk0)), rfl, bel.frame _, fun h => by cases h⟩

theorem over : Rows.headerBackRow.holds Try.pinned (OpenSpec.ofChange Rows.headerBackSpec) :=
  OpenClaim.holds_of_wide 4 Try.f4 rfl rfl rfl rfl rfl rfl rfl ⟨rfl, rfl, rfl, rfl, rfl⟩ rfl rfl rfl rfl rfl (by kernel_rfl) Try.func4 (by kernel_rfl)
    (of_decide_eq_true (by kernel_rfl)) (by unfold Func.isWrapper; first | (rw [if_pos (by decide +kernel)]; kernel_rfl) | (rw [if_neg (by decide +kernel)]; exact ⟨rfl, rfl⟩))
    (fun os started H enc _ => lifted os started H enc)
end Go.Proofs.Ytmgbcnlnikchbaa.headerBack

namespace Go.Proofs.Ytmgbcnlnikchbaa
theorem headerBack_holds : Rows.HeaderBackSaid := headerBack.over
#print axioms headerBack_holds
end Go.Proofs.Ytmgbcnlnikchbaa
