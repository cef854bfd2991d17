/-
  HeaderPlaces: each part of a message stands at its place in the bytes, whatever the others are.
-/
import Derived.Test.YtmgbcnlnikchbaaRows
import Derived.Test.YtmgbcnlnikchbaaHMay
import Derived.Test.YtmgbcnlnikchbaaHAwake
import Derived.Test.YtmgbcnlnikchbaaHOpen
import Derived.Test.YtmgbcnlnikchbaaHMath
import Derived.WalkKit
import Derived.WalkSpells
import Derived.WalkLawsBesides
import Derived.Deep.QuietTactic
import Derived.BigQuiet
import Derived.ProofKit
import Derived.OpenShut
import Derived.ShutString
import Derived.ChangeOld
import Derived.Below
import Derived.SizedLaws
namespace Go.Proofs.Ytmgbcnlnikchbaa

open Go.RowKit
set_option maxRecDepth 100000 in
set_option maxHeartbeats 4000000 in
theorem walk_places (m : Msg) (ao : Option Addr) (n cap : Nat) (l : List UInt8) (w : World) (hm : m.ok) (hb : Bts w ao n cap l) :
    Calls Try.prog 6 #[.agg #[.int .u64 m.ta, .int .u64 m.rp, .int .u32 m.id, .int .u16 m.op, .int .u16 m.st, .int .u64 m.p, .int .u32 m.o, .int .u8 m.r, .int .u64 m.c, .int .u64 m.ar, .slice ao n cap]] w fun e w' => e = .returned (.bool true) ∧ Below w.heap.size w w' := by
  obtain ⟨m', hm'⟩ : ∃ x, m.made = x := ⟨_, rfl⟩
  obtain ⟨k, hk⟩ : ∃ x, min n 4096 = x := ⟨_, rfl⟩
  have hg : m'.good := by rw [← hm']; exact Msg.made_good hm
  obtain ⟨L, hL⟩ : ∃ x, msgF m' (l.take 4096) = x := ⟨_, rfl⟩
  have hp := msg_parts m' (l.take 4096) hg
  rw [hL] at hp
  have H0 : Hid (numF ((L.drop 0).take 6) = m'.ta) := congrArg Msg.ta hp
  have H1 : Hid (numF ((L.drop 6).take 6) = m'.rp) := congrArg Msg.rp hp
  have H2 : Hid (numF ((L.drop 12).take 4) = m'.id) := congrArg Msg.id hp
  have H3 : Hid (numF ((L.drop 16).take 2) = m'.op) := congrArg Msg.op hp
  have H4 : Hid (numF ((L.drop 18).take 2) = m'.st) := congrArg Msg.st hp
  have H5 : Hid (numF ((((L.drop 20).take 16).drop 0).take 6) = m'.p) := congrArg Msg.p hp
  have H6 : Hid (numF ((((L.drop 20).take 16).drop 6).take 3) = m'.o) := congrArg Msg.o hp
  have H7 : Hid (numF ((((L.drop 20).take 16).drop 9).take 1) = m'.r) := congrArg Msg.r hp
  have H8 : Hid (numF ((((L.drop 20).take 16).drop 10).take 6) = m'.c) := congrArg Msg.c hp
  have H9 : Hid (numF ((L.drop 36).take 8) = m'.ar) := congrArg Msg.ar hp
  have HDT : Hid (L.drop 46 = l.take 4096) := by show L.drop 46 = _; rw [← hL]; exact msg_data _ _
  have HG : Hid (m'.good) := hg
  have hk4 : k ≤ 4096 := by omega
  have HL : Hid _ := hL
  have HM : Hid _ := hm'
  have HK : Hid _ := hk
  have HO : Hid (m.ok) := hm
  have HB : Hid (Bts w ao n cap l) := hb
  obtain ⟨o0, o1, o2, o3, o4, o5, o6, o7, o8, o9⟩ := hg
  clear hb hm' hk hm hL hp
  have HT : Hid (Below w.heap.size w (w.alloc (.cells #[.int .u64 m.ta, .int .u64 m.rp, .int .u32 m.id, .int .u16 m.op, .int .u16 m.st, .int .u64 m.p, .int .u32 m.o, .int .u8 m.r, .int .u64 m.c, .int .u64 m.ar, .slice ao n cap] 29))) := below_alloc _ _
  have HX : Hid (MBox (w.alloc (.cells #[.int .u64 m.ta, .int .u64 m.rp, .int .u32 m.id, .int .u16 m.op, .int .u16 m.st, .int .u64 m.p, .int .u32 m.o, .int .u8 m.r, .int .u64 m.c, .int .u64 m.ar, .slice ao n cap] 29)) w.heap.size m (.slice ao n cap)) := mbox_new w m _
  go_enter Try.func6, Try.ntmps6
  go_wp2_with fail
  refine (awake_any _).mono ?_; rintro e w1 ⟨rfl, bel1⟩
  have b1 : Below w.heap.size w w1 := below_one HT.out bel1
  have HX1 : Hid (MBox w1 w.heap.size m (.slice ao n cap)) := HX.out.carry bel1
  clear HT HX bel1
  obtain ⟨k0, k1, k2, k3, k4, k5, k6, k7, k8, k9, k10⟩ := HX1.out
  go_wp2_with fail
  refine (hmake_at m ao n cap l _ HO.out (HB.out.carry b1) m' HM.out k HK.out).mono ?_; rintro e w2 ⟨co, cc, rfl, hb2, hn2, bel2⟩
  have b2 : Below w.heap.size w w2 := below_one b1 bel2
  have HD2 : Hid (Bts w2 co k cc (l.take 4096)) := hb2
  clear bel2 b1 HX1 hb2 hn2
  clear k0 k1 k2 k3 k4 k5 k6 k7 k8 k9 k10
  have HT3 : Hid (Below w2.heap.size w2 (w2.alloc (.cells #[.int .u64 m'.ta, .int .u64 m'.rp, .int .u32 m'.id, .int .u16 m'.op, .int .u16 m'.st, .int .u64 m'.p, .int .u32 m'.o, .int .u8 m'.r, .int .u64 m'.c, .int .u64 m'.ar, .slice co k cc] 29))) := below_alloc _ _
  have HY3 : Hid (MBox (w2.alloc (.cells #[.int .u64 m'.ta, .int .u64 m'.rp, .int .u32 m'.id, .int .u16 m'.op, .int .u16 m'.st, .int .u64 m'.p, .int .u32 m'.o, .int .u8 m'.r, .int .u64 m'.c, .int .u64 m'.ar, .slice co k cc] 29)) w2.heap.size m' (.slice co k cc)) := mbox_new w2 m' _
  go_wp2_with fail
  refine (hencode_yes m' co k cc (l.take 4096) _ HG.out (HD2.out.carry HT3.out) hk4).mono ?_; rintro e w4 ⟨cb, ccb, rfl, hb4, bel4⟩
  rw [HL.out] at hb4
  have b4 : Below w.heap.size w w4 := below_one (below_one b2 HT3.out) bel4
  have HY4 : Hid (MBox w4 w2.heap.size m' (.slice co k cc)) := HY3.out.carry bel4
  have HD4 : Hid (Bts w4 co k cc (l.take 4096)) := (HD2.out.carry HT3.out).carry bel4
  have HB4 : Hid (Bts w4 cb (46 + k) ccb L) := hb4
  have hc4 : ccb ≤ 9223372036854775807 := hb4.2.2.1
  have hc4' : 46 + k ≤ ccb := hb4.2.1
  obtain ⟨ad, rfl⟩ : ∃ ad, cb = some ad := by
    cases cb with
    | none => have := hb4.none rfl; omega
    | some ad => exact ⟨ad, rfl⟩
  clear bel4 b2 HD2 HT3 HY3 hb4
  have hlt : ¬ (46 + (k : Int) < 46) := by omega
  go_wp2_with fail
  refine (get_yes (some ad) (46 + k) ccb 0 6 L _ HB4.out (by omega) (by omega) (by omega)).mono ?_; rintro e w5 ⟨rfl, bel5⟩
  rw [H0.out]
  have b5 : Below w.heap.size w w5 := below_one b4 bel5
  have HB5 : Hid (Bts w5 (some ad) (46 + k) ccb L) := HB4.out.carry bel5
  have HY5 : Hid (MBox w5 w2.heap.size m' (.slice co k cc)) := HY4.out.carry bel5
  have HD5 : Hid (Bts w5 co k cc (l.take 4096)) := HD4.out.carry bel5
  clear bel5 HB4 HY4 HD4 b4
  go_wp2_with fail
  refine (get_yes (some ad) (46 + k) ccb 6 6 L _ HB5.out (by omega) (by omega) (by omega)).mono ?_; rintro e w6 ⟨rfl, bel6⟩
  rw [H1.out]
  have b6 : Below w.heap.size w w6 := below_one b5 bel6
  have HB6 : Hid (Bts w6 (some ad) (46 + k) ccb L) := HB5.out.carry bel6
  have HY6 : Hid (MBox w6 w2.heap.size m' (.slice co k cc)) := HY5.out.carry bel6
  have HD6 : Hid (Bts w6 co k cc (l.take 4096)) := HD5.out.carry bel6
  clear bel6 HB5 HY5 HD5 b5
  go_wp2_with fail
  refine (get_yes (some ad) (46 + k) ccb 12 4 L _ HB6.out (by omega) (by omega) (by omega)).mono ?_; rintro e w7 ⟨rfl, bel7⟩
  rw [H2.out]
  have b7 : Below w.heap.size w w7 := below_one b6 bel7
  have HB7 : Hid (Bts w7 (some ad) (46 + k) ccb L) := HB6.out.carry bel7
  have HY7 : Hid (MBox w7 w2.heap.size m' (.slice co k cc)) := HY6.out.carry bel7
  have HD7 : Hid (Bts w7 co k cc (l.take 4096)) := HD6.out.carry bel7
  clear bel7 HB6 HY6 HD6 b6
  go_wp2_with fail
  refine (get_yes (some ad) (46 + k) ccb 16 2 L _ HB7.out (by omega) (by omega) (by omega)).mono ?_; rintro e w8 ⟨rfl, bel8⟩
  rw [H3.out]
  have b8 : Below w.heap.size w w8 := below_one b7 bel8
  have HB8 : Hid (Bts w8 (some ad) (46 + k) ccb L) := HB7.out.carry bel8
  have HY8 : Hid (MBox w8 w2.heap.size m' (.slice co k cc)) := HY7.out.carry bel8
  have HD8 : Hid (Bts w8 co k cc (l.take 4096)) := HD7.out.carry bel8
  clear bel8 HB7 HY7 HD7 b7
  go_wp2_with fail
  refine (get_yes (some ad) (46 + k) ccb 18 2 L _ HB8.out (by omega) (by omega) (by omega)).mono ?_; rintro e w9 ⟨rfl, bel9⟩
  rw [H4.out]
  have b9 : Below w.heap.size w w9 := below_one b8 bel9
  have HB9 : Hid (Bts w9 (some ad) (46 + k) ccb L) := HB8.out.carry bel9
  have HY9 : Hid (MBox w9 w2.heap.size m' (.slice co k cc)) := HY8.out.carry bel9
  have HD9 : Hid (Bts w9 co k cc (l.take 4096)) := HD8.out.carry bel9
  clear bel9 HB8 HY8 HD8 b8
  go_wp2_with fail
  refine (get_yes (some ad) (46 + k) ccb 36 8 L _ HB9.out (by omega) (by omega) (by omega)).mono ?_; rintro e w10 ⟨rfl, bel10⟩
  rw [H9.out]
  have b10 : Below w.heap.size w w10 := below_one b9 bel10
  have HB10 : Hid (Bts w10 (some ad) (46 + k) ccb L) := HB9.out.carry bel10
  have HY10 : Hid (MBox w10 w2.heap.size m' (.slice co k cc)) := HY9.out.carry bel10
  have HD10 : Hid (Bts w10 co k cc (l.take 4096)) := HD9.out.carry bel10
  clear bel10 HB9 HY9 HD9 b9
  go_wp2_with fail
  rw [← addS ad 20 (by omega)]
  refine (decode_yes _ _ ((L.drop 20).take 16) _ (HB10.out.add 20 16 (by omega)) m'.p m'.o m'.r m'.c H5.out H6.out H7.out H8.out).mono ?_; rintro e w11 ⟨rfl, bel11⟩
  have b11 : Below w.heap.size w w11 := below_one b10 bel11
  have HT12 : Hid (Below w11.heap.size w11 (w11.alloc (.cells #[.int .u64 m'.p, .int .u32 m'.o, .int .u8 m'.r, .int .u64 m'.c] 26))) := below_alloc _ _
  have HC12 : Hid (Box (w11.alloc (.cells #[.int .u64 m'.p, .int .u32 m'.o, .int .u8 m'.r, .int .u64 m'.c] 26)) w11.heap.size m'.p m'.o m'.r m'.c) := box_new _ _ _ _ _
  have HB12 := hide ((HB10.out.carry bel11).carry HT12.out)
  have HY12 := hide ((HY10.out.carry bel11).carry HT12.out)
  have HD12 := hide ((HD10.out.carry bel11).carry HT12.out)
  have b12 := below_one b11 HT12.out
  clear HB10 HY10 HD10 b10 b11 bel11 HT12
  obtain ⟨k0, k1, k2, k3, k4, k5, k6, k7, k8, k9, k10⟩ := HY12.out
  obtain ⟨q0, q1, q2, q3⟩ := HC12.out
  have cvd := fun j => conv_bts (HD12.out.drewN j)
  have v2 := wrap_nat m'.id (by omega)
  have v3 := wrap_nat m'.op (by omega)
  have v4 := wrap_nat m'.st (by omega)
  have hg26 := eqGuard26
  have hE : ∀ wx, (binOp .eql 26 (.agg #[.int .u64 m'.p, .int .u32 m'.o, .int .u8 m'.r, .int .u64 m'.c]) (.agg #[.int .u64 m'.p, .int .u32 m'.o, .int .u8 m'.r, .int .u64 m'.c])).run Try.prog wx = .ok (.bool true) wx := by
    intro wx; rw [eql_cap]; simp
  have hlen : (l.take 4096).length = k := HD12.out.1.symm
  by_cases hcp : ccb = 46
  · obtain rfl : k = 0 := by omega
    subst hcp
    have hnil : l.take 4096 = [] := List.eq_nil_of_length_eq_zero hlen
    rw [hnil] at cvd
    have cvs := fun j => conv_bts (bts_zero ((w11.alloc (.cells #[.int .u64 m'.p, .int .u32 m'.o, .int .u8 m'.r, .int .u64 m'.c] 26)).drewN j) ad)
    clear hlen hnil
    go_wp2_with fail
    go_quiet (fail)
    go_wp2
    go_ret
    exact ⟨rfl, below_drewN b12 _⟩
  · have cvs := fun j => conv_bts ((HB12.out.add 46 k (by omega)).drewN j)
    rw [HDT.out, List.take_of_length_le (by omega), addS ad 46 (by omega)] at cvs
    clear hlen
    go_wp2_with fail
    go_quiet (fail)
    go_wp2
    go_ret
    exact ⟨rfl, below_drewN b12 _⟩

end Go.Proofs.Ytmgbcnlnikchbaa

namespace Go.Proofs.Ytmgbcnlnikchbaa.headerPlaces
open Go.ChangeShapes Go.WideShapes Go.ChangeAt Go.RowKit
set_option linter.unusedVariables false

theorem own : ownKnob Try.prog.godebug = none := by kernel_rfl
theorem laidOut : laidOutB Try.prog = true := by kernel_rfl

theorem walk (m0 : Msg) (a0 : Option Addr) (len0 cap0 : Nat) (z0 : List Int) (w : World) (w0 : m0.ok) (x0 : RowOf .u8 w a0 len0 cap0 z0) :
    Calls Try.prog 6 #[.agg #[.int .u64 m0.ta, .int .u64 m0.rp, .int .u32 m0.id, .int .u16 m0.op, .int .u16 m0.st, .int .u64 m0.p, .int .u32 m0.o, .int .u8 m0.r, .int .u64 m0.c, .int .u64 m0.ar, .slice a0 len0 cap0]] w fun e w' => e = .returned (.bool true) ∧ Below w.heap.size w w' :=
  by obtain ⟨l, hl⟩ := x0.bytes; exact walk_places m0 a0 len0 cap0 l w w0 hl

set_option maxRecDepth 100000 in
theorem lifted (os : Os) (started : os.Started) (H : Type) (enc : TypeId × Value → H) :
    ReturnsInHanded {} Try.checked os 6 .any (Rows.headerPlacesSpec.pre6 enc Try.prog Try.f6 Rows.headerPlacesRow.domain false) (Rows.headerPlacesSpec.post enc Try.prog Try.f6 false true false false) := by
  refine returnsInHanded_of_change (C := Try.checked) own started (by kernel_rfl) Try.func6
    (ChangeSpec.witness6 (enc := enc) (C := Try.checked) false ⟨#[], #[.agg #[.int .u64 0, .int .u64 0, .int .u32 0, .int .u16 0, .int .u16 0, .int .u64 0, .int .u32 0, .int .u8 0, .int .u64 0, .int .u64 0, .slice none 0 0]], []⟩ 8 (by kernel_rfl) (by kernel_rfl) (by kernel_rfl) (by kernel_rfl)) ?_
  intro W base args ds gs before hval0 hW hcnd _
  have hval : ∀ (j : Nat) t v, Try.f6.params[j]? = some t → args[j]? = some v → Value.okWide Try.prog W .any base t v := hval0
  have hW' := hW
  obtain ⟨p, q, hA0, hV, rfl, hfz, hnd⟩ := hW
  have hA : DataW.TrodAll enc Try.prog W 0 (fun _ => true) true Try.f6.params.toList args.toList ds p := hA0
  rw [Try.params6] at hA hval
  obtain ⟨v0, vs0, d0, ds0, p0, q0, hargs, rfl, rfl, h0, r0⟩ := trodAll_cons hA
  obtain ⟨rfl, rfl, rfl⟩ := trodAll_nil r0
  obtain rfl : args = #[v0] := by cases args; simp_all
  obtain ⟨rfl, rfl⟩ := trodVars_none hV
  have k0 := h0
  have lt0 : ∀ x ∈ p0, x.block < W.heap.size := by obtain ⟨m, hm⟩ := k0; exact DataW.trod_lt m _ _ _ hm
  obtain ⟨m0, a0, len0, cap0, z0, rfl, w0, x0⟩ := open_msg (hval 0 29 v0 rfl rfl) h0
  clear hA0 hval0
  refine (walk m0 a0 len0 cap0 z0 W w0 x0).mono fun e W' ⟨he, bel⟩ => ?_
  subst he
  exact ⟨_, rfl, _, _, _, [], _, [], hW', trodAll_mk1 (shut_bool Try.underlying4 _), (trodAll_cons_mk (Below.trod laidOut (by kernel_rfl) (of_decide_eq_true (by kernel_rfl)) k0 bel lt0) trodAll_mk0), rfl, bel.frame _, fun h => by cases h⟩

theorem over : Rows.headerPlacesRow.holds Try.pinned (OpenSpec.ofChange Rows.headerPlacesSpec) :=
  OpenClaim.holds_of_wide 6 Try.f6 rfl rfl rfl rfl rfl rfl rfl ⟨rfl, rfl, rfl, rfl, rfl⟩ rfl rfl rfl rfl rfl (by kernel_rfl) Try.func6 (by kernel_rfl)
    (of_decide_eq_true (by kernel_rfl)) (by unfold Func.isWrapper; first | (rw [if_pos (by decide +kernel)]; kernel_rfl) | (rw [if_neg (by decide +kernel)]; exact ⟨rfl, rfl⟩))
    (fun os started H enc _ => lifted os started H enc)
end Go.Proofs.Ytmgbcnlnikchbaa.headerPlaces

namespace Go.Proofs.Ytmgbcnlnikchbaa
theorem headerPlaces_holds : Rows.HeaderPlacesSaid := headerPlaces.over
#print axioms headerPlaces_holds
end Go.Proofs.Ytmgbcnlnikchbaa
