/-
  PagesApart (P8.2): what is written into one page shows in no other one; what lies beyond a pages end is not written. No condition: every input that can be read.
-/
import Derived.Test.YtlfophfilehdeaaRows
import Derived.Test.YtlfophfilehdeaaPRead
import Derived.WalkKit
import Derived.WalkSpells
import Derived.WalkLawsBesides
import Derived.Deep.QuietTactic
import Derived.BigQuiet
import Derived.ProofKit
import Derived.OpenShut
import Derived.ShutString
import Derived.ChangeOld
import Derived.Below
import Derived.SizedLaws
namespace Go.Proofs.Ytlfophfilehdeaa

open Go.RowKit
def ApartRel (w1 : World) (m a b : Nat) (gk : Nat) (i : Value) (wr : World) : Prop :=
  ∃ k : Nat, k + gk = 3 ∧ i = .int .i64 k ∧ Hid (MemAt wr m a b 3 (upF 3 k) (zeros (3 * 64))) ∧ Hid (Below w1.heap.size w1 wr)
theorem apart_low (p : Nat) (l : List UInt8) (h : p + l.length ≤ 64) : pieceF (splice (zeros (3 * 64)) (1 * 64 + p) l) (0 * 64 + 0) 64 = zeros 64 := by
  have hl : (splice (zeros (3 * 64)) (1 * 64 + p) l).length = 192 := by rw [length_splice _ _ _ (by rw [zeros_len]; omega), zeros_len]
  refine same_row _ _ (by rw [pieceF_len _ _ _ (by omega), zeros_len]) (fun i hi => ?_)
  rw [pieceF_len _ _ _ (by omega)] at hi
  rw [pieceF_get _ _ _ _ hi, splice_get _ _ _ _ _ (by rw [zeros_len]; omega), if_neg (by omega), zeros_get, zeros_get]
theorem apart_high (p : Nat) (l : List UInt8) (h : p + l.length ≤ 64) : pieceF (splice (zeros (3 * 64)) (1 * 64 + p) l) (2 * 64 + 0) 64 = zeros 64 := by
  have hl : (splice (zeros (3 * 64)) (1 * 64 + p) l).length = 192 := by rw [length_splice _ _ _ (by rw [zeros_len]; omega), zeros_len]
  refine same_row _ _ (by rw [pieceF_len _ _ _ (by omega), zeros_len]) (fun i hi => ?_)
  rw [pieceF_len _ _ _ (by omega)] at hi
  rw [pieceF_get _ _ _ _ hi, splice_get _ _ _ _ _ (by rw [zeros_len]; omega), if_neg (by omega), zeros_get, zeros_get]
theorem zeros_piece (p : Nat) (h : p + 64 ≤ 192) : pieceF (zeros (3 * 64)) p 64 = zeros 64 := by
  refine same_row _ _ (by rw [pieceF_len _ _ _ (by rw [zeros_len]; omega), zeros_len]) (fun i hi => ?_)
  rw [pieceF_len _ _ _ (by rw [zeros_len]; omega)] at hi
  rw [pieceF_get _ _ _ _ hi, zeros_get, zeros_get]
set_option maxRecDepth 20000 in
set_option maxHeartbeats 1600000 in
theorem walk_apart (ao : Option Addr) (n cap : Nat) (l : List UInt8) (q : Nat) (w : World) (hb : Bts w ao n cap l) (hn : n ≤ 140737488351232) (hq : q ≤ 255) :
    Calls Try.prog 6 #[.slice ao n cap, .int .u8 (q : Int)] w fun e w' => e = .returned (.bool true) ∧ Below w.heap.size w w' := by
  have HB := hide hb
  clear hb
  obtain ⟨C, hC⟩ : ∃ C, (cellsB (zeros 64)).toArray = C := ⟨_, rfl⟩
  have HC := hide hC
  have mk : ∀ w, (Instr.makeSlice 31 (.int .i64 64) (.int .i64 64)).run Try.prog w = .ok (.slice (some ⟨w.heap.size, 0, none⟩) 64 64) (w.alloc (.cells C 5)) := fun w => by rw [← hC]; exact make_bytes 64 (by omega) w
  obtain ⟨Z, hZ⟩ : ∃ Z, str (zeros 64) = Z := ⟨_, rfl⟩
  have HZ := hide hZ
  clear hC hZ
  go_enter Try.func6, Try.ntmps6
  go_wp2_with fail
  refine (awake_any _).mono ?_; rintro e w1 ⟨rfl, bel1⟩
  have HB1 := hide bel1
  clear bel1
  go_wp2_with fail
  refine (of_any 3 _ 3 (by decide) (by omega)).mono ?_; rintro e w2 ⟨m, a, b, rfl, N2⟩
  have H2 := hide N2
  clear N2
  go_wp2_with fail
  go_loopg [20] 3 (fun gk i wr => ApartRel w1 m a b gk i wr)
  case atStart => exact ⟨0, by omega, rfl, by rw [upF_zero]; exact H2.out.mem, H2.out.bel⟩
  case round =>
    obtain ⟨k, hk, rfl, HM, HBr⟩ := hrel
    cases gk with
    | zero =>
      obtain rfl : k = 3 := by omega
      have HX := hide (HB1.out.trans (HBr.out.mono HB1.out.size))
      clear hk
      have HS := hide (show wr.heap.size ≥ w1.heap.size from HBr.out.size)
      by_cases hf : q + n ≤ 64
      · have hf2 : ((q : Int) + (n : Int) ≤ 64) := by omega
        have HL := hide (show q + l.length ≤ 64 by have := HB.out.1; omega)
        go_wp2_with fail
        refine (write_yes m a b 3 1 q _ _ ao n cap l _ HM.out (by omega) (by decide) (HB.out.carry HX.out) hf).mono ?_; rintro e w3 ⟨rfl, M3, F3⟩
        have H3 := hide (M3)
        have HF3 := hide (F3)
        clear M3 F3
        go_wp2_with fail
        refine (read_yes m a b 3 0 0 64 _ _ _ H3.out (by omega) (by decide) (by omega)).mono ?_; rintro e w4 ⟨c4, k4, rfl, B4, _, bel4⟩
        rw [apart_low q l HL.out] at B4
        have HB4 := hide B4
        have H4 := hide (H3.out.grow bel4)
        have HE4 := hide bel4
        clear B4 bel4
        go_wp2_with fail
        refine (read_yes m a b 3 2 0 64 _ _ _ H4.out (by omega) (by decide) (by omega)).mono ?_; rintro e w5 ⟨c5, k5, rfl, B5, _, bel5⟩
        rw [apart_high q l HL.out] at B5
        have HB5 := hide B5
        have HB4' := hide (HB4.out.carry bel5)
        have H5 := hide (H4.out.grow bel5)
        have HE5 := hide (below_one HE4.out bel5)
        clear B5 bel5 HB4 HE4 H4
        have cv1 : (convert 31 9 (.slice (some ⟨w5.heap.size, 0, none⟩) 64 64)).run Try.prog (w5.alloc (.cells C 5)) = .ok (.string Z) (w5.alloc (.cells C 5)) := by rw [← HZ.out]; exact conv_bts (bts_zeros w5 64 (by omega) C HC.out)
        go_wp2_with fail
        refine (read_yes m a b 3 1 0 64 _ _ _ (H5.out.grow (below_alloc _ _)) (by omega) (by decide) (by omega)).mono ?_; rintro e w6 ⟨c6, k6, rfl, B6, _, bel6⟩
        have HE6 := hide (below_one HE5.out (below_one (below_alloc _ _) bel6))
        have cv4 : (convert 31 9 (.slice c4 64 k4)).run Try.prog w6 = .ok (.string Z) w6 := by rw [← HZ.out]; exact conv_bts (HB4'.out.carry (below_one (below_alloc _ _) bel6))
        have cv5 : (convert 31 9 (.slice c5 64 k5)).run Try.prog w6 = .ok (.string Z) w6 := by rw [← HZ.out]; exact conv_bts (HB5.out.carry (below_one (below_alloc _ _) bel6))
        clear B6 bel6 cv1 mk
        go_wp2
        go_ret
        refine ⟨rfl, HX.out.trans ?_⟩
        exact (HF3.out.below HX.out.size fun x e => by have := H2.out.ha; have := H2.out.hb; have := HB1.out.size; rcases e with e | e <;> omega).trans (HE6.out.mono (Nat.le_trans HX.out.size HF3.out.size))
      · have hf2 : decide ((q : Int) + (n : Int) ≤ 64) = false := decide_eq_false (by omega)
        have HL := hide (show wrongV (upF 3 3) ((1 : Nat) : Int) (q : Int) (n : Int) = errV 13 by exact wrongV_fits (hasF_is (by decide) (by decide)) (decide_eq_false (by omega)))
        go_wp2_with fail
        refine (write_no m a b 3 _ _ _ _ 13 ao n cap _ HM.out (by omega) (Nat.le_trans HB.out.2.1 HB.out.2.2.1) HL.out).mono ?_; rintro e w3 ⟨rfl, rfl⟩
        have H3 := hide (HM.out)
        have HF3 := hide (Foot.refl (MemS a b) w3)
        unfold errV
        go_wp2_with fail
        refine (read_yes m a b 3 0 0 64 _ _ _ H3.out (by omega) (by decide) (by omega)).mono ?_; rintro e w4 ⟨c4, k4, rfl, B4, _, bel4⟩
        rw [zeros_piece _ (by omega)] at B4
        have HB4 := hide B4
        have H4 := hide (H3.out.grow bel4)
        have HE4 := hide bel4
        clear B4 bel4
        go_wp2_with fail
        refine (read_yes m a b 3 2 0 64 _ _ _ H4.out (by omega) (by decide) (by omega)).mono ?_; rintro e w5 ⟨c5, k5, rfl, B5, _, bel5⟩
        rw [zeros_piece _ (by omega)] at B5
        have HB5 := hide B5
        have HB4' := hide (HB4.out.carry bel5)
        have H5 := hide (H4.out.grow bel5)
        have HE5 := hide (below_one HE4.out bel5)
        clear B5 bel5 HB4 HE4 H4
        have cv1 : (convert 31 9 (.slice (some ⟨w5.heap.size, 0, none⟩) 64 64)).run Try.prog (w5.alloc (.cells C 5)) = .ok (.string Z) (w5.alloc (.cells C 5)) := by rw [← HZ.out]; exact conv_bts (bts_zeros w5 64 (by omega) C HC.out)
        go_wp2_with fail
        refine (read_yes m a b 3 1 0 64 _ _ _ (H5.out.grow (below_alloc _ _)) (by omega) (by decide) (by omega)).mono ?_; rintro e w6 ⟨c6, k6, rfl, B6, _, bel6⟩
        have HE6 := hide (below_one HE5.out (below_one (below_alloc _ _) bel6))
        have cv4 : (convert 31 9 (.slice c4 64 k4)).run Try.prog w6 = .ok (.string Z) w6 := by rw [← HZ.out]; exact conv_bts (HB4'.out.carry (below_one (below_alloc _ _) bel6))
        have cv5 : (convert 31 9 (.slice c5 64 k5)).run Try.prog w6 = .ok (.string Z) w6 := by rw [← HZ.out]; exact conv_bts (HB5.out.carry (below_one (below_alloc _ _) bel6))
        have cv6 : (convert 31 9 (.slice c6 64 k6)).run Try.prog w6 = .ok (.string Z) w6 := by rw [← HZ.out]; rw [zeros_piece _ (by omega)] at B6; exact conv_bts B6
        clear B6 bel6 cv1 mk
        go_wp2
        go_ret
        refine ⟨rfl, HX.out.trans ?_⟩
        exact (HF3.out.below HX.out.size fun x e => by have := H2.out.ha; have := H2.out.hb; have := HB1.out.size; rcases e with e | e <;> omega).trans (HE6.out.mono (Nat.le_trans HX.out.size HF3.out.size))
    | succ g1 =>
      have hlt : ((k : Int) < 3) := by omega
      have hkn : k < 3 := by omega
      go_wp2_with fail
      refine (alloc_yes m a b 3 k _ _ _ HM.out (upF_low 3 k (by omega)) hkn).mono ?_; rintro e w4 ⟨rfl, M4, F4⟩
      rw [upF_set 3 k hkn] at M4
      have H4 := hide M4
      have HB4 := hide (HBr.out.trans (F4.below HBr.out.size fun x e => by
        have := H2.out.ha; have := H2.out.hb
        rcases e with e | e <;> omega))
      clear M4 F4
      go_wp2
      go_roundg g1
      case measure => omega
      case rel => exact ⟨k + 1, by omega, by go_num, H4, HB4⟩

end Go.Proofs.Ytlfophfilehdeaa

namespace Go.Proofs.Ytlfophfilehdeaa.pagesApart
open Go.ChangeShapes Go.WideShapes Go.ChangeAt Go.RowKit
set_option linter.unusedVariables false

theorem own : ownKnob Try.prog.godebug = none := by kernel_rfl
theorem laidOut : laidOutB Try.prog = true := by kernel_rfl

theorem walk (a0 : Option Addr) (len0 cap0 : Nat) (z0 : List Int) (a1 : Int) (w : World) (w0 : RowOf .u8 w a0 len0 cap0 z0) (s0 : cap0 * 1 ≤ 140737488351232) (w1 : (Lit.int .u8 a1).wf = true) :
    Calls Try.prog 6 #[.slice a0 len0 cap0, .int .u8 a1] w fun e w' => e = .returned (.bool true) ∧ Below w.heap.size w w' :=
  by obtain ⟨l, hb⟩ := w0.bytes; obtain ⟨q1, rfl, h1⟩ := u8_nat w1; exact walk_apart a0 len0 cap0 l q1 w hb (by have := hb.2.1; omega) h1

set_option maxRecDepth 100000 in
theorem lifted (os : Os) (started : os.Started) (H : Type) (enc : TypeId × Value → H) :
    ReturnsInHanded {} Try.checked os 6 .any (Rows.pagesApartSpec.pre6 enc Try.prog Try.f6 Rows.pagesApartRow.domain false) (Rows.pagesApartSpec.post enc Try.prog Try.f6 false true false false) := by
  refine returnsInHanded_of_change_sized (C := Try.checked) own started (by kernel_rfl) Try.func6
    (ChangeSpec.witness6 (enc := enc) (C := Try.checked) false ⟨#[], #[.slice none 0 0, .int .u8 0], []⟩ 8 (by kernel_rfl) (by kernel_rfl) (by kernel_rfl) (by kernel_rfl)) ?_
  intro W base args ds gs before hval0 hW hcnd hsz0 _
  have hval : ∀ (j : Nat) t v, Try.f6.params[j]? = some t → args[j]? = some v → Value.okWide Try.prog W .any base t v := hval0
  have hW' := hW
  obtain ⟨p, q, hA0, hV, rfl, hfz, hnd⟩ := hW
  have hA : DataW.TrodAll enc Try.prog W 0 (fun _ => true) true Try.f6.params.toList args.toList ds p := hA0
  have hsz : (DataW.weightsEach Try.prog (Try.f6.params.toList ++ Rows.pagesApartSpec.plain.varTypes Try.prog) (ds ++ gs)).all (· ≤ reachBytes) = true := hsz0
  rw [Try.params6] at hA hval hsz
  obtain ⟨v0, vs0, d0, ds0, p0, q0, hargs, rfl, rfl, h0, r0⟩ := trodAll_cons hA
  obtain ⟨v1, vs1, d1, ds1, p1, q1, rfl, rfl, rfl, h1, r1⟩ := trodAll_cons r0
  obtain ⟨rfl, rfl, rfl⟩ := trodAll_nil r1
  obtain rfl : args = #[v0, v1] := by cases args; simp_all
  obtain ⟨rfl, rfl⟩ := trodVars_none hV
  obtain ⟨a0, len0, cap0, rfl⟩ := okWide_slice Try.underlying31 (hval 0 31 v0 rfl rfl)
  have k0 := h0
  have lt0 : ∀ x ∈ p0, x.block < W.heap.size := by obtain ⟨m, hm⟩ := k0; exact DataW.trod_lt m _ _ _ hm
  obtain ⟨z0, w0, s0⟩ : ∃ zs, RowOf .u8 W a0 len0 cap0 zs ∧ cap0 * 1 ≤ 140737488351232 := by
    obtain ⟨fuel, hf⟩ := h0
    rcases open_ints Try.underlying31 Try.underlying5 (by kernel_rfl) hf with ⟨hcs, _⟩ | ⟨x, l, c, zs, hcs, _, hl, hm, hz, hx, hcell, hwz⟩
    · simp [Value.cells] at hcs
      obtain ⟨rfl, rfl, rfl⟩ := hcs
      exact ⟨[], .inl ⟨rfl, rfl, rfl, rfl⟩, by omega⟩
    · simp [Value.cells] at hcs
      obtain ⟨rfl, rfl, rfl⟩ := hcs
      have hd := congrArg Prod.fst hx
      simp only at hd
      subst hd
      have hs := sized_slice hsz (j := 0) (t := 31) (e := 5) rfl rfl Try.underlying31
      rw [bytesOf5] at hs
      simp only [lits, List.length_map, List.length_take, List.length_drop, reachBytes] at hs
      have hz' : zs.length = cap0 := by simpa using hz
      exact ⟨zs, .inr ⟨_, rfl, hl, hm, hz', hcell, hwz⟩, by omega⟩
  obtain ⟨a1, rfl, rfl, rfl, w1⟩ := open_int Try.underlying5 (hval 1 5 v1 rfl rfl) h1
  clear hA0 hval0
  refine (walk a0 len0 cap0 z0 a1 W w0 s0 w1).mono fun e W' ⟨he, bel⟩ => ?_
  subst he
  exact ⟨_, rfl, _, _, _, [], _, [], hW', trodAll_mk1 (shut_bool Try.underlying4 _), (trodAll_cons_mk (Below.trod laidOut (by kernel_rfl) (of_decide_eq_true (by kernel_rfl)) k0 bel lt0) (trodAll_cons_mk (shut_int Try.underlying5 w1) trodAll_mk0)), rfl, bel.frame _, fun h => by cases h⟩

theorem over : Rows.pagesApartRow.holds Try.pinned (OpenSpec.ofChange Rows.pagesApartSpec) :=
  OpenClaim.holds_of_wide 6 Try.f6 rfl rfl rfl rfl rfl rfl rfl ⟨rfl, rfl, rfl, rfl, rfl⟩ rfl rfl rfl rfl rfl (by kernel_rfl) Try.func6 (by kernel_rfl)
    (of_decide_eq_true (by kernel_rfl)) (by unfold Func.isWrapper; first | (rw [if_pos (by decide +kernel)]; kernel_rfl) | (rw [if_neg (by decide +kernel)]; exact ⟨rfl, rfl⟩))
    (fun os started H enc _ => lifted os started H enc)
end Go.Proofs.Ytlfophfilehdeaa.pagesApart

namespace Go.Proofs.Ytlfophfilehdeaa
theorem pagesApart_holds : Rows.PagesApartSaid := pagesApart.over
#print axioms pagesApart_holds
end Go.Proofs.Ytlfophfilehdeaa
