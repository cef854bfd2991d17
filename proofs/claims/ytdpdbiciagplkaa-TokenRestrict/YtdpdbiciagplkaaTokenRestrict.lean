/-
  TokenRestrict (P7.2): what an owner restricts by itself is good for the rights of the mask; nobody else restricts so. No condition: every input that can be read.
-/
import Derived.Test.YtdpdbiciagplkaaRows
import Derived.Test.YtdpdbiciagplkaaKRead
import Derived.Laws.StructEq
import Derived.WalkKit
import Derived.WalkSpells
import Derived.WalkLawsBesides
import Derived.Deep.QuietTactic
import Derived.BigQuiet
import Derived.ProofKit
import Derived.OpenShut
import Derived.ShutString
import Derived.ChangeOld
import Derived.Below
import Derived.SizedLaws
namespace Go.Proofs.Ytdpdbiciagplkaa

open Go.RowKit
theorem eqGuard26 : Try.prog.eqGuardType Try.prog.depth 26 = false := by kernel_rfl
theorem eql_cap (p o r c p' o' r' c' : Int) (w : World) : (binOp .eql 26 (.agg #[.int .u64 p, .int .u32 o, .int .u8 r, .int .u64 c]) (.agg #[.int .u64 p', .int .u32 o', .int .u8 r', .int .u64 c'])).run Try.prog w = .ok (.bool (decide (p = p' ∧ o = o' ∧ r = r' ∧ c = c'))) w := by
  have hS : Try.prog.underlying 26 = some (.struct (Try.prog.fieldsOf 26)) := by kernel_rfl
  have hp : Try.prog.stoodInHeld 26 = false := by kernel_rfl
  rw [run_eql_struct, show (10000 : Nat) = 9999 + 1 from rfl, run_equalIn_agg w 9999 26 _ _ hS hp]
  simp only [Program.fieldsOf, Try.underlying26]
  have u1 := Try.underlying23
  have u2 := Try.underlying24
  have u3 := Try.underlying5
  go_simp
  by_cases h1 : p = p' <;> by_cases h2 : o = o' <;> by_cases h3 : r = r' <;> by_cases h4 : c = c' <;> simp [h1, h2, h3, h4]
set_option maxHeartbeats 1600000 in
theorem walk_other (ao : Option Addr) (n cap : Nat) (us : List Nat) (s p o r c mask : Nat) (w : World) (hu : U64s w ao n cap us) (hb : n ≤ 17592186043904) (hn : r ≠ 255) :
    Calls Try.prog 3 #[.slice ao n cap, .int .u64 (s : Int), .agg #[.int .u64 (p : Int), .int .u32 (o : Int), .int .u8 (r : Int), .int .u64 (c : Int)], .int .u8 (mask : Int)] w fun e w' => e = .returned (.bool true) ∧ Below w.heap.size w w' := by
  have HU := hide hu
  have hc2 : cap ≤ 9223372036854775807 := hu.2.2.1
  have hnc : n ≤ cap := hu.2.1
  have HL := hide (show (cutN us).length = n by rw [cutN_len]; exact hu.1.symm)
  have HNr := hide hn
  have hr1 : ¬ ((r : Int) = 255) := by omega
  clear hu hn
  go_enter Try.func3, Try.ntmps3
  go_wp2_with fail
  refine (awake_any _).mono ?_; rintro e w1 ⟨rfl, bel1⟩
  have b1 := (below_alloc w (.cells #[.int .u64 (p : Int), .int .u32 (o : Int), .int .u8 (r : Int), .int .u64 (c : Int)] 26)).trans (bel1.mono (below_alloc w _).size)
  have HB1 := hide b1
  have HC1 := hide ((CBox.new w p o r c).grow bel1)
  clear bel1 b1
  go_wp2_with fail
  refine (of_any ao n cap us _ (HU.out.carry HB1.out) hb).mono ?_; rintro e w2 ⟨a, h, k, rfl, T, _, ha, hh, bel2⟩
  have HT := hide T
  have HN := hide (And.intro ha (And.intro hh bel2))
  have HC2 := hide (HC1.out.grow bel2)
  clear T ha hh bel2 HC1
  go_wp2_with fail
  refine (oof_any _ ⟨_, rfl⟩ _).mono ?_; rintro e w3 ⟨g, m, rfl, O3, bel3⟩
  have HK := hide (Tk.made HB1.out HT.out HN.out.1 HN.out.2.1 HN.out.2.2 O3 bel3)
  have HC3 := hide (HC2.out.grow bel3)
  clear O3 bel3 HN HT HC2 HB1
  have c0 := HC3.out.c0
  have c1 := HC3.out.c1
  have c2 := HC3.out.c2
  have c3 := HC3.out.c3
  go_wp2_with fail
  refine (tres_no _ p o r c mask _ HNr.out).mono ?_; rintro e w4 ⟨rfl, bel4⟩
  have HK4 := hide (HK.out.grow bel4)
  clear bel4 HK HC3 c0 c1 c2 c3
  have hq := eql_cap
  have hgd := eqGuard26
  go_wp2_with fail
  refine (is_same 2 _).mono ?_; rintro e w5 ⟨rfl, rfl⟩
  have HK5 := hide (HK4.out.grow (below_alloc w4 (.cells #[.int .u64 0, .int .u32 0, .int .u8 0, .int .u64 0] 26)))
  clear HK4
  go_wp2_with fail
  refine (oleft_any g m _ a h _ k _ _ (cutN us) _ HK5.out.orc HK5.out.tape).mono ?_; rintro e w6 ⟨rfl, q6, rfl⟩
  rw [HL.out, show (n : Int) - ((0 : Nat) : Int) = (n : Int) from by omega]
  go_wp2
  go_ret
  exact ⟨rfl, below_drewN HK5.out.new.bel _⟩
set_option maxHeartbeats 3200000 in
theorem walk_owner (ao : Option Addr) (n cap : Nat) (us : List Nat) (s p o c mask : Nat) (w : World) (hu : U64s w ao n cap us) (hb : n ≤ 17592186043904) (hs : s ≤ 18446744073709551615) (hm : mask ≤ 255) :
    Calls Try.prog 3 #[.slice ao n cap, .int .u64 (s : Int), .agg #[.int .u64 (p : Int), .int .u32 (o : Int), .int .u8 255, .int .u64 (c : Int)], .int .u8 (mask : Int)] w fun e w' => e = .returned (.bool true) ∧ Below w.heap.size w w' := by
  have HU := hide hu
  have HS := hide hs
  have HM := hide hm
  obtain ⟨y, hy⟩ : ∃ y, s % 281474976710656 = y := ⟨_, rfl⟩
  have hand : bits .and .u64 (s : Int) 281474976710655 = (y : Int) := by rw [and_word _ (by omega) (by omega), cutF_nat, hy]
  obtain ⟨X, hX⟩ : ∃ X, ofF (cutN us) 0 [] y mask = X := ⟨_, rfl⟩
  have hX2 : ofF (cutN us) X.t X.es s mask = X := by
    rw [← of_cut, hy, ← hX]; exact of_again _ _ _ _ _
  have HX := hide hX
  have HX2 := hide hX2
  have HE := hide (show X.es.length ≤ 1 by rw [← hX]; exact of_len _ _ _ _ _)
  have HYl := hide (show y ≤ 18446744073709551615 by omega)
  clear hu hs hm hX hX2 hy
  obtain ⟨x, ok, t', es'⟩ := X
  go_enter Try.func3, Try.ntmps3
  go_wp2_with fail
  refine (awake_any _).mono ?_; rintro e w1 ⟨rfl, bel1⟩
  have b1 := (below_alloc w (.cells #[.int .u64 (p : Int), .int .u32 (o : Int), .int .u8 255, .int .u64 (c : Int)] 26)).trans (bel1.mono (below_alloc w _).size)
  have HB1 := hide b1
  have HC1 : Hid (CBox w1 w.heap.size p o 255 c) := ((CBox.new w p o 255 c).grow bel1)
  clear bel1 b1
  go_wp2_with fail
  refine (of_any ao n cap us _ (HU.out.carry HB1.out) hb).mono ?_; rintro e w2 ⟨a, h, k, rfl, T, _, ha, hh, bel2⟩
  have HT := hide T
  have HN := hide (And.intro ha (And.intro hh bel2))
  have HC2 := hide (HC1.out.grow bel2)
  clear T ha hh bel2 HC1
  go_wp2_with fail
  refine (oof_any _ ⟨_, rfl⟩ _).mono ?_; rintro e w3 ⟨g, m, rfl, O3, bel3⟩
  have HK := hide (Tk.made HB1.out HT.out HN.out.1 HN.out.2.1 HN.out.2.2 O3 bel3)
  have HC3 := hide (HC2.out.grow bel3)
  clear O3 bel3 HN HT HC2 HB1
  have c0 := HC3.out.c0
  have c1 := HC3.out.c1
  have c2 : w3.cell? ⟨w.heap.size, 2, none⟩ = some (.int .u8 255) := HC3.out.c2
  have c3 := HC3.out.c3
  have z := HC3.out.z
  go_wp2_with fail
  have HK4 := hide (HK.out.put HC3.out.capB (Nat.le_refl _) 3 (.int .u64 (y : Int)))
  have HC4 := hide (HC3.out.set3 y)
  clear HK HC3 c0 c1 c2 c3 z
  obtain ⟨w4, hw4⟩ : ∃ w4, w3.setCell ⟨w.heap.size, 3, none⟩ (.int .u64 (y : Int)) = w4 := ⟨_, rfl⟩
  rw [hw4] at HK4 HC4 ⊢
  clear hw4
  refine (tres_any w _ g m a h k _ (cutN us) 0 [] p o y mask _ HK4.out HYl.out HM.out (by decide)).mono ?_
  rw [HX.out]
  rintro e w5 ⟨rfl, L⟩
  obtain ⟨v5, T5, F5, _⟩ := L
  have HK5 := hide T5
  have HC5 := hide (HC4.out.ask HK4.out F5)
  clear T5 F5 HX HK4 HC4
  have hq := eql_cap
  have hgd := eqGuard26
  cases ok <;> simp only [erV, resV]
  · go_wp2_with fail
    refine (is_same 7 _).mono ?_; rintro e w6 ⟨rfl, rfl⟩
    go_wp2
    go_ret
    exact ⟨rfl, (HK5.out.grow (below_alloc w5 _)).new.bel⟩
  · clear hq hgd
    go_wp2_with fail
    have HK6 := hide (HK5.out.grow (below_alloc w5 (.cells #[.int .u64 (p : Int), .int .u32 (o : Int), .int .u8 (mask : Int), .int .u64 (x : Int)] 26)))
    have HC6 := hide (HC5.out.grow (below_alloc w5 (.cells #[.int .u64 (p : Int), .int .u32 (o : Int), .int .u8 (mask : Int), .int .u64 (x : Int)] 26)))
    have HD6 := hide (CBox.new w5 p o mask x)
    refine (tgood_any w _ g m a h k _ (cutN us) t' es' s p o mask x _ HK6.out HS.out HM.out (by have hE : es'.length ≤ 1 := HE.out; omega)).mono ?_
    rw [show ofF (cutN us) t' es' s mask = _ from HX2.out]
    rintro e w7 ⟨rfl, L⟩
    obtain ⟨v7, T7, F7, _⟩ := L
    have HK7 := hide T7
    have HC7 := hide (HC6.out.ask HK6.out F7)
    have HD7 := hide (HD6.out.ask HK6.out F7)
    clear T7 F7 HX2 HK6 HC6 HD6 HK5 HC5
    have hg : goodF ⟨x, true, t', es'⟩ x = true := by simp [goodF]
    rw [hg]
    simp only [erV]
    have c0 := HC7.out.c0
    have c1 := HC7.out.c1
    have d0 := HD7.out.c0
    have d1 := HD7.out.c1
    have d2 := HD7.out.c2
    go_wp2
    go_ret
    exact ⟨rfl, HK7.out.new.bel⟩
theorem walk_restrict (ao : Option Addr) (n cap : Nat) (us : List Nat) (s p o r c mask : Nat) (w : World) (hu : U64s w ao n cap us) (hb : n ≤ 17592186043904) (hs : s ≤ 18446744073709551615) (_hr : r ≤ 255) (hm : mask ≤ 255) :
    Calls Try.prog 3 #[.slice ao n cap, .int .u64 (s : Int), .agg #[.int .u64 (p : Int), .int .u32 (o : Int), .int .u8 (r : Int), .int .u64 (c : Int)], .int .u8 (mask : Int)] w fun e w' => e = .returned (.bool true) ∧ Below w.heap.size w w' := by
  by_cases h : r = 255
  · subst h
    exact walk_owner ao n cap us s p o c mask w hu hb hs hm
  · exact walk_other ao n cap us s p o r c mask w hu hb h

end Go.Proofs.Ytdpdbiciagplkaa

namespace Go.Proofs.Ytdpdbiciagplkaa.tokenRestrict
open Go.ChangeShapes Go.WideShapes Go.ChangeAt Go.RowKit
set_option linter.unusedVariables false

theorem own : ownKnob Try.prog.godebug = none := by kernel_rfl
theorem laidOut : laidOutB Try.prog = true := by kernel_rfl

theorem walk (a0 : Option Addr) (len0 cap0 : Nat) (z0 : List Int) (a1 : Int) (p2 o2 r2 c2 : Nat) (a3 : Int) (w : World) (w0 : RowOf .u64 w a0 len0 cap0 z0) (s0 : cap0 * 8 ≤ 140737488351232) (w1 : (Lit.int .u64 a1).wf = true) (w2 : p2 ≤ 18446744073709551615) (x2 : o2 ≤ 4294967295) (y2 : r2 ≤ 255) (u2 : c2 ≤ 18446744073709551615) (w3 : (Lit.int .u8 a3).wf = true) :
    Calls Try.prog 3 #[.slice a0 len0 cap0, .int .u64 a1, .agg #[.int .u64 p2, .int .u32 o2, .int .u8 r2, .int .u64 c2], .int .u8 a3] w fun e w' => e = .returned (.bool true) ∧ Below w.heap.size w w' :=
  by obtain ⟨us, hu⟩ := w0.u64s; obtain ⟨q1, rfl, h1⟩ := u64_nat w1; obtain ⟨q3, rfl, h3⟩ := u8_nat w3; exact walk_restrict a0 len0 cap0 us q1 p2 o2 r2 c2 q3 w hu (by have := hu.2.1; omega) h1 y2 h3

set_option maxRecDepth 100000 in
theorem lifted (os : Os) (started : os.Started) (H : Type) (enc : TypeId × Value → H) :
    ReturnsInHanded {} Try.checked os 3 .any (Rows.tokenRestrictSpec.pre6 enc Try.prog Try.f3 Rows.tokenRestrictRow.domain false) (Rows.tokenRestrictSpec.post enc Try.prog Try.f3 false true false false) := by
  refine returnsInHanded_of_change_sized (C := Try.checked) own started (by kernel_rfl) Try.func3
    (ChangeSpec.witness6 (enc := enc) (C := Try.checked) false ⟨#[], #[.slice none 0 0, .int .u64 0, .agg #[.int .u64 0, .int .u32 0, .int .u8 0, .int .u64 0], .int .u8 0], []⟩ 8 (by kernel_rfl) (by kernel_rfl) (by kernel_rfl) (by kernel_rfl)) ?_
  intro W base args ds gs before hval0 hW hcnd hsz0 _
  have hval : ∀ (j : Nat) t v, Try.f3.params[j]? = some t → args[j]? = some v → Value.okWide Try.prog W .any base t v := hval0
  have hW' := hW
  obtain ⟨p, q, hA0, hV, rfl, hfz, hnd⟩ := hW
  have hA : DataW.TrodAll enc Try.prog W 0 (fun _ => true) true Try.f3.params.toList args.toList ds p := hA0
  have hsz : (DataW.weightsEach Try.prog (Try.f3.params.toList ++ Rows.tokenRestrictSpec.plain.varTypes Try.prog) (ds ++ gs)).all (· ≤ reachBytes) = true := hsz0
  rw [Try.params3] at hA hval hsz
  obtain ⟨v0, vs0, d0, ds0, p0, q0, hargs, rfl, rfl, h0, r0⟩ := trodAll_cons hA
  obtain ⟨v1, vs1, d1, ds1, p1, q1, rfl, rfl, rfl, h1, r1⟩ := trodAll_cons r0
  obtain ⟨v2, vs2, d2, ds2, p2, q2, rfl, rfl, rfl, h2, r2⟩ := trodAll_cons r1
  obtain ⟨v3, vs3, d3, ds3, p3, q3, rfl, rfl, rfl, h3, r3⟩ := trodAll_cons r2
  obtain ⟨rfl, rfl, rfl⟩ := trodAll_nil r3
  obtain rfl : args = #[v0, v1, v2, v3] := by cases args; simp_all
  obtain ⟨rfl, rfl⟩ := trodVars_none hV
  obtain ⟨a0, len0, cap0, rfl⟩ := okWide_slice Try.underlying22 (hval 0 22 v0 rfl rfl)
  have k0 := h0
  have lt0 : ∀ x ∈ p0, x.block < W.heap.size := by obtain ⟨m, hm⟩ := k0; exact DataW.trod_lt m _ _ _ hm
  obtain ⟨z0, w0, s0⟩ : ∃ zs, RowOf .u64 W a0 len0 cap0 zs ∧ cap0 * 8 ≤ 140737488351232 := by
    obtain ⟨fuel, hf⟩ := h0
    rcases open_ints Try.underlying22 Try.underlying23 (by kernel_rfl) hf with ⟨hcs, _⟩ | ⟨x, l, c, zs, hcs, _, hl, hm, hz, hx, hcell, hwz⟩
    · simp [Value.cells] at hcs
      obtain ⟨rfl, rfl, rfl⟩ := hcs
      exact ⟨[], .inl ⟨rfl, rfl, rfl, rfl⟩, by omega⟩
    · simp [Value.cells] at hcs
      obtain ⟨rfl, rfl, rfl⟩ := hcs
      have hd := congrArg Prod.fst hx
      simp only at hd
      subst hd
      have hs := sized_slice hsz (j := 0) (t := 22) (e := 23) rfl rfl Try.underlying22
      rw [bytesOf23] at hs
      simp only [lits, List.length_map, List.length_take, List.length_drop, reachBytes] at hs
      have hz' : zs.length = cap0 := by simpa using hz
      exact ⟨zs, .inr ⟨_, rfl, hl, hm, hz', hcell, hwz⟩, by omega⟩
  obtain ⟨a1, rfl, rfl, rfl, w1⟩ := open_int Try.underlying23 (hval 1 23 v1 rfl rfl) h1
  have k2 := h2
  have lt2 : ∀ x ∈ p2, x.block < W.heap.size := by obtain ⟨m, hm⟩ := k2; exact DataW.trod_lt m _ _ _ hm
  obtain ⟨q2, o2, r2', c2, rfl, w2, x2, y2, u2⟩ := open_cap (hval 2 26 v2 rfl rfl) h2
  obtain ⟨a3, rfl, rfl, rfl, w3⟩ := open_int Try.underlying5 (hval 3 5 v3 rfl rfl) h3
  clear hA0 hval0
  refine (walk a0 len0 cap0 z0 a1 q2 o2 r2' c2 a3 W w0 s0 w1 w2 x2 y2 u2 w3).mono fun e W' ⟨he, bel⟩ => ?_
  subst he
  exact ⟨_, rfl, _, _, _, [], _, [], hW', trodAll_mk1 (shut_bool Try.underlying4 _), (trodAll_cons_mk (Below.trod laidOut (by kernel_rfl) (of_decide_eq_true (by kernel_rfl)) k0 bel lt0) (trodAll_cons_mk (shut_int Try.underlying23 w1) (trodAll_cons_mk (Below.trod laidOut (by kernel_rfl) (of_decide_eq_true (by kernel_rfl)) k2 bel lt2) (trodAll_cons_mk (shut_int Try.underlying5 w3) trodAll_mk0)))), rfl, bel.frame _, fun h => by cases h⟩

theorem over : Rows.tokenRestrictRow.holds Try.pinned (OpenSpec.ofChange Rows.tokenRestrictSpec) :=
  OpenClaim.holds_of_wide 3 Try.f3 rfl rfl rfl rfl rfl rfl rfl ⟨rfl, rfl, rfl, rfl, rfl⟩ rfl rfl rfl rfl rfl (by kernel_rfl) Try.func3 (by kernel_rfl)
    (of_decide_eq_true (by kernel_rfl)) (by unfold Func.isWrapper; first | (rw [if_pos (by decide +kernel)]; kernel_rfl) | (rw [if_neg (by decide +kernel)]; exact ⟨rfl, rfl⟩))
    (fun os started H enc _ => lifted os started H enc)
end Go.Proofs.Ytdpdbiciagplkaa.tokenRestrict

namespace Go.Proofs.Ytdpdbiciagplkaa
theorem tokenRestrict_holds : Rows.TokenRestrictSaid := tokenRestrict.over
#print axioms tokenRestrict_holds
end Go.Proofs.Ytdpdbiciagplkaa
