/-
  PagesClean (P8.1): a page that is given out anew shows nothing of what was in it. No condition: every input that can be read.
-/
import Derived.Test.YtlfophfilehdeaaRows
import Derived.Test.YtlfophfilehdeaaPRead
import Derived.WalkKit
import Derived.WalkSpells
import Derived.WalkLawsBesides
import Derived.Deep.QuietTactic
import Derived.BigQuiet
import Derived.ProofKit
import Derived.OpenShut
import Derived.ShutString
import Derived.ChangeOld
import Derived.Below
import Derived.SizedLaws
namespace Go.Proofs.Ytlfophfilehdeaa

open Go.RowKit
theorem write_some (m a b n k p : Nat) (gl : List Bool) (bs : List UInt8) (so : Option Addr) (sn sc : Nat) (l : List UInt8) (w : World) (M : MemAt w m a b n gl bs) (hk : k < n) (hg : gl.getD k true = true) (hb : Bts w so sn sc l) (hp : p ≤ 64) :
    Calls Try.prog 13 #[.pointer (some ⟨m, 0, none⟩), .int .i64 (k : Int), .int .i64 (p : Int), .slice so sn sc] w fun e w' =>
      ∃ v bs', e = .returned v ∧ MemAt w' m a b n gl bs' ∧ Foot (MemS a b) w w' := by
  by_cases h : p + sn ≤ 64
  · exact (write_yes m a b n k p gl bs so sn sc l w M hk hg hb h).mono fun e w' h => ⟨_, _, h.1, h.2.1, h.2.2⟩
  · refine (write_no m a b n gl bs k p 13 so sn sc w M (by omega) (Nat.le_trans hb.2.1 hb.2.2.1) (wrongV_fits (hasF_is (by rw [M.num]; exact hk) hg) (decide_eq_false (by omega)))).mono fun e w' h => ⟨_, bs, h.1, ?_, ?_⟩
    · rw [h.2]; exact M
    · rw [h.2]; exact Foot.refl _ _
theorem wiped (bs : List UInt8) (h : bs.length = 1 * 64) : pieceF (splice bs (0 * 64) (zeros 64)) (0 * 64 + 0) 64 = zeros 64 := by
  have hl : (splice bs (0 * 64) (zeros 64)).length = 64 := by rw [length_splice _ _ _ (by rw [zeros_len]; omega)]; omega
  refine same_row _ _ (by rw [pieceF_len _ _ _ (by omega), zeros_len]) (fun i hi => ?_)
  rw [pieceF_len _ _ _ (by omega)] at hi
  rw [pieceF_get _ _ _ _ hi, splice_get _ _ _ _ _ (by rw [zeros_len]; omega), zeros_len, if_pos (by omega), zeros_get, zeros_get]
set_option maxRecDepth 20000 in
set_option maxHeartbeats 1600000 in
theorem walk_clean (ao : Option Addr) (n cap : Nat) (l : List UInt8) (q : Nat) (w : World) (hb : Bts w ao n cap l) (hq : q ≤ 255) :
    Calls Try.prog 4 #[.slice ao n cap, .int .u8 (q : Int)] w fun e w' => e = .returned (.bool true) ∧ Below w.heap.size w w' := by
  have HB := hide hb
  clear hb
  obtain ⟨p, hp⟩ : ∃ p, q % 64 = p := ⟨_, rfl⟩
  have hp' : (q : Int) % 64 = (p : Int) := by omega
  have HP := hide (show p ≤ 64 by omega)
  have hp1 : p ≤ 63 := by omega
  clear hp
  obtain ⟨C, hC⟩ : ∃ C, (cellsB (zeros 64)).toArray = C := ⟨_, rfl⟩
  have HC := hide hC
  have mk : ∀ w, (Instr.makeSlice 31 (.int .i64 64) (.int .i64 64)).run Try.prog w = .ok (.slice (some ⟨w.heap.size, 0, none⟩) 64 64) (w.alloc (.cells C 5)) := fun w => by rw [← hC]; exact make_bytes 64 (by omega) w
  obtain ⟨Z, hZ⟩ : ∃ Z, str (zeros 64) = Z := ⟨_, rfl⟩
  have HZ := hide hZ
  clear hC hZ
  go_enter Try.func4, Try.ntmps4
  go_wp2_with fail
  refine (awake_any _).mono ?_; rintro e w1 ⟨rfl, bel1⟩
  have HB1 := hide bel1
  clear bel1
  go_wp2_with fail
  refine (of_any 1 _ 1 (by decide) (by omega)).mono ?_; rintro e w2 ⟨m, a, b, rfl, N2⟩
  have H2 := hide N2
  clear N2
  go_wp2_with fail
  refine (alloc_yes m a b 1 0 _ _ _ H2.out.mem (by decide) (by omega)).mono ?_; rintro e w3 ⟨rfl, M3, F3⟩
  have H3 := hide M3
  have HF3 := hide F3
  clear M3 F3
  go_wp2_with fail
  refine (write_some m a b 1 0 p _ _ ao n cap l _ H3.out (by omega) (by decide) (HB.out.carry (HB1.out.trans ((H2.out.below HF3.out).mono HB1.out.size))) HP.out).mono ?_; rintro e w4 ⟨v, bs, rfl, M4, F4⟩
  have H4 := hide M4
  have HF4 := hide (HF3.out.then F4)
  clear M4 F4 H3 HF3
  go_wp2_with fail
  refine (free_yes m a b 1 0 _ _ _ H4.out (by omega) (by decide)).mono ?_; rintro e w5 ⟨rfl, M5, F5⟩
  have H5 := hide M5
  have HL := hide H4.out.len
  have HF5 := hide (HF4.out.then F5)
  clear M5 F5 H4 HF4
  go_wp2_with fail
  refine (alloc_yes m a b 1 0 _ _ _ H5.out (by decide) (by omega)).mono ?_; rintro e w6 ⟨rfl, M6, F6⟩
  have H6 := hide M6
  have HF6 := hide (HF5.out.then F6)
  clear M6 F6 H5 HF5
  go_wp2_with fail
  refine (read_yes m a b 1 0 0 64 _ _ _ H6.out (by omega) (by decide) (by omega)).mono ?_; rintro e w7 ⟨co, cc, rfl, B7, _, bel7⟩
  rw [wiped bs HL.out] at B7
  have HB7 := hide B7
  have H7 := hide (H6.out.grow bel7)
  have HE := hide (HB1.out.trans (((H2.out.below HF6.out).trans (bel7.mono (H2.out.below HF6.out).size)).mono HB1.out.size))
  have cv1 : (convert 31 9 (.slice co 64 cc)).run Try.prog w7.drew = .ok (.string Z) w7.drew := by rw [← HZ.out]; exact conv_bts (HB7.out.drewN 1)
  have cv2 : (convert 31 9 (.slice co 64 cc)).run Try.prog (w7.alloc (.cells C 5)).drew = .ok (.string Z) (w7.alloc (.cells C 5)).drew := by rw [← HZ.out]; exact conv_bts ((HB7.out.carry (below_alloc w7 _)).drewN 1)
  have cv3 : (convert 31 9 (.slice (some ⟨w7.heap.size, 0, none⟩) 64 64)).run Try.prog (w7.alloc (.cells C 5)).drew = .ok (.string Z) (w7.alloc (.cells C 5)).drew := by rw [← HZ.out]; exact conv_bts ((bts_zeros w7 64 (by omega) C HC.out).drewN 1)
  clear B7 bel7 H6 HF6 H2 HB1
  go_wp2_with fail
  go_region_held (fun _ => True) (trivial) ((go_at_call 15; refine (left_any m a b 1 _ _ _ (H7.out.grow (by go_grown))).mono ?_; rintro e wx ⟨rfl, rfl⟩))
  all_goals (go_wp2; go_ret; exact ⟨rfl, HE.out.trans (Below.mono (by go_grown) HE.out.size)⟩)

end Go.Proofs.Ytlfophfilehdeaa

namespace Go.Proofs.Ytlfophfilehdeaa.pagesClean
open Go.ChangeShapes Go.WideShapes Go.ChangeAt Go.RowKit
set_option linter.unusedVariables false

theorem own : ownKnob Try.prog.godebug = none := by kernel_rfl
theorem laidOut : laidOutB Try.prog = true := by kernel_rfl

theorem walk (a0 : Option Addr) (len0 cap0 : Nat) (z0 : List Int) (a1 : Int) (w : World) (w0 : RowOf .u8 w a0 len0 cap0 z0) (s0 : cap0 * 1 ≤ 140737488351232) (w1 : (Lit.int .u8 a1).wf = true) :
    Calls Try.prog 4 #[.slice a0 len0 cap0, .int .u8 a1] w fun e w' => e = .returned (.bool true) ∧ Below w.heap.size w w' :=
  by obtain ⟨l, hb⟩ := w0.bytes; obtain ⟨q1, rfl, h1⟩ := u8_nat w1; exact walk_clean a0 len0 cap0 l q1 w hb h1

set_option maxRecDepth 100000 in
theorem lifted (os : Os) (started : os.Started) (H : Type) (enc : TypeId × Value → H) :
    ReturnsInHanded {} Try.checked os 4 .any (Rows.pagesCleanSpec.pre6 enc Try.prog Try.f4 Rows.pagesCleanRow.domain false) (Rows.pagesCleanSpec.post enc Try.prog Try.f4 false true false false) := by
  refine returnsInHanded_of_change_sized (C := Try.checked) own started (by kernel_rfl) Try.func4
    (ChangeSpec.witness6 (enc := enc) (C := Try.checked) false ⟨#[], #[.slice none 0 0, .int .u8 0], []⟩ 8 (by kernel_rfl) (by kernel_rfl) (by kernel_rfl) (by kernel_rfl)) ?_
  intro W base args ds gs before hval0 hW hcnd hsz0 _
  have hval : ∀ (j : Nat) t v, Try.f4.params[j]? = some t → args[j]? = some v → Value.okWide Try.prog W .any base t v := hval0
  have hW' := hW
  obtain ⟨p, q, hA0, hV, rfl, hfz, hnd⟩ := hW
  have hA : DataW.TrodAll enc Try.prog W 0 (fun _ => true) true Try.f4.params.toList args.toList ds p := hA0
  have hsz : (DataW.weightsEach Try.prog (Try.f4.params.toList ++ Rows.pagesCleanSpec.plain.varTypes Try.prog) (ds ++ gs)).all (· ≤ reachBytes) = true := hsz0
  rw [Try.params4] at hA hval hsz
  obtain ⟨v0, vs0, d0, ds0, p0, q0, hargs, rfl, rfl, h0, r0⟩ := trodAll_cons hA
  obtain ⟨v1, vs1, d1, ds1, p1, q1, rfl, rfl, rfl, h1, r1⟩ := trodAll_cons r0
  obtain ⟨rfl, rfl, rfl⟩ := trodAll_nil r1
  obtain rfl : args = #[v0, v1] := by cases args; simp_all
  obtain ⟨rfl, rfl⟩ := trodVars_none hV
  obtain ⟨a0, len0, cap0, rfl⟩ := okWide_slice Try.underlying31 (hval 0 31 v0 rfl rfl)
  have k0 := h0
  have lt0 : ∀ x ∈ p0, x.block < W.heap.size := by obtain ⟨m, hm⟩ := k0; exact DataW.trod_lt m _ _ _ hm
  obtain ⟨z0, w0, s0⟩ : ∃ zs, RowOf .u8 W a0 len0 cap0 zs ∧ cap0 * 1 ≤ 140737488351232 := by
    obtain ⟨fuel, hf⟩ := h0
    rcases open_ints Try.underlying31 Try.underlying5 (by kernel_rfl) hf with ⟨hcs, _⟩ | ⟨x, l, c, zs, hcs, _, hl, hm, hz, hx, hcell, hwz⟩
    · simp [Value.cells] at hcs
      obtain ⟨rfl, rfl, rfl⟩ := hcs
      exact ⟨[], .inl ⟨rfl, rfl, rfl, rfl⟩, by omega⟩
    · simp [Value.cells] at hcs
      obtain ⟨rfl, rfl, rfl⟩ := hcs
      have hd := congrArg Prod.fst hx
      simp only at hd
      subst hd
      have hs := sized_slice hsz (j := 0) (t := 31) (e := 5) rfl rfl Try.underlying31
      rw [bytesOf5] at hs
      simp only [lits, List.length_map, List.length_take, List.length_drop, reachBytes] at hs
      have hz' : zs.length = cap0 := by simpa using hz
      exact ⟨zs, .inr ⟨_, rfl, hl, hm, hz', hcell, hwz⟩, by omega⟩
  obtain ⟨a1, rfl, rfl, rfl, w1⟩ := open_int Try.underlying5 (hval 1 5 v1 rfl rfl) h1
  clear hA0 hval0
  refine (walk a0 len0 cap0 z0 a1 W w0 s0 w1).mono fun e W' ⟨he, bel⟩ => ?_
  subst he
  exact ⟨_, rfl, _, _, _, [], _, [], hW', trodAll_mk1 (shut_bool Try.underlying4 _), (trodAll_cons_mk (Below.trod laidOut (by kernel_rfl) (of_decide_eq_true (by kernel_rfl)) k0 bel lt0) (trodAll_cons_mk (shut_int Try.underlying5 w1) trodAll_mk0)), rfl, bel.frame _, fun h => by cases h⟩

theorem over : Rows.pagesCleanRow.holds Try.pinned (OpenSpec.ofChange Rows.pagesCleanSpec) :=
  OpenClaim.holds_of_wide 4 Try.f4 rfl rfl rfl rfl rfl rfl rfl ⟨rfl, rfl, rfl, rfl, rfl⟩ rfl rfl rfl rfl rfl (by kernel_rfl) Try.func4 (by kernel_rfl)
    (of_decide_eq_true (by kernel_rfl)) (by unfold Func.isWrapper; first | (rw [if_pos (by decide +kernel)]; kernel_rfl) | (rw [if_neg (by decide +kernel)]; exact ⟨rfl, rfl⟩))
    (fun os started H enc _ => lifted os started H enc)
end Go.Proofs.Ytlfophfilehdeaa.pagesClean

namespace Go.Proofs.Ytlfophfilehdeaa
theorem pagesClean_holds : Rows.PagesCleanSaid := pagesClean.over
#print axioms pagesClean_holds
end Go.Proofs.Ytlfophfilehdeaa
