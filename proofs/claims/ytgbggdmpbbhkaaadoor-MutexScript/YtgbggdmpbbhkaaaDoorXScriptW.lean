/-
  The walk of MutexScript.
-/
import Derived.Test.YtgbggdmpbbhkaaaDoorXAct
import Derived.Deep.CutBlock
namespace Go.Proofs.YtgbggdmpbbhkaaaDoor
open Go.RowKit Go.Deep
def AtCheck (w : World) (g : Nat) (v : Value) (wx : World) : Prop := ∃ (M : List Int) (ao : Option Addr) (c : Nat) (so : Option Addr) (m tc : Nat), v = .slice so m tc ∧ SP w wx g M M ao c so m tc ∧ Row M
def ScrRel (w : World) (g n gk : Nat) (vi vr : Value) (wr : World) : Prop := ∃ (i : Nat) (L : List Int) (ao : Option Addr) (c : Nat) (so : Option Addr) (m tc : Nat), i + gk = n ∧ vi = .int .i64 (i : Int) ∧ vr = .slice so m tc ∧ SP w wr g L L ao c so m tc ∧ Row L
theorem act_new (w : World) (o id : Int) : (w.alloc (.cells #[.int .u8 o, .int .i8 id] 30)).cell? ⟨w.heap.size, 0, none⟩ = some (.int .u8 o) ∧ (w.alloc (.cells #[.int .u8 o, .int .i8 id] 30)).cell? ⟨w.heap.size, 1, none⟩ = some (.int .i8 id) := by
  have h := heap_alloc_new w (.cells #[.int .u8 o, .int .i8 id] 30)
  exact ⟨by rw [cell_of_row _ _ _ _ _ _ h]; rfl, by rw [cell_of_row _ _ _ _ _ _ h]; rfl⟩
set_option maxRecDepth 20000 in
set_option maxHeartbeats 6400000 in
theorem walk_script (ao : Option Addr) (n cap : Nat) (xs : List Ac) (w : World) (ha : Acts w ao n cap xs) (hg : Glob w) :
    Calls Tryd.prog 3 #[.slice ao n cap] w fun e w' => e = .returned (.bool true) ∧ Below w.heap.size w w' := by
  have HA := hide ha
  have HG := hide hg
  have hcap : cap ≤ 9223372036854775807 := ha.2.2.1
  have hnc := ha.2.1
  clear ha hg
  go_enter Tryd.func3, Tryd.ntmps3
  go_wp2_with fail
  refine (awake_any _).mono ?_; rintro e w1 ⟨rfl, b1⟩
  have HP1 := hide (sp_new b1)
  clear b1
  go_wp2_with fail
  obtain ⟨g, hgg⟩ : ∃ g, w1.heap.size = g := ⟨_, rfl⟩
  rw [hgg] at HP1
  simp only [hgg]
  clear hgg
  go_loopg [21, 4] n (fun gk vi vr wr => ScrRel w g n gk vi vr wr)
  case atStart => exact ⟨0, [], none, 0, none, 0, 0, by omega, rfl, rfl, HP1.out, row_nil⟩
  case round =>
    clear HP1
    obtain ⟨i, L, qo, qc, so, m, tc, hi, rfl, rfl, sp, row⟩ := hrel
    have HP := hide sp
    have HR := hide row
    have HI := hide hi
    clear sp row
    cases gk with
    | zero =>
      obtain rfl : i = n := by omega
      have hlt : ¬ ((i : Int) < (i : Int)) := by omega
      clear hi
      go_wp2
      go_ret
      exact ⟨rfl, HP.out.bel⟩
    | succ g1 =>
      have hlt : (i : Int) < (n : Int) := by omega
      have hin : i < n := by omega
      obtain ⟨ad, rfl⟩ := HA.out.there hin
      obtain ⟨⟨ho, hid⟩, e0, e1⟩ := (HA.out.carry HP.out.bel (Nat.le_refl _)).2.2.2.2 ad rfl i hin
      obtain ⟨⟨o, id⟩, hact⟩ : ∃ y, xs.getD i Ac.zero = y := ⟨_, rfl⟩
      rw [hact] at ho hid e0 e1
      simp only at ho hid e0 e1
      rw [addS _ 0] at e1
      obtain ⟨X, hX⟩ : ∃ X, wr.alloc (.cells #[.int .u8 (o : Int), .int .i8 id] 30) = X := ⟨_, rfl⟩
      have bX : Below wr.heap.size wr X := hX ▸ below_alloc wr _
      obtain ⟨d0, d1⟩ := act_new wr (o : Int) id
      rw [hX] at d0 d1
      have HD0 := hide d0
      have HPX := hide (HP.out.grow bX)
      have HML := hide (HP.out.tl.row.len)
      have hm65 : m ≤ 65 := by rw [HML.out]; exact HR.out.few
      have hsc : tc ≤ 9223372036854775807 := HP.out.tl.row.2.2.1
      have hsm := HP.out.tl.row.2.1
      have HHAS := hide (xdrop_has L id)
      obtain ⟨d, hd⟩ : ∃ d, o % 3 = d := ⟨_, rfl⟩
      have hd1 : (o : Int) % 3 = (d : Int) := by omega
      have hd3 : d < 3 := by omega
      clear hact bX hi hd
      go_wp2_with fail
      refine (without_any id so m tc L _ HPX.out.tl.row (by omega)).mono ?_; rintro e w2 ⟨ro, rrc, rfl, t2, b2⟩
      have HP2 := hide (HPX.out.grow b2)
      have hd0 := (b2.cell (lt_of_cell HD0.out)).trans HD0.out
      obtain ⟨dl, hdl⟩ : ∃ dl, (dropL L id).length = dl := ⟨_, rfl⟩
      rw [hdl] at HHAS ⊢
      rw [← HML.out] at HHAS
      have hdl2 : dl ≤ m := by rw [← hdl, HML.out]; exact dropL_len L id
      clear t2 b2 hdl HP HPX
      go_upto_block 2 with fail
      go_cut [4, 8, 9, 10, 11, 12, 13, 14] from 22 to 137 (fun v4 _ _ _ _ _ _ _ wx => AtCheck w g v4 wx)
      case first =>
        by_cases hda : d = 0
        · subst hda
          by_cases hn0 : id < 0
          · have hnp : ¬ (0 ≤ id) := by omega
            have HLE : Hid (lockE L id = 4) := by show _ = _; unfold lockE; rw [if_pos hn0]
            have HLL : Hid (lockL L id = L) := by show _ = _; unfold lockL; rw [HLE.out, if_neg (by decide)]
            obtain ⟨E, hE⟩ : ∃ E, erN 4 = E := ⟨_, rfl⟩
            have HER := hide hE
            go_wp2_with fail
            refine (lock_any id _ HP2.out.mx HR.out.few).mono ?_; rintro e w3 ⟨rfl, h3⟩
            rw [HLL.out] at h3
            obtain ⟨a5, c5, P3⟩ := HP2.out.lock h3
            have HP3 := hide P3
            rw [HLE.out, hE, decide_eq_false (fun e => by cases e.1)]
            clear h3 P3 hE
            go_wp2_with fail
            rw [← HER.out]
            refine (number_any 4 _ (HG.out.carry HP3.out.bel)).mono ?_; rintro e w4 ⟨rfl, b9⟩
            have HP5 := hide (HP3.out.grow b9)
            clear b9
            have HR5 := HR
            go_wp2_with fail
            go_meet
            exact ⟨L, _, _, so, _, tc, rfl, HP5.out, HR5.out⟩
          · have hn1 : 0 ≤ id := by omega
            by_cases hmem : id ∈ L
            · have hdl3 : (dl : Int) < (m : Int) := by have := HHAS.out.2 hmem; omega
              have HLE : Hid (lockE L id = 15) := by show _ = _; unfold lockE; rw [if_neg (by omega), if_pos hmem]
              have HLL : Hid (lockL L id = L) := by show _ = _; unfold lockL; rw [HLE.out, if_neg (by decide)]
              obtain ⟨E, hE⟩ : ∃ E, erN 15 = E := ⟨_, rfl⟩
              have HER := hide hE
              go_wp2_with fail
              refine (lock_any id _ HP2.out.mx HR.out.few).mono ?_; rintro e w3 ⟨rfl, h3⟩
              rw [HLL.out] at h3
              obtain ⟨a5, c5, P3⟩ := HP2.out.lock h3
              have HP3 := hide P3
              rw [HLE.out, hE, decide_eq_false (fun e => by cases e.1)]
              clear h3 P3 hE
              go_wp2_with fail
              rw [← HER.out]
              refine (number_any 15 _ (HG.out.carry HP3.out.bel)).mono ?_; rintro e w4 ⟨rfl, b9⟩
              have HP5 := hide (HP3.out.grow b9)
              clear b9
              have HR5 := HR
              go_wp2_with fail
              go_meet
              exact ⟨L, _, _, so, _, tc, rfl, HP5.out, HR5.out⟩
            · have hdl3 : ¬ ((dl : Int) < (m : Int)) := fun h => hmem (HHAS.out.1 (by omega))
              by_cases hfull : m = 65
              · subst hfull
                have HLE : Hid (lockE L id = 5) := by show _ = _; unfold lockE; rw [if_neg (by omega), if_neg hmem, if_pos (by rw [← HML.out]; exact Nat.le_refl _)]
                have HLL : Hid (lockL L id = L) := by show _ = _; unfold lockL; rw [HLE.out, if_neg (by decide)]
                obtain ⟨E, hE⟩ : ∃ E, erN 5 = E := ⟨_, rfl⟩
                have HER := hide hE
                go_wp2_with fail
                refine (lock_any id _ HP2.out.mx HR.out.few).mono ?_; rintro e w3 ⟨rfl, h3⟩
                rw [HLL.out] at h3
                obtain ⟨a5, c5, P3⟩ := HP2.out.lock h3
                have HP3 := hide P3
                rw [HLE.out, hE, decide_eq_false (fun e => by cases e.1)]
                clear h3 P3 hE
                go_wp2_with fail
                rw [← HER.out]
                refine (number_any 5 _ (HG.out.carry HP3.out.bel)).mono ?_; rintro e w4 ⟨rfl, b9⟩
                have HP5 := hide (HP3.out.grow b9)
                clear b9
                have HR5 := HR
                go_wp2_with fail
                go_meet
                exact ⟨L, _, _, so, _, tc, rfl, HP5.out, HR5.out⟩
              · have hf2 : ¬ ((m : Int) = 65) := by omega
                have HLE : Hid (lockE L id = 0) := lockE_zero hn1 hmem (by rw [← HML.out]; omega)
                have HLL : Hid (lockL L id = L ++ [id]) := by show _ = _; unfold lockL; rw [HLE.out, if_pos rfl]
                have HR5 : Hid (Row (L ++ [id])) := by have := HR.out.locked id; rw [HLL.out] at this; exact this
                clear hmem
                go_wp2_with fail
                refine (lock_any id _ HP2.out.mx HR.out.few).mono ?_; rintro e w3 ⟨rfl, h3⟩
                rw [HLL.out] at h3
                obtain ⟨a5, c5, P3⟩ := HP2.out.lock h3
                obtain ⟨bo, bc, w4, hr4, P5⟩ := P3.app (ty := 25) id (by omega)
                obtain ⟨M, hM⟩ : ∃ M, L ++ [id] = M := ⟨_, rfl⟩
                rw [hM] at P5 HR5
                have HP5 := hide P5
                have HRUN := hide hr4
                rw [HLE.out, erN_zero, ← HML.out]
                clear h3 P3 P5 hr4 hM
                by_cases hz : m = 0
                · subst hz
                  go_wp2_with (at_builtin; refine wpList_append_run rfl _ _ _ rfl _ _ _ _ rfl rfl HRUN.out ?_)
                  go_meet
                  exact ⟨M, _, _, bo, _, bc, rfl, HP5.out, HR5.out⟩
                · have hz2 : ¬ ((m : Int) = 0) := by omega
                  rw [decide_eq_false (fun e => hz e.2)]
                  go_wp2_with (at_builtin; refine wpList_append_run rfl _ _ _ rfl _ _ _ _ rfl rfl HRUN.out ?_)
                  go_meet
                  exact ⟨M, _, _, bo, _, bc, rfl, HP5.out, HR5.out⟩
        · by_cases hdb : d = 1
          · subst hdb
            by_cases hfree : freeE L id = 0
            · obtain ⟨hlen, hid0, hhold, _⟩ := HR.out.free hfree
              have HLL : Hid (freeL L id = L.drop 1) := by show _ = _; unfold freeL; rw [if_pos hfree]
              have HXX : Hid (freeX L id = holdF (L.drop 1)) := by show _ = _; unfold freeX; rw [if_pos hfree]
              have HFE := hide hfree
              have HHO := hide hhold
              have hn0 : ¬ (id < 0) := by omega
              have hm1 : 1 ≤ m := by rw [HML.out]; exact hlen
              have hcut : ∀ W : World, (Instr.slice 25 (.slice so m tc) (some (.int .i64 1)) none none).run Tryd.prog W = .ok (.slice (tailA so 1 tc) (m - 1) (tc - 1)) W := fun W => cut_tail_at Tryd.underlying25 W so m tc 1 hm1
              have HR5 := hide (drop_row HR.out 1)
              clear hfree hhold hlen
              go_wp2_with fail
              refine (free_any id _ HP2.out.mx HR.out).mono ?_; rintro e w3 ⟨rfl, h3⟩
              rw [HLL.out] at h3
              obtain ⟨a5, c5, P3⟩ := HP2.out.lock h3
              rw [HFE.out, HXX.out, erN_zero]
              have HP3 := hide P3
              have P5 := P3.cut hm1
              obtain ⟨M, hM⟩ : ∃ M, L.drop 1 = M := ⟨_, rfl⟩
              rw [hM] at P5 HR5 ⊢
              obtain ⟨t5, ht5⟩ : ∃ t, tailA so 1 tc = t := ⟨_, rfl⟩
              obtain ⟨m5, hmm5⟩ : ∃ t, m - 1 = t := ⟨_, rfl⟩
              obtain ⟨tc5, htc5⟩ : ∃ t, tc - 1 = t := ⟨_, rfl⟩
              rw [ht5, hmm5, htc5] at P5 hcut
              have HP5 := hide P5
              obtain ⟨yn, hyn⟩ : ∃ y, holdF M = y := ⟨_, rfl⟩
              have HYN := hide hyn
              rw [hyn]
              clear h3 P3 P5 hM ht5 hmm5 htc5 hyn
              go_wp2_with fail
              refine (first_any _ _ _ L _ HP3.out.tl.row).mono ?_; rintro e w4 ⟨rfl, rfl⟩
              rw [HHO.out]
              go_wp2_with fail
              refine (first_any _ _ _ M _ HP5.out.tl.row).mono ?_; rintro e w4 ⟨rfl, rfl⟩
              rw [HYN.out]
              go_wp2_with fail
              go_meet
              exact ⟨M, _, _, t5, _, tc5, rfl, HP5.out, HR5.out⟩
            · have HLL : Hid (freeL L id = L) := by show _ = _; unfold freeL; rw [if_neg hfree]
              have HXX : Hid (freeX L id = -1) := by show _ = _; unfold freeX; rw [if_neg hfree]
              have hor : id < 0 ∨ holdF L ≠ id := by
                unfold freeE at hfree
                by_cases h : id < 0 ∨ holdF L ≠ id
                · exact h
                · rw [if_neg h] at hfree; exact absurd rfl hfree
              have HFE : Hid (freeE L id = 15) := by show _ = _; unfold freeE; rw [if_pos hor]
              obtain ⟨yn, hyn⟩ : ∃ y, holdF L = y := ⟨_, rfl⟩
              have HYN := hide hyn
              rw [hyn] at hor
              obtain ⟨E, hE⟩ : ∃ E, erN 15 = E := ⟨_, rfl⟩
              have HER := hide hE
              clear hfree hyn
              by_cases hn0 : id < 0
              · clear hor
                go_wp2_with fail
                refine (free_any id _ HP2.out.mx HR.out).mono ?_; rintro e w3 ⟨rfl, h3⟩
                rw [HLL.out] at h3
                obtain ⟨a5, c5, P3⟩ := HP2.out.lock h3
                have HP3 := hide P3
                rw [HFE.out, HXX.out, hE]
                clear h3 P3 hE
                go_wp2_with fail
                rw [← HER.out]
                refine (number_any 15 _ (HG.out.carry HP3.out.bel)).mono ?_; rintro e w4 ⟨rfl, b9⟩
                have HP5 := hide (HP3.out.grow b9)
                clear b9
                go_wp2
                go_roundg g1
                case measure => omega
                case rel => exact ⟨i + 1, L, _, _, _, _, _, by have := HI.out; omega, by go_num, rfl, HP5.out, HR.out⟩
              · have hy0 : ¬ (yn = id) := fun e => by rcases hor with h | h; exact hn0 h; exact h e
                have hyb : (yn != id) = true := by simpa using hy0
                have hyc : (yn == id) = false := by simpa using hy0
                clear hor
                go_wp2_with fail
                refine (free_any id _ HP2.out.mx HR.out).mono ?_; rintro e w3 ⟨rfl, h3⟩
                rw [HLL.out] at h3
                obtain ⟨a5, c5, P3⟩ := HP2.out.lock h3
                have HP3 := hide P3
                rw [HFE.out, HXX.out, hE]
                clear h3 P3 hE
                go_wp2_with fail
                refine (first_any _ _ _ L _ HP3.out.tl.row).mono ?_; rintro e w4 ⟨rfl, rfl⟩
                rw [HYN.out]
                go_wp2_with fail
                rw [← HER.out]
                refine (number_any 15 _ (HG.out.carry HP3.out.bel)).mono ?_; rintro e w4 ⟨rfl, b9⟩
                have HP5 := hide (HP3.out.grow b9)
                clear b9
                go_wp2
                go_roundg g1
                case measure => omega
                case rel => exact ⟨i + 1, L, _, _, _, _, _, by have := HI.out; omega, by go_num, rfl, HP5.out, HR.out⟩
          · obtain rfl : d = 2 := by omega
            obtain ⟨M, hM⟩ : ∃ M, dropL L id = M := ⟨_, rfl⟩
            have HM := hide hM
            have HR5 := hide (HR.out.drop id)
            rw [hM] at HR5
            by_cases hfree : freeE L id = 0
            · obtain ⟨hlen, hid0, hhold, hdrop⟩ := HR.out.free hfree
              obtain ⟨ym, hym⟩ : ∃ y, holdF M = y := ⟨_, rfl⟩
              have HYM := hide hym
              have HXX : Hid (freeX L id = ym) := by show _ = _; unfold freeX; rw [if_pos hfree, hdrop, hM, hym]
              have HYN := hide hhold
              have hn0 : ¬ (id < 0) := by omega
              clear hfree hhold hlen hdrop hM hym
              go_wp2_with fail
              refine (first_any _ _ _ L _ HP2.out.tl.row).mono ?_; rintro e w3 ⟨rfl, rfl⟩
              rw [HYN.out]
              go_wp2_with fail
              refine (without_any id so m tc L _ HP2.out.tl.row (by omega)).mono ?_; rintro e w4 ⟨t5, tc5, rfl, u4, b4⟩
              have P3 := HP2.out.fresh u4 b4
              rw [HM.out] at P3 ⊢
              obtain ⟨m5, hm5⟩ : ∃ m5, M.length = m5 := ⟨_, rfl⟩
              rw [hm5] at P3 ⊢
              have HP3 := hide P3
              clear P3 u4 b4 hm5
              go_wp2_with fail
              refine (first_any _ _ _ M _ HP3.out.tl.row).mono ?_; rintro e w5 ⟨rfl, rfl⟩
              rw [HYM.out]
              go_wp2_with fail
              refine (leave_any id _ HP3.out.mx HR.out).mono ?_; rintro e w6 ⟨rfl, h6⟩
              rw [HM.out] at h6
              rw [HXX.out]
              obtain ⟨a5, c5, P5⟩ := HP3.out.lock h6
              have HP5 := hide P5
              clear P5 h6
              go_wp2_with fail
              go_meet
              exact ⟨M, _, _, t5, _, tc5, rfl, HP5.out, HR5.out⟩
            · have HXX : Hid (freeX L id = -1) := by show _ = _; unfold freeX; rw [if_neg hfree]
              have hor : id < 0 ∨ holdF L ≠ id := by
                unfold freeE at hfree
                by_cases h : id < 0 ∨ holdF L ≠ id
                · exact h
                · rw [if_neg h] at hfree; exact absurd rfl hfree
              obtain ⟨yn, hyn⟩ : ∃ y, holdF L = y := ⟨_, rfl⟩
              have HYN := hide hyn
              rw [hyn] at hor
              clear hfree hyn hM
              by_cases hn0 : id < 0
              · have hnp : ¬ (0 ≤ id) := by omega
                clear hor
                go_wp2_with fail
                refine (without_any id so m tc L _ HP2.out.tl.row (by omega)).mono ?_; rintro e w4 ⟨t5, tc5, rfl, u4, b4⟩
                have P3 := HP2.out.fresh u4 b4
                rw [HM.out] at P3 ⊢
                obtain ⟨m5, hm5⟩ : ∃ m5, M.length = m5 := ⟨_, rfl⟩
                rw [hm5] at P3 ⊢
                have HP3 := hide P3
                clear P3 u4 b4 hm5
                go_wp2_with fail
                refine (leave_any id _ HP3.out.mx HR.out).mono ?_; rintro e w6 ⟨rfl, h6⟩
                rw [HM.out] at h6
                rw [HXX.out]
                obtain ⟨a5, c5, P5⟩ := HP3.out.lock h6
                have HP5 := hide P5
                clear P5 h6
                go_wp2_with fail
                go_meet
                exact ⟨M, _, _, t5, _, tc5, rfl, HP5.out, HR5.out⟩
              · have hnp : 0 ≤ id := by omega
                have hy0 : ¬ (yn = id) := fun e => by rcases hor with h | h; exact hn0 h; exact h e
                have hyc : (yn == id) = false := by simpa using hy0
                clear hor
                go_wp2_with fail
                refine (first_any _ _ _ L _ HP2.out.tl.row).mono ?_; rintro e w3 ⟨rfl, rfl⟩
                rw [HYN.out]
                go_wp2_with fail
                refine (without_any id so m tc L _ HP2.out.tl.row (by omega)).mono ?_; rintro e w4 ⟨t5, tc5, rfl, u4, b4⟩
                have P3 := HP2.out.fresh u4 b4
                rw [HM.out] at P3 ⊢
                obtain ⟨m5, hm5⟩ : ∃ m5, M.length = m5 := ⟨_, rfl⟩
                rw [hm5] at P3 ⊢
                have HP3 := hide P3
                clear P3 u4 b4 hm5
                go_wp2_with fail
                refine (leave_any id _ HP3.out.mx HR.out).mono ?_; rintro e w6 ⟨rfl, h6⟩
                rw [HM.out] at h6
                rw [HXX.out]
                obtain ⟨a5, c5, P5⟩ := HP3.out.lock h6
                have HP5 := hide P5
                clear P5 h6
                go_wp2_with fail
                go_meet
                exact ⟨M, _, _, t5, _, tc5, rfl, HP5.out, HR5.out⟩
      case rest =>
        obtain ⟨M, a5, c5, t5, m5, tc5, rfl, P5, R5⟩ := hcut
        have HP5 := hide P5
        have HR5 := hide R5
        have HX5 := hide (P5.grow (below_d wc 1))
        have hm5 := P5.tl.row.len
        have hmc5 : tc5 ≤ 9223372036854775807 := P5.tl.row.2.2.1
        have hmn5 := P5.tl.row.2.1
        obtain ⟨y5, hy5⟩ : ∃ y, holdF M = y := ⟨_, rfl⟩
        have HY5 := hide hy5
        clear hy5 P5 R5
        go_upto_region 40 with fail
        refine wp_region_any (by kernel_rfl) ?_
        change wpAny _ _ _ _ _ _ _ (World.drew _)
        rcases m5 with _ | k5
        · have HD5 : Hid ((M.drop 1).length = 0) := by show _ = _; rw [List.length_drop]; omega
          clear hm5
          refine wpAny_take (i := 0) (oi := { dst := some 138, op := Op.move (Operand.tmp 3), type := 24, pos := "law.go:102", after := #[], guard := none }) (v := (.pointer (some ⟨g, 0, none⟩))) rfl (by kernel_rfl) (by kernel_rfl) (by kernel_rfl) (fun _ _ _ h => h) (Or.inl ⟨by kernel_rfl, fun w => by go_simp⟩) ?_
          simp only [Act.put, List.setIfInBounds_toArray, List.set_cons_zero, List.set_cons_succ]
          refine wpAny_take (i := 2) (oi := { dst := some 140, op := Op.move (Operand.tmp 4), type := 25, pos := "law.go:102", after := #[], guard := none }) (v := (.slice t5 0 tc5)) rfl (by kernel_rfl) (by kernel_rfl) (by kernel_rfl) (fun _ _ _ h => h) (Or.inl ⟨by kernel_rfl, fun w => by go_simp⟩) ?_
          simp only [Act.put, List.setIfInBounds_toArray, List.set_cons_zero, List.set_cons_succ]
          refine wpAny_ready (rs := [1]) (by kernel_rfl) (by simp) ?_
          refine AllReady.cons (o := { dst := some 139, op := Op.call { callee := Callee.value (Operand.func 12), args := #[Operand.tmp 138], argTypes := #[24] }, type := 3, pos := "law.go:102", after := #[{ on := 0, ground := Ground.data }], guard := none }) rfl (fun K hK => ?_) AllReady.nil
          go_simp
          refine (hold_any _ HX5.out.mx).mono ?_; rintro e wh ⟨rfl, rfl⟩; rw [HY5.out]
          go_wp2_with fail
          refine wpAny_ready (rs := [3]) (by kernel_rfl) (by simp) ?_
          refine AllReady.cons (o := { dst := some 141, op := Op.call { callee := Callee.value (Operand.func 10), args := #[Operand.tmp 140], argTypes := #[25] }, type := 3, pos := "law.go:102", after := #[{ on := 2, ground := Ground.data }, { on := 1, ground := Ground.chain }], guard := none }) rfl (fun K hK => ?_) AllReady.nil
          go_simp
          refine (first_any _ _ _ M _ HX5.out.tl.row).mono ?_; rintro e wf ⟨rfl, rfl⟩; rw [HY5.out]
          go_wp2_with fail
          refine wpAny_take (i := 4) (oi := { dst := some 142, op := Op.binOp BinOp.neq 3 (Operand.tmp 139) (Operand.tmp 141) 3, type := 4, pos := "law.go:102", after := #[{ on := 1, ground := Ground.data }, { on := 3, ground := Ground.data }], guard := none }) (v := (.bool false)) rfl (by kernel_rfl) (by kernel_rfl) (by kernel_rfl) (fun _ _ _ h => h) (Or.inl ⟨by kernel_rfl, fun w => by go_simp⟩) ?_
          simp only [Act.put, List.setIfInBounds_toArray, List.set_cons_zero, List.set_cons_succ]
          refine wpAny_take (i := 5) (oi := { dst := some 143, op := Op.move (Operand.tmp 142), type := 4, pos := "law.go:102", after := #[{ on := 4, ground := Ground.data }, { on := 3, ground := Ground.chain }], guard := none }) (v := (.bool false)) rfl (by kernel_rfl) (by kernel_rfl) (by kernel_rfl) (fun _ _ _ h => h) (Or.inl ⟨by kernel_rfl, fun w => by go_simp⟩) ?_
          simp only [Act.put, List.setIfInBounds_toArray, List.set_cons_zero, List.set_cons_succ]
          refine wpAny_take (i := 6) (oi := { dst := some 144, op := Op.move (Operand.tmp 4), type := 25, pos := "law.go:102", after := #[{ on := 5, ground := Ground.guard }], guard := some (5, false) }) (v := (.slice t5 0 tc5)) rfl (by kernel_rfl) (by kernel_rfl) (by kernel_rfl) (fun _ _ _ h => h) (Or.inl ⟨by kernel_rfl, fun w => by go_simp⟩) ?_
          simp only [Act.put, List.setIfInBounds_toArray, List.set_cons_zero, List.set_cons_succ]
          refine wpAny_take (i := 7) (oi := { dst := some 145, op := Op.call { callee := Callee.builtin Builtin.len, args := #[Operand.tmp 144], argTypes := #[25] }, type := 3, pos := "law.go:102", after := #[{ on := 6, ground := Ground.data }, { on := 5, ground := Ground.guard }], guard := some (5, false) }) (v := (.int .i64 0)) rfl (by kernel_rfl) (by kernel_rfl) (by kernel_rfl) (fun _ _ _ h => h) (Or.inl ⟨by kernel_rfl, fun w => by go_simp⟩) ?_
          simp only [Act.put, List.setIfInBounds_toArray, List.set_cons_zero, List.set_cons_succ]
          refine wpAny_take (i := 8) (oi := { dst := some 146, op := Op.binOp BinOp.gtr 3 (Operand.tmp 145) (Operand.const (Value.int IntKind.i64 0)) 3, type := 4, pos := "law.go:102", after := #[{ on := 7, ground := Ground.data }, { on := 5, ground := Ground.guard }], guard := some (5, false) }) (v := (.bool false)) rfl (by kernel_rfl) (by kernel_rfl) (by kernel_rfl) (fun _ _ _ h => h) (Or.inl ⟨by kernel_rfl, fun w => by go_simp⟩) ?_
          simp only [Act.put, List.setIfInBounds_toArray, List.set_cons_zero, List.set_cons_succ]
          refine wpAny_take (i := 9) (oi := { dst := some 147, op := Op.move (Operand.tmp 146), type := 4, pos := "law.go:102", after := #[{ on := 8, ground := Ground.data }, { on := 5, ground := Ground.chain }, { on := 5, ground := Ground.guard }], guard := some (5, false) }) (v := (.bool false)) rfl (by kernel_rfl) (by kernel_rfl) (by kernel_rfl) (fun _ _ _ h => h) (Or.inl ⟨by kernel_rfl, fun w => by go_simp⟩) ?_
          simp only [Act.put, List.setIfInBounds_toArray, List.set_cons_zero, List.set_cons_succ]
          refine wpAny_take (i := 10) (oi := { dst := some 148, op := Op.move (Operand.tmp 3), type := 24, pos := "law.go:102", after := #[{ on := 9, ground := Ground.guard }], guard := some (9, true) }) (v := undef) rfl (by kernel_rfl) (by kernel_rfl) (by kernel_rfl) (fun _ _ _ h => h) (Or.inr ⟨by kernel_rfl, rfl⟩) ?_
          simp only [Act.put, List.setIfInBounds_toArray, List.set_cons_zero, List.set_cons_succ]
          refine wpAny_take (i := 12) (oi := { dst := some 150, op := Op.move (Operand.tmp 4), type := 25, pos := "law.go:102", after := #[{ on := 9, ground := Ground.guard }], guard := some (9, true) }) (v := undef) rfl (by kernel_rfl) (by kernel_rfl) (by kernel_rfl) (fun _ _ _ h => h) (Or.inr ⟨by kernel_rfl, rfl⟩) ?_
          simp only [Act.put, List.setIfInBounds_toArray, List.set_cons_zero, List.set_cons_succ]
          refine wpAny_take (i := 13) (oi := { dst := some 151, op := Op.slice 25 (Operand.tmp 150) (some (Operand.const (Value.int IntKind.i64 1))) none none, type := 25, pos := "law.go:102", after := #[{ on := 12, ground := Ground.data }, { on := 9, ground := Ground.guard }], guard := some (9, true) }) (v := undef) rfl (by kernel_rfl) (by kernel_rfl) (by kernel_rfl) (fun _ _ _ h => h) (Or.inr ⟨by kernel_rfl, rfl⟩) ?_
          simp only [Act.put, List.setIfInBounds_toArray, List.set_cons_zero, List.set_cons_succ]
          refine wpAny_take (i := 11) (oi := { dst := some 149, op := Op.call { callee := Callee.value (Operand.func 14), args := #[Operand.tmp 148], argTypes := #[24] }, type := 25, pos := "law.go:102", after := #[{ on := 10, ground := Ground.data }, { on := 9, ground := Ground.chain }, { on := 9, ground := Ground.guard }], guard := some (9, true) }) (v := undef) rfl (by kernel_rfl) (by kernel_rfl) (by kernel_rfl) (fun _ _ _ h => h) (Or.inr ⟨by kernel_rfl, rfl⟩) ?_
          simp only [Act.put, List.setIfInBounds_toArray, List.set_cons_zero, List.set_cons_succ]
          refine wpAny_take (i := 14) (oi := { dst := some 152, op := Op.call { callee := Callee.value (Operand.func 13), args := #[Operand.tmp 149, Operand.tmp 151], argTypes := #[25, 25] }, type := 4, pos := "law.go:102", after := #[{ on := 11, ground := Ground.data }, { on := 13, ground := Ground.data }, { on := 11, ground := Ground.chain }, { on := 9, ground := Ground.guard }], guard := some (9, true) }) (v := undef) rfl (by kernel_rfl) (by kernel_rfl) (by kernel_rfl) (fun _ _ _ h => h) (Or.inr ⟨by kernel_rfl, rfl⟩) ?_
          simp only [Act.put, List.setIfInBounds_toArray, List.set_cons_zero, List.set_cons_succ]
          refine wpAny_take (i := 15) (oi := { dst := some 153, op := Op.unOp UnOp.not 4 (Operand.tmp 152), type := 4, pos := "law.go:102", after := #[{ on := 14, ground := Ground.data }, { on := 9, ground := Ground.guard }], guard := some (9, true) }) (v := undef) rfl (by kernel_rfl) (by kernel_rfl) (by kernel_rfl) (fun _ _ _ h => h) (Or.inr ⟨by kernel_rfl, rfl⟩) ?_
          simp only [Act.put, List.setIfInBounds_toArray, List.set_cons_zero, List.set_cons_succ]
          refine wpAny_take (i := 16) (oi := { dst := some 154, op := Op.pick (Operand.tmp 147) (Operand.tmp 153) (Operand.const (Value.bool false)), type := 4, pos := "law.go:102", after := #[{ on := 9, ground := Ground.data }, { on := 15, ground := Ground.data }, { on := 5, ground := Ground.guard }], guard := some (5, false) }) (v := (.bool false)) rfl (by kernel_rfl) (by kernel_rfl) (by kernel_rfl) (fun _ _ _ h => h) (Or.inl ⟨by kernel_rfl, fun w => by go_simp⟩) ?_
          simp only [Act.put, List.setIfInBounds_toArray, List.set_cons_zero, List.set_cons_succ]
          refine wpAny_take (i := 17) (oi := { dst := some 155, op := Op.pick (Operand.tmp 143) (Operand.const (Value.bool true)) (Operand.tmp 154), type := 4, pos := "law.go:102", after := #[{ on := 5, ground := Ground.data }, { on := 16, ground := Ground.data }], guard := none }) (v := (.bool false)) rfl (by kernel_rfl) (by kernel_rfl) (by kernel_rfl) (fun _ _ _ h => h) (Or.inl ⟨by kernel_rfl, fun w => by go_simp⟩) ?_
          simp only [Act.put, List.setIfInBounds_toArray, List.set_cons_zero, List.set_cons_succ]
          refine wpAny_take (i := 18) (oi := { dst := some 156, op := Op.move (Operand.tmp 155), type := 4, pos := "law.go:102", after := #[{ on := 17, ground := Ground.data }, { on := 14, ground := Ground.chain }], guard := none }) (v := (.bool false)) rfl (by kernel_rfl) (by kernel_rfl) (by kernel_rfl) (fun _ _ _ h => h) (Or.inl ⟨by kernel_rfl, fun w => by go_simp⟩) ?_
          simp only [Act.put, List.setIfInBounds_toArray, List.set_cons_zero, List.set_cons_succ]
          refine wpAny_take (i := 19) (oi := { dst := some 157, op := Op.move (Operand.tmp 4), type := 25, pos := "law.go:102", after := #[{ on := 18, ground := Ground.guard }], guard := some (18, false) }) (v := (.slice t5 0 tc5)) rfl (by kernel_rfl) (by kernel_rfl) (by kernel_rfl) (fun _ _ _ h => h) (Or.inl ⟨by kernel_rfl, fun w => by go_simp⟩) ?_
          simp only [Act.put, List.setIfInBounds_toArray, List.set_cons_zero, List.set_cons_succ]
          refine wpAny_take (i := 20) (oi := { dst := some 158, op := Op.call { callee := Callee.builtin Builtin.len, args := #[Operand.tmp 157], argTypes := #[25] }, type := 3, pos := "law.go:102", after := #[{ on := 19, ground := Ground.data }, { on := 18, ground := Ground.guard }], guard := some (18, false) }) (v := (.int .i64 0)) rfl (by kernel_rfl) (by kernel_rfl) (by kernel_rfl) (fun _ _ _ h => h) (Or.inl ⟨by kernel_rfl, fun w => by go_simp⟩) ?_
          simp only [Act.put, List.setIfInBounds_toArray, List.set_cons_zero, List.set_cons_succ]
          refine wpAny_take (i := 21) (oi := { dst := some 159, op := Op.binOp BinOp.eql 3 (Operand.tmp 158) (Operand.const (Value.int IntKind.i64 0)) 3, type := 4, pos := "law.go:102", after := #[{ on := 20, ground := Ground.data }, { on := 18, ground := Ground.guard }], guard := some (18, false) }) (v := (.bool true)) rfl (by kernel_rfl) (by kernel_rfl) (by kernel_rfl) (fun _ _ _ h => h) (Or.inl ⟨by kernel_rfl, fun w => by go_simp⟩) ?_
          simp only [Act.put, List.setIfInBounds_toArray, List.set_cons_zero, List.set_cons_succ]
          refine wpAny_take (i := 22) (oi := { dst := some 160, op := Op.move (Operand.tmp 159), type := 4, pos := "law.go:102", after := #[{ on := 21, ground := Ground.data }, { on := 18, ground := Ground.chain }, { on := 18, ground := Ground.guard }], guard := some (18, false) }) (v := (.bool true)) rfl (by kernel_rfl) (by kernel_rfl) (by kernel_rfl) (fun _ _ _ h => h) (Or.inl ⟨by kernel_rfl, fun w => by go_simp⟩) ?_
          simp only [Act.put, List.setIfInBounds_toArray, List.set_cons_zero, List.set_cons_succ]
          refine wpAny_take (i := 23) (oi := { dst := some 161, op := Op.move (Operand.tmp 3), type := 24, pos := "law.go:102", after := #[{ on := 22, ground := Ground.guard }], guard := some (22, true) }) (v := (.pointer (some ⟨g, 0, none⟩))) rfl (by kernel_rfl) (by kernel_rfl) (by kernel_rfl) (fun _ _ _ h => h) (Or.inl ⟨by kernel_rfl, fun w => by go_simp⟩) ?_
          simp only [Act.put, List.setIfInBounds_toArray, List.set_cons_zero, List.set_cons_succ]
          refine wpAny_ready (rs := [24]) (by kernel_rfl) (by simp) ?_
          refine AllReady.cons (o := { dst := some 162, op := Op.call { callee := Callee.value (Operand.func 14), args := #[Operand.tmp 161], argTypes := #[24] }, type := 25, pos := "law.go:102", after := #[{ on := 23, ground := Ground.data }, { on := 22, ground := Ground.chain }, { on := 22, ground := Ground.guard }], guard := some (22, true) }) rfl (fun K hK => ?_) AllReady.nil
          go_simp
          refine (wait_any _ HX5.out.mx HR5.out.few).mono ?_; rintro e w8 ⟨a8, c8, rfl, _, b8, _⟩; rw [HD5.out]; have HP8 := hide (HX5.out.grow b8); clear b8
          go_wp2_with fail
          refine wpAny_take (i := 25) (oi := { dst := some 163, op := Op.call { callee := Callee.builtin Builtin.len, args := #[Operand.tmp 162], argTypes := #[25] }, type := 3, pos := "law.go:102", after := #[{ on := 24, ground := Ground.data }, { on := 22, ground := Ground.guard }], guard := some (22, true) }) (v := (.int .i64 0)) rfl (by kernel_rfl) (by kernel_rfl) (by kernel_rfl) (fun _ _ _ h => h) (Or.inl ⟨by kernel_rfl, fun w => by go_simp⟩) ?_
          simp only [Act.put, List.setIfInBounds_toArray, List.set_cons_zero, List.set_cons_succ]
          refine wpAny_take (i := 26) (oi := { dst := some 164, op := Op.binOp BinOp.neq 3 (Operand.tmp 163) (Operand.const (Value.int IntKind.i64 0)) 3, type := 4, pos := "law.go:102", after := #[{ on := 25, ground := Ground.data }, { on := 22, ground := Ground.guard }], guard := some (22, true) }) (v := (.bool false)) rfl (by kernel_rfl) (by kernel_rfl) (by kernel_rfl) (fun _ _ _ h => h) (Or.inl ⟨by kernel_rfl, fun w => by go_simp⟩) ?_
          simp only [Act.put, List.setIfInBounds_toArray, List.set_cons_zero, List.set_cons_succ]
          refine wpAny_take (i := 27) (oi := { dst := some 165, op := Op.pick (Operand.tmp 160) (Operand.tmp 164) (Operand.const (Value.bool false)), type := 4, pos := "law.go:102", after := #[{ on := 22, ground := Ground.data }, { on := 26, ground := Ground.data }, { on := 18, ground := Ground.guard }], guard := some (18, false) }) (v := (.bool false)) rfl (by kernel_rfl) (by kernel_rfl) (by kernel_rfl) (fun _ _ _ h => h) (Or.inl ⟨by kernel_rfl, fun w => by go_simp⟩) ?_
          simp only [Act.put, List.setIfInBounds_toArray, List.set_cons_zero, List.set_cons_succ]
          refine wpAny_take (i := 28) (oi := { dst := some 166, op := Op.pick (Operand.tmp 156) (Operand.const (Value.bool true)) (Operand.tmp 165), type := 4, pos := "law.go:102", after := #[{ on := 18, ground := Ground.data }, { on := 27, ground := Ground.data }], guard := none }) (v := (.bool false)) rfl (by kernel_rfl) (by kernel_rfl) (by kernel_rfl) (fun _ _ _ h => h) (Or.inl ⟨by kernel_rfl, fun w => by go_simp⟩) ?_
          simp only [Act.put, List.setIfInBounds_toArray, List.set_cons_zero, List.set_cons_succ]
          refine wpAny_done (by kernel_rfl) ?_ _
          go_wp2
          go_roundg g1
          case measure => omega
          case rel => exact ⟨i + 1, M, _, _, _, _, _, by have := HI.out; omega, by go_num, rfl, HP8.out, HR5.out⟩
        · have hcut5 : ∀ W : World, (Instr.slice 25 (.slice t5 (k5 + 1) tc5) (some (.int .i64 1)) none none).run Tryd.prog W = .ok (.slice (tailA t5 1 tc5) k5 (tc5 - 1)) W := fun W => cut_tail_at Tryd.underlying25 W t5 (k5 + 1) tc5 1 (by omega)
          obtain ⟨v51, hv51⟩ : ∃ v, tailA t5 1 tc5 = v := ⟨_, rfl⟩
          obtain ⟨v53, hv53⟩ : ∃ v, tc5 - 1 = v := ⟨_, rfl⟩
          have HN5 : Hid (∀ W : World, Tl W w.heap.size t5 (k5 + 1) tc5 M → Nums W v51 k5 v53 (M.drop 1)) := fun W h => by
            have := (h.cut 1 (by omega)).row
            rw [hv51, hv53, Nat.add_sub_cancel] at this; exact this
          rw [hv51, hv53] at hcut5
          obtain ⟨M1, hM1⟩ : ∃ M1, M.drop 1 = M1 := ⟨_, rfl⟩
          have HM1 := hide hM1
          rw [hM1] at HN5
          clear hv51 hv53 hm5 hM1
          refine wpAny_take (i := 0) (oi := { dst := some 138, op := Op.move (Operand.tmp 3), type := 24, pos := "law.go:102", after := #[], guard := none }) (v := (.pointer (some ⟨g, 0, none⟩))) rfl (by kernel_rfl) (by kernel_rfl) (by kernel_rfl) (fun _ _ _ h => h) (Or.inl ⟨by kernel_rfl, fun w => by go_simp⟩) ?_
          simp only [Act.put, List.setIfInBounds_toArray, List.set_cons_zero, List.set_cons_succ]
          refine wpAny_take (i := 2) (oi := { dst := some 140, op := Op.move (Operand.tmp 4), type := 25, pos := "law.go:102", after := #[], guard := none }) (v := (.slice t5 (k5 + 1) tc5)) rfl (by kernel_rfl) (by kernel_rfl) (by kernel_rfl) (fun _ _ _ h => h) (Or.inl ⟨by kernel_rfl, fun w => by go_simp⟩) ?_
          simp only [Act.put, List.setIfInBounds_toArray, List.set_cons_zero, List.set_cons_succ]
          refine wpAny_ready (rs := [1]) (by kernel_rfl) (by simp) ?_
          refine AllReady.cons (o := { dst := some 139, op := Op.call { callee := Callee.value (Operand.func 12), args := #[Operand.tmp 138], argTypes := #[24] }, type := 3, pos := "law.go:102", after := #[{ on := 0, ground := Ground.data }], guard := none }) rfl (fun K hK => ?_) AllReady.nil
          go_simp
          refine (hold_any _ HX5.out.mx).mono ?_; rintro e wh ⟨rfl, rfl⟩; rw [HY5.out]
          go_wp2_with fail
          refine wpAny_ready (rs := [3]) (by kernel_rfl) (by simp) ?_
          refine AllReady.cons (o := { dst := some 141, op := Op.call { callee := Callee.value (Operand.func 10), args := #[Operand.tmp 140], argTypes := #[25] }, type := 3, pos := "law.go:102", after := #[{ on := 2, ground := Ground.data }, { on := 1, ground := Ground.chain }], guard := none }) rfl (fun K hK => ?_) AllReady.nil
          go_simp
          refine (first_any _ _ _ M _ HX5.out.tl.row).mono ?_; rintro e wf ⟨rfl, rfl⟩; rw [HY5.out]
          go_wp2_with fail
          refine wpAny_take (i := 4) (oi := { dst := some 142, op := Op.binOp BinOp.neq 3 (Operand.tmp 139) (Operand.tmp 141) 3, type := 4, pos := "law.go:102", after := #[{ on := 1, ground := Ground.data }, { on := 3, ground := Ground.data }], guard := none }) (v := (.bool false)) rfl (by kernel_rfl) (by kernel_rfl) (by kernel_rfl) (fun _ _ _ h => h) (Or.inl ⟨by kernel_rfl, fun w => by go_simp⟩) ?_
          simp only [Act.put, List.setIfInBounds_toArray, List.set_cons_zero, List.set_cons_succ]
          refine wpAny_take (i := 5) (oi := { dst := some 143, op := Op.move (Operand.tmp 142), type := 4, pos := "law.go:102", after := #[{ on := 4, ground := Ground.data }, { on := 3, ground := Ground.chain }], guard := none }) (v := (.bool false)) rfl (by kernel_rfl) (by kernel_rfl) (by kernel_rfl) (fun _ _ _ h => h) (Or.inl ⟨by kernel_rfl, fun w => by go_simp⟩) ?_
          simp only [Act.put, List.setIfInBounds_toArray, List.set_cons_zero, List.set_cons_succ]
          refine wpAny_take (i := 6) (oi := { dst := some 144, op := Op.move (Operand.tmp 4), type := 25, pos := "law.go:102", after := #[{ on := 5, ground := Ground.guard }], guard := some (5, false) }) (v := (.slice t5 (k5 + 1) tc5)) rfl (by kernel_rfl) (by kernel_rfl) (by kernel_rfl) (fun _ _ _ h => h) (Or.inl ⟨by kernel_rfl, fun w => by go_simp⟩) ?_
          simp only [Act.put, List.setIfInBounds_toArray, List.set_cons_zero, List.set_cons_succ]
          refine wpAny_take (i := 7) (oi := { dst := some 145, op := Op.call { callee := Callee.builtin Builtin.len, args := #[Operand.tmp 144], argTypes := #[25] }, type := 3, pos := "law.go:102", after := #[{ on := 6, ground := Ground.data }, { on := 5, ground := Ground.guard }], guard := some (5, false) }) (v := (.int .i64 ((k5 + 1 : Nat) : Int))) rfl (by kernel_rfl) (by kernel_rfl) (by kernel_rfl) (fun _ _ _ h => h) (Or.inl ⟨by kernel_rfl, fun w => by go_simp⟩) ?_
          simp only [Act.put, List.setIfInBounds_toArray, List.set_cons_zero, List.set_cons_succ]
          refine wpAny_take (i := 8) (oi := { dst := some 146, op := Op.binOp BinOp.gtr 3 (Operand.tmp 145) (Operand.const (Value.int IntKind.i64 0)) 3, type := 4, pos := "law.go:102", after := #[{ on := 7, ground := Ground.data }, { on := 5, ground := Ground.guard }], guard := some (5, false) }) (v := (.bool true)) rfl (by kernel_rfl) (by kernel_rfl) (by kernel_rfl) (fun _ _ _ h => h) (Or.inl ⟨by kernel_rfl, fun w => by go_simp⟩) ?_
          simp only [Act.put, List.setIfInBounds_toArray, List.set_cons_zero, List.set_cons_succ]
          refine wpAny_take (i := 9) (oi := { dst := some 147, op := Op.move (Operand.tmp 146), type := 4, pos := "law.go:102", after := #[{ on := 8, ground := Ground.data }, { on := 5, ground := Ground.chain }, { on := 5, ground := Ground.guard }], guard := some (5, false) }) (v := (.bool true)) rfl (by kernel_rfl) (by kernel_rfl) (by kernel_rfl) (fun _ _ _ h => h) (Or.inl ⟨by kernel_rfl, fun w => by go_simp⟩) ?_
          simp only [Act.put, List.setIfInBounds_toArray, List.set_cons_zero, List.set_cons_succ]
          refine wpAny_take (i := 10) (oi := { dst := some 148, op := Op.move (Operand.tmp 3), type := 24, pos := "law.go:102", after := #[{ on := 9, ground := Ground.guard }], guard := some (9, true) }) (v := (.pointer (some ⟨g, 0, none⟩))) rfl (by kernel_rfl) (by kernel_rfl) (by kernel_rfl) (fun _ _ _ h => h) (Or.inl ⟨by kernel_rfl, fun w => by go_simp⟩) ?_
          simp only [Act.put, List.setIfInBounds_toArray, List.set_cons_zero, List.set_cons_succ]
          refine wpAny_take (i := 12) (oi := { dst := some 150, op := Op.move (Operand.tmp 4), type := 25, pos := "law.go:102", after := #[{ on := 9, ground := Ground.guard }], guard := some (9, true) }) (v := (.slice t5 (k5 + 1) tc5)) rfl (by kernel_rfl) (by kernel_rfl) (by kernel_rfl) (fun _ _ _ h => h) (Or.inl ⟨by kernel_rfl, fun w => by go_simp⟩) ?_
          simp only [Act.put, List.setIfInBounds_toArray, List.set_cons_zero, List.set_cons_succ]
          refine wpAny_take (i := 13) (oi := { dst := some 151, op := Op.slice 25 (Operand.tmp 150) (some (Operand.const (Value.int IntKind.i64 1))) none none, type := 25, pos := "law.go:102", after := #[{ on := 12, ground := Ground.data }, { on := 9, ground := Ground.guard }], guard := some (9, true) }) (v := (.slice v51 k5 v53)) rfl (by kernel_rfl) (by kernel_rfl) (by kernel_rfl) (fun _ _ _ h => h) (Or.inl ⟨by kernel_rfl, fun w => by go_simp⟩) ?_
          simp only [Act.put, List.setIfInBounds_toArray, List.set_cons_zero, List.set_cons_succ]
          refine wpAny_ready (rs := [11]) (by kernel_rfl) (by simp) ?_
          refine AllReady.cons (o := { dst := some 149, op := Op.call { callee := Callee.value (Operand.func 14), args := #[Operand.tmp 148], argTypes := #[24] }, type := 25, pos := "law.go:102", after := #[{ on := 10, ground := Ground.data }, { on := 9, ground := Ground.chain }, { on := 9, ground := Ground.guard }], guard := some (9, true) }) rfl (fun K hK => ?_) AllReady.nil
          go_simp
          refine (wait_any _ HX5.out.mx HR5.out.few).mono ?_; rintro e w8 ⟨a8, c8, rfl, n8, b8, _⟩; rw [HM1.out] at n8 ⊢; have HP8 := hide (HX5.out.grow b8); have HN8 := hide n8; clear n8 b8
          go_wp2_with fail
          refine wpAny_ready (rs := [14]) (by kernel_rfl) (by simp) ?_
          refine AllReady.cons (o := { dst := some 152, op := Op.call { callee := Callee.value (Operand.func 13), args := #[Operand.tmp 149, Operand.tmp 151], argTypes := #[25, 25] }, type := 4, pos := "law.go:102", after := #[{ on := 11, ground := Ground.data }, { on := 13, ground := Ground.data }, { on := 11, ground := Ground.chain }, { on := 9, ground := Ground.guard }], guard := some (9, true) }) rfl (fun K hK => ?_) AllReady.nil
          go_simp
          refine (same_any _ _ _ _ _ _ M1 M1 _ HN8.out (HN5.out _ HP8.out.tl)).mono ?_; rintro e w9 ⟨rfl, b9⟩; rw [decide_eq_true (rfl : M1 = M1)]; have HP9 := hide (HP8.out.grow b9); clear b9
          go_wp2_with fail
          refine wpAny_take (i := 15) (oi := { dst := some 153, op := Op.unOp UnOp.not 4 (Operand.tmp 152), type := 4, pos := "law.go:102", after := #[{ on := 14, ground := Ground.data }, { on := 9, ground := Ground.guard }], guard := some (9, true) }) (v := (.bool false)) rfl (by kernel_rfl) (by kernel_rfl) (by kernel_rfl) (fun _ _ _ h => h) (Or.inl ⟨by kernel_rfl, fun w => by go_simp⟩) ?_
          simp only [Act.put, List.setIfInBounds_toArray, List.set_cons_zero, List.set_cons_succ]
          refine wpAny_take (i := 16) (oi := { dst := some 154, op := Op.pick (Operand.tmp 147) (Operand.tmp 153) (Operand.const (Value.bool false)), type := 4, pos := "law.go:102", after := #[{ on := 9, ground := Ground.data }, { on := 15, ground := Ground.data }, { on := 5, ground := Ground.guard }], guard := some (5, false) }) (v := (.bool false)) rfl (by kernel_rfl) (by kernel_rfl) (by kernel_rfl) (fun _ _ _ h => h) (Or.inl ⟨by kernel_rfl, fun w => by go_simp⟩) ?_
          simp only [Act.put, List.setIfInBounds_toArray, List.set_cons_zero, List.set_cons_succ]
          refine wpAny_take (i := 17) (oi := { dst := some 155, op := Op.pick (Operand.tmp 143) (Operand.const (Value.bool true)) (Operand.tmp 154), type := 4, pos := "law.go:102", after := #[{ on := 5, ground := Ground.data }, { on := 16, ground := Ground.data }], guard := none }) (v := (.bool false)) rfl (by kernel_rfl) (by kernel_rfl) (by kernel_rfl) (fun _ _ _ h => h) (Or.inl ⟨by kernel_rfl, fun w => by go_simp⟩) ?_
          simp only [Act.put, List.setIfInBounds_toArray, List.set_cons_zero, List.set_cons_succ]
          refine wpAny_take (i := 18) (oi := { dst := some 156, op := Op.move (Operand.tmp 155), type := 4, pos := "law.go:102", after := #[{ on := 17, ground := Ground.data }, { on := 14, ground := Ground.chain }], guard := none }) (v := (.bool false)) rfl (by kernel_rfl) (by kernel_rfl) (by kernel_rfl) (fun _ _ _ h => h) (Or.inl ⟨by kernel_rfl, fun w => by go_simp⟩) ?_
          simp only [Act.put, List.setIfInBounds_toArray, List.set_cons_zero, List.set_cons_succ]
          refine wpAny_take (i := 19) (oi := { dst := some 157, op := Op.move (Operand.tmp 4), type := 25, pos := "law.go:102", after := #[{ on := 18, ground := Ground.guard }], guard := some (18, false) }) (v := (.slice t5 (k5 + 1) tc5)) rfl (by kernel_rfl) (by kernel_rfl) (by kernel_rfl) (fun _ _ _ h => h) (Or.inl ⟨by kernel_rfl, fun w => by go_simp⟩) ?_
          simp only [Act.put, List.setIfInBounds_toArray, List.set_cons_zero, List.set_cons_succ]
          refine wpAny_take (i := 20) (oi := { dst := some 158, op := Op.call { callee := Callee.builtin Builtin.len, args := #[Operand.tmp 157], argTypes := #[25] }, type := 3, pos := "law.go:102", after := #[{ on := 19, ground := Ground.data }, { on := 18, ground := Ground.guard }], guard := some (18, false) }) (v := (.int .i64 ((k5 + 1 : Nat) : Int))) rfl (by kernel_rfl) (by kernel_rfl) (by kernel_rfl) (fun _ _ _ h => h) (Or.inl ⟨by kernel_rfl, fun w => by go_simp⟩) ?_
          simp only [Act.put, List.setIfInBounds_toArray, List.set_cons_zero, List.set_cons_succ]
          refine wpAny_take (i := 21) (oi := { dst := some 159, op := Op.binOp BinOp.eql 3 (Operand.tmp 158) (Operand.const (Value.int IntKind.i64 0)) 3, type := 4, pos := "law.go:102", after := #[{ on := 20, ground := Ground.data }, { on := 18, ground := Ground.guard }], guard := some (18, false) }) (v := (.bool false)) rfl (by kernel_rfl) (by kernel_rfl) (by kernel_rfl) (fun _ _ _ h => h) (Or.inl ⟨by kernel_rfl, fun w => by (go_simp; omega)⟩) ?_
          simp only [Act.put, List.setIfInBounds_toArray, List.set_cons_zero, List.set_cons_succ]
          refine wpAny_take (i := 22) (oi := { dst := some 160, op := Op.move (Operand.tmp 159), type := 4, pos := "law.go:102", after := #[{ on := 21, ground := Ground.data }, { on := 18, ground := Ground.chain }, { on := 18, ground := Ground.guard }], guard := some (18, false) }) (v := (.bool false)) rfl (by kernel_rfl) (by kernel_rfl) (by kernel_rfl) (fun _ _ _ h => h) (Or.inl ⟨by kernel_rfl, fun w => by go_simp⟩) ?_
          simp only [Act.put, List.setIfInBounds_toArray, List.set_cons_zero, List.set_cons_succ]
          refine wpAny_take (i := 23) (oi := { dst := some 161, op := Op.move (Operand.tmp 3), type := 24, pos := "law.go:102", after := #[{ on := 22, ground := Ground.guard }], guard := some (22, true) }) (v := undef) rfl (by kernel_rfl) (by kernel_rfl) (by kernel_rfl) (fun _ _ _ h => h) (Or.inr ⟨by kernel_rfl, rfl⟩) ?_
          simp only [Act.put, List.setIfInBounds_toArray, List.set_cons_zero, List.set_cons_succ]
          refine wpAny_take (i := 24) (oi := { dst := some 162, op := Op.call { callee := Callee.value (Operand.func 14), args := #[Operand.tmp 161], argTypes := #[24] }, type := 25, pos := "law.go:102", after := #[{ on := 23, ground := Ground.data }, { on := 22, ground := Ground.chain }, { on := 22, ground := Ground.guard }], guard := some (22, true) }) (v := undef) rfl (by kernel_rfl) (by kernel_rfl) (by kernel_rfl) (fun _ _ _ h => h) (Or.inr ⟨by kernel_rfl, rfl⟩) ?_
          simp only [Act.put, List.setIfInBounds_toArray, List.set_cons_zero, List.set_cons_succ]
          refine wpAny_take (i := 25) (oi := { dst := some 163, op := Op.call { callee := Callee.builtin Builtin.len, args := #[Operand.tmp 162], argTypes := #[25] }, type := 3, pos := "law.go:102", after := #[{ on := 24, ground := Ground.data }, { on := 22, ground := Ground.guard }], guard := some (22, true) }) (v := undef) rfl (by kernel_rfl) (by kernel_rfl) (by kernel_rfl) (fun _ _ _ h => h) (Or.inr ⟨by kernel_rfl, rfl⟩) ?_
          simp only [Act.put, List.setIfInBounds_toArray, List.set_cons_zero, List.set_cons_succ]
          refine wpAny_take (i := 26) (oi := { dst := some 164, op := Op.binOp BinOp.neq 3 (Operand.tmp 163) (Operand.const (Value.int IntKind.i64 0)) 3, type := 4, pos := "law.go:102", after := #[{ on := 25, ground := Ground.data }, { on := 22, ground := Ground.guard }], guard := some (22, true) }) (v := undef) rfl (by kernel_rfl) (by kernel_rfl) (by kernel_rfl) (fun _ _ _ h => h) (Or.inr ⟨by kernel_rfl, rfl⟩) ?_
          simp only [Act.put, List.setIfInBounds_toArray, List.set_cons_zero, List.set_cons_succ]
          refine wpAny_take (i := 27) (oi := { dst := some 165, op := Op.pick (Operand.tmp 160) (Operand.tmp 164) (Operand.const (Value.bool false)), type := 4, pos := "law.go:102", after := #[{ on := 22, ground := Ground.data }, { on := 26, ground := Ground.data }, { on := 18, ground := Ground.guard }], guard := some (18, false) }) (v := (.bool false)) rfl (by kernel_rfl) (by kernel_rfl) (by kernel_rfl) (fun _ _ _ h => h) (Or.inl ⟨by kernel_rfl, fun w => by go_simp⟩) ?_
          simp only [Act.put, List.setIfInBounds_toArray, List.set_cons_zero, List.set_cons_succ]
          refine wpAny_take (i := 28) (oi := { dst := some 166, op := Op.pick (Operand.tmp 156) (Operand.const (Value.bool true)) (Operand.tmp 165), type := 4, pos := "law.go:102", after := #[{ on := 18, ground := Ground.data }, { on := 27, ground := Ground.data }], guard := none }) (v := (.bool false)) rfl (by kernel_rfl) (by kernel_rfl) (by kernel_rfl) (fun _ _ _ h => h) (Or.inl ⟨by kernel_rfl, fun w => by go_simp⟩) ?_
          simp only [Act.put, List.setIfInBounds_toArray, List.set_cons_zero, List.set_cons_succ]
          refine wpAny_done (by kernel_rfl) ?_ _
          go_wp2
          go_roundg g1
          case measure => omega
          case rel => exact ⟨i + 1, M, _, _, _, _, _, by have := HI.out; omega, by go_num, rfl, HP9.out, HR5.out⟩
end Go.Proofs.YtgbggdmpbbhkaaaDoor
