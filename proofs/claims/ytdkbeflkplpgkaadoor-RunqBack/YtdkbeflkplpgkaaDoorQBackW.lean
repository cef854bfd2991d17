/-
  The walk of RunqBack.
-/
import Derived.Test.YtdkbeflkplpgkaaDoorQNum
namespace Go.Proofs.YtdkbeflkplpgkaaDoor
open Go.RowKit
def BackRel (w : World) (n gk : Nat) (vq vi : Value) (wr : World) : Prop := ∃ (i m : Nat) (qo : Option Addr) (qc : Nat) (M : List Int), i + gk = n ∧ vi = .int .i64 (i : Int) ∧ vq = .slice qo m qc ∧ Nums wr qo m qc M ∧ m ≤ 64 ∧ Below w.heap.size w wr
theorem pushL_len (M : List Int) (x : Int) (h : M.length ≤ 64) : (pushL M x).length ≤ 64 := by
  by_cases he : pushE M x = 0
  · rw [pushL_zero he]
    unfold pushE at he
    split at he
    · cases he
    · split at he
      · cases he
      · simp; omega
  · rw [pushL_err he]; simp
set_option maxRecDepth 20000 in
set_option maxHeartbeats 1600000 in
theorem walk_back (ao : Option Addr) (n cap : Nat) (L : List Int) (x : Int) (w : World) (hA : Nums w ao n cap L) (hg : Glob w) :
    Calls Tryd.prog 5 #[.slice ao n cap, .int .i64 x] w fun e w' => e = .returned (.bool true) ∧ Below w.heap.size w w' := by
  have hcap : cap ≤ 9223372036854775807 := hA.2.2.1
  have hnc := hA.2.1
  have HA := hide hA
  have HL := hide hA.len
  have HG := hide hg
  clear hA hg
  go_enter Tryd.func5, Tryd.ntmps5
  go_wp2_with fail
  refine (awake_any _).mono ?_; rintro e w1 ⟨rfl, b1⟩
  have HA1 := hide (HA.out.carry b1)
  have HB1 := hide b1
  clear b1
  go_wp2_with fail
  go_loopg [5, 16] n (fun gk vq vi wr => BackRel w1 n gk vq vi wr)
  case atStart => exact ⟨0, 0, none, 0, [], by omega, rfl, rfl, nums_nil _, by omega, Below.refl _ _⟩
  case round =>
    obtain ⟨i, m, qo, qc, M, hi, rfl, rfl, hM, hm, b2⟩ := hrel
    have HM := hide hM
    have HML := hide hM.len
    have HI := hide hi
    have HB2 := hide b2
    clear hM b2
    cases gk with
    | succ g1 =>
      have hlt : (i : Int) < (n : Int) := by omega
      have hltn : i < n := by omega
      clear hi
      obtain ⟨ad, rfl⟩ := HA1.out.there hltn
      have c0 := (HA1.out.carry HB2.out).elem i hltn
      obtain ⟨y, hy⟩ : ∃ y, L.getD i 0 = y := ⟨_, rfl⟩
      rw [hy] at c0
      clear hy
      go_wp2_with fail
      refine (push_any y qo m qc M _ HM.out).mono ?_; rintro e w3 ⟨ro, rc, rfl, A3, b3, _⟩
      have HRL := hide (pushL_len M y (by rw [← HML.out]; exact hm))
      obtain ⟨K, hK⟩ : ∃ K, pushE M y = K := ⟨_, rfl⟩
      obtain ⟨R, hR⟩ : ∃ R, pushL M y = R := ⟨_, rfl⟩
      rw [hR] at HRL A3 ⊢
      rw [hK]
      obtain ⟨rl, hrl⟩ : ∃ l, R.length = l := ⟨_, rfl⟩
      rw [hrl] at HRL A3 ⊢
      have HA3 := hide A3
      have HB3 := hide (below_one HB2.out b3)
      have HM3 := hide (HM.out.carry b3)
      clear A3 b3 hK hR hrl c0
      by_cases hK0 : K = 0
      · subst hK0
        rw [erN_zero]
        go_wp2
        go_roundg g1
        case measure => omega
        case rel => exact ⟨i + 1, rl, ro, rc, R, by have := HI.out; omega, by go_num, rfl, HA3.out, HRL.out, HB3.out⟩
      · rw [erN_not hK0]
        go_wp2
        go_roundg g1
        case measure => omega
        case rel => exact ⟨i + 1, m, qo, qc, M, by have := HI.out; omega, by go_num, rfl, HM3.out, hm, HB3.out⟩
    | zero =>
      obtain rfl : i = n := by omega
      have hlt : ¬ ((i : Int) < (i : Int)) := by omega
      clear hi
      obtain ⟨D, hD⟩ : ∃ D, dropL M x = D := ⟨_, rfl⟩
      obtain ⟨d, hd⟩ : ∃ d, D.length = d := ⟨_, rfl⟩
      have HD := hide hD
      have HDL := hide hd
      have hd64 : d ≤ 64 := by rw [← hd, ← hD]; have := dropL_len M x; have := HML.out; omega
      have HXD : Hid (x ∉ D) := by rw [← hD]; exact dropL_not M x
      clear hD hd
      go_wp2_with fail
      refine (drop_any x qo m qc M _ HM.out (by omega)).mono ?_; rintro e w3 ⟨d1, dc1, rfl, A3, b3, _⟩
      rw [HD.out] at A3 ⊢
      rw [HDL.out] at A3 ⊢
      have HA3 := hide A3
      have HB3 := hide (below_one HB2.out b3)
      have HM3 := hide (HM.out.carry b3)
      clear A3 b3
      go_wp2_with fail
      refine (push_any x d1 d dc1 D _ HA3.out).mono ?_; rintro e w4 ⟨ro, rc, rfl, A4, b4, _⟩
      have HB4 := hide (below_one HB3.out b4)
      have HM4 := hide (HM3.out.carry b4)
      obtain ⟨K, hK⟩ : ∃ K, pushE D x = K := ⟨_, rfl⟩
      obtain ⟨R, hR⟩ : ∃ R, pushL D x = R := ⟨_, rfl⟩
      have HK := hide hK
      have HR := hide hR
      rw [hR] at A4 ⊢
      rw [hK]
      obtain ⟨rl, hrl⟩ : ∃ l, R.length = l := ⟨_, rfl⟩
      have HRL := hide hrl
      rw [hrl] at A4 ⊢
      have HA4 := hide A4
      have hrc : rc ≤ 9223372036854775807 := A4.2.2.1
      have hrlc := A4.2.1
      clear A4 b4 hK hR hrl
      go_wp2_with fail
      refine (drop_any x qo m qc M _ HM4.out (by omega)).mono ?_; rintro e w5 ⟨d2, dc2, rfl, A5, b5, _⟩
      rw [HD.out] at A5 ⊢
      rw [HDL.out] at A5 ⊢
      have HB5 := hide (below_one HB4.out b5)
      have HM5 := hide (HM4.out.carry b5)
      have HA5 := hide (HA4.out.carry b5)
      have HW5 := hide (below_one HB1.out HB5.out)
      have hdc2 : dc2 ≤ 9223372036854775807 := A5.2.2.1
      have hdc2' := A5.2.1
      clear A5 b5
      by_cases h64 : (64 : Int) ≤ (d : Int)
      · have hK : K = 5 := by rw [← HK.out]; unfold pushE; rw [if_neg HXD.out, if_pos (by rw [HDL.out]; omega)]
        subst hK
        rw [erN_not (by decide)]
        have HG5 := hide (HG.out.grow HW5.out HG.out.lt)
        go_wp2_with fail
        refine (number_errno 5 _ HG5.out).mono ?_; rintro e w6 ⟨rfl, b6⟩
        have HB6 := hide (below_one HW5.out b6)
        clear b6
        go_wp2
        go_ret
        exact ⟨rfl, HB6.out⟩
      · have hK : K = 0 := by rw [← HK.out]; exact pushE_zero HXD.out (by rw [HDL.out]; omega)
        have hR : R = D ++ [x] := by rw [← HR.out]; exact pushL_zero (by rw [HK.out, hK])
        have hrl : rl = d + 1 := by rw [← HRL.out, hR, List.length_append, HDL.out]; rfl
        subst hK
        rw [erN_zero]
        obtain ⟨rd, rfl⟩ := HA5.out.there (k := d) (by omega)
        have c1 : w5.cell? (rd.add d) = some (.int .i64 x) := by
          have := HA5.out.elem d (by omega)
          rw [hR, ← HDL.out] at this
          rw [← HDL.out, this]; simp
        have HH : Hid (Nums w5 (some rd) d rc D) := by
          have := HA5.out.head d (by omega)
          rw [hR, ← HDL.out, List.take_left] at this
          rw [← HDL.out]; exact this
        have HC1 := hide c1
        have c0 : ∀ q, (w5.drewN q).cell? (rd.add d) = some (.int .i64 x) := fun _ => HC1.out
        have hc1 := fun W : World => cut_head_at Tryd.underlying24 W (some rd) rl rc d (by omega)
        have hsub : (rl : Int) - 1 = (d : Int) := by omega
        have hwr : IntKind.i64.wrap (d : Int) = (d : Int) := by rw [IntKind.wrap_i64]; omega
        have hltd : (d : Int) < (rl : Int) := by omega
        clear hR c1 hrl
        go_wp2_with fail
        go_region_held (fun w' => w'.cell? (rd.add d) = some (.int .i64 x)) (first | exact c0 _ | exact (HW6.out.cell (lt_of_cell HC1.out)).trans HC1.out | exact (HW7.out.cell (lt_of_cell HC1.out)).trans HC1.out) (first | (go_at_call 11; go_must (refine (drop_any x qo m qc M w5.drew HM5.out (by omega)).mono ?_); rintro e w6 ⟨d3, dc3, rfl, A6, b6, _⟩; rw [HD.out] at A6 ⊢; rw [HDL.out] at A6 ⊢; have HA6 := hide A6; have HW6 : Hid (Below w5.heap.size w5 w6) := below_one (below_d w5 1) b6; clear A6 b6) | (go_at_call 8; go_must (refine (same_any _ _ _ _ _ _ D D _ (HH.out.carry HW6.out) HA6.out).mono ?_); rintro e w7 ⟨rfl, b7⟩; rw [decide_eq_true (rfl : D = D)]; have HW7 := hide (below_one HW6.out b7); clear b7))
        all_goals
          go_wp2
          go_ret
          exact ⟨rfl, below_one HW5.out HW7.out⟩
end Go.Proofs.YtdkbeflkplpgkaaDoor
