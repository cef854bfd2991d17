/-
  The walk of RunqPush.
-/
import Derived.Test.YtdkbeflkplpgkaaDoorQNum
namespace Go.Proofs.YtdkbeflkplpgkaaDoor
open Go.RowKit
def HasRel (w : World) (L : List Int) (x : Int) (n gk : Nat) (vh vi : Value) (wr : World) : Prop := ∃ (i : Nat) (c : Bool), i + gk = n ∧ vi = .int .i64 (i : Int) ∧ vh = .bool c ∧ c = decide (x ∈ L.take i) ∧ wr = w
theorem has_snoc (L : List Int) (x : Int) (i : Nat) (h : i < L.length) : decide (x ∈ L.take (i + 1)) = (decide (x ∈ L.take i) || decide (L.getD i 0 = x)) := by
  rw [takeI_snoc L i h]
  by_cases h1 : x ∈ L.take i
  · rw [decide_eq_true h1, decide_eq_true (List.mem_append.2 (.inl h1))]; rfl
  · by_cases h2 : L.getD i 0 = x
    · rw [decide_eq_false h1, decide_eq_true h2, decide_eq_true (List.mem_append.2 (.inr (by rw [h2]; exact List.mem_singleton.2 rfl)))]; rfl
    · rw [decide_eq_false h1, decide_eq_false h2, decide_eq_false (fun h => (List.mem_append.1 h).elim h1 (fun h => h2 (List.mem_singleton.1 h).symm))]; rfl
set_option maxRecDepth 20000 in
set_option maxHeartbeats 1600000 in
theorem walk_push (ao : Option Addr) (n cap : Nat) (L : List Int) (x : Int) (w : World) (hA : Nums w ao n cap L) (hn : n ≤ 17592186043904) (hg : Glob w) :
    Calls Tryd.prog 3 #[.slice ao n cap, .int .i64 x] w fun e w' => e = .returned (.bool true) ∧ Below w.heap.size w w' := by
  have hcap : cap ≤ 9223372036854775807 := hA.2.2.1
  have hnc := hA.2.1
  have HA := hide hA
  have HL := hide hA.len
  have HG := hide hg
  clear hA hg
  go_enter Tryd.func3, Tryd.ntmps3
  go_wp2_with fail
  refine (awake_any _).mono ?_; rintro e w1 ⟨rfl, b1⟩
  have HA1 := hide (HA.out.carry b1)
  have HB1 := hide b1
  clear b1
  obtain ⟨v2, w2, hr2, ho2⟩ := app_new (ty := 22) Tryd.underlying22 HA1.out (by omega)
  obtain ⟨wo, wc, rfl, hN2, hnew2⟩ := ho2.nums
  have HR := hide hr2
  have HO := hide ho2
  have HN2 := hide hN2
  have HA2 := hide (HA1.out.carry ho2.2)
  have HB2 := hide (below_one HB1.out ho2.2)
  clear hr2 ho2 hN2 hnew2
  go_wp2_with (at_builtin; refine wpList_append_run rfl _ _ _ rfl _ _ _ _ rfl rfl HR.out ?_)
  go_wp2_with fail
  go_loopg [6, 17] n (fun gk vh vi wr => HasRel w2 L x n gk vh vi wr)
  case atStart => exact ⟨0, false, by omega, rfl, rfl, by simp, rfl⟩
  case round =>
    obtain ⟨i, c, hi, rfl, rfl, hc, rfl⟩ := hrel
    have HC := hide hc
    have HI := hide hi
    clear hc
    cases gk with
    | succ g1 =>
      have hlt : (i : Int) < (n : Int) := by omega
      have hltn : i < n := by omega
      clear hi
      obtain ⟨ad, rfl⟩ := HA2.out.there hltn
      have c0 := HA2.out.elem i hltn
      have HS := hide (has_snoc L x i (by rw [← HL.out]; exact hltn))
      obtain ⟨y, hy⟩ : ∃ y, L.getD i 0 = y := ⟨_, rfl⟩
      rw [hy] at c0 HS
      clear hy
      cases c with
      | true =>
        go_wp2
        go_roundg g1
        case measure => omega
        case rel => exact ⟨i + 1, true, by have := HI.out; omega, by go_num, rfl, by rw [HS.out, ← HC.out]; rfl, rfl⟩
      | false =>
        by_cases hxy : y = x
        · go_wp2
          go_roundg g1
          case measure => omega
          case rel => exact ⟨i + 1, true, by have := HI.out; omega, by go_num, rfl, by rw [HS.out, ← HC.out, decide_eq_true hxy]; rfl, rfl⟩
        · go_wp2
          go_roundg g1
          case measure => omega
          case rel => exact ⟨i + 1, false, by have := HI.out; omega, by go_num, by rw [show (y == x) = false from by simp [hxy]], by rw [HS.out, ← HC.out, decide_eq_false hxy]; rfl, rfl⟩
    | zero =>
      obtain rfl : i = n := by omega
      have hlt : ¬ ((i : Int) < (i : Int)) := by omega
      have HC2 : Hid (c = decide (x ∈ L)) := by show _ = _; rw [HC.out, HL.out, List.take_length]
      clear hi HC
      obtain ⟨K, hK⟩ : ∃ K, pushE L x = K := ⟨_, rfl⟩
      obtain ⟨R, hR⟩ : ∃ R, pushL L x = R := ⟨_, rfl⟩
      have HK := hide hK
      have HRR := hide hR
      clear hK hR
      go_wp2_with fail
      refine (push_any x ao i cap L _ HA2.out).mono ?_; rintro e w3 ⟨ro, rc, rfl, A3, b3, n3⟩
      have HNEW := hide n3
      have HW3 := hide (below_one HO.out.2 b3)
      rw [HK.out]
      rw [HRR.out] at A3 ⊢
      have HA3 := hide A3
      have HB3 := hide (below_one HB2.out b3)
      have HO3 := hide (owns_below HO.out.1 b3)
      have HN3 := hide (HN2.out.carry b3)
      have HQ3 := hide (HA2.out.carry b3)
      have hrc : rc ≤ 9223372036854775807 := A3.2.2.1
      clear A3 b3 n3
      go_wp2_with fail
      refine (same_any _ _ _ _ _ _ L L _ HQ3.out HN3.out).mono ?_; rintro e w4 ⟨rfl, b4⟩
      rw [decide_eq_true (rfl : L = L)]
      have HA4 := hide (HA3.out.carry b4)
      have HB4 := hide (below_one HB3.out b4)
      have HO4 := hide (owns_below HO3.out b4)
      have HW4 := hide (below_one HW3.out b4)
      have HG4 := hide (HG.out.grow HB4.out HG.out.lt)
      clear b4
      cases c with
      | true =>
        have hx : x ∈ L := of_decide_eq_true HC2.out.symm
        have hK : K = 11 := by rw [← HK.out]; unfold pushE; rw [if_pos hx]
        have hR : R = [] := by rw [← HRR.out]; exact pushL_err (by rw [HK.out, hK]; decide)
        subst hK; subst hR
        clear hx
        rw [erN_not (by decide), show ([] : List Int).length = 0 from rfl]
        go_wp2_with fail
        refine (number_errno 11 _ HG4.out).mono ?_; rintro e w5 ⟨rfl, b5⟩
        have HB5 := hide (below_one HB4.out b5)
        clear b5
        go_wp2
        go_ret
        exact ⟨rfl, HB5.out⟩
      | false =>
        have hx : x ∉ L := of_decide_eq_false HC2.out.symm
        by_cases h4 : (64 : Int) ≤ (i : Int)
        · have hK : K = 5 := by rw [← HK.out]; unfold pushE; rw [if_neg hx, if_pos (by rw [← HL.out]; omega)]
          have hR : R = [] := by rw [← HRR.out]; exact pushL_err (by rw [HK.out, hK]; decide)
          subst hK; subst hR
          clear hx
          rw [erN_not (by decide), show ([] : List Int).length = 0 from rfl]
          go_wp2_with fail
          refine (number_errno 5 _ HG4.out).mono ?_; rintro e w5 ⟨rfl, b5⟩
          have HB5 := hide (below_one HB4.out b5)
          clear b5
          go_wp2
          go_ret
          exact ⟨rfl, HB5.out⟩
        · have hK : K = 0 := by rw [← HK.out]; exact pushE_zero hx (by rw [← HL.out]; omega)
          have hR : R = L ++ [x] := by rw [← HRR.out]; exact pushL_zero (by rw [HK.out, hK])
          have HRE := hide hR
          subst hK
          clear hx hR
          rw [erN_zero]
          obtain ⟨X, hX⟩ : ∃ X, w4.alloc (.cells #[.int .i64 x] 3) = X := ⟨_, rfl⟩
          have bX : Below w4.heap.size w4 X := hX ▸ below_alloc w4 _
          have oX := owns_below HO4.out bX
          have nX : Nums X (some ⟨w4.heap.size, 0, none⟩) 1 1 [x] := hX ▸ nums_alloc w4 [x] _ _ 1 rfl rfl (by omega)
          have bW : Below w1.heap.size w1 X := below_one HW4.out bX
          obtain ⟨v5, w5, hr5, ho5, hg5⟩ := app_own (ty := 22) Tryd.underlying22 oX nX (by omega) bW.size
          obtain ⟨uo, uc, rfl, hl5⟩ := owns_lies ho5
          have b5 := below_grown bW bW.size oX hg5
          have hA5 : Nums w5 ro R.length rc R := (HA4.out.carry bX).far hg5 fun ad e ek => by
            have h1 := (owns_lt HO.out.1 ek.symm).1
            have h2 := HNEW.out ad e
            omega
          rw [HRE.out] at hA5
          have HR5 := hide hr5
          have HN5 : Hid (Nums w5 uo (i + 1) uc (L ++ [x])) := hl5
          have HA5 := hide hA5
          have HB5 := hide (HB1.out.trans (b5.mono HB1.out.size))
          obtain ⟨m, hm⟩ : ∃ m, R.length = m := ⟨_, rfl⟩
          rw [← HRE.out, hm] at HA5
          rw [hm]
          rw [HRE.out] at HA5
          clear hr5 ho5 hg5 hl5 b5 bX oX nX bW hA5 hm
          go_wp2_with (at_builtin; refine wpList_append_want rfl _ _ _ rfl _ _ _ _ rfl rfl HR5.out ?_)
          go_wp2_with fail
          refine (same_any _ _ _ _ _ _ (L ++ [x]) (L ++ [x]) _ HA5.out HN5.out).mono ?_; rintro e w6 ⟨rfl, b6⟩
          rw [decide_eq_true (rfl : L ++ [x] = L ++ [x])]
          have HB6 := hide (below_one HB5.out b6)
          clear b6
          go_wp2
          go_ret
          exact ⟨rfl, HB6.out⟩
end Go.Proofs.YtdkbeflkplpgkaaDoor
