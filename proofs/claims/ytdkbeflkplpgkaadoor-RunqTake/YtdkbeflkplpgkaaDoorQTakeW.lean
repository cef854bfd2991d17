/-
  The walk of RunqTake.
-/
import Derived.Test.YtdkbeflkplpgkaaDoorQNum
import Derived.Deep.RegionLaw
namespace Go.Proofs.YtdkbeflkplpgkaaDoor
open Go.RowKit
theorem step_append_run {P : Program} {w : World} {ops : Array Oper} {o : Oper} {a : Act} {K : Act → World → Prop} {Q : Exit → Act → World → Prop} {E : Prop} (hgd : o.guard = none) (s x : Operand) (ts : Array TypeId)
    (ho : o.op = .call { callee := .builtin .append, args := #[s, x], argTypes := ts }) (v u v' : Value) (w' : World) (hs : a.eval s = v) (hx : a.eval x = u) (hr : (Builtin.append_ ts o.type #[v, u]).run P w = .ok v' w') (h : K (a.put o.dst v') w') :
    if Region.wanted o (yielded ops a.tmps) = true then Oper.wp P o a w K Q else E := by
  have hw : Region.wanted o (yielded ops a.tmps) = true := by simp [Region.wanted, hgd]
  rw [if_pos hw]
  unfold Oper.wp execOp
  simp only [ho, resolve, invoke, builtin, Sem.run_bind, Sem.run_pure, Result.andThen_ok, List.map_toArray, List.map_cons, List.map_nil, hs, hx, hr]
  exact h
set_option maxRecDepth 20000 in
set_option maxHeartbeats 1600000 in
theorem walk_take (ao : Option Addr) (n cap : Nat) (L : List Int) (p : Int) (w : World) (hA : Nums w ao n cap L) (hn : n ≤ 17592186043904) (hg : Glob w) :
    Calls Tryd.prog 4 #[.slice ao n cap, .int .i64 p] w fun e w' => e = .returned (.bool true) ∧ Below w.heap.size w w' := by
  have hcap : cap ≤ 9223372036854775807 := hA.2.2.1
  have hnc := hA.2.1
  have HA := hide hA
  have HL := hide hA.len
  have HG := hide hg
  clear hA hg
  go_enter Tryd.func4, Tryd.ntmps4
  go_wp2_with fail
  refine (awake_any _).mono ?_; rintro e w1 ⟨rfl, b1⟩
  have HA1 := hide (HA.out.carry b1)
  have HB1 := hide b1
  clear b1
  obtain ⟨v2, w2, hr2, ho2⟩ := app_new (ty := 22) Tryd.underlying22 HA1.out (by omega)
  obtain ⟨wo, wc, rfl, hN2, hnew2⟩ := ho2.nums
  have HR := hide hr2
  have HN2 := hide hN2
  have HA2 := hide (HA1.out.carry ho2.2)
  have HB2 := hide (below_one HB1.out ho2.2)
  have hwc : wc ≤ 9223372036854775807 := hN2.2.2.1
  have hnwc := hN2.2.1
  clear hr2 ho2 hN2 hnew2
  go_wp2_with (at_builtin; refine wpList_append_run rfl _ _ _ rfl _ _ _ _ rfl rfl HR.out ?_)
  go_wp2_with fail
  obtain ⟨K, hK⟩ : ∃ K, takeE L = K := ⟨_, rfl⟩
  obtain ⟨x, hx⟩ : ∃ x, takeX L p = x := ⟨_, rfl⟩
  obtain ⟨R, hR⟩ : ∃ R, takeL L p = R := ⟨_, rfl⟩
  have HK := hide hK
  have HX := hide hx
  have HRR := hide hR
  clear hK hx hR
  refine (take_any p ao n cap L _ HA2.out (by omega)).mono ?_; rintro e w3 ⟨ro, rc, rfl, A3, b3, _⟩
  rw [HK.out, HX.out]
  rw [HRR.out] at A3 ⊢
  have HA3 := hide A3
  have HB3 := hide (below_one HB2.out b3)
  have HN3 := hide (HN2.out.carry b3)
  have HQ3 := hide (HA2.out.carry b3)
  have HG3 := hide (HG.out.grow HB3.out HG.out.lt)
  have hrc : rc ≤ 9223372036854775807 := A3.2.2.1
  clear A3 b3
  by_cases h0 : n = 0
  · subst h0
    have hLn : L = [] := List.eq_nil_of_length_eq_zero HL.out.symm
    have hK : K = 12 := by rw [← HK.out, hLn]; rfl
    have hx : x = 0 := by rw [← HX.out, hLn]; simp [takeX]
    have hR : R = [] := by rw [← HRR.out, hLn]; simp [takeL]
    subst hK; subst hx; subst hR
    rw [erN_not (by decide), show ([] : List Int).length = 0 from rfl]
    clear hLn
    go_wp2_with fail
    refine (number_errno 12 _ HG3.out).mono ?_; rintro e w5 ⟨rfl, b5⟩
    have HB5 := hide (below_one HB3.out b5)
    clear b5
    go_wp2
    go_ret
    exact ⟨rfl, HB5.out⟩
  · have hnq : ((n : Int) == 0) = false := by simp; omega
    have hK : K = 0 := by rw [← HK.out]; unfold takeE; rw [if_neg (by rw [← HL.out]; exact h0)]
    subst hK
    rw [erN_zero]
    have hk := placeF_lt p n (by omega)
    have hke := placeF_is p n (by omega)
    obtain ⟨k, hkk⟩ : ∃ k, placeF p n = k := ⟨_, rfl⟩
    have HX2 : Hid (L.getD k 0 = x) := by show _ = _; rw [← HX.out]; unfold takeX; rw [← HL.out, hkk]
    have HR2 : Hid (L.take k ++ L.drop (k + 1) = R) := by show _ = _; rw [← HRR.out]; unfold takeL; rw [← HL.out, hkk]
    rw [hkk] at hk hke
    have HKE := hide hke
    obtain ⟨m, hm⟩ : ∃ m, R.length = m := ⟨_, rfl⟩
    rw [hm] at HA3 ⊢
    clear hkk hke hm
    obtain ⟨r, hr⟩ : ∃ r, p.tmod (n : Int) = r := ⟨_, rfl⟩
    have HT : Hid (r < 0 ∧ r = (k : Int) - (n : Int) ∨ ¬ r < 0 ∧ r = (k : Int)) := by
      have h3 := Int.tmod_eq_emod (a := p) (b := (n : Int))
      rw [hr, ← HKE.out] at h3
      show _ ∨ _
      split at h3 <;> omega
    go_upto_if 42 with fail
    go_cut [9] from 43 to 46 (fun v wx => v = .int .i64 (k : Int) ∧ w3 = wx)
    case first =>
      rcases HT.out with ⟨hr0, hr1⟩ | ⟨hr0, hr1⟩
      · have hsum : r + (n : Int) = (k : Int) := by omega
        clear hr1
        go_wp2_with fail
        go_meet
        case rel => exact ⟨rfl, rfl⟩
      · clear hr
        subst hr1
        go_wp2_with fail
        go_meet
        case rel => exact ⟨rfl, rfl⟩
    case rest =>
      obtain ⟨rfl, rfl⟩ := hcut
      clear hr
      obtain ⟨wd, rfl⟩ := HN3.out.there (k := 0) (by omega)
      have hww : IntKind.i64.wrap ((k : Int) + 1) = (k : Int) + 1 := by rw [IntKind.wrap_i64]; omega
      have hc1 := fun W : World => cut_head_at Tryd.underlying22 W (some wd) n wc k (by omega)
      have hc2 := fun W : World => cut_tail_at Tryd.underlying22 W (some wd) n wc (k + 1) (by omega)
      have h2 := HN3.out.tail (k + 1) (by omega)
      obtain ⟨tm, htm⟩ : ∃ m, n - (k + 1) = m := ⟨_, rfl⟩
      obtain ⟨tc, htc⟩ : ∃ m, wc - (k + 1) = m := ⟨_, rfl⟩
      obtain ⟨ta, hta⟩ : ∃ X, tailA (some wd) (k + 1) wc = X := ⟨_, rfl⟩
      rw [hta, htm, htc] at hc2 h2
      have hc2' : ∀ W : World, (Instr.slice 22 (.slice (some wd) n wc) (some (.int .i64 ((k : Int) + 1))) none none).run Tryd.prog W = .ok (.slice ta tm tc) W := fun W => by rw [← hc2 W]; rfl
      have h1 := HN3.out.head k (by omega)
      obtain ⟨v5, w5, a5, o5⟩ := app_new (ty := 22) (w := w3.drew) Tryd.underlying22 h1 (by omega)
      have h2' : Nums w5 ta tm tc (L.drop (k + 1)) := Nums.carry (w := w3.drew) h2 o5.2
      obtain ⟨v6, w6, a6, o6, g6⟩ := app_own (ty := 22) Tryd.underlying22 o5.1 h2' (by omega) o5.2.size
      have b6 : Below w3.heap.size w3 w6 := below_one (below_d w3 1) (below_grown o5.2 o5.2.size o5.1 g6)
      obtain ⟨so, sc, rfl, hl6⟩ := owns_lies o6
      rw [HR2.out] at hl6
      have HS6 : Hid (Nums w6 so (k + tm) sc R) := hl6
      have HB6 := hide (below_one HB3.out b6)
      have HA6 := hide (HA3.out.carry b6)
      have HN6 := hide (HN3.out.carry b6)
      have HQ6 := hide (HQ3.out.carry b6)
      have c0 : w6.cell? (wd.add k) = some (.int .i64 x) := by rw [← HX2.out]; exact HN6.out.elem k hk
      have hlt : (k : Int) < (n : Int) := by omega
      clear hta htm htc hc2 h1 h2 h2' o5 o6 g6 b6 hl6
      go_wp2_with fail
      go_region_law ((first | refine step_append_run (by rfl) _ _ _ (by rfl) (.slice none 0 0) (.slice (some wd) k wc) v5 w5 (by rfl) (by rfl) a5 ?_ | refine step_append_run (by rfl) _ _ _ (by rfl) v5 (.slice ta tm tc) (.slice so (k + tm) sc) w6 (by rfl) (by rfl) a6 ?_))
      all_goals
        go_wp2_with fail
        refine (same_any _ _ _ _ _ _ R R _ HA6.out HS6.out).mono ?_; rintro e w7 ⟨rfl, b7⟩
        rw [decide_eq_true (rfl : R = R)]
        have HB7 := hide (below_one HB6.out b7)
        have HN7 := hide (HN6.out.carry b7)
        have HQ7 := hide (HQ6.out.carry b7)
        clear b7
        go_wp2_with fail
        refine (same_any _ _ _ _ _ _ L L _ HQ7.out HN7.out).mono ?_; rintro e w8 ⟨rfl, b8⟩
        rw [decide_eq_true (rfl : L = L)]
        have HB8 := hide (below_one HB7.out b8)
        clear b8
        go_wp2
        go_ret
        exact ⟨rfl, HB8.out⟩
end Go.Proofs.YtdkbeflkplpgkaaDoor
