/-
  What a table's Kill answers, as a contract.
-/
import Derived.Test.YtnfpldndnmbplaaDoorUApp
namespace Go.Proofs.YtnfpldndnmbplaaDoor
open Go.RowKit
variable {g : Nat} {T : List Th} {R : List Int} {ro : Option Addr} {rc : Nat}
def KillRel (w : World) (g : Nat) (p : Int) (T : List Th) (R : List Int) (ro : Option Addr) (gk : Nat) (vi vo : Value) (wr : World) : Prop :=
  ∃ (i : Nat) (ao : Option Addr) (c n : Nat), i + gk = 64 ∧ vi = .int .i64 (i : Int) ∧ Tb wr g (killN p T R i).1 (killN p T R i).2.1 ao c ∧ Foot (fun j => j = g) w wr ∧ (ao = ro ∧ (killN p T R i).2.1.length = R.length ∨ New w ao) ∧ n ≤ i ∧ wr.ownsRow w.heap.size 3 1 vo n (cellsI (killN p T R i).2.2) ∧ OffV (killN p T R i).2.1.length ao vo
def KillEnd (w : World) (g : Nat) (T : List Th) (R : List Int) (L : List Int) (ro : Option Addr) (n : Nat) (e : Ending) (w' : World) : Prop := ∃ ao c, e = .returned (.slice ao L.length c) ∧ Nums w' ao L.length c L ∧ New w ao ∧ TbEnd w g T R ro n w'
theorem own_lt {w : World} {B : Nat} {e : TypeId} {sz n : Nat} {v : Value} {xs : List Value} (h : w.ownsRow B e sz v n xs) : ∀ k, v.ownBlock = some k → k < w.heap.size := fun _ hk => (owns_lt h hk).1
theorem Kept.step {w X : World} {ao ao' : Option Addr} {m n n' : Nat} (h : ao = ro ∧ n = m ∨ New w ao) (k : ao' = ao ∧ n' = n ∨ New X ao') (hs : w.heap.size ≤ X.heap.size) : ao' = ro ∧ n' = m ∨ New w ao' := by
  rcases k with ⟨rfl, rfl⟩ | k
  · exact h
  · exact .inr (k.le hs)
set_option maxRecDepth 20000 in
set_option maxHeartbeats 3200000 in
theorem kill_any (p : Int) (w : World) (x : Tb w g T R ro rc) (hI : Inv T R) :
    Calls Tryd.prog 13 #[.pointer (some ⟨g, 0, none⟩), .int .i64 p] w fun e w' => KillEnd w g (killN p T R 64).1 (killN p T R 64).2.1 (killN p T R 64).2.2 ro R.length e w' := by
  have HX := hide x
  obtain ⟨Z, hZ⟩ : ∃ Z, killN p T R 64 = Z := ⟨_, rfl⟩
  rw [hZ]
  have HZZ := hide hZ
  obtain ⟨Tz, Rz, Wz⟩ := Z
  simp only
  clear hZ
  obtain ⟨A, hA, hAr⟩ := x.arr
  have HA := hide hA
  have HR := hide hAr
  have HI := hide hI
  have HZ : Hid (Foot (fun j => j = g) w w) := Foot.refl _ _
  have HO0 := hide (owns_nil w w.heap.size 3 1)
  clear x hA hAr hI
  go_enter Tryd.func13, Tryd.ntmps13
  go_wp2_with (refine wpList_load_mid rfl 28 _ rfl g 0 rfl A _ HA.out Tryd.underlying28 rfl (by rw [HR.out.1]; exact Tryd.infoThs) ?_)
  go_wp2
  go_loopg [12, 5] 64 (fun gk vi vo wr => KillRel w g p T R ro gk vi vo wr)
  case atStart => exact ⟨0, ro, rc, 0, by omega, rfl, HX.out, HZ.out, .inl ⟨rfl, rfl⟩, Nat.le_refl _, HO0.out, fun _ _ _ e => by cases e⟩
  case round =>
    clear HX HZ HO0
    obtain ⟨i, ao, c, n, hi, rfl, t1, f1, k1, hni, o1, v1⟩ := hrel
    have H1 := hide t1
    have HF := hide f1
    have HK := hide k1
    have HO := hide o1
    have HV := hide v1
    clear t1 f1 k1 o1 v1
    cases gk with
    | zero =>
      obtain rfl : i = 64 := by omega
      rw [HZZ.out] at H1 HK HO HV
      simp only at H1 HK HO HV
      obtain ⟨oo, oc, rfl, hl⟩ := owns_lies HO.out
      have HN : Hid (Nums wr oo n oc Wz) := hl
      clear hl
      go_wp2
      go_ret
      have e := HN.out.len
      subst e
      exact ⟨oo, oc, rfl, HN.out, owns_new HO.out, ao, c, H1.out, HF.out, HK.out⟩
    | succ g1 =>
      have hlt : (i : Int) < 64 := by omega
      have hix := fun W => HR.out.2 i W (by omega)
      have hpp := killN_p p T R i i
      have HIi := hide (HI.out.kill p i)
      obtain ⟨S, hS⟩ : ∃ S, killN p T R i = S := ⟨_, rfl⟩
      have HS := hide hS
      rw [hS] at H1 HK HO HV hpp HIi
      obtain ⟨Ti, Ri, Wi⟩ := S
      simp only at H1 HK HO HV hpp HIi
      obtain ⟨y, hy⟩ : ∃ y, thd T i = y := ⟨_, rfl⟩
      rw [hy] at hix hpp
      obtain ⟨yp, ys, yu⟩ := y
      simp only at hix hpp
      have HPP := hide hpp
      obtain ⟨X, hX⟩ : ∃ X, wr.alloc (.cells #[.int .i64 yp, .int .i64 ys, .int .i64 yu] 27) = X := ⟨_, rfl⟩
      have bX : Below wr.heap.size wr X := hX ▸ below_alloc wr _
      have d0 : X.cell? ⟨wr.heap.size, 0, none⟩ = some (.int .i64 yp) := by rw [← hX]; simp
      have H2 := hide (H1.out.grow bX)
      have HO2 := hide (owns_below HO.out bX)
      have HF2 := hide (HF.out.then (below_foot _ bX))
      have HI' := hide hi
      clear hS hy hpp bX H1 HO HF hi
      by_cases hyp : yp = p
      · subst hyp
        by_cases hst : (thd Ti i).s = 1 ∨ (thd Ti i).s = 2
        · have hl : i < Ti.length := by
            rcases Nat.lt_or_ge i Ti.length with h | h
            · exact h
            · rw [thd_ge _ _ h] at hst; rcases hst with h | h <;> cases h
          have HN1 : Hid (killN yp T R (i + 1) = (setT Ti i 3 0, turnR Ri (i : Int) 3, Wi ++ [(i : Int)])) := by
            show _ = _
            have := killN_yes (p := yp) (T := T) (R := R) (k := i) (by rw [HS.out]; exact ⟨HPP.out, hst⟩)
            rw [HS.out] at this; exact this
          have HST := hide hst
          have HL := hide hl
          clear hst hl
          go_wp2_with fail
          refine (exit_yes i _ H2.out HIi.out HL.out HST.out).mono ?_; rintro e w2 ⟨rfl, ao2, c2, t2, f2, k2⟩
          have HV2 := hide (HV.out.queue k2 (own_lt HO2.out))
          have o2 := owns_foot HO2.out f2 (fun k e h => H2.out.off HO2.out (by decide) (e.trans (by rw [h])))
          obtain ⟨v3, w3, hr3, o3, f3, m3⟩ := app_one (ty := 29) (i : Int) o2 (by omega) (Nat.le_trans HF2.out.size f2.size)
          have H3 := hide (t2.foot f3 (fun h => t2.off o2 (by decide) h) (fun h0 ad e h => HV2.out h0 ad e h))
          have HO3 := hide o3
          have HV3 := hide (HV2.out.moved t2 m3)
          have HF3 := hide ((HF2.out.then f2).trans f3 (fun j e => .inr (owns_lt o2 e).2))
          have HK3 := hide (Kept.step HK.out k2 HF2.out.size)
          have HR3 := hide hr3
          clear t2 f2 k2 o2 hr3 o3 f3 m3
          go_wp2_with (at_builtin; refine wpList_append_run rfl _ _ _ rfl _ _ _ _ rfl rfl HR3.out ?_)
          go_wp2
          go_roundg g1
          case measure => omega
          case rel =>
            refine ⟨i + 1, ao2, c2, n + 1, by have := HI'.out; omega, by go_num, ?_⟩
            rw [HN1.out]
            exact ⟨H3.out, HF3.out, HK3.out, by omega, HO3.out, HV3.out⟩
        · have HN1 : Hid (killN yp T R (i + 1) = (Ti, Ri, Wi)) := by
            show _ = _
            have := killN_no (p := yp) (T := T) (R := R) (k := i) (by rw [HS.out]; exact fun h => hst h.2)
            rw [HS.out] at this; exact this
          have HST : Hid (¬ (getF Ti (i : Int)).s = 1 ∧ ¬ (getF Ti (i : Int)).s = 2) := by
            show _ ∧ _
            rw [getF_nat]; exact ⟨fun h => hst (.inl h), fun h => hst (.inr h)⟩
          clear hst
          go_wp2_with fail
          refine (exit_no (i : Int) _ H2.out HIi.out.few HST.out).mono ?_; rintro e w2 ⟨rfl, ao2, c2, t2, f2, k2⟩
          rw [erN_not (by decide)]
          have HV2 := hide (HV.out.queue k2 (own_lt HO2.out))
          have HO3 := hide (owns_foot HO2.out f2 (fun k e h => H2.out.off HO2.out (by decide) (e.trans (by rw [h]))))
          have H3 := hide t2
          have HF3 := hide (HF2.out.then f2)
          have HK3 := hide (Kept.step HK.out k2 HF2.out.size)
          clear t2 f2 k2
          go_wp2
          go_roundg g1
          case measure => omega
          case rel =>
            refine ⟨i + 1, ao2, c2, n, by have := HI'.out; omega, by go_num, ?_⟩
            rw [HN1.out]
            exact ⟨H3.out, HF3.out, HK3.out, by omega, HO3.out, HV2.out⟩
      · have HN1 : Hid (killN p T R (i + 1) = (Ti, Ri, Wi)) := by
          show _ = _
          have := killN_no (p := p) (T := T) (R := R) (k := i) (by rw [HS.out]; exact fun h => hyp (by rw [← HPP.out]; exact h.1))
          rw [HS.out] at this; exact this
        go_wp2
        go_roundg g1
        case measure => omega
        case rel =>
          refine ⟨i + 1, ao, c, n, by have := HI'.out; omega, by go_num, ?_⟩
          rw [HN1.out]
          exact ⟨H2.out, HF2.out, HK.out, by omega, HO2.out, HV.out⟩
end Go.Proofs.YtnfpldndnmbplaaDoor
