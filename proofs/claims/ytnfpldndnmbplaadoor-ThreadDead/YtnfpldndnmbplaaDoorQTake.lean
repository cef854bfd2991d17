/-
  What runq's Take answers, as a contract.
-/
import Derived.Test.YtnfpldndnmbplaaDoorQDo
namespace Go.Proofs.YtnfpldndnmbplaaDoor
open Go.RowKit
def TakeEnd (w : World) (K x : Int) (R : List Int) (e : Ending) (w' : World) : Prop := ∃ ro rc, e = .returned (.tuple #[.int .i64 x, .slice ro R.length rc, erN K]) ∧ Nums w' ro R.length rc R ∧ Below w.heap.size w w' ∧ New w ro
theorem take_done {w w' : World} {K x y : Int} {R F : List Int} {ao : Option Addr} {m c : Nat} (hK : K = 0) (hx : y = x) (hF : F = R) (A : Nums w' ao m c F) (b : Below w.heap.size w w') (hn : New w ao) : TakeEnd w K x R (.returned (.tuple #[.int .i64 y, .slice ao m c, .nilIface])) w' := by
  subst hK; subst hx; subst hF
  have := A.len; subst this
  exact ⟨ao, c, by rw [erN_zero], A, b, hn⟩
theorem cell_al {w : World} {a : Addr} {v : Value} (h : w.cell? a = some v) (o : Obj) : (w.alloc o).cell? a = some v := by rw [(below_alloc w o).cell (lt_of_cell h), h]
theorem cell_ad {w : World} {a : Addr} {v : Value} (h : w.cell? a = some v) (o : Obj) : (w.alloc o).drew.cell? a = some v := cell_al h o
theorem below_ad (w : World) (o : Obj) : Below w.heap.size w (w.alloc o).drew := below_drewN (below_alloc w o) 1
set_option maxRecDepth 20000 in
set_option maxHeartbeats 1600000 in
theorem take_any (p : Int) (ao : Option Addr) (n cap : Nat) (L : List Int) (w : World) (hA : Nums w ao n cap L) (hn : n ≤ 17592186044416) :
    Calls Tryd.prog 24 #[.slice ao n cap, .int .i64 p] w fun e w' => TakeEnd w (takeE L) (takeX L p) (takeL L p) e w' := by
  have hcap : cap ≤ 9223372036854775807 := hA.2.2.1
  have hnc := hA.2.1
  have HA := hide hA
  have HL := hide hA.len
  obtain ⟨K, hK⟩ : ∃ K, takeE L = K := ⟨_, rfl⟩
  obtain ⟨x, hx⟩ : ∃ x, takeX L p = x := ⟨_, rfl⟩
  obtain ⟨R, hR⟩ : ∃ R, takeL L p = R := ⟨_, rfl⟩
  rw [hK, hx, hR]
  have HK := hide hK
  have HX := hide hx
  have HR := hide hR
  clear hA hK hx hR
  by_cases h0 : n = 0
  · subst h0
    have HN : Hid (L = []) := List.eq_nil_of_length_eq_zero HL.out.symm
    go_enter Tryd.func24, Tryd.ntmps24
    go_wp2
    go_ret3
    rw [← HK.out, ← HX.out, ← HR.out, HN.out]
    exact ⟨none, 0, by simp [takeE, takeX, takeL, erN], by simp only [takeL, List.take_nil, List.drop_nil, List.append_nil]; exact nums_nil w, Below.refl _ _, new_none _⟩
  · have hnz : ¬ ((n : Int) = 0) := by omega
    have HK0 : Hid (K = 0) := by show _ = _; rw [← HK.out]; unfold takeE; rw [if_neg (by rw [← HL.out]; exact h0)]
    obtain ⟨ad, rfl⟩ := HA.out.there (k := 0) (by omega)
    have hk := placeF_lt p n (by omega)
    obtain ⟨k, hkk⟩ : ∃ k, placeF p n = k := ⟨_, rfl⟩
    have HKK := hide hkk
    rw [hkk] at hk
    have HX2 : Hid (L.getD k 0 = x) := by show _ = _; rw [← HX.out]; unfold takeX; rw [← HL.out, hkk]
    have HR2 : Hid (L.take k ++ L.drop (k + 1) = R) := by show _ = _; rw [← HR.out]; unfold takeL; rw [← HL.out, hkk]
    have c0 : ∀ q, (w.drewN q).cell? (ad.add k) = some (.int .i64 x) := fun q => by rw [← HX2.out]; exact HA.out.elem k hk
    have HC0 : Hid (w.cell? (ad.add k) = some (.int .i64 x)) := c0 0
    have hlt : (k : Int) < (n : Int) := by omega
    have hww : IntKind.i64.wrap ((k : Int) + 1) = (k : Int) + 1 := by rw [IntKind.wrap_i64]; omega
    have hc1 := fun W : World => cut_head_at Tryd.underlying30 W (some ad) n cap k (by omega)
    have hc2 := fun W : World => cut_tail_at Tryd.underlying30 W (some ad) n cap (k + 1) (by omega)
    obtain ⟨m, hm⟩ : ∃ m, n - (k + 1) = m := ⟨_, rfl⟩
    obtain ⟨cm, hcm⟩ : ∃ m, cap - (k + 1) = m := ⟨_, rfl⟩
    obtain ⟨ta, hta⟩ : ∃ X, tailA (some ad) (k + 1) cap = X := ⟨_, rfl⟩
    rw [hta, hm, hcm] at hc2
    have hc2' : ∀ W : World, (Instr.slice 30 (.slice (some ad) n cap) (some (.int .i64 ((k : Int) + 1))) none none).run Tryd.prog W = .ok (.slice ta m cm) W := fun W => by rw [← hc2 W]; rfl
    obtain ⟨ps, hps⟩ : ∃ ps : List Prt, [⟨some ad, k, cap, L.take k⟩, ⟨ta, m, cm, L.drop (k + 1)⟩] = ps := ⟨_, rfl⟩
    have HPA : Hid (Parts (w.alloc (.cells #[.slice (some ad) k cap, .slice ta m cm] 30)).drew ⟨w.heap.size, 0, none⟩ ps) := by
      have h1 := HA.out.head k (by omega)
      have h2 := HA.out.tail (k + 1) (by omega)
      rw [hta, hm, hcm] at h2
      rw [← hps]
      exact parts_two h1 h2
    have HL2 : Hid (ps.length = 2) := by show _ = _; rw [← hps]; rfl
    have HSU : Hid (sumN ps 2 = k + m) := by show _ = _; rw [← hps]; simp [sumN]
    have HF : Hid (flatL ps 2 = R) := by show _ = _; rw [← HR2.out, ← hps]; simp [flatL]
    have HM := hide hm
    clear hm hcm hta hps hc2 hkk hnc
    go_enter Tryd.func24, Tryd.ntmps24
    go_wp2_with fail
    refine (place_any p n _ (by omega) (by omega)).mono ?_; rintro e w1 ⟨rfl, rfl⟩
    rw [HKK.out]
    go_wp2_with fail
    go_region_held (fun w' => w'.cell? (ad.add k) = some (.int .i64 x)) (first | exact c0 _ | exact cell_ad HC0.out _ | exact cell_al HC0.out _ | exact (HW5.out.cell (lt_of_cell HC0.out)).trans HC0.out) (first | (go_at_call 31; go_must (refine (concat_any _ 2 ps _ HL2.out (by omega) HPA.out (by rw [HSU.out]; have := HM.out; omega)).mono ?_); rintro e w5 ⟨v5, rfl, ao5, c5, rfl, A5, b5, n5⟩; have HN5 := hide (New.le n5 (below_ad w1 _).size); clear n5; rw [HF.out] at A5; rw [HSU.out] at A5 ⊢; have HA5 := hide A5; have HW5 := hide (below_one (below_ad w1 _) b5); clear A5 b5))
    all_goals
      go_wp2
      go_ret3
      exact take_done HK0.out rfl rfl HA5.out HW5.out HN5.out
end Go.Proofs.YtnfpldndnmbplaaDoor
