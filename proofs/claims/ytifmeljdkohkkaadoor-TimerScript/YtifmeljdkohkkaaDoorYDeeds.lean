/-
  What timer's others, Set, Cancel, Left and Now answer, as contracts.
-/
import Derived.Test.YtifmeljdkohkkaaDoorYCalls
namespace Go.Proofs.YtifmeljdkohkkaaDoor
open Go.RowKit
variable {B g : Nat} {now : Int} {rv : Value} {L : List Al}
def erN (k : Int) : Value := if k = 0 then .nilIface else .iface 36 (.int .i64 k)
theorem erN_zero : erN 0 = .nilIface := rfl
theorem erN_not {k : Int} (h : k ≠ 0) : erN k = .iface 36 (.int .i64 k) := if_neg h
theorem Tm.put_end {w w1 : World} {v : Value} {M : List Al} {n b : Nat} (x : Tm w B g now rv L) (h : w1.ownsRow b 46 2 v n (cellsY M)) (hb : B ≤ b) (bl : Below w.heap.size w w1) : TmEnd w B g now M (w1.setCell ⟨g, 1, none⟩ v) :=
  ⟨v, (x.grow bl).put (owns_base h hb), (below_foot _ bl).then (foot_set w1 ⟨g, 1, none⟩ v)⟩
set_option maxRecDepth 20000 in
set_option maxHeartbeats 800000 in
theorem others_any (x : Int) (w : World) (hT : Tm w B g now rv L) (hl : L.length ≤ 1000) :
    Calls Tryd.prog 13 #[.pointer (some ⟨g, 0, none⟩), .int .i64 x] w fun e w' => CloneEnd w (dropA L x) e w' := by
  obtain ⟨X, hX⟩ : ∃ X, w.alloc (.cells #[.int .i64 x] 3) = X := ⟨_, rfl⟩
  have bX : Below w.heap.size w X := hX ▸ below_alloc w _
  have cX : X.cell? ⟨w.heap.size, 0, none⟩ = some (.int .i64 x) := by rw [← hX]; simp
  have HC := hide cX
  have HB := hide bX
  have HT := hide (hT.grow bX)
  have HLL := hide hl
  have k1 := (hT.grow bX).c1
  clear bX cX hl hT
  go_enter Tryd.func13, Tryd.ntmps13
  go_wp2_with fail
  refine (clone_any B rv L _ HT.out.row HLL.out).mono ?_; rintro e w1 ⟨v1, rfl, o1, b1⟩
  have HO1 := hide o1
  have HB1 := hide b1
  have HC1 : Hid (w1.cell? ⟨w.heap.size, 0, none⟩ = some (.int .i64 x)) := by show _ = _; rw [b1.cell (lt_of_cell HC.out), HC.out]
  have hgl : w.heap.size < X.heap.size := lt_of_cell HC.out
  have HGL := hide hgl
  clear o1 b1 hgl
  go_wp2_with fail
  refine (delete_any x w.heap.size X.heap.size v1 L _ HO1.out HC1.out HGL.out HLL.out).mono ?_; rintro e w2 ⟨v2, rfl, o2, f2⟩
  have HO2 := hide (owns_base o2 HB.out.size)
  have HB2 : Hid (Below w.heap.size w w2) := by
    have b3 := HB.out.trans (HB1.out.mono HB.out.size)
    exact b3.trans (f2.below b3.size (fun k e => Nat.le_trans HB.out.size (owns_lt HO1.out e).2))
  clear o2 f2
  go_wp2
  go_ret
  exact ⟨v2, rfl, HO2.out, HB2.out⟩
def SetEnd (w : World) (B g : Nat) (now : Int) (L : List Al) (x k : Int) (e : Ending) (w' : World) : Prop := e = .returned (erN (setE L x k)) ∧ TmEnd w B g now (setL L now x k) w'
theorem set_err {w w' : World} {x k K : Int} (hE : setE L x k = K) (hK : K ≠ 0) (h : TmEnd w B g now L w') : SetEnd w B g now L x k (.returned (.iface 36 (.int .i64 K))) w' :=
  ⟨by rw [hE, erN_not hK], by rw [setL_err (by rw [hE]; exact hK)]; exact h⟩
set_option maxRecDepth 20000 in
set_option maxHeartbeats 1600000 in
theorem set_any (x k : Int) (w : World) (hT : Tm w B g now rv L) (hl : L.length ≤ 1000) (hnow : 0 ≤ now ∧ now ≤ 4611686018427387904) :
    Calls Tryd.prog 6 #[.pointer (some ⟨g, 0, none⟩), .int .i64 x, .int .i64 k] w fun e w' => SetEnd w B g now L x k e w' := by
  have HT := hide hT
  have HLL := hide hl
  clear hT hl
  by_cases h1 : k < 1
  · have HE := hide (setE_arg (L := L) (x := x) (k := k) (.inl h1))
    go_enter Tryd.func6, Tryd.ntmps6
    go_wp2
    go_ret
    exact set_err HE.out (by decide) (HT.out.same (Below.refl _ _))
  · by_cases h2 : 1000000 < k
    · have HE := hide (setE_arg (L := L) (x := x) (k := k) (.inr h2))
      go_enter Tryd.func6, Tryd.ntmps6
      go_wp2
      go_ret
      exact set_err HE.out (by decide) (HT.out.same (Below.refl _ _))
    · have HN : Hid (¬ (k < 1 ∨ 1000000 < k)) := by show ¬ _; omega
      have hw : IntKind.i64.wrap (now + k) = now + k := by rw [IntKind.wrap_i64]; omega
      have HW := hide hw
      go_enter Tryd.func6, Tryd.ntmps6
      go_wp2_with fail
      refine (others_any x _ HT.out HLL.out).mono ?_; rintro e w1 ⟨v1, rfl, o1, b1⟩
      obtain ⟨ao, cap, rfl, hnc, hcap⟩ := OwnY.form o1
      have HO := hide o1
      have HB := hide b1
      obtain ⟨n, hn⟩ : ∃ n, (dropA L x).length = n := ⟨_, rfl⟩
      rw [hn] at hnc ⊢
      have HLN := hide hn
      clear o1 b1 hn
      by_cases h3 : (64 : Int) ≤ (n : Int)
      · have HE := hide (setE_full (L := L) (x := x) HN.out (by rw [HLN.out]; omega))
        go_wp2
        go_ret
        exact set_err HE.out (by decide) (HT.out.same HB.out)
      · have HE := hide (setE_ok (L := L) (x := x) HN.out (by rw [HLN.out]; omega))
        have k0 := (HT.out.grow HB.out).c0
        have k1 := (HT.out.grow HB.out).c1
        have kz := (HT.out.grow HB.out).z 1
        have ho : w1.ownsRow w.heap.size 46 2 (.slice ao n cap) n (cellsY (dropA L x)) := by have := HO.out; unfold OwnY at this; rw [HLN.out] at this; exact this
        obtain ⟨v', w', hr, ho', hf, _⟩ := app_al (ty := 25) x (now + k) ho (by omega) HB.out.size
        obtain ⟨co, cc, rfl⟩ := owns_slice ho'
        have HR := hide hr
        have HO' := hide ho'
        have hB1 : Below w.heap.size w w' := HB.out.trans (hf.below HB.out.size (fun j e => (owns_lt ho e).2))
        have HB1 := hide hB1
        have j1 := (HT.out.grow hB1).c1
        have jz := (HT.out.grow hB1).z 1
        clear hr ho' hf ho hB1
        go_wp2_with (at_builtin; refine wpList_append_run rfl _ _ _ rfl _ _ _ _ rfl rfl HR.out ?_)
        go_wp2
        go_ret
        refine ⟨by rw [HE.out]; rfl, ?_⟩
        rw [setL_ok HE.out]
        exact HT.out.put_end HO'.out HT.out.size HB1.out
def CanEnd (w : World) (B g : Nat) (now : Int) (L : List Al) (x : Int) (e : Ending) (w' : World) : Prop := e = .returned (.bool (decide ((dropA L x).length < L.length))) ∧ TmEnd w B g now (dropA L x) w'
set_option maxRecDepth 20000 in
set_option maxHeartbeats 1600000 in
theorem cancel_any (x : Int) (w : World) (hT : Tm w B g now rv L) (hl : L.length ≤ 1000) :
    Calls Tryd.prog 8 #[.pointer (some ⟨g, 0, none⟩), .int .i64 x] w fun e w' => CanEnd w B g now L x e w' := by
  have HT := hide hT
  have HLL := hide hl
  clear hT hl
  go_enter Tryd.func8, Tryd.ntmps8
  go_wp2_with fail
  refine (others_any x _ HT.out HLL.out).mono ?_; rintro e w1 ⟨v1, rfl, o1, b1⟩
  obtain ⟨ao, cap, rfl, hnc, hcap⟩ := OwnY.form o1
  have HO := hide o1
  have HB := hide b1
  have HE := hide (HT.out.put_end o1 HT.out.size b1)
  have T1 := HT.out.grow b1
  have k1 := T1.c1
  have kz := T1.z 1
  obtain ⟨bo, cb, hrv, _, _⟩ := T1.row.form
  rw [hrv] at k1
  obtain ⟨n, hn⟩ : ∃ n, (dropA L x).length = n := ⟨_, rfl⟩
  obtain ⟨m, hm⟩ : ∃ m, L.length = m := ⟨_, rfl⟩
  have HN := hide hn
  have HM := hide hm
  rw [hn] at hnc HE ⊢
  rw [hm] at k1
  clear o1 b1 hn hm T1 hrv
  by_cases h : (n : Int) < (m : Int)
  · go_wp2
    go_ret
    exact ⟨by rw [HN.out, HM.out, decide_eq_true (by omega)]; rfl, HE.out⟩
  · go_wp2
    go_ret
    exact ⟨by rw [HN.out, HM.out, decide_eq_false (by omega)]; rfl, HE.out⟩
def leftI (L : List Al) (now x : Int) : Int := ((findA L x).map fun a => a.t - now).getD 0
def leftB (L : List Al) (x : Int) : Bool := (findA L x).isSome
def LeftEnd (w : World) (L : List Al) (now x : Int) (e : Ending) (w' : World) : Prop := e = .returned (.tuple #[.int .i64 (leftI L now x), .bool (leftB L x)]) ∧ Below w.heap.size w w'
set_option maxRecDepth 20000 in
set_option maxHeartbeats 1600000 in
theorem left_any (x : Int) (w : World) (hT : Tm w B g now rv L) (hl : L.length ≤ 1000) (hr : ∀ a ∈ L, 0 ≤ a.t - now ∧ a.t - now ≤ 1000000) :
    Calls Tryd.prog 11 #[.pointer (some ⟨g, 0, none⟩), .int .i64 x] w fun e w' => LeftEnd w L now x e w' := by
  obtain ⟨X, hX⟩ : ∃ X, w.alloc (.cells #[.int .i64 x] 3) = X := ⟨_, rfl⟩
  have bX : Below w.heap.size w X := hX ▸ below_alloc w _
  have cX : X.cell? ⟨w.heap.size, 0, none⟩ = some (.int .i64 x) := by rw [← hX]; simp
  have HC := hide cX
  have HB := hide bX
  have HT := hide (hT.grow bX)
  have HLL := hide hl
  have HRR := hide hr
  have k1 := (hT.grow bX).c1
  clear bX cX hl hT hr
  go_enter Tryd.func11, Tryd.ntmps11
  go_wp2_with fail
  refine (lft_index x w.heap.size B rv L _ HT.out.row HC.out).mono ?_; rintro e w1 ⟨r, rfl, hr, b1⟩
  have HB1 := hide (HB.out.trans (b1.mono HB.out.size))
  have HT1 := hide (HT.out.grow b1)
  clear b1 k1 hX
  rcases hr with ⟨rfl, h0⟩ | ⟨i, hi, rfl, h1, h2⟩
  · have HE := hide (findA_none h0)
    clear h0
    go_wp2
    go_ret2
    exact ⟨by unfold leftI leftB; rw [HE.out]; rfl, HB1.out⟩
  · have HE := hide (findA_some hi h1 h2)
    have hneg : ¬ ((i : Int) < 0) := by omega
    obtain ⟨h, ac, hrv, c0, c1, _⟩ := HT1.out.row.elem i hi
    obtain ⟨_, _, e2, hnc, hcap⟩ := HT1.out.row.form
    have hac : L.length ≤ ac ∧ ac ≤ 9223372036854775807 := by rw [hrv] at e2; cases e2; exact ⟨hnc, hcap⟩
    obtain ⟨n, hn⟩ : ∃ n, L.length = n := ⟨_, rfl⟩
    rw [hn] at hac hrv hi
    have hlt : (i : Int) < (n : Int) := by omega
    have hrg := HRR.out _ (getA_mem L i (by rw [hn]; exact hi))
    obtain ⟨y, hy⟩ : ∃ y, L.getD i Al.zero = y := ⟨_, rfl⟩
    rw [hy] at c0 c1 hrg
    have HE2 : Hid (findA L x = some y) := by show _ = _; rw [HE.out, hy]
    have hw : IntKind.i64.wrap (y.t - now) = y.t - now := by rw [IntKind.wrap_i64]; omega
    have q0 : ∀ q, (w1.drewN q).cell? ⟨g, 0, none⟩ = some (.int .i64 now) := fun q => HT1.out.c0
    have q1 : ∀ q, (w1.drewN q).cell? ⟨g, 1, none⟩ = some (.slice (some ⟨h, 0, none⟩) n ac) := fun q => by rw [← hrv]; exact HT1.out.c1
    have q2 : ∀ q, (w1.drewN q).cell? ⟨h, i * 2 + 1, none⟩ = some (.int .i64 y.t) := fun q => c1
    obtain ⟨hac1, hac2⟩ := hac
    clear h1 h2 c0 c1 hrv e2 hnc hcap hy HE hn hrg HRR
    go_wp2_with fail
    go_quiet (fail)
    go_wp2
    go_ret2
    refine ⟨?_, below_drewN HB1.out _⟩
    unfold leftI leftB
    rw [HE2.out]
    rfl
theorem now_any (w : World) (hT : Tm w B g now rv L) :
    Calls Tryd.prog 12 #[.pointer (some ⟨g, 0, none⟩)] w fun e w' => e = .returned (.int .i64 now) ∧ w' = w := by
  have c0 := hT.c0
  go_enter Tryd.func12, Tryd.ntmps12
  go_wp2
  go_ret
  exact ⟨rfl, rfl⟩
end Go.Proofs.YtifmeljdkohkkaaDoor
