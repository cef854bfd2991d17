/-
  What the model's state, turn and told answer, as contracts.
-/
import Derived.Test.YtnfpldndnmbplaaDoorUMod
import Derived.Test.YtnfpldndnmbplaaDoorQNum
namespace Go.Proofs.YtnfpldndnmbplaaDoor
open Go.RowKit
variable {B m : Nat} {av rv : Value} {T : List Th} {R : List Int}
set_option maxRecDepth 20000 in
set_option maxHeartbeats 800000 in
theorem state_any (id : Int) (w : World) (x : Md w B m av rv T R) :
    Calls Tryd.prog 14 #[.pointer (some ⟨m, 0, none⟩), .int .i64 id] w fun e w' => e = .returned (.int .i64 (getF T id).s) ∧ w' = w := by
  have HX := hide x
  have c0 := x.c0
  by_cases h0 : id < 0
  · rw [getF_neg T id h0]
    clear x
    go_enter Tryd.func14, Tryd.ntmps14
    go_wp2
    go_ret
    exact ⟨rfl, rfl⟩
  · obtain ⟨k, rfl⟩ : ∃ k : Nat, id = (k : Int) := ⟨id.toNat, by omega⟩
    rw [getF_nat]
    by_cases h1 : k < T.length
    · obtain ⟨h, ac, rfl, hac, hl, d0, d1, d2, _⟩ := x.elem k h1
      obtain ⟨y, hy⟩ : ∃ y, thd T k = y := ⟨_, rfl⟩
      rw [hy] at d0 d1 d2 ⊢
      obtain ⟨n, hn⟩ : ∃ n, T.length = n := ⟨_, rfl⟩
      rw [hn] at c0 h1 hl
      have hlt : (k : Int) < (n : Int) := by omega
      have hge : ¬ ((n : Int) ≤ (k : Int)) := by omega
      clear x hy hn
      go_enter Tryd.func14, Tryd.ntmps14
      go_wp2
      go_ret
      exact ⟨rfl, rfl⟩
    · rw [thd_ge T k (by omega)]
      obtain ⟨aa, ac, rfl, hl, hac⟩ := x.form
      obtain ⟨n, hn⟩ : ∃ n, T.length = n := ⟨_, rfl⟩
      rw [hn] at c0 h1 hl
      have hge : (n : Int) ≤ (k : Int) := by omega
      clear x hn
      go_enter Tryd.func14, Tryd.ntmps14
      go_wp2
      go_ret
      exact ⟨rfl, rfl⟩
theorem told_yes (w : World) : Calls Tryd.prog 17 #[.nilIface, .bool true] w fun e w' => e = .returned (.bool true) ∧ Below w.heap.size w w' := by
  go_enter Tryd.func17, Tryd.ntmps17
  go_wp2
  go_ret
  exact ⟨rfl, Below.refl _ _⟩
set_option maxHeartbeats 800000 in
theorem told_no (w : World) (hg : Glob w) : Calls Tryd.prog 17 #[erN 15, .bool false] w fun e w' => e = .returned (.bool true) ∧ Below w.heap.size w w' := by
  have HG := hide hg
  clear hg
  rw [erN_not (by decide)]
  have hu : undef = Value.tuple #[] := rfl
  go_enter Tryd.func17, Tryd.ntmps17
  go_wp2_with fail
  refine (number_errno 15 _ HG.out).mono ?_; rintro e w1 ⟨rfl, b1⟩
  have HB := hide b1
  clear b1
  go_wp2
  go_ret
  exact ⟨rfl, HB.out⟩
theorem owns_base {w : World} {B B' : Nat} {e : TypeId} {sz n : Nat} {v : Value} {xs : List Value} (h : w.ownsRow B' e sz v n xs) (hB : B ≤ B') : w.ownsRow B e sz v n xs :=
  ⟨h.1, h.2.imp id fun ⟨g, cap, cur, e, hb, rest⟩ => ⟨g, cap, cur, e, Nat.le_trans hB hb, rest⟩⟩
theorem turn_end {w W wr : World} {v : Value} {n : Nat} {L : List Int} {T' : List Th} (hB : B ≤ w.heap.size) (x : Md wr B m av rv T' R) (f : Foot (MdS m av rv) w W) (b : Below W.heap.size W wr) (h : wr.ownsRow W.heap.size 3 1 v n (cellsI L)) : MdEnd w B m av rv T' L (wr.setCell ⟨m, 1, none⟩ v) :=
  ⟨av, v, x.queue (owns_base h (Nat.le_trans hB f.size)), (f.then (below_foot _ b)).then ((foot_set wr ⟨m, 1, none⟩ v).mono fun _ e => .inl e), Moved.refl _ _, Moved.new (owns_base h f.size)⟩
def TuRel (W : World) (R : List Int) (k : Int) (gk : Nat) (vi vo : Value) (wr : World) : Prop :=
  ∃ i n : Nat, i + gk = R.length ∧ n ≤ i ∧ vi = .int .i64 (i : Int) ∧ wr.ownsRow W.heap.size 3 1 vo n (cellsI (dropL (R.take i) k)) ∧ Below W.heap.size W wr
set_option maxRecDepth 20000 in
set_option maxHeartbeats 1600000 in
theorem turn_any (k : Nat) (s u : Int) (w : World) (x : Md w B m av rv T R) (hk : k < T.length) (hR : R.length ≤ 64) (hB : B ≤ w.heap.size) :
    Calls Tryd.prog 16 #[.pointer (some ⟨m, 0, none⟩), .int .i64 (k : Int), .int .i64 s, .int .i64 u] w fun e w' => e = .returned (.tuple #[]) ∧ MdEnd w B m av rv (setT T k s u) (turnR R (k : Int) s) w' := by
  have HX := hide x
  have HK := hide hk
  obtain ⟨h, ac, rfl, hac, hl, d0, d1, d2, z⟩ := x.elem k hk
  have c0 := x.c0
  have z1 := z (k * 3 + 1)
  have z2 := z (k * 3 + 2)
  obtain ⟨n, hn⟩ : ∃ n, T.length = n := ⟨_, rfl⟩
  rw [hn] at c0 hk hl
  have HN := hide hn
  have hlt : (k : Int) < (n : Int) := by omega
  clear x z hn
  go_enter Tryd.func16, Tryd.ntmps16
  go_wp2_with fail
  go_region
  obtain ⟨W, hW⟩ : ∃ W, ((w.setCell ⟨h, k * 3 + 1, none⟩ (.int .i64 s)).setCell ⟨h, k * 3 + 2, none⟩ (.int .i64 u)).drew = W := ⟨_, rfl⟩
  rw [hW]
  have xW : Md W B m (.slice (some ⟨h, 0, none⟩) T.length ac) rv (setT T k s u) R := hW ▸ (HX.out.two k HK.out h ac rfl s u).grow (below_d _ 1)
  have HFW : Hid (Foot (MdS m (.slice (some ⟨h, 0, none⟩) T.length ac) rv) w W) := by
    rw [← hW]
    exact (((foot_set w ⟨h, k * 3 + 1, none⟩ (.int .i64 s)).then (foot_set _ ⟨h, k * 3 + 2, none⟩ (.int .i64 u))).mono (fun j e => .inr (.inl (by rw [e]; rfl)))).drewN 1
  clear hW d0 d1 d2 c0 z1 z2 hlt HX
  obtain ⟨ra, rc, rfl, hA⟩ := xW.nums
  have hrc : rc ≤ 9223372036854775807 := hA.2.2.1
  have hrl := hA.2.1
  have c1 := xW.c1
  have HA := hide hA
  have HW := hide xW
  obtain ⟨rn, hrn⟩ : ∃ rn, R.length = rn := ⟨_, rfl⟩
  rw [hrn] at c1 HA hR hrl
  have HRN := hide hrn
  have HZ := hide (owns_nil W W.heap.size 3 1)
  obtain ⟨Q, hQ⟩ : ∃ Q, dropL R (k : Int) = Q := ⟨_, rfl⟩
  have HQ := hide hQ
  clear xW hA hrn hQ
  go_wp2
  go_loopg [32, 8] rn (fun gk vi vo wr => TuRel W R (k : Int) gk vi vo wr)
  case atStart => exact ⟨0, 0, by have := HRN.out; omega, Nat.le_refl _, rfl, HZ.out, Below.refl _ _⟩
  case round =>
    clear HZ
    obtain ⟨i, q, hi, hq, rfl, hown, b⟩ := hrel
    rw [HRN.out] at hi
    have HO := hide hown
    have HB := hide b
    have HI := hide hi
    obtain ⟨oo, oc, rfl, hll⟩ := owns_lies hown
    clear hown b hll
    cases gk with
    | zero =>
      obtain rfl : i = rn := by omega
      have hlt : ¬ ((i : Int) < (i : Int)) := by omega
      rw [show dropL (R.take i) (k : Int) = Q by rw [← HQ.out, ← HRN.out, List.take_length]] at HO
      have xr := HW.out.grow HB.out
      have HXR := hide xr
      have e1 := xr.c1
      have y1 := xr.z 1
      rw [HRN.out] at e1
      clear xr hi
      by_cases hs1 : s = 1
      · subst hs1
        have HT : Hid (turnR R (k : Int) 1 = Q ++ [(k : Int)]) := by show _ = _; unfold turnR; rw [if_pos rfl, HQ.out]
        obtain ⟨v', w', hr, hown', f', _⟩ := app_one (ty := 29) (k : Int) HO.out (by omega) HB.out.size
        obtain ⟨so, sc, rfl, _⟩ := owns_lies hown'
        have xw := HXR.out.foot f' (fun e => by have := (owns_lt HO.out e).2; have := HW.out.lt; omega) (fun j e h => by have := (owns_lt HO.out h).2; have := (owns_lt HW.out.all e).1; omega) (fun j e h => by have := (owns_lt HO.out h).2; have := (owns_lt HW.out.rdy e).1; omega)
        have HRUN := hide hr
        have HE := hide (turn_end hB xw HFW.out (HB.out.trans (f'.below HB.out.size fun j e => (owns_lt HO.out e).2)) hown')
        have e2 := xw.c1
        have y2 := xw.z 1
        rw [HRN.out] at e2
        clear hr hown' f' xw
        go_wp2_with (at_builtin; refine wpList_append_run rfl _ _ _ rfl _ _ _ _ rfl rfl HRUN.out ?_)
        go_wp2
        go_returns
        rw [HT.out]
        exact ⟨rfl, HE.out⟩
      · have HT : Hid (turnR R (k : Int) s = Q) := by show _ = _; unfold turnR; rw [if_neg hs1, HQ.out, List.append_nil]
        have HE := hide (turn_end hB HXR.out HFW.out HB.out HO.out)
        go_wp2
        go_returns
        rw [HT.out]
        exact ⟨rfl, HE.out⟩
    | succ g1 =>
      have hlt : (i : Int) < (rn : Int) := by omega
      have hltn : i < rn := by omega
      have HS := hide (dropL_snoc R (k : Int) i (by rw [HRN.out]; exact hltn))
      have A1 := HA.out.carry HB.out
      obtain ⟨ad, rfl⟩ := HA.out.there hltn
      have e0 := A1.elem i hltn
      obtain ⟨y, hy⟩ : ∃ y, R.getD i 0 = y := ⟨_, rfl⟩
      rw [hy] at HS e0
      clear A1 hy hi
      by_cases hxy : y = (k : Int)
      · go_wp2
        go_roundg g1
        case measure => omega
        case rel =>
          refine ⟨i + 1, q, by have := HI.out; have := HRN.out; omega, by omega, by go_num, ?_, HB.out⟩
          rw [HS.out, if_pos hxy, List.append_nil]; exact HO.out
      · obtain ⟨v', w', hr, hown', f', _⟩ := app_one (ty := 29) y HO.out (by omega) HB.out.size
        have HRUN := hide hr
        have HO' := hide hown'
        have HB' := hide (HB.out.trans (f'.below HB.out.size fun j e => (owns_lt HO.out e).2))
        clear hr hown' f'
        go_wp2_with (at_builtin; refine wpList_append_run rfl _ _ _ rfl _ _ _ _ rfl rfl HRUN.out ?_)
        go_wp2
        go_roundg g1
        case measure => omega
        case rel =>
          refine ⟨i + 1, q + 1, by have := HI.out; have := HRN.out; omega, by omega, by go_num, ?_, HB'.out⟩
          rw [HS.out, if_neg hxy]; exact HO'.out
end Go.Proofs.YtnfpldndnmbplaaDoor
