/-
  What a table's Block, Wake, Exit and Pick answer, as contracts: what became of its threads.
-/
import Derived.Test.YtnfpldndnmbplaaDoorUCalls
namespace Go.Proofs.YtnfpldndnmbplaaDoor
open Go.RowKit
variable {g : Nat} {T : List Th} {R : List Int} {ro : Option Addr} {rc : Nat}
/- the queue is laid anew, behind other changes of the table -/
theorem Tb.ended {w X w3 : World} {T' : List Th} {L : List Int} {n c : Nat} {ao : Option Addr} (y : Tb X g T' R ro rc) (f : Foot (fun j => j = g) w X) (hA : Nums w3 ao n c L) (b : Below X.heap.size X w3) (hn : New X ao) : TbEnd w g T' L ro R.length (w3.setCell ⟨g, 192, none⟩ (.slice ao n c)) := by
  have hf : ∀ ad, ao = some ad → ad.block ≠ g := fun ad e h => by have := hn ad e; have := y.lt; omega
  exact ⟨ao, c, (y.grow b).queue hA hf, (f.then (below_foot _ b)).then (foot_set w3 ⟨g, 192, none⟩ _), .inr (hn.le f.size)⟩
theorem TbEnd.from {w0 w w' : World} {T' : List Th} {R' : List Int} {n : Nat} (h : TbEnd w g T' R' ro n w') (b : Below w0.heap.size w0 w) : TbEnd w0 g T' R' ro n w' := by
  obtain ⟨ao, c, x, f, k⟩ := h
  exact ⟨ao, c, x, (below_foot _ b).then f, k.imp id (fun n => n.le b.size)⟩
theorem Tryd.fieldS (p s u : Int) (W : World) : (Instr.field 27 (.agg #[.int .i64 p, .int .i64 s, .int .i64 u]) 1).run Tryd.prog W = .ok (.int .i64 s) W := by kernel_rfl
def BackT (w : World) (g : Nat) (T : List Th) (R : List Int) (ro : Option Addr) (n : Nat) (v : Value) (e : Ending) (w' : World) : Prop := e = .returned v ∧ TbEnd w g T R ro n w'
set_option maxRecDepth 20000 in
set_option maxHeartbeats 800000 in
theorem block_no (id : Int) (wt : Int) (w : World) (x : Tb w g T R ro rc) (hT : T.length ≤ 64) (hs : ¬ (getF T id).s = 1) :
    Calls Tryd.prog 12 #[.pointer (some ⟨g, 0, none⟩), .int .i64 id, .int .i64 wt] w fun e w' => BackT w g T R ro R.length (erN 15) e w' := by
  have HX := hide x
  have HT := hide hT
  obtain ⟨y, hy⟩ : ∃ y, getF T id = y := ⟨_, rfl⟩
  have HY := hide hy
  rw [hy] at hs
  clear x hT hy
  rw [erN_not (by decide)]
  have hfl := Tryd.fieldS
  go_enter Tryd.func12, Tryd.ntmps12
  go_wp2_with fail
  refine (get_any id _ HX.out HT.out).mono ?_; rintro e w1 ⟨rfl, b1⟩
  rw [HY.out]
  have HE := hide (HX.out.same b1)
  clear b1
  go_wp2
  go_ret
  exact ⟨rfl, HE.out⟩
set_option maxRecDepth 20000 in
set_option maxHeartbeats 800000 in
theorem block_yes (k : Nat) (wt : Int) (w : World) (x : Tb w g T R ro rc) (hI : Inv T R) (hk : k < T.length) (hs : (thd T k).s = 1) :
    Calls Tryd.prog 12 #[.pointer (some ⟨g, 0, none⟩), .int .i64 (k : Int), .int .i64 wt] w fun e w' => BackT w g (setT T k 2 wt) (turnR R (k : Int) 2) ro R.length .nilIface e w' := by
  have HX := hide x
  have hk64 : (k : Int) < 64 := by have := hI.few; omega
  have HT := hide hI.few
  have hR := Nat.le_trans hI.len hI.few
  obtain ⟨y, hy⟩ : ∃ y, thd T k = y := ⟨_, rfl⟩
  have HY := hide ((getF_nat T k).trans hy)
  rw [hy] at hs
  rw [show turnR R (k : Int) 2 = dropL R (k : Int) by unfold turnR; rw [if_neg (by decide), List.append_nil]]
  obtain ⟨Q, hQ⟩ : ∃ Q, dropL R (k : Int) = Q := ⟨_, rfl⟩
  rw [hQ]
  have HQ := hide hQ
  have HK := hide hk
  have HIY := hide hy
  clear x hy hQ hI hk
  have hfl := Tryd.fieldS
  go_enter Tryd.func12, Tryd.ntmps12
  go_wp2_with fail
  refine (get_any (k : Int) _ HX.out HT.out).mono ?_; rintro e w1 ⟨rfl, b1⟩
  rw [HY.out]
  have HB := hide b1
  have x1 := HX.out.grow b1
  obtain ⟨X, Y, hX, hYY, d2, z2, t2, f2⟩ := x1.two k HK.out HT.out 2 wt
  have c1 := x1.c1 k (by omega)
  have z1 := x1.z (k * 3 + 1)
  rw [HIY.out] at c1 d2
  have c3 := t2.cq
  obtain ⟨n, hn⟩ : ∃ n, R.length = n := ⟨_, rfl⟩
  have HN := hide t2.row
  rw [hn] at HN c3 hR
  have H2 := hide t2
  have HF := hide f2
  clear b1 x1 t2 f2 hn
  go_wp2_with fail
  refine (drop_any (k : Int) ro n rc R _ HN.out (by omega)).mono ?_; rintro e w3 ⟨qo, qc, rfl, h3, b3, n3⟩
  rw [HQ.out] at h3 ⊢
  have x3 := H2.out.grow b3
  have c4 := x3.cq
  have z4 := x3.z 192
  obtain ⟨m, hm⟩ : ∃ m, Q.length = m := ⟨_, rfl⟩
  rw [hm] at h3 ⊢
  have HE := hide ((H2.out.ended HF.out h3 b3 n3).from HB.out)
  clear h3 b3 n3 x3 hm
  go_wp2
  go_ret
  exact ⟨rfl, HE.out⟩
set_option maxRecDepth 20000 in
set_option maxHeartbeats 800000 in
theorem wake_no (id : Int) (w : World) (x : Tb w g T R ro rc) (hT : T.length ≤ 64) (hs : ¬ (getF T id).s = 2) :
    Calls Tryd.prog 18 #[.pointer (some ⟨g, 0, none⟩), .int .i64 id] w fun e w' => BackT w g T R ro R.length (erN 15) e w' := by
  have HX := hide x
  have HT := hide hT
  obtain ⟨y, hy⟩ : ∃ y, getF T id = y := ⟨_, rfl⟩
  have HY := hide hy
  rw [hy] at hs
  clear x hT hy
  rw [erN_not (by decide)]
  have hfl := Tryd.fieldS
  go_enter Tryd.func18, Tryd.ntmps18
  go_wp2_with fail
  refine (get_any id _ HX.out HT.out).mono ?_; rintro e w1 ⟨rfl, b1⟩
  rw [HY.out]
  have HE := hide (HX.out.same b1)
  clear b1
  go_wp2
  go_ret
  exact ⟨rfl, HE.out⟩
set_option maxRecDepth 20000 in
set_option maxHeartbeats 800000 in
theorem wake_yes (k : Nat) (w : World) (x : Tb w g T R ro rc) (hI : Inv T R) (hk : k < T.length) (hs : (thd T k).s = 2) :
    Calls Tryd.prog 18 #[.pointer (some ⟨g, 0, none⟩), .int .i64 (k : Int)] w fun e w' => BackT w g (setT T k 1 0) (turnR R (k : Int) 1) ro R.length .nilIface e w' := by
  have HX := hide x
  have hk64 : (k : Int) < 64 := by have := hI.few; omega
  have HT := hide hI.few
  have hR := Nat.le_trans hI.len hI.few
  obtain ⟨y, hy⟩ : ∃ y, thd T k = y := ⟨_, rfl⟩
  have HY := hide ((getF_nat T k).trans hy)
  rw [hy] at hs
  rw [show turnR R (k : Int) 1 = pushL R (k : Int) by rw [(hI.push k (by rw [hy]; omega) (by have := hI.few; omega)).2]; unfold turnR; rw [if_pos rfl, dropL_none R _ (hI.not k (by rw [hy]; omega))]]
  obtain ⟨Q, hQ⟩ : ∃ Q, pushL R (k : Int) = Q := ⟨_, rfl⟩
  rw [hQ]
  have HQ := hide hQ
  have HK := hide hk
  have HIY := hide hy
  clear x hy hQ hI hk
  have hfl := Tryd.fieldS
  go_enter Tryd.func18, Tryd.ntmps18
  go_wp2_with fail
  refine (get_any (k : Int) _ HX.out HT.out).mono ?_; rintro e w1 ⟨rfl, b1⟩
  rw [HY.out]
  have HB := hide b1
  have x1 := HX.out.grow b1
  obtain ⟨X, Y, hX, hYY, d2, z2, t2, f2⟩ := x1.two k HK.out HT.out 1 0
  have c1 := x1.c1 k (by omega)
  have z1 := x1.z (k * 3 + 1)
  rw [HIY.out] at c1 d2
  have c3 := t2.cq
  obtain ⟨n, hn⟩ : ∃ n, R.length = n := ⟨_, rfl⟩
  have HN := hide t2.row
  rw [hn] at HN c3 hR
  have H2 := hide t2
  have HF := hide f2
  clear b1 x1 t2 f2 hn
  go_wp2_with fail
  refine (behind_any (k : Int) ro n rc R _ HN.out).mono ?_; rintro e w3 ⟨qo, qc, rfl, h3, b3, n3⟩
  rw [HQ.out] at h3 ⊢
  have x3 := H2.out.grow b3
  have c4 := x3.cq
  have z4 := x3.z 192
  obtain ⟨m, hm⟩ : ∃ m, Q.length = m := ⟨_, rfl⟩
  rw [hm] at h3 ⊢
  have HE := hide ((H2.out.ended HF.out h3 b3 n3).from HB.out)
  clear h3 b3 n3 x3 hm
  go_wp2
  go_ret
  exact ⟨rfl, HE.out⟩
set_option maxRecDepth 20000 in
set_option maxHeartbeats 800000 in
theorem exit_no (id : Int) (w : World) (x : Tb w g T R ro rc) (hT : T.length ≤ 64) (hs : ¬ (getF T id).s = 1 ∧ ¬ (getF T id).s = 2) :
    Calls Tryd.prog 11 #[.pointer (some ⟨g, 0, none⟩), .int .i64 id] w fun e w' => BackT w g T R ro R.length (erN 15) e w' := by
  have HX := hide x
  have HT := hide hT
  obtain ⟨y, hy⟩ : ∃ y, getF T id = y := ⟨_, rfl⟩
  have HY := hide hy
  rw [hy] at hs
  have hs1 : (y.s != 1) = true := by simpa using hs.1
  have hs2 : (y.s != 2) = true := by simpa using hs.2
  clear hs
  clear x hT hy
  rw [erN_not (by decide)]
  have hfl := Tryd.fieldS
  go_enter Tryd.func11, Tryd.ntmps11
  go_wp2_with fail
  refine (get_any id _ HX.out HT.out).mono ?_; rintro e w1 ⟨rfl, b1⟩
  rw [HY.out]
  have HE := hide (HX.out.same b1)
  clear b1
  go_wp2
  go_ret
  exact ⟨rfl, HE.out⟩
set_option maxRecDepth 20000 in
set_option maxHeartbeats 800000 in
theorem exit_one (k : Nat) (w : World) (x : Tb w g T R ro rc) (hI : Inv T R) (hk : k < T.length) (hs : (thd T k).s = 1) :
    Calls Tryd.prog 11 #[.pointer (some ⟨g, 0, none⟩), .int .i64 (k : Int)] w fun e w' => BackT w g (setT T k 3 0) (turnR R (k : Int) 3) ro R.length .nilIface e w' := by
  have HX := hide x
  have hk64 : (k : Int) < 64 := by have := hI.few; omega
  have HT := hide hI.few
  have hR := Nat.le_trans hI.len hI.few
  obtain ⟨y, hy⟩ : ∃ y, thd T k = y := ⟨_, rfl⟩
  have HY := hide ((getF_nat T k).trans hy)
  rw [hy] at hs
  rw [show turnR R (k : Int) 3 = dropL R (k : Int) by unfold turnR; rw [if_neg (by decide), List.append_nil]]
  obtain ⟨Q, hQ⟩ : ∃ Q, dropL R (k : Int) = Q := ⟨_, rfl⟩
  rw [hQ]
  have HQ := hide hQ
  have HK := hide hk
  have HIY := hide hy
  clear x hy hQ hI hk
  have hfl := Tryd.fieldS
  go_enter Tryd.func11, Tryd.ntmps11
  go_wp2_with fail
  refine (get_any (k : Int) _ HX.out HT.out).mono ?_; rintro e w1 ⟨rfl, b1⟩
  rw [HY.out]
  have HB := hide b1
  have x1 := HX.out.grow b1
  obtain ⟨X, Y, hX, hYY, d2, z2, t2, f2⟩ := x1.two k HK.out HT.out 3 0
  have c1 := x1.c1 k (by omega)
  have z1 := x1.z (k * 3 + 1)
  rw [HIY.out] at c1 d2
  have c3 := t2.cq
  obtain ⟨n, hn⟩ : ∃ n, R.length = n := ⟨_, rfl⟩
  have HN := hide t2.row
  rw [hn] at HN c3 hR
  have H2 := hide t2
  have HF := hide f2
  clear b1 x1 t2 f2 hn
  go_wp2_with fail
  refine (drop_any (k : Int) ro n rc R _ HN.out (by omega)).mono ?_; rintro e w3 ⟨qo, qc, rfl, h3, b3, n3⟩
  rw [HQ.out] at h3 ⊢
  have x3 := H2.out.grow b3
  have c4 := x3.cq
  have z4 := x3.z 192
  obtain ⟨m, hm⟩ : ∃ m, Q.length = m := ⟨_, rfl⟩
  rw [hm] at h3 ⊢
  have HE := hide ((H2.out.ended HF.out h3 b3 n3).from HB.out)
  clear h3 b3 n3 x3 hm
  go_wp2
  go_ret
  exact ⟨rfl, HE.out⟩
set_option maxRecDepth 20000 in
set_option maxHeartbeats 800000 in
theorem exit_two (k : Nat) (w : World) (x : Tb w g T R ro rc) (hI : Inv T R) (hk : k < T.length) (hs : (thd T k).s = 2) :
    Calls Tryd.prog 11 #[.pointer (some ⟨g, 0, none⟩), .int .i64 (k : Int)] w fun e w' => BackT w g (setT T k 3 0) (turnR R (k : Int) 3) ro R.length .nilIface e w' := by
  have HX := hide x
  have hk64 : (k : Int) < 64 := by have := hI.few; omega
  have HT := hide hI.few
  have hR := Nat.le_trans hI.len hI.few
  obtain ⟨y, hy⟩ : ∃ y, thd T k = y := ⟨_, rfl⟩
  have HY := hide ((getF_nat T k).trans hy)
  rw [hy] at hs
  rw [show turnR R (k : Int) 3 = dropL R (k : Int) by unfold turnR; rw [if_neg (by decide), List.append_nil]]
  obtain ⟨Q, hQ⟩ : ∃ Q, dropL R (k : Int) = Q := ⟨_, rfl⟩
  rw [hQ]
  have HQ := hide hQ
  have HK := hide hk
  have HIY := hide hy
  clear x hy hQ hI hk
  have hfl := Tryd.fieldS
  go_enter Tryd.func11, Tryd.ntmps11
  go_wp2_with fail
  refine (get_any (k : Int) _ HX.out HT.out).mono ?_; rintro e w1 ⟨rfl, b1⟩
  rw [HY.out]
  have HB := hide b1
  have x1 := HX.out.grow b1
  obtain ⟨X, Y, hX, hYY, d2, z2, t2, f2⟩ := x1.two k HK.out HT.out 3 0
  have c1 := x1.c1 k (by omega)
  have z1 := x1.z (k * 3 + 1)
  rw [HIY.out] at c1 d2
  have c3 := t2.cq
  obtain ⟨n, hn⟩ : ∃ n, R.length = n := ⟨_, rfl⟩
  have HN := hide t2.row
  rw [hn] at HN c3 hR
  have H2 := hide t2
  have HF := hide f2
  clear b1 x1 t2 f2 hn
  go_wp2_with fail
  refine (drop_any (k : Int) ro n rc R _ HN.out (by omega)).mono ?_; rintro e w3 ⟨qo, qc, rfl, h3, b3, n3⟩
  rw [HQ.out] at h3 ⊢
  have x3 := H2.out.grow b3
  have c4 := x3.cq
  have z4 := x3.z 192
  obtain ⟨m, hm⟩ : ∃ m, Q.length = m := ⟨_, rfl⟩
  rw [hm] at h3 ⊢
  have HE := hide ((H2.out.ended HF.out h3 b3 n3).from HB.out)
  clear h3 b3 n3 x3 hm
  go_wp2
  go_ret
  exact ⟨rfl, HE.out⟩
theorem exit_yes (k : Nat) (w : World) (x : Tb w g T R ro rc) (hI : Inv T R) (hk : k < T.length) (hs : (thd T k).s = 1 ∨ (thd T k).s = 2) :
    Calls Tryd.prog 11 #[.pointer (some ⟨g, 0, none⟩), .int .i64 (k : Int)] w fun e w' => BackT w g (setT T k 3 0) (turnR R (k : Int) 3) ro R.length .nilIface e w' := by
  rcases hs with hs | hs
  · exact exit_one k w x hI hk hs
  · exact exit_two k w x hI hk hs
set_option maxRecDepth 20000 in
set_option maxHeartbeats 800000 in
theorem pick_no (q : Int) (w : World) (x : Tb w g T R ro rc) (hR : R.length = 0) :
    Calls Tryd.prog 19 #[.pointer (some ⟨g, 0, none⟩), .int .i64 q] w fun e w' => BackT w g T R ro R.length (.tuple #[.int .i64 0, erN 12]) e w' := by
  have HX := hide x
  have c := x.cq
  have HN := hide x.row
  rw [hR] at c HN
  obtain rfl : R = [] := List.eq_nil_of_length_eq_zero hR
  clear x hR
  rw [erN_not (by decide)]
  go_enter Tryd.func19, Tryd.ntmps19
  go_wp2_with fail
  refine (take_any q ro 0 rc [] _ HN.out (by omega)).mono ?_; rintro e w1 ⟨qo, qc, rfl, h1, b1, n1⟩
  rw [show takeE [] = 12 from rfl, erN_not (by decide)]
  have HE := hide (HX.out.same b1)
  clear h1 b1 n1
  go_wp2
  go_ret2
  exact ⟨rfl, HE.out⟩
set_option maxRecDepth 20000 in
set_option maxHeartbeats 800000 in
theorem pick_yes (q : Int) (k : Nat) (w : World) (x : Tb w g T R ro rc) (hI : Inv T R) (hR : 0 < R.length) (hk : takeX R q = (k : Int)) :
    Calls Tryd.prog 19 #[.pointer (some ⟨g, 0, none⟩), .int .i64 q] w fun e w' => BackT w g T (turnR R (k : Int) 1) ro R.length (.tuple #[.int .i64 (k : Int), .nilIface]) e w' := by
  have HX := hide x
  have c := x.cq
  have HN := hide x.row
  have hl := Nat.le_trans hI.len hI.few
  obtain ⟨k', e1, _, _, _, _, e2, _⟩ := hI.pick q hR
  obtain rfl : k' = k := by rw [e1] at hk; omega
  have HK := hide hk
  have HE0 : Hid (takeE R = 0) := by show _ = _; unfold takeE; rw [if_neg (by omega)]
  obtain ⟨Q, hQ⟩ : ∃ Q, turnR R (k' : Int) 1 = Q := ⟨_, rfl⟩
  rw [hQ]
  have HQ := hide (e2.trans hQ)
  obtain ⟨n, hn⟩ : ∃ n, R.length = n := ⟨_, rfl⟩
  rw [hn] at c HN hl
  clear x hR hn e1 e2 hI hQ hk
  go_enter Tryd.func19, Tryd.ntmps19
  go_wp2_with fail
  refine (take_any q ro n rc R _ HN.out (by omega)).mono ?_; rintro e w1 ⟨qo, qc, rfl, h1, b1, n1⟩
  rw [HE0.out, HK.out, erN_zero]
  obtain ⟨m, hm⟩ : ∃ m, (takeL R q).length = m := ⟨_, rfl⟩
  rw [hm] at h1 ⊢
  have HA := hide h1
  have HB := hide b1
  clear h1 b1 n1 hm
  go_wp2_with fail
  refine (behind_any (k' : Int) qo m qc (takeL R q) _ HA.out).mono ?_; rintro e w3 ⟨po, pc, rfl, h3, b3, n3⟩
  rw [HQ.out] at h3 ⊢
  have H1 := HX.out.grow HB.out
  have x3 := H1.grow b3
  have c4 := x3.cq
  have z4 := x3.z 192
  obtain ⟨m2, hm⟩ : ∃ m, Q.length = m := ⟨_, rfl⟩
  rw [hm] at h3 ⊢
  have HE := hide ((H1.ended (Foot.refl _ _) h3 b3 n3).from HB.out)
  clear h3 b3 n3 x3 hm H1 c
  go_wp2
  go_ret2
  exact ⟨rfl, HE.out⟩
end Go.Proofs.YtnfpldndnmbplaaDoor
