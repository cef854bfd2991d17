/-
  What a lock's Holder, Waiting, Lock, Unlock and Leave answer, as contracts: what became of its line.
-/
import Derived.Test.YtgbggdmpbbhkaaaDoorXRow
import Derived.Test.YtgbggdmpbbhkaaaDoorXCalls
import Derived.Test.YtgbggdmpbbhkaaaDoorXConc
namespace Go.Proofs.YtgbggdmpbbhkaaaDoor
open Go.RowKit
def erN (k : Int) : Value := if k = 0 then .nilIface else .iface 36 (.int .i64 k)
theorem erN_zero : erN 0 = .nilIface := rfl
theorem erN_not {k : Int} (h : k ≠ 0) : erN k = .iface 36 (.int .i64 k) := if_neg h
theorem parts_push {X : World} {ao : Option Addr} {n cap : Nat} {L : List Int} (x : Int) (hA : Nums X ao n cap L) {T1 T2 : TypeId} :
    Parts ((X.alloc (.cells #[.int .i64 x] T1)).alloc (.cells #[.slice ao n cap, .slice (some ⟨X.heap.size, 0, none⟩) 1 1] T2)) ⟨X.heap.size + 1, 0, none⟩ [⟨ao, n, cap, L⟩, ⟨some ⟨X.heap.size, 0, none⟩, 1, 1, [x]⟩] := by
  obtain ⟨Y, hY⟩ : ∃ Y, X.alloc (.cells #[.int .i64 x] T1) = Y := ⟨_, rfl⟩
  have sY : Y.heap.size = X.heap.size + 1 := by rw [← hY]; simp
  rw [hY]
  obtain ⟨Z, hZ⟩ : ∃ Z, Y.alloc (.cells #[.slice ao n cap, .slice (some ⟨X.heap.size, 0, none⟩) 1 1] T2) = Z := ⟨_, rfl⟩
  rw [hZ]
  have b1 : Below X.heap.size X Y := hY ▸ below_alloc X _
  have b2 : Below Y.heap.size Y Z := hZ ▸ below_alloc Y _
  have hbk : Z.heap[X.heap.size + 1]? = some (.cells #[.slice ao n cap, .slice (some ⟨X.heap.size, 0, none⟩) 1 1] T2 (0, 0)) := by
    rw [← hZ, ← sY]; exact heap_alloc_new _ _
  have hbl : Z.heap[X.heap.size]? = some (.cells #[.int .i64 x] T1 (0, 0)) := by
    rw [b2.block _ (by omega), ← hY]; exact heap_alloc_new _ _
  intro j hj
  rcases j with _ | _ | j
  · exact ⟨by rw [add0, cell_of_row Z _ 0 _ _ _ hbk]; rfl, hA.carry (below_one b1 b2)⟩
  · refine ⟨by rw [add0, cell_of_row Z _ 1 _ _ _ hbk]; rfl, rfl, Nat.le_refl _, (show 1 ≤ maxLen by decide), (fun e => by cases e), fun ad e j u hu => ?_⟩
    obtain rfl := Option.some.inj e
    exact World.news_of_block hbl j u hu
  · simp only [List.length_cons, List.length_nil] at hj; omega
theorem parts_two {X : World} {ao bo : Option Addr} {n cap m c : Nat} {L M : List Int} (hA : Nums X ao n cap L) (hB : Nums X bo m c M) {T : TypeId} :
    Parts (X.alloc (.cells #[.slice ao n cap, .slice bo m c] T)) ⟨X.heap.size, 0, none⟩ [⟨ao, n, cap, L⟩, ⟨bo, m, c, M⟩] := by
  obtain ⟨Z, hZ⟩ : ∃ Z, X.alloc (.cells #[.slice ao n cap, .slice bo m c] T) = Z := ⟨_, rfl⟩
  rw [hZ]
  have b : Below X.heap.size X Z := hZ ▸ below_alloc X _
  have hbk : Z.heap[X.heap.size]? = some (.cells #[.slice ao n cap, .slice bo m c] T (0, 0)) := by rw [← hZ]; exact heap_alloc_new _ _
  intro j hj
  rcases j with _ | _ | j
  · exact ⟨by rw [add0, cell_of_row Z _ 0 _ _ _ hbk]; rfl, hA.carry b⟩
  · exact ⟨by rw [add0, cell_of_row Z _ 1 _ _ _ hbk]; rfl, hB.carry b⟩
  · simp only [List.length_cons, List.length_nil] at hj; omega
variable {g : Nat} {L : List Int} {ro : Option Addr} {rc : Nat}
def BackM (w : World) (g : Nat) (M : List Int) (ro : Option Addr) (n : Nat) (v : Value) (e : Ending) (w' : World) : Prop := e = .returned v ∧ MxEnd w g M ro n w'
set_option maxHeartbeats 800000 in
theorem hold_any (w : World) (x : Mx w g L ro rc) :
    Calls Tryd.prog 12 #[.pointer (some ⟨g, 0, none⟩)] w fun e w' => e = .returned (.int .i64 (holdF L)) ∧ w' = w := by
  have c := x.c0
  obtain ⟨y, hy⟩ : ∃ y, holdF L = y := ⟨_, rfl⟩
  rw [hy]
  have HY := hide hy
  clear hy
  obtain ⟨n, hn⟩ : ∃ n, L.length = n := ⟨_, rfl⟩
  have hc : rc ≤ 9223372036854775807 := x.row.2.2.1
  have hnc := x.row.2.1
  have HN := hide x.row
  rw [hn] at c HN hnc
  by_cases h0 : n = 0
  · subst h0
    have HE : Hid (y = -1) := by show _ = _; rw [← HY.out, List.eq_nil_of_length_eq_zero hn]; rfl
    clear x hn
    go_enter Tryd.func12, Tryd.ntmps12
    go_wp2
    go_ret
    exact ⟨by rw [HE.out]; rfl, rfl⟩
  · obtain ⟨ad, rfl⟩ := HN.out.there (k := 0) (by omega)
    have hp : (0 : Int) < (n : Int) := by omega
    have hz : ¬ ((n : Int) = 0) := by omega
    have c1 := HN.out.elem 0 (by omega)
    rw [← holdF_get L (by omega), HY.out] at c1
    have c2 := c1
    rw [addZ] at c2
    clear x hn
    go_enter Tryd.func12, Tryd.ntmps12
    go_wp2
    go_ret
    exact ⟨rfl, rfl⟩
set_option maxHeartbeats 800000 in
theorem wait_any (w : World) (x : Mx w g L ro rc) (hR : L.length ≤ 65) :
    Calls Tryd.prog 14 #[.pointer (some ⟨g, 0, none⟩)] w fun e w' => BackL w (L.drop 1) e w' := by
  have c := x.c0
  obtain ⟨n, hn⟩ : ∃ n, L.length = n := ⟨_, rfl⟩
  have hc : rc ≤ 9223372036854775807 := x.row.2.2.1
  have hnc := x.row.2.1
  have HN := hide x.row
  rw [hn] at c HN hnc hR
  by_cases h0 : n = 0
  · subst h0
    have HE : Hid (L = []) := List.eq_nil_of_length_eq_zero hn
    clear x hn
    go_enter Tryd.func14, Tryd.ntmps14
    go_wp2
    go_ret
    rw [HE.out]
    exact ⟨none, 0, rfl, nums_nil _, Below.refl _ _, new_none _⟩
  · have hz : ¬ ((n : Int) = 0) := by omega
    have hcut : ∀ W : World, (Instr.slice 25 (.slice ro n rc) (some (.int .i64 1)) none none).run Tryd.prog W = .ok (.slice (tailA ro 1 rc) (n - 1) (rc - 1)) W := fun W => cut_tail_at Tryd.underlying25 W ro n rc 1 (by omega)
    have HT := hide (HN.out.tail 1 (by omega))
    clear x hn
    obtain ⟨M, hM⟩ : ∃ M, L.drop 1 = M := ⟨_, rfl⟩
    rw [hM] at HT ⊢
    clear hM
    go_enter Tryd.func14, Tryd.ntmps14
    go_wp2_with fail
    refine (clone_any _ _ _ M _ HT.out (by omega)).mono ?_; rintro e w1 h1
    obtain ⟨ao, ac, rfl, hA, b, hN⟩ := h1
    have HE : Hid (BackL w M (.returned (.slice ao M.length ac)) w1) := ⟨ao, ac, rfl, hA, b, hN⟩
    clear hA b hN
    go_wp2
    go_ret
    exact HE.out
set_option maxRecDepth 20000 in
set_option maxHeartbeats 800000 in
theorem lock_any (id : Int) (w : World) (x : Mx w g L ro rc) (hR : L.length ≤ 65) :
    Calls Tryd.prog 7 #[.pointer (some ⟨g, 0, none⟩), .int .i64 id] w fun e w' => BackM w g (lockL L id) ro L.length (.tuple #[.bool (decide (lockE L id = 0 ∧ L.length = 0)), erN (lockE L id)]) e w' := by
  have HX := hide x
  have c := x.c0
  have hc : rc ≤ 9223372036854775807 := x.row.2.2.1
  have hnc := x.row.2.1
  have HN := hide x.row
  obtain ⟨K, hK⟩ : ∃ K, lockE L id = K := ⟨_, rfl⟩
  obtain ⟨M, hM⟩ : ∃ M, lockL L id = M := ⟨_, rfl⟩
  rw [hK, hM]
  have HK := hide hK
  have HM := hide hM
  have HS := hide (x.same (Below.refl _ _))
  have HE (k : Int) (hk : k ≠ 0) (e : K = k) : BackM w g M ro L.length (.tuple #[.bool (decide (K = 0 ∧ L.length = 0)), erN K]) (.returned (.tuple #[.bool false, .iface 36 (.int .i64 k)])) w := by
    subst e
    refine ⟨by rw [decide_eq_false (fun e => hk e.1), erN_not hk], ?_⟩
    rw [← HM.out]
    unfold lockL
    rw [HK.out, if_neg hk]; exact HS.out
  have HE := hide HE
  obtain ⟨n, hn⟩ : ∃ n, L.length = n := ⟨_, rfl⟩
  have HLN := hide hn
  rw [hn] at c HN hnc hR
  rw [hn] at HE ⊢
  clear x hK hM hn
  by_cases h0 : id < 0
  · have HQ : Hid (K = 4) := by show _ = _; rw [← HK.out]; unfold lockE; rw [if_pos h0]
    go_enter Tryd.func7, Tryd.ntmps7
    go_wp2
    go_ret2
    exact HE.out 4 (by decide) HQ.out
  · have HH0 := hide h0
    go_enter Tryd.func7, Tryd.ntmps7
    go_wp2_with fail
    refine (contains_any id ro n rc L _ HN.out).mono ?_; rintro e w1 ⟨rfl, rfl⟩
    by_cases hx : id ∈ L
    · have HQ : Hid (K = 15) := by show _ = _; rw [← HK.out]; unfold lockE; rw [if_neg (by omega), if_pos hx]
      rw [decide_eq_true hx]
      clear hx
      go_wp2
      go_ret2
      exact HE.out 15 (by decide) HQ.out
    · have HXM := hide hx
      rw [decide_eq_false hx]
      clear hx
      by_cases h4 : (64 : Int) < (n : Int)
      · have HQ : Hid (K = 5) := by show _ = _; rw [← HK.out]; unfold lockE; rw [if_neg (by omega), if_neg HXM.out, if_pos (by rw [HLN.out]; omega)]
        go_wp2
        go_ret2
        exact HE.out 5 (by decide) HQ.out
      · have HQ : Hid (K = 0) := by show _ = _; rw [← HK.out]; exact lockE_zero (by omega) HXM.out (by rw [HLN.out]; omega)
        have HPUT : Hid (M = L ++ [id]) := by show _ = _; rw [← HM.out]; unfold lockL; rw [HK.out, HQ.out, if_pos rfl]
        obtain ⟨ps, hps⟩ : ∃ ps : List Prt, [⟨ro, n, rc, L⟩, ⟨some ⟨w1.heap.size, 0, none⟩, 1, 1, [id]⟩] = ps := ⟨_, rfl⟩
        have HPA : Hid (Parts ((w1.alloc (.cells #[.int .i64 id] 3)).alloc (.cells #[.slice ro n rc, .slice (some ⟨w1.heap.size, 0, none⟩) 1 1] 25)) ⟨w1.heap.size + 1, 0, none⟩ ps) := by
          have := parts_push id HN.out (T1 := 3) (T2 := 25)
          rw [← hps]; exact this
        have HL2 : Hid (ps.length = 2) := by show _ = _; rw [← hps]; rfl
        have HSU : Hid (sumN ps 2 = n + 1) := by show _ = _; rw [← hps]; simp [sumN]
        have HF : Hid (flatL ps 2 = L ++ [id]) := by show _ = _; rw [← hps]; simp [flatL]
        clear hps HE
        go_wp2_with fail
        refine (concat_any _ 2 ps _ HL2.out (by omega) HPA.out (by rw [HSU.out]; omega)).mono ?_; rintro e w5 ⟨v5, rfl, ao5, c5, rfl, A5, b5, n5⟩
        rw [HF.out] at A5
        rw [HSU.out] at A5 ⊢
        have b6 := below_one (below_one (below_alloc w1 _) (below_alloc _ _)) b5
        have n6 := New.le n5 (below_one (below_alloc w1 (.cells #[.int .i64 id] 3)) (below_alloc _ (.cells #[.slice ro n rc, .slice (some ⟨w1.heap.size, 0, none⟩) 1 1] 25))).size
        have c5' := (HX.out.grow b6).c0
        have z5 := (HX.out.grow b6).z
        have HEND := hide (HX.out.ended A5 b6 n6)
        rw [HLN.out] at c5' HEND
        obtain ⟨ao, c, y, f, k⟩ := HEND.out
        have c7 := ((HX.out.grow b6).put A5 (fun ad e h => by have := n6 ad e; have := HX.out.lt; omega)).c0
        rw [show (L ++ [id]).length = n + 1 by rw [List.length_append, HLN.out]; rfl] at c7
        clear A5 b5 n5 b6 n6 y f k
        by_cases hz : n = 0
        · subst hz
          have h1 : ((0 : Nat) : Int) + 1 = 1 := by omega
          go_wp2
          go_ret2
          rw [HQ.out, HPUT.out, erN_zero]
          exact ⟨rfl, HEND.out⟩
        · have h1 : ¬ ((n : Int) + 1 = 1) := by omega
          go_wp2
          go_ret2
          rw [HQ.out, HPUT.out, erN_zero, decide_eq_false (fun e => hz e.2)]
          refine ⟨?_, HEND.out⟩
          show Ending.returned (.tuple #[.bool ((n : Int) + 1 == 1), .nilIface]) = _
          rw [show ((n : Int) + 1 == 1) = false by rw [beq_eq_false_iff_ne]; omega]
end Go.Proofs.YtgbggdmpbbhkaaaDoor
