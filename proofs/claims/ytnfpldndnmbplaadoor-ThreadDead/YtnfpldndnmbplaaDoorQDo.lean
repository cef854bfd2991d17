/-
  What runq's Push, Take and Drop answer, as contracts.
-/
import Derived.Test.YtnfpldndnmbplaaDoorQCalls
import Derived.Test.YtnfpldndnmbplaaDoorQConc
import Derived.Deep.AppendLies
namespace Go.Proofs.YtnfpldndnmbplaaDoor
open Go.RowKit
def erN (k : Int) : Value := if k = 0 then .nilIface else .iface 54 (.int .i64 k)
theorem erN_zero : erN 0 = .nilIface := rfl
theorem erN_not {k : Int} (h : k ≠ 0) : erN k = .iface 54 (.int .i64 k) := if_neg h
def PushEnd (w : World) (k : Int) (R : List Int) (e : Ending) (w' : World) : Prop := ∃ ro rc, e = .returned (.tuple #[.slice ro R.length rc, erN k]) ∧ Nums w' ro R.length rc R ∧ Below w.heap.size w w' ∧ New w ro
theorem push_err {w : World} {k K : Int} {R : List Int} (h : K = k) (hk : k ≠ 0) (hR : R = []) : PushEnd w K R (.returned (.tuple #[.slice none 0 0, .iface 54 (.int .i64 k)])) w := by
  subst hR; subst h
  exact ⟨none, 0, by rw [erN_not hk]; rfl, nums_nil w, Below.refl _ _, new_none _⟩
theorem parts_push {X : World} {ao : Option Addr} {n cap : Nat} {L : List Int} (x : Int) (hA : Nums X ao n cap L) {T1 T2 : TypeId} :
    Parts ((X.alloc (.cells #[.int .i64 x] T1)).alloc (.cells #[.slice ao n cap, .slice (some ⟨X.heap.size, 0, none⟩) 1 1] T2)) ⟨X.heap.size + 1, 0, none⟩ [⟨ao, n, cap, L⟩, ⟨some ⟨X.heap.size, 0, none⟩, 1, 1, [x]⟩] := by
  obtain ⟨Y, hY⟩ : ∃ Y, X.alloc (.cells #[.int .i64 x] T1) = Y := ⟨_, rfl⟩
  have sY : Y.heap.size = X.heap.size + 1 := by rw [← hY]; simp
  rw [hY]
  obtain ⟨Z, hZ⟩ : ∃ Z, Y.alloc (.cells #[.slice ao n cap, .slice (some ⟨X.heap.size, 0, none⟩) 1 1] T2) = Z := ⟨_, rfl⟩
  rw [hZ]
  have b1 : Below X.heap.size X Y := hY ▸ below_alloc X _
  have b2 : Below Y.heap.size Y Z := hZ ▸ below_alloc Y _
  have hbk : Z.heap[X.heap.size + 1]? = some (.cells #[.slice ao n cap, .slice (some ⟨X.heap.size, 0, none⟩) 1 1] T2 (0, 0)) := by
    rw [← hZ, ← sY]; exact heap_alloc_new _ _
  have hbl : Z.heap[X.heap.size]? = some (.cells #[.int .i64 x] T1 (0, 0)) := by
    rw [b2.block _ (by omega), ← hY]; exact heap_alloc_new _ _
  intro j hj
  rcases j with _ | _ | j
  · exact ⟨by rw [add0, cell_of_row Z _ 0 _ _ _ hbk]; rfl, hA.carry (below_one b1 b2)⟩
  · refine ⟨by rw [add0, cell_of_row Z _ 1 _ _ _ hbk]; rfl, rfl, Nat.le_refl _, (show 1 ≤ maxLen by decide), (fun e => by cases e), fun ad e j u hu => ?_⟩
    obtain rfl := Option.some.inj e
    exact World.news_of_block hbl j u hu
  · simp only [List.length_cons, List.length_nil] at hj; omega
theorem parts_two {X : World} {ao bo : Option Addr} {n cap m c : Nat} {L M : List Int} (hA : Nums X ao n cap L) (hB : Nums X bo m c M) {T : TypeId} :
    Parts (X.alloc (.cells #[.slice ao n cap, .slice bo m c] T)) ⟨X.heap.size, 0, none⟩ [⟨ao, n, cap, L⟩, ⟨bo, m, c, M⟩] := by
  obtain ⟨Z, hZ⟩ : ∃ Z, X.alloc (.cells #[.slice ao n cap, .slice bo m c] T) = Z := ⟨_, rfl⟩
  rw [hZ]
  have b : Below X.heap.size X Z := hZ ▸ below_alloc X _
  have hbk : Z.heap[X.heap.size]? = some (.cells #[.slice ao n cap, .slice bo m c] T (0, 0)) := by rw [← hZ]; exact heap_alloc_new _ _
  intro j hj
  rcases j with _ | _ | j
  · exact ⟨by rw [add0, cell_of_row Z _ 0 _ _ _ hbk]; rfl, hA.carry b⟩
  · exact ⟨by rw [add0, cell_of_row Z _ 1 _ _ _ hbk]; rfl, hB.carry b⟩
  · simp only [List.length_cons, List.length_nil] at hj; omega
set_option maxRecDepth 20000 in
set_option maxHeartbeats 800000 in
theorem push_any (x : Int) (ao : Option Addr) (n cap : Nat) (L : List Int) (w : World) (hA : Nums w ao n cap L) :
    Calls Tryd.prog 25 #[.slice ao n cap, .int .i64 x] w fun e w' => PushEnd w (pushE L x) (pushL L x) e w' := by
  have hcap : cap ≤ 9223372036854775807 := hA.2.2.1
  have hnc := hA.2.1
  have HA := hide hA
  have HL := hide hA.len
  obtain ⟨K, hK⟩ : ∃ K, pushE L x = K := ⟨_, rfl⟩
  obtain ⟨R, hR⟩ : ∃ R, pushL L x = R := ⟨_, rfl⟩
  rw [hK, hR]
  have HK := hide hK
  have HR := hide hR
  clear hA hK hR
  go_enter Tryd.func25, Tryd.ntmps25
  go_wp2_with fail
  refine (contains_any x ao n cap L _ HA.out).mono ?_; rintro e w1 ⟨rfl, rfl⟩
  by_cases hx : x ∈ L
  · have HE : Hid (K = 11) := by show _ = _; rw [← HK.out]; unfold pushE; rw [if_pos hx]
    rw [decide_eq_true hx]
    clear hx
    go_wp2
    go_ret2
    exact push_err HE.out (by decide) (by rw [← HR.out]; exact pushL_err (by rw [HK.out, HE.out]; decide))
  · have HX := hide hx
    rw [decide_eq_false hx]
    clear hx
    by_cases h4 : (64 : Int) ≤ (n : Int)
    · have HE : Hid (K = 5) := by show _ = _; rw [← HK.out]; unfold pushE; rw [if_neg HX.out, if_pos (by rw [← HL.out]; omega)]
      go_wp2
      go_ret2
      exact push_err HE.out (by decide) (by rw [← HR.out]; exact pushL_err (by rw [HK.out, HE.out]; decide))
    · have HE : Hid (K = 0) := by show _ = _; rw [← HK.out]; exact pushE_zero HX.out (by rw [← HL.out]; omega)
      have HPUT : Hid (R = L ++ [x]) := by show _ = _; rw [← HR.out]; exact pushL_zero (by rw [HK.out, HE.out])
      obtain ⟨ps, hps⟩ : ∃ ps : List Prt, [⟨ao, n, cap, L⟩, ⟨some ⟨w1.heap.size, 0, none⟩, 1, 1, [x]⟩] = ps := ⟨_, rfl⟩
      have HPA : Hid (Parts ((w1.alloc (.cells #[.int .i64 x] 3)).alloc (.cells #[.slice ao n cap, .slice (some ⟨w1.heap.size, 0, none⟩) 1 1] 30)) ⟨w1.heap.size + 1, 0, none⟩ ps) := by
        have := parts_push x HA.out (T1 := 3) (T2 := 30)
        rw [← hps]; exact this
      have HL2 : Hid (ps.length = 2) := by show _ = _; rw [← hps]; rfl
      have HSU : Hid (sumN ps 2 = n + 1) := by show _ = _; rw [← hps]; simp [sumN]
      have HF : Hid (flatL ps 2 = L ++ [x]) := by show _ = _; rw [← hps]; simp [flatL]
      clear hps
      go_wp2_with fail
      refine (concat_any _ 2 ps _ HL2.out (by omega) HPA.out (by rw [HSU.out]; omega)).mono ?_; rintro e w5 ⟨v5, rfl, ao5, c5, rfl, A5, b5, n5⟩
      rw [HF.out] at A5
      rw [HSU.out] at A5 ⊢
      have HA5 := hide A5
      have HB5 := hide (below_one (below_one (below_alloc w1 _) (below_alloc _ _)) b5)
      have HN5 := hide (New.le n5 (below_one (below_alloc w1 _) (below_alloc _ _)).size)
      clear A5 b5 n5
      go_wp2
      go_ret2
      rw [HE.out, HPUT.out]
      have hl : (L ++ [x]).length = n + 1 := by have := HL.out; simp; omega
      exact ⟨ao5, c5, by rw [erN_zero, hl]; rfl, by rw [hl]; exact HA5.out, HB5.out, HN5.out⟩
def DropRel (w : World) (L : List Int) (x : Int) (n gk : Nat) (vi vo : Value) (wr : World) : Prop := ∃ i m : Nat, i + gk = n ∧ m ≤ i ∧ vi = .int .i64 (i : Int) ∧ wr.ownsRow w.heap.size 3 1 vo m (cellsI (dropL (L.take i) x)) ∧ Below w.heap.size w wr
def DropEnd (w : World) (R : List Int) (e : Ending) (w' : World) : Prop := ∃ ro rc, e = .returned (.slice ro R.length rc) ∧ Nums w' ro R.length rc R ∧ Below w.heap.size w w' ∧ New w ro
set_option maxRecDepth 20000 in
set_option maxHeartbeats 800000 in
theorem drop_any (x : Int) (ao : Option Addr) (n cap : Nat) (L : List Int) (w : World) (hA : Nums w ao n cap L) (hn : n ≤ 17592186044416) :
    Calls Tryd.prog 22 #[.slice ao n cap, .int .i64 x] w fun e w' => DropEnd w (dropL L x) e w' := by
  have hcap : cap ≤ 9223372036854775807 := hA.2.2.1
  have hnc := hA.2.1
  have HA := hide hA
  have HL := hide hA.len
  obtain ⟨R, hR⟩ : ∃ R, dropL L x = R := ⟨_, rfl⟩
  rw [hR]
  have HR := hide hR
  clear hA hR
  go_enter Tryd.func22, Tryd.ntmps22
  go_wp2
  go_loopg [10, 5] n (fun gk vi vo wr => DropRel w L x n gk vi vo wr)
  case atStart => exact ⟨0, 0, by omega, Nat.le_refl _, rfl, owns_nil _ _ _ _, Below.refl _ _⟩
  case round =>
    obtain ⟨i, m, hi, hm, rfl, hown, b⟩ := hrel
    have HO := hide hown
    have HB := hide b
    have HI := hide hi
    obtain ⟨oo, oc, rfl, hl⟩ := owns_lies hown
    clear hown b
    cases gk with
    | zero =>
      obtain rfl : i = n := by omega
      have hlt : ¬ ((i : Int) < (i : Int)) := by omega
      have HLI : Hid (Nums wr oo m oc (dropL (L.take i) x)) := hl
      clear hi hl
      go_wp2
      go_ret
      have e : dropL (L.take i) x = R := by rw [← HR.out, HL.out, List.take_length]
      have hA := HLI.out
      rw [e] at hA
      have hlen := hA.len
      subst hlen
      exact ⟨oo, oc, rfl, hA, HB.out, owns_new HO.out⟩
    | succ g1 =>
      have hlt : (i : Int) < (n : Int) := by omega
      have hltn : i < n := by omega
      have HS := hide (dropL_snoc L x i (by rw [← HL.out]; exact hltn))
      clear hi hl
      have A1 := HA.out.carry HB.out
      obtain ⟨ad, rfl⟩ := HA.out.there hltn
      have c0 := A1.elem i hltn
      obtain ⟨y, hy⟩ : ∃ y, L.getD i 0 = y := ⟨_, rfl⟩
      rw [hy] at HS c0
      clear A1 hy
      by_cases hxy : y = x
      · go_wp2
        go_roundg g1
        case measure => omega
        case rel =>
          refine ⟨i + 1, m, by have := HI.out; omega, by omega, by go_num, ?_, HB.out⟩
          rw [HS.out, if_pos hxy, List.append_nil]; exact HO.out
      · obtain ⟨X, hX⟩ : ∃ X, wr.alloc (.cells #[.int .i64 y] 3) = X := ⟨_, rfl⟩
        have bX : Below wr.heap.size wr X := hX ▸ below_alloc wr _
        have oX : X.ownsRow w.heap.size 3 1 (.slice oo m oc) m (cellsI (dropL (L.take i) x)) := hX ▸ HO.out.alloc _
        have nX : Nums X (some ⟨wr.heap.size, 0, none⟩) 1 1 [y] := by
          refine ⟨rfl, Nat.le_refl _, (show 1 ≤ maxLen by decide), (fun e => by cases e), fun ad e j u hu => ?_⟩
          obtain rfl := Option.some.inj e
          exact World.news_of_block (hX ▸ heap_alloc_new wr _) j u hu
        obtain ⟨v', w', hr, hown', hgr⟩ := app_own (ty := 30) Tryd.underlying30 oX nX (by omega) (Nat.le_trans HB.out.size bX.size)
        have HRUN := hide hr
        have HO' := hide hown'
        have HB' := hide (below_grown (HB.out.trans (bX.mono HB.out.size)) (Nat.le_trans HB.out.size bX.size) oX hgr)
        clear bX oX nX hr hown' hgr
        go_wp2_with (at_builtin; refine wpList_append_run rfl _ _ _ rfl _ _ _ _ rfl rfl HRUN.out ?_)
        go_wp2
        go_roundg g1
        case measure => omega
        case rel =>
          refine ⟨i + 1, m + 1, by have := HI.out; omega, by omega, by go_num, ?_, HB'.out⟩
          rw [HS.out, if_neg hxy]; exact HO'.out
end Go.Proofs.YtnfpldndnmbplaaDoor
