/-
  The statements' Same, slices.Index (the place itself), slices.Contains and slices.Clone at ints, as contracts.
-/
import Derived.Test.YtifmeljdkohkkaaDoorQRow
namespace Go.Proofs.YtifmeljdkohkkaaDoor
open Go.RowKit
def SameRel (w : World) (L M : List Int) (n gk : Nat) (vi : Value) (wr : World) : Prop := ∃ i : Nat, i + gk = n ∧ vi = .int .i64 (i : Int) ∧ (∀ j, j < i → L.getD j 0 = M.getD j 0) ∧ Below w.heap.size w wr
def BackB (w : World) (q : Bool) (e : Ending) (w' : World) : Prop := e = .returned (.bool q) ∧ Below w.heap.size w w'
set_option maxHeartbeats 800000 in
theorem same_any (ao bo : Option Addr) (n m cap cbp : Nat) (L M : List Int) (w : World) (hA : Nums w ao n cap L) (hB : Nums w bo m cbp M) :
    Calls Tryd.prog 9 #[.slice ao n cap, .slice bo m cbp] w fun e w' => BackB w (decide (L = M)) e w' := by
  have hcap : cap ≤ 9223372036854775807 := hA.2.2.1
  have hcbp : cbp ≤ 9223372036854775807 := hB.2.2.1
  have hnc := hA.2.1
  have hmc := hB.2.1
  have HA := hide hA
  have HB := hide hB
  have HL := hide hA.len
  have HM := hide hB.len
  obtain ⟨q, hq⟩ : ∃ q, decide (L = M) = q := ⟨_, rfl⟩
  rw [hq]
  have HQ := hide hq
  clear hA hB hq
  by_cases hnm : n = m
  · subst hnm
    go_enter Tryd.func9, Tryd.ntmps9
    go_wp2
    go_loopg [13] n (fun gk vi wr => SameRel w L M n gk vi wr)
    case atStart => exact ⟨0, by omega, rfl, fun j hj => by omega, Below.refl _ _⟩
    case round =>
      obtain ⟨i, hi, rfl, hall, b⟩ := hrel
      have HALL := hide hall
      have HBW := hide b
      have HI := hide hi
      clear hall b
      cases gk with
      | zero =>
        obtain rfl : i = n := by omega
        have hlt : ¬ ((i : Int) < (i : Int)) := by omega
        clear hi
        go_wp2
        go_ret
        refine ⟨?_, HBW.out⟩
        rw [← HQ.out, decide_eq_true (listI_ext (by rw [← HL.out, HM.out]) (fun j hj => HALL.out j (by rw [HL.out]; exact hj)))]; rfl
      | succ g1 =>
        have hlt : (i : Int) < (n : Int) := by omega
        have hltn : i < n := by omega
        clear hi
        obtain ⟨ad, rfl⟩ := HA.out.there hltn
        obtain ⟨bd, rfl⟩ := HB.out.there hltn
        obtain ⟨x, hx⟩ : ∃ x, L.getD i 0 = x := ⟨_, rfl⟩
        obtain ⟨y, hy⟩ : ∃ y, M.getD i 0 = y := ⟨_, rfl⟩
        have c0 : ∀ q, (wr.drewN q).cell? (ad.add i) = some (.int .i64 x) := fun q => by rw [← hx]; exact (HA.out.carry (below_drewN HBW.out q)).elem i hltn
        have c1 : ∀ q, (wr.drewN q).cell? (bd.add i) = some (.int .i64 y) := fun q => by rw [← hy]; exact (HB.out.carry (below_drewN HBW.out q)).elem i hltn
        have HX := hide hx
        have HY := hide hy
        clear hx hy
        by_cases hxy : x = y
        · go_wp2_with fail
          go_quiet (fail)
          go_wp2
          go_roundg g1
          case measure => omega
          case rel =>
            refine ⟨i + 1, by have := HI.out; omega, by go_num, fun j hj => ?_, below_drewN HBW.out _⟩
            by_cases e : j = i
            · rw [e, HX.out, HY.out, hxy]
            · exact HALL.out j (by omega)
        · go_wp2_with fail
          go_quiet (fail)
          go_wp2
          go_ret
          refine ⟨?_, below_drewN HBW.out _⟩
          rw [← HQ.out, decide_eq_false (fun e => hxy (by rw [← HX.out, ← HY.out, e]))]; rfl
  · have hne : ¬ ((n : Int) = (m : Int)) := by omega
    go_enter Tryd.func9, Tryd.ntmps9
    go_wp2
    go_ret
    refine ⟨?_, Below.refl _ _⟩
    rw [← HQ.out, decide_eq_false (fun e => hnm (by rw [HL.out, HM.out, e]))]; rfl
def IdxRel (w : World) (L : List Int) (x : Int) (n gk : Nat) (vi : Value) (wr : World) : Prop := ∃ i : Nat, i + gk = n ∧ vi = .int .i64 (i : Int) ∧ (∀ j, j < i → L.getD j 0 ≠ x) ∧ wr = w
theorem not_mem_of {L : List Int} {x : Int} (h : ∀ j, j < L.length → L.getD j 0 ≠ x) : x ∉ L := fun hm => by
  obtain ⟨j, hj, e⟩ := List.mem_iff_getElem.1 hm
  refine h j hj ?_
  rw [List.getD_eq_getElem?_getD, List.getElem?_eq_getElem hj]; exact e
theorem mem_of {L : List Int} {x : Int} {j : Nat} (hj : j < L.length) (h : L.getD j 0 = x) : x ∈ L := by
  rw [← h, List.getD_eq_getElem?_getD, List.getElem?_eq_getElem hj]; exact List.getElem_mem hj
def AtEnd (w : World) (x : Int) (L : List Int) (e : Ending) (w' : World) : Prop := w' = w ∧ ((e = .returned (.int .i64 (-1)) ∧ x ∉ L) ∨ ∃ i : Nat, e = .returned (.int .i64 (i : Int)) ∧ i < L.length ∧ L.getD i 0 = x)
def BackL (w : World) (L : List Int) (e : Ending) (w' : World) : Prop := ∃ ao c, e = .returned (.slice ao L.length c) ∧ Nums w' ao L.length c L ∧ Below w.heap.size w w' ∧ New w ao
theorem own_none (w : World) : (w.alloc (.cells #[] 3)).ownsRow w.heap.size 3 1 (.slice (some ⟨w.heap.size, 0, none⟩) 0 0) 0 (cellsI []) := ⟨rfl, .inr ⟨w.heap.size, 0, #[], rfl, Nat.le_refl _, heap_alloc_new w _, Nat.le_refl _, Nat.zero_le _, rfl, rfl⟩⟩
end Go.Proofs.YtifmeljdkohkkaaDoor
