/-
  What Find answers, as a contract.
-/
import Derived.Test.YtigbicggcohcgaaDoorAAdd
namespace Go.Proofs.YtigbicggcohcgaaDoor
open Go.RowKit
theorem find_none {L : List Ar} {x : Int} (h : ∀ j, j < L.length → hasA (L.getD j Ar.zero) x = false) : findF L x = (Ar.zero, false) := by
  unfold findF
  rw [List.find?_eq_none.2]
  intro y hy
  obtain ⟨j, hj, rfl⟩ := List.mem_iff_getElem.1 hy
  have := h j hj
  rw [List.getD_eq_getElem?_getD, List.getElem?_eq_getElem hj, Option.getD_some] at this
  rw [this]; decide
theorem find_some {L : List Ar} {x : Int} {i : Nat} (hi : i < L.length) (h : hasA (L.getD i Ar.zero) x = true) (h0 : ∀ j, j < i → hasA (L.getD j Ar.zero) x = false) : findF L x = (L.getD i Ar.zero, true) := by
  induction L generalizing i with
  | nil => simp at hi
  | cons y L ih =>
    unfold findF
    cases i with
    | zero =>
      have h' : hasA y x = true := h
      rw [List.find?_cons_of_pos (p := (hasA · x)) h']
      rfl
    | succ i =>
      have h' : hasA y x = false := h0 0 (by omega)
      rw [List.find?_cons_of_neg (p := (hasA · x)) (by rw [h']; decide)]
      exact ih (by simpa using hi) h (fun j hj => h0 (j + 1) (by omega))
def FindEnd (w : World) (r : Ar × Bool) (e : Ending) (w' : World) : Prop := e = .returned (.tuple #[.agg #[.int .i64 r.1.b, .int .i64 r.1.s, .int .i64 r.1.g, .int .i64 r.1.o, .bool r.1.w], .bool r.2]) ∧ Below w.heap.size w w'
def FindRel (w : World) (x : Int) (L : List Ar) (n gk : Nat) (vi : Value) (wr : World) : Prop := ∃ i : Nat, i + gk = n ∧ vi = .int .i64 (i : Int) ∧ (∀ j, j < i → hasA (L.getD j Ar.zero) x = false) ∧ BoxA wr w.heap.size Ar.zero ∧ Below w.heap.size w wr
theorem BoxA.lay {w : World} {g : Nat} {x : Ar} (h : BoxA w g x) (y : Ar) : BoxA (((((w.setCell ⟨g, 0, none⟩ (.int .i64 y.b)).setCell ⟨g, 1, none⟩ (.int .i64 y.s)).setCell ⟨g, 2, none⟩ (.int .i64 y.g)).setCell ⟨g, 3, none⟩ (.int .i64 y.o)).setCell ⟨g, 4, none⟩ (.bool y.w)) g y := by
  unfold BoxA at *
  have h1 := heap_setCell_same w g 0 _ _ (.int .i64 y.b) h
  have h2 := heap_setCell_same _ g 1 _ _ (.int .i64 y.s) h1
  have h3 := heap_setCell_same _ g 2 _ _ (.int .i64 y.g) h2
  have h4 := heap_setCell_same _ g 3 _ _ (.int .i64 y.o) h3
  have h5 := heap_setCell_same _ g 4 _ _ (.bool y.w) h4
  rw [h5]; rfl
theorem below_sets {w v : World} {g : Nat} (h : Below w.heap.size w v) (hg : w.heap.size ≤ g) (y : Ar) : Below w.heap.size w (((((v.setCell ⟨g, 0, none⟩ (.int .i64 y.b)).setCell ⟨g, 1, none⟩ (.int .i64 y.s)).setCell ⟨g, 2, none⟩ (.int .i64 y.g)).setCell ⟨g, 3, none⟩ (.int .i64 y.o)).setCell ⟨g, 4, none⟩ (.bool y.w)) := by
  have f := ((((foot_set v ⟨g, 0, none⟩ (.int .i64 y.b)).then (foot_set _ ⟨g, 1, none⟩ (.int .i64 y.s))).then (foot_set _ ⟨g, 2, none⟩ (.int .i64 y.g))).then (foot_set _ ⟨g, 3, none⟩ (.int .i64 y.o))).then (foot_set _ ⟨g, 4, none⟩ (.bool y.w))
  exact h.trans (f.below h.size (fun k e => by rw [e]; exact hg))
set_option maxRecDepth 20000 in
set_option maxHeartbeats 1600000 in
theorem find_any (x : Int) (ao : Option Addr) (n cap : Nat) (L : List Ar) (w : World) (hA : Ars w ao n cap L) :
    Calls Tryd.prog 14 #[.slice ao n cap, .int .i64 x] w fun e w' => FindEnd w (findF L x) e w' := by
  have HA := hide hA
  have HN := hide hA.len
  have hnc := hA.2.1
  have hcap : cap ≤ 9223372036854775807 := hA.2.2.1
  obtain ⟨R, hR⟩ : ∃ R, findF L x = R := ⟨_, rfl⟩
  rw [hR]
  have HR := hide hR
  have HX0 := hide (box_new w Ar.zero)
  clear hA hR
  go_enter Tryd.func14, Tryd.ntmps14
  go_wp2
  go_loopg [10] n (fun gk vi wr => FindRel w x L n gk vi wr)
  case atStart => exact ⟨0, by omega, rfl, fun j hj => by omega, HX0.out, below_alloc _ _⟩
  case round =>
    clear HX0
    obtain ⟨i, hi, rfl, hno, bx, b⟩ := hrel
    have HNO := hide hno
    have HX := hide bx
    have HB := hide b
    clear hno bx b
    cases gk with
    | zero =>
      have hlt : ¬ ((i : Int) < (n : Int)) := by omega
      obtain ⟨x0, x1, x2, x3, x4⟩ : _ ∧ _ ∧ _ ∧ _ ∧ _ := ⟨HX.out.c0, HX.out.c1, HX.out.c2, HX.out.c3, HX.out.c4⟩
      obtain ⟨z0, z1, z2, z3, z4⟩ : _ ∧ _ ∧ _ ∧ _ ∧ _ := ⟨HX.out.z 0, HX.out.z 1, HX.out.z 2, HX.out.z 3, HX.out.z 4⟩
      have HR2 := hide (HR.out.symm.trans (find_none (fun j hj => HNO.out j (by have := HN.out; omega))))
      obtain ⟨Y, hY⟩ : ∃ Y, ((((wr.setCell ⟨w.heap.size, 0, none⟩ (.int .i64 0)).setCell ⟨w.heap.size, 1, none⟩ (.int .i64 0)).setCell ⟨w.heap.size, 2, none⟩ (.int .i64 0)).setCell ⟨w.heap.size, 3, none⟩ (.int .i64 0)).setCell ⟨w.heap.size, 4, none⟩ (.bool false) = Y := ⟨_, rfl⟩
      have BY : BoxA Y w.heap.size Ar.zero := hY ▸ HX.out.lay Ar.zero
      have bY : Below w.heap.size w Y := hY ▸ below_sets HB.out (Nat.le_refl _) Ar.zero
      obtain ⟨y0, y1, y2, y3, y4⟩ : _ ∧ _ ∧ _ ∧ _ ∧ _ := ⟨BY.c0, BY.c1, BY.c2, BY.c3, BY.c4⟩
      have HBY := hide bY
      clear BY bY
      go_wp2
      refine bodyPost_ret (by simp [results, Tryd.results14, go_sem, y0, y1, y2, y3, y4]; rfl) rfl ?_
      exact ⟨by rw [HR2.out], HBY.out⟩
    | succ g1 =>
      have hlt : (i : Int) < (n : Int) := by omega
      obtain ⟨ad, rfl⟩ := HA.out.there (k := i) (by omega)
      obtain ⟨c0, c1, c2, c3, c4⟩ := (HA.out.carry HB.out).elem i (by omega)
      obtain ⟨y, hy⟩ : ∃ y, L.getD i Ar.zero = y := ⟨_, rfl⟩
      rw [hy] at c0 c1 c2 c3 c4
      have HY := hide hy
      obtain ⟨X, hX⟩ : ∃ X, wr.alloc (.cells #[.int .i64 y.b, .int .i64 y.s, .int .i64 y.g, .int .i64 y.o, .bool y.w] 24) = X := ⟨_, rfl⟩
      have BX : BoxA X wr.heap.size y := hX ▸ box_new wr y
      have belX : Below wr.heap.size wr X := hX ▸ below_alloc wr _
      have HBX := hide BX
      have HB2 := hide (HB.out.trans (belX.mono HB.out.size))
      have HX2 := hide (HX.out.carry belX (Nat.le_refl _))
      obtain ⟨d0, d1, d2, d3, d4⟩ : _ ∧ _ ∧ _ ∧ _ ∧ _ := ⟨BX.c0, BX.c1, BX.c2, BX.c3, BX.c4⟩
      clear hy BX belX HB HX
      go_wp2_with fail
      refine (has_any y x _).mono ?_; rintro e w1 ⟨rfl, b1⟩
      obtain ⟨r, hr⟩ : ∃ r, hasA y x = r := ⟨_, rfl⟩
      rw [hr]
      have HRR := hide hr
      have HB3 := hide (HB2.out.trans (b1.mono HB2.out.size))
      have HX3 := hide (HX2.out.carry b1 (Nat.le_refl _))
      have HBX3 := hide (HBX.out.carry b1 (Nat.le_refl _))
      clear b1 hr c0 c1 c2 c3 c4 d0 d1 d2 d3 d4 HB2 HX2 HBX hX
      cases r with
      | true =>
        obtain ⟨d0, d1, d2, d3, d4⟩ : _ ∧ _ ∧ _ ∧ _ ∧ _ := ⟨HBX3.out.c0, HBX3.out.c1, HBX3.out.c2, HBX3.out.c3, HBX3.out.c4⟩
        obtain ⟨x0, x1, x2, x3, x4⟩ : _ ∧ _ ∧ _ ∧ _ ∧ _ := ⟨HX3.out.c0, HX3.out.c1, HX3.out.c2, HX3.out.c3, HX3.out.c4⟩
        obtain ⟨z0, z1, z2, z3, z4⟩ : _ ∧ _ ∧ _ ∧ _ ∧ _ := ⟨HX3.out.z 0, HX3.out.z 1, HX3.out.z 2, HX3.out.z 3, HX3.out.z 4⟩
        have HR2 := hide (HR.out.symm.trans (find_some (i := i) (by have := HN.out; omega) (by rw [HY.out]; exact HRR.out) HNO.out))
        obtain ⟨Y, hY⟩ : ∃ Y, ((((w1.setCell ⟨w.heap.size, 0, none⟩ (.int .i64 y.b)).setCell ⟨w.heap.size, 1, none⟩ (.int .i64 y.s)).setCell ⟨w.heap.size, 2, none⟩ (.int .i64 y.g)).setCell ⟨w.heap.size, 3, none⟩ (.int .i64 y.o)).setCell ⟨w.heap.size, 4, none⟩ (.bool y.w) = Y := ⟨_, rfl⟩
        have BY : BoxA Y w.heap.size y := hY ▸ HX3.out.lay y
        have bY : Below w.heap.size w Y := hY ▸ below_sets HB3.out (Nat.le_refl _) y
        obtain ⟨y0, y1, y2, y3, y4⟩ : _ ∧ _ ∧ _ ∧ _ ∧ _ := ⟨BY.c0, BY.c1, BY.c2, BY.c3, BY.c4⟩
        have HBY := hide bY
        clear BY bY
        go_wp2
        refine bodyPost_ret (by simp [results, Tryd.results14, go_sem, y0, y1, y2, y3, y4]; rfl) rfl ?_
        exact ⟨by rw [HR2.out, HY.out], HBY.out⟩
      | false =>
        go_wp2
        go_roundg g1
        case measure => omega
        case rel =>
          refine ⟨i + 1, by omega, by go_num, fun j hj => ?_, HX3.out, HB3.out⟩
          by_cases e : j = i
          · rw [e, HY.out]; exact HRR.out
          · exact HNO.out j (by omega)
end Go.Proofs.YtigbicggcohcgaaDoor
