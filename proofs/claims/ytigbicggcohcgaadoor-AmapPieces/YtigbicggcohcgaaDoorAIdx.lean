/-
  slices.IndexFunc and ContainsFunc of areas at amap's two function values, as contracts.
-/
import Derived.Test.YtigbicggcohcgaaDoorACalls
namespace Go.Proofs.YtigbicggcohcgaaDoor
open Go.RowKit
def IdxIs (p : Ar → Bool) (L : List Ar) (r : Int) : Prop := (r = -1 ∧ ∀ j, j < L.length → p (L.getD j Ar.zero) = false) ∨ ∃ i : Nat, i < L.length ∧ r = (i : Int) ∧ p (L.getD i Ar.zero) = true ∧ ∀ j, j < i → p (L.getD j Ar.zero) = false
def IdxRel (w : World) (p : Ar → Bool) (L : List Ar) (n gk : Nat) (vi : Value) (wr : World) : Prop := ∃ i : Nat, i + gk = n ∧ vi = .int .i64 (i : Int) ∧ (∀ j, j < i → p (L.getD j Ar.zero) = false) ∧ Below w.heap.size w wr
set_option maxRecDepth 20000 in
set_option maxHeartbeats 1600000 in
theorem index_lap (a : Ar) (ao : Option Addr) (n cap : Nat) (L : List Ar) (w : World) (hA : Ars w ao n cap L) :
    Calls Tryd.prog 24 #[.slice ao n cap, .func (.func 20) #[.agg #[.int .i64 a.b, .int .i64 a.s, .int .i64 a.g, .int .i64 a.o, .bool a.w]] #[]] w fun e w' => ∃ r, e = .returned (.int .i64 r) ∧ IdxIs (lapA a) L r ∧ Below w.heap.size w w' := by
  have HA := hide hA
  have hcap : cap ≤ 9223372036854775807 := hA.2.2.1
  have hnc := hA.2.1
  have HLEN := hide hA.len
  clear hA
  go_enter Tryd.func24, Tryd.ntmps24
  go_wp2
  go_loopg [8] n (fun gk vi wr => IdxRel w (lapA a) L n gk vi wr)
  case atStart => exact ⟨0, by omega, rfl, fun j hj => by omega, Below.refl _ _⟩
  case round =>
    obtain ⟨i, hi, rfl, hno, b⟩ := hrel
    have HN := hide hno
    have HB := hide b
    clear hno b
    cases gk with
    | zero =>
      have hlt : ¬ ((i : Int) < (n : Int)) := by omega
      go_wp2
      go_ret
      exact ⟨_, rfl, .inl ⟨rfl, fun j hj => HN.out j (by have := HLEN.out; omega)⟩, HB.out⟩
    | succ g1 =>
      have hlt : (i : Int) < (n : Int) := by omega
      obtain ⟨ad, rfl⟩ := HA.out.there (k := i) (by omega)
      obtain ⟨c0, c1, c2, c3, c4⟩ := (HA.out.carry HB.out).elem i (by omega)
      obtain ⟨y, hy⟩ : ∃ y, L.getD i Ar.zero = y := ⟨_, rfl⟩
      rw [hy] at c0 c1 c2 c3 c4
      have HY := hide hy
      clear hy
      go_wp2_with fail
      refine (overlaps_any a y _).mono ?_; rintro e w1 ⟨rfl, b1⟩
      obtain ⟨r, hr⟩ : ∃ r, (lapA a) y = r := ⟨_, rfl⟩
      have HR := hide hr
      rw [show lapA a y = r from hr]
      have HB1 := hide (below_one HB.out b1)
      clear b1 hr c0 c1 c2 c3 c4
      cases r with
      | true =>
        go_wp2
        go_ret
        exact ⟨_, rfl, .inr ⟨i, by have := HLEN.out; omega, rfl, by rw [HY.out]; exact HR.out, HN.out⟩, HB1.out⟩
      | false =>
        go_wp2
        go_roundg g1
        case measure => omega
        case rel =>
          refine ⟨i + 1, by omega, by go_num, fun j hj => ?_, HB1.out⟩
          by_cases e : j = i
          · rw [e, HY.out]; exact HR.out
          · exact HN.out j (by omega)
set_option maxRecDepth 20000 in
set_option maxHeartbeats 1600000 in
theorem index_base (c : Int) (g : Nat) (ao : Option Addr) (n cap : Nat) (L : List Ar) (w : World) (hA : Ars w ao n cap L) (hc : w.cell? ⟨g, 0, none⟩ = some (.int .i64 c)) :
    Calls Tryd.prog 24 #[.slice ao n cap, .func (.func 25) #[] #[.pointer (some ⟨g, 0, none⟩)]] w fun e w' => ∃ r, e = .returned (.int .i64 r) ∧ IdxIs (fun x => x.b == c) L r ∧ Below w.heap.size w w' := by
  have HA := hide hA
  have hcap : cap ≤ 9223372036854775807 := hA.2.2.1
  have hnc := hA.2.1
  have HLEN := hide hA.len
  have HC : Hid (g < w.heap.size) := lt_of_cell hc
  clear hA
  go_enter Tryd.func24, Tryd.ntmps24
  go_wp2
  go_loopg [8] n (fun gk vi wr => IdxRel w (fun x => x.b == c) L n gk vi wr)
  case atStart => exact ⟨0, by omega, rfl, fun j hj => by omega, Below.refl _ _⟩
  case round =>
    obtain ⟨i, hi, rfl, hno, b⟩ := hrel
    have HN := hide hno
    have HB := hide b
    clear hno b
    cases gk with
    | zero =>
      have hlt : ¬ ((i : Int) < (n : Int)) := by omega
      go_wp2
      go_ret
      exact ⟨_, rfl, .inl ⟨rfl, fun j hj => HN.out j (by have := HLEN.out; omega)⟩, HB.out⟩
    | succ g1 =>
      have hlt : (i : Int) < (n : Int) := by omega
      obtain ⟨ad, rfl⟩ := HA.out.there (k := i) (by omega)
      obtain ⟨c0, c1, c2, c3, c4⟩ := (HA.out.carry HB.out).elem i (by omega)
      obtain ⟨y, hy⟩ : ∃ y, L.getD i Ar.zero = y := ⟨_, rfl⟩
      rw [hy] at c0 c1 c2 c3 c4
      have HY := hide hy
      clear hy
      go_wp2_with fail
      refine (same_any y g c _ (by rw [HB.out.cell HC.out, hc])).mono ?_; rintro e w1 ⟨rfl, b1⟩
      obtain ⟨r, hr⟩ : ∃ r, (fun x => x.b == c) y = r := ⟨_, rfl⟩
      have HR := hide hr
      rw [show (y.b == c) = r from hr]
      have HB1 := hide (below_one HB.out b1)
      clear b1 hr c0 c1 c2 c3 c4
      cases r with
      | true =>
        go_wp2
        go_ret
        exact ⟨_, rfl, .inr ⟨i, by have := HLEN.out; omega, rfl, by rw [HY.out]; exact HR.out, HN.out⟩, HB1.out⟩
      | false =>
        go_wp2
        go_roundg g1
        case measure => omega
        case rel =>
          refine ⟨i + 1, by omega, by go_num, fun j hj => ?_, HB1.out⟩
          by_cases e : j = i
          · rw [e, HY.out]; exact HR.out
          · exact HN.out j (by omega)
set_option maxHeartbeats 800000 in
theorem contains_any (a : Ar) (ao : Option Addr) (n cap : Nat) (L : List Ar) (w : World) (hA : Ars w ao n cap L) :
    Calls Tryd.prog 19 #[.slice ao n cap, .func (.func 20) #[.agg #[.int .i64 a.b, .int .i64 a.s, .int .i64 a.g, .int .i64 a.o, .bool a.w]] #[]] w fun e w' => e = .returned (.bool (L.any (lapA a))) ∧ Below w.heap.size w w' := by
  obtain ⟨q, hq⟩ : ∃ q, L.any (lapA a) = q := ⟨_, rfl⟩
  rw [hq]
  have HQ := hide hq
  have HA := hide hA
  clear hq hA
  go_enter Tryd.func19, Tryd.ntmps19
  go_wp2_with fail
  refine (index_lap a ao n cap L _ HA.out).mono ?_; rintro e w1 ⟨r, rfl, hr, b1⟩
  have HB := hide b1
  clear b1
  rcases hr with ⟨rfl, h0⟩ | ⟨i, hi, rfl, h1, _⟩
  · obtain rfl : q = false := by
      rw [← HQ.out, List.any_eq_false]
      intro x hx
      obtain ⟨j, hj, rfl⟩ := List.mem_iff_getElem.1 hx
      have := h0 j hj
      rw [List.getD_eq_getElem?_getD, List.getElem?_eq_getElem hj, Option.getD_some] at this
      rw [this]; decide
    go_wp2
    go_ret
    exact ⟨rfl, HB.out⟩
  · obtain rfl : q = true := by
      rw [← HQ.out, List.any_eq_true]
      refine ⟨_, List.getElem_mem hi, ?_⟩
      rw [List.getD_eq_getElem?_getD, List.getElem?_eq_getElem hi, Option.getD_some] at h1
      exact h1
    have hp : (0 : Int) ≤ (i : Int) := by omega
    clear h1
    go_wp2
    go_ret
    exact ⟨rfl, HB.out⟩
end Go.Proofs.YtigbicggcohcgaaDoor
