/-
  slices.IndexFunc of threads that wait and of messages, at any function value that asks; match's without of both: contracts.
-/
import Derived.Test.YtfjchchjdjjepaaDoorJConW
import Derived.Test.YtfjchchjdjjepaaDoorJConM
namespace Go.Proofs.YtfjchchjdjjepaaDoor
open Go.RowKit
theorem below_ad (w : World) (o : Obj) : Below w.heap.size w (w.alloc o).drew := below_drewN (below_alloc w o) 1
/- F asks q of one, with c beside it, and changes nothing -/
structure AsksW (F : Nat) (g : Nat) (c : Value) (q : Wt → Bool) : Prop where
  enter : ∀ (xs : Array Value) (w : World), (callFunc F xs).run Tryd.prog w = .ok (.enter F xs) w
  call : ∀ (y : Wt) (w : World), w.cell? ⟨g, 0, none⟩ = some c →
    Calls Tryd.prog F #[.agg #[.int .u64 y.p, .int .i64 y.t], .pointer (some ⟨g, 0, none⟩)] w fun e w' => e = .returned (.bool (q y)) ∧ Below w.heap.size w w'
def IdxWIs (q : Wt → Bool) (L : List Wt) (r : Int) : Prop := (r = -1 ∧ ∀ j, j < L.length → q (L.getD j Wt.zero) = false) ∨ ∃ i : Nat, i < L.length ∧ r = (i : Int) ∧ q (L.getD i Wt.zero) = true ∧ ∀ j, j < i → q (L.getD j Wt.zero) = false
def IdxWRel (w : World) (q : Wt → Bool) (L : List Wt) (n gk : Nat) (vi : Value) (wr : World) : Prop := ∃ i : Nat, i + gk = n ∧ vi = .int .i64 (i : Int) ∧ (∀ j, j < i → q (L.getD j Wt.zero) = false) ∧ Below w.heap.size w wr
set_option maxRecDepth 20000 in
set_option maxHeartbeats 1600000 in
theorem index_anyW (F : Nat) (q : Wt → Bool) (c : Value) (g : Nat) (ao : Option Addr) (n cap : Nat) (L : List Wt) (w : World) (hA : Lies 2 w ao n cap (cellsW L)) (hc : w.cell? ⟨g, 0, none⟩ = some c) (hF : AsksW F g c q) :
    Calls Tryd.prog 13 #[.slice ao n cap, .func (.func F) #[] #[.pointer (some ⟨g, 0, none⟩)]] w fun e w' => ∃ r, e = .returned (.int .i64 r) ∧ IdxWIs q L r ∧ Below w.heap.size w w' := by
  have hnc := hA.2.1
  have hcap : cap ≤ 9223372036854775807 := hA.2.2.1
  have HLEN := hide (liesW_len hA)
  have HA := hide hA
  have HC : Hid (g < w.heap.size) := lt_of_cell hc
  have HCC := hide hc
  have HFF := hide hF
  have hent := hF.enter
  clear hA hc hF
  go_enter Tryd.func13, Tryd.ntmps13
  go_wp2
  go_loopg [8] n (fun gk vi wr => IdxWRel w q L n gk vi wr)
  case atStart => exact ⟨0, by omega, rfl, fun j hj => by omega, Below.refl _ _⟩
  case round =>
    obtain ⟨i, hi, rfl, hno, b⟩ := hrel
    have HN := hide hno
    have HB := hide b
    clear hno b
    cases gk with
    | zero =>
      have hlt : ¬ ((i : Int) < (n : Int)) := by omega
      go_wp2
      go_ret
      exact ⟨_, rfl, .inl ⟨rfl, fun j hj => HN.out j (by have := HLEN.out; omega)⟩, HB.out⟩
    | succ g1 =>
      have hin : i < n := by omega
      have hlt : (i : Int) < (n : Int) := by omega
      have hl := HA.out.carry HB.out (Nat.le_refl _)
      obtain ⟨ad, rfl⟩ := hl.there hin
      obtain ⟨y, hy⟩ : ∃ y, L.getD i Wt.zero = y := ⟨_, rfl⟩
      obtain ⟨k0, k1⟩ := liesW_elem hl i hin y hy _ rfl
      have HY := hide hy
      clear hy hl
      go_wp2_with fail
      refine (HFF.out.call y _ (by rw [HB.out.cell HC.out, HCC.out])).mono ?_; rintro e w1 ⟨rfl, b1⟩
      obtain ⟨r, hr⟩ : ∃ r, q y = r := ⟨_, rfl⟩
      have HR := hide hr
      rw [hr]
      have HB1 := hide (below_one HB.out b1)
      clear b1 hr
      cases r with
      | true =>
        go_wp2
        go_ret
        exact ⟨_, rfl, .inr ⟨i, by have := HLEN.out; omega, rfl, by rw [HY.out]; exact HR.out, HN.out⟩, HB1.out⟩
      | false =>
        go_wp2
        go_roundg g1
        case measure => omega
        case rel =>
          refine ⟨i + 1, by omega, by go_num, fun j hj => ?_, HB1.out⟩
          by_cases e : j = i
          · rw [e, HY.out]; exact HR.out
          · exact HN.out j (by omega)
/- a list but for the one at a place -/
set_option maxRecDepth 20000 in
set_option maxHeartbeats 1600000 in
theorem without_anyW (k : Nat) (ao : Option Addr) (n cap : Nat) (L : List Wt) (w : World) (hA : Lies 2 w ao n cap (cellsW L)) (hk : k < n) (hn : n ≤ 64) :
    Calls Tryd.prog 15 #[.slice ao n cap, .int .i64 (k : Int)] w fun e w' => ∃ co c, e = .returned (.slice co (n - 1) c) ∧ Lies 2 w' co (n - 1) c (cellsW (L.eraseIdx k)) ∧ Below w.heap.size w w' ∧ New w co := by
  have hnc := hA.2.1
  have hcap : cap ≤ 9223372036854775807 := hA.2.2.1
  have hL1 := hA.head k (by omega)
  have hL2 := hA.tail (k + 1) (by omega)
  rw [← cellsW_take] at hL1
  rw [← cellsW_drop] at hL2
  have hww : IntKind.i64.wrap ((k : Int) + 1) = (k : Int) + 1 := by rw [IntKind.wrap_i64]; omega
  have hc1 := fun W : World => cutG_head Tryd.underlying25 Tryd.sizeOfW W ao n cap k (by omega)
  have hc2 := fun W : World => cutG_tail Tryd.underlying25 Tryd.sizeOfW W ao n cap (k + 1) (by omega)
  obtain ⟨ta, hta⟩ : ∃ X, tailG 2 ao (k + 1) cap = X := ⟨_, rfl⟩
  obtain ⟨m, hm⟩ : ∃ X, n - (k + 1) = X := ⟨_, rfl⟩
  obtain ⟨cm, hcm⟩ : ∃ X, cap - (k + 1) = X := ⟨_, rfl⟩
  rw [hta, hm, hcm] at hc2 hL2
  have hc2' : ∀ W : World, (Instr.slice 25 (.slice ao n cap) (some (.int .i64 ((k : Int) + 1))) none none).run Tryd.prog W = .ok (.slice ta m cm) W := fun W => by rw [← hc2 W]; rfl
  obtain ⟨ps, hps⟩ : ∃ ps : List Prt, [⟨ao, k, cap, cellsW (L.take k)⟩, ⟨ta, m, cm, cellsW (L.drop (k + 1))⟩] = ps := ⟨_, rfl⟩
  have HPA : Hid (Parts 2 (w.alloc (.cells #[.slice ao k cap, .slice ta m cm] 25)).drew ⟨w.heap.size, 0, none⟩ ps) := by
    rw [← hps]; exact parts_two hL1 hL2 (cellsW_one _) (cellsW_one _)
  have HL2 : Hid (ps.length = 2) := by show _ = _; rw [← hps]; rfl
  have HSU : Hid (sumN ps 2 = k + m) := by show _ = _; rw [← hps]; simp [sumN]
  have HFL : Hid (flatV ps 2 = cellsW (L.eraseIdx k)) := by show _ = _; rw [List.eraseIdx_eq_take_drop_succ, ← hps, cellsW_append]; simp [flatV]
  have hmm : k + m ≤ 64 := by omega
  have HMM := hide hmm
  have HNM : Hid (k + m = n - 1) := by show _ = _; omega
  clear hcm hta hps hc2 hL1 hL2 hm hA
  go_enter Tryd.func15, Tryd.ntmps15
  go_wp2_with fail
  go_region_with (first | (go_at_call 22; go_must (refine (concat_anyW _ 2 ps _ HL2.out (by omega) HPA.out (by rw [HSU.out]; have := HMM.out; omega)).mono ?_); rintro e w5 ⟨v5, rfl, ao5, c5, rfl, A5, b5, n5⟩; have HB6 := hide (below_one (below_ad w _) b5); have HN6 := hide (New.le n5 (below_ad w (.cells #[.slice ao k cap, .slice ta m cm] 25)).size); rw [HFL.out] at A5; have HA5 := hide A5; clear A5 b5 n5))
  all_goals
    go_wp2
    go_ret
    rw [← HNM.out, ← HSU.out]
    exact ⟨_, _, rfl, HA5.out, HB6.out, HN6.out⟩

/- F asks q of one, with c beside it, and changes nothing -/
structure AsksM (F : Nat) (g : Nat) (c : Value) (q : Ms → Bool) : Prop where
  enter : ∀ (xs : Array Value) (w : World), (callFunc F xs).run Tryd.prog w = .ok (.enter F xs) w
  call : ∀ (y : Ms) (w : World), w.cell? ⟨g, 0, none⟩ = some c →
    Calls Tryd.prog F #[.agg #[.int .u64 y.ta, .int .u64 y.rp, .int .u32 y.id, .int .u16 y.op, .int .u16 y.st, .int .u64 y.p, .int .u32 y.o, .int .u8 y.r, .int .u64 y.c, .int .u64 y.ar, .slice y.so y.sn y.sc], .pointer (some ⟨g, 0, none⟩)] w fun e w' => e = .returned (.bool (q y)) ∧ Below w.heap.size w w'
def IdxMIs (q : Ms → Bool) (L : List Ms) (r : Int) : Prop := (r = -1 ∧ ∀ j, j < L.length → q (L.getD j Ms.zero) = false) ∨ ∃ i : Nat, i < L.length ∧ r = (i : Int) ∧ q (L.getD i Ms.zero) = true ∧ ∀ j, j < i → q (L.getD j Ms.zero) = false
def IdxMRel (w : World) (q : Ms → Bool) (L : List Ms) (n gk : Nat) (vi : Value) (wr : World) : Prop := ∃ i : Nat, i + gk = n ∧ vi = .int .i64 (i : Int) ∧ (∀ j, j < i → q (L.getD j Ms.zero) = false) ∧ Below w.heap.size w wr
set_option maxRecDepth 20000 in
set_option maxHeartbeats 1600000 in
theorem index_anyM (F : Nat) (q : Ms → Bool) (c : Value) (g : Nat) (ao : Option Addr) (n cap : Nat) (L : List Ms) (w : World) (hA : Lies 11 w ao n cap (cellsM L)) (hc : w.cell? ⟨g, 0, none⟩ = some c) (hF : AsksM F g c q) :
    Calls Tryd.prog 19 #[.slice ao n cap, .func (.func F) #[] #[.pointer (some ⟨g, 0, none⟩)]] w fun e w' => ∃ r, e = .returned (.int .i64 r) ∧ IdxMIs q L r ∧ Below w.heap.size w w' := by
  have hnc := hA.2.1
  have hcap : cap ≤ 9223372036854775807 := hA.2.2.1
  have HLEN := hide (liesM_len hA)
  have HA := hide hA
  have HC : Hid (g < w.heap.size) := lt_of_cell hc
  have HCC := hide hc
  have HFF := hide hF
  have hent := hF.enter
  clear hA hc hF
  go_enter Tryd.func19, Tryd.ntmps19
  go_wp2
  go_loopg [8] n (fun gk vi wr => IdxMRel w q L n gk vi wr)
  case atStart => exact ⟨0, by omega, rfl, fun j hj => by omega, Below.refl _ _⟩
  case round =>
    obtain ⟨i, hi, rfl, hno, b⟩ := hrel
    have HN := hide hno
    have HB := hide b
    clear hno b
    cases gk with
    | zero =>
      have hlt : ¬ ((i : Int) < (n : Int)) := by omega
      go_wp2
      go_ret
      exact ⟨_, rfl, .inl ⟨rfl, fun j hj => HN.out j (by have := HLEN.out; omega)⟩, HB.out⟩
    | succ g1 =>
      have hin : i < n := by omega
      have hlt : (i : Int) < (n : Int) := by omega
      have hl := HA.out.carry HB.out (Nat.le_refl _)
      obtain ⟨ad, rfl⟩ := hl.there hin
      obtain ⟨y, hy⟩ : ∃ y, L.getD i Ms.zero = y := ⟨_, rfl⟩
      obtain ⟨k0, k1, k2, k3, k4, k5, k6, k7, k8, k9, k10⟩ := lies_elem hl i hin y hy _ rfl
      have HY := hide hy
      clear hy hl
      go_wp2_with fail
      refine (HFF.out.call y _ (by rw [HB.out.cell HC.out, HCC.out])).mono ?_; rintro e w1 ⟨rfl, b1⟩
      obtain ⟨r, hr⟩ : ∃ r, q y = r := ⟨_, rfl⟩
      have HR := hide hr
      rw [hr]
      have HB1 := hide (below_one HB.out b1)
      clear b1 hr
      cases r with
      | true =>
        go_wp2
        go_ret
        exact ⟨_, rfl, .inr ⟨i, by have := HLEN.out; omega, rfl, by rw [HY.out]; exact HR.out, HN.out⟩, HB1.out⟩
      | false =>
        go_wp2
        go_roundg g1
        case measure => omega
        case rel =>
          refine ⟨i + 1, by omega, by go_num, fun j hj => ?_, HB1.out⟩
          by_cases e : j = i
          · rw [e, HY.out]; exact HR.out
          · exact HN.out j (by omega)
/- a list but for the one at a place -/
set_option maxRecDepth 20000 in
set_option maxHeartbeats 1600000 in
theorem without_anyM (k : Nat) (ao : Option Addr) (n cap : Nat) (L : List Ms) (w : World) (hA : Lies 11 w ao n cap (cellsM L)) (hk : k < n) (hn : n ≤ 64) :
    Calls Tryd.prog 21 #[.slice ao n cap, .int .i64 (k : Int)] w fun e w' => ∃ co c, e = .returned (.slice co (n - 1) c) ∧ Lies 11 w' co (n - 1) c (cellsM (L.eraseIdx k)) ∧ Below w.heap.size w w' ∧ New w co := by
  have hnc := hA.2.1
  have hcap : cap ≤ 9223372036854775807 := hA.2.2.1
  have hL1 := hA.head k (by omega)
  have hL2 := hA.tail (k + 1) (by omega)
  rw [cellsM_take] at hL1
  rw [cellsM_drop] at hL2
  have hww : IntKind.i64.wrap ((k : Int) + 1) = (k : Int) + 1 := by rw [IntKind.wrap_i64]; omega
  have hc1 := fun W : World => cutG_head Tryd.underlying26 Tryd.sizeOfM W ao n cap k (by omega)
  have hc2 := fun W : World => cutG_tail Tryd.underlying26 Tryd.sizeOfM W ao n cap (k + 1) (by omega)
  obtain ⟨ta, hta⟩ : ∃ X, tailG 11 ao (k + 1) cap = X := ⟨_, rfl⟩
  obtain ⟨m, hm⟩ : ∃ X, n - (k + 1) = X := ⟨_, rfl⟩
  obtain ⟨cm, hcm⟩ : ∃ X, cap - (k + 1) = X := ⟨_, rfl⟩
  rw [hta, hm, hcm] at hc2 hL2
  have hc2' : ∀ W : World, (Instr.slice 26 (.slice ao n cap) (some (.int .i64 ((k : Int) + 1))) none none).run Tryd.prog W = .ok (.slice ta m cm) W := fun W => by rw [← hc2 W]; rfl
  obtain ⟨ps, hps⟩ : ∃ ps : List Prt, [⟨ao, k, cap, cellsM (L.take k)⟩, ⟨ta, m, cm, cellsM (L.drop (k + 1))⟩] = ps := ⟨_, rfl⟩
  have HPA : Hid (Parts 11 (w.alloc (.cells #[.slice ao k cap, .slice ta m cm] 26)).drew ⟨w.heap.size, 0, none⟩ ps) := by
    rw [← hps]; exact parts_two hL1 hL2 (cellsM_one _) (cellsM_one _)
  have HL2 : Hid (ps.length = 2) := by show _ = _; rw [← hps]; rfl
  have HSU : Hid (sumN ps 2 = k + m) := by show _ = _; rw [← hps]; simp [sumN]
  have HFL : Hid (flatV ps 2 = cellsM (L.eraseIdx k)) := by show _ = _; rw [List.eraseIdx_eq_take_drop_succ, ← hps, cellsM_append]; simp [flatV]
  have hmm : k + m ≤ 64 := by omega
  have HMM := hide hmm
  have HNM : Hid (k + m = n - 1) := by show _ = _; omega
  clear hcm hta hps hc2 hL1 hL2 hm hA
  go_enter Tryd.func21, Tryd.ntmps21
  go_wp2_with fail
  go_region_with (first | (go_at_call 16; go_must (refine (concat_anyM _ 2 ps _ HL2.out (by omega) HPA.out (by rw [HSU.out]; have := HMM.out; omega)).mono ?_); rintro e w5 ⟨v5, rfl, ao5, c5, rfl, A5, b5, n5⟩; have HB6 := hide (below_one (below_ad w _) b5); have HN6 := hide (New.le n5 (below_ad w (.cells #[.slice ao k cap, .slice ta m cm] 26)).size); rw [HFL.out] at A5; have HA5 := hide A5; clear A5 b5 n5))
  all_goals
    go_wp2
    go_ret
    rw [← HNM.out, ← HSU.out]
    exact ⟨_, _, rfl, HA5.out, HB6.out, HN6.out⟩
end Go.Proofs.YtfjchchjdjjepaaDoor
