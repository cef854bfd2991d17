/-
  What Remove answers, as a contract.
-/
import Derived.Test.YtigbicggcohcgaaDoorAAdd
namespace Go.Proofs.YtigbicggcohcgaaDoor
open Go.RowKit
def RemEnd (w : World) (L : List Ar) (x : Int) (e : Ending) (w' : World) : Prop :=
  ((∀ y ∈ L, y.b ≠ x) ∧ e = .returned (.tuple #[.slice none 0 0, .iface 30 (.int .i64 12)]) ∨
    ∃ i, i < L.length ∧ (L.getD i Ar.zero).b = x ∧ ∃ ro rc, e = .returned (.tuple #[.slice ro (L.length - 1) rc, .nilIface]) ∧ Ars w' ro (L.length - 1) rc (L.take i ++ L.drop (i + 1))) ∧ Below w.heap.size w w'
theorem parts_rem {X : World} {ao : Option Addr} {n cap i : Nat} {L : List Ar} (hA : Ars X ao n cap L) (hi : i < n) {T2 : TypeId} :
    Parts (X.alloc (.cells #[.slice ao i cap, .slice (tailA ao (i + 1) cap) (n - (i + 1)) (cap - (i + 1))] T2))
      ⟨X.heap.size, 0, none⟩ [⟨ao, i, cap, L.take i⟩, ⟨tailA ao (i + 1) cap, n - (i + 1), cap - (i + 1), L.drop (i + 1)⟩] := by
  obtain ⟨Z, hZ⟩ : ∃ Z, X.alloc (.cells #[.slice ao i cap, .slice (tailA ao (i + 1) cap) (n - (i + 1)) (cap - (i + 1))] T2) = Z := ⟨_, rfl⟩
  rw [hZ]
  have b3 : Below X.heap.size X Z := hZ ▸ below_alloc X _
  have hbk : Z.heap[X.heap.size]? = some (.cells #[.slice ao i cap, .slice (tailA ao (i + 1) cap) (n - (i + 1)) (cap - (i + 1))] T2 (0, 0)) := by
    rw [← hZ]; exact heap_alloc_new _ _
  intro j hj
  rcases j with _ | _ | j
  · exact ⟨by rw [add0, cell_of_row Z _ 0 _ _ _ hbk]; rfl, (hA.head i (by omega)).carry b3⟩
  · exact ⟨by rw [add0, cell_of_row Z _ 1 _ _ _ hbk]; rfl, (hA.tail (i + 1) hi).carry b3⟩
  · simp only [List.length_cons, List.length_nil] at hj; omega
set_option maxRecDepth 20000 in
set_option maxHeartbeats 1600000 in
theorem remove_any (x : Int) (ao : Option Addr) (n cap : Nat) (L : List Ar) (w : World) (hA : Ars w ao n cap L) (hl : L.length ≤ 1000) :
    Calls Tryd.prog 15 #[.slice ao n cap, .int .i64 x] w fun e w' => RemEnd w L x e w' := by
  obtain ⟨X, hX⟩ : ∃ X, w.alloc (.cells #[.int .i64 x] 3) = X := ⟨_, rfl⟩
  have bX : Below w.heap.size w X := hX ▸ below_alloc w _
  have cX : X.cell? ⟨w.heap.size, 0, none⟩ = some (.int .i64 x) := by rw [← hX]; simp
  have HC := hide cX
  have HB := hide bX
  have HA := hide (hA.carry bX)
  have HN := hide hA.len
  have hnc := hA.2.1
  have hcap : cap ≤ 9223372036854775807 := hA.2.2.1
  have hn : n ≤ 1000 := by rw [hA.len]; exact hl
  clear hA hl bX cX
  go_enter Tryd.func15, Tryd.ntmps15
  go_wp2_with fail
  refine (index_base x w.heap.size ao n cap L _ HA.out HC.out).mono ?_; rintro e w1 ⟨r, rfl, hr, b1⟩
  have HB1 := hide (HB.out.trans (b1.mono HB.out.size))
  have HA1 := hide (HA.out.carry b1)
  clear b1 HA HB HC hX
  rcases hr with ⟨rfl, h0⟩ | ⟨i, hi, rfl, h1, h2⟩
  · have H0 := hide h0
    clear h0
    go_wp2
    go_ret2
    refine ⟨.inl ⟨fun y hy => ?_, rfl⟩, HB1.out⟩
    obtain ⟨j, hj, rfl⟩ := List.mem_iff_getElem.1 hy
    have := H0.out j hj
    rw [List.getD_eq_getElem?_getD, List.getElem?_eq_getElem hj, Option.getD_some] at this
    simpa using this
  · have H1 := hide h1
    have hin : i < n := by have := HN.out; omega
    have hneg : ¬ ((i : Int) < 0) := by omega
    have hww : IntKind.i64.wrap ((i : Int) + 1) = (i : Int) + 1 := wrap_in ⟨by omega, by omega⟩
    obtain ⟨m, hm⟩ : ∃ m, n - (i + 1) = m := ⟨_, rfl⟩
    obtain ⟨cm, hcm⟩ : ∃ m, cap - (i + 1) = m := ⟨_, rfl⟩
    obtain ⟨ta, hta⟩ : ∃ X, tailA ao (i + 1) cap = X := ⟨_, rfl⟩
    have hc1 := fun W : World => cut_head W ao n cap i (by omega)
    have hc2 : ∀ W : World, (Instr.slice 26 (.slice ao n cap) (some (.int .i64 ((i : Int) + 1))) none none).run Tryd.prog W = .ok (.slice ta m cm) W := fun W => by
      have := cut_tail W ao n cap (i + 1) (by omega)
      rw [hta, hm, hcm] at this
      exact this
    obtain ⟨ps, hps⟩ : ∃ ps : List Prt, [⟨ao, i, cap, L.take i⟩, ⟨ta, m, cm, L.drop (i + 1)⟩] = ps := ⟨_, rfl⟩
    have HPS := hide hps
    have HPA : Hid (∀ q, Parts ((w1.drewN q).alloc (.cells #[.slice ao i cap, .slice ta m cm] 26)) ⟨w1.heap.size, 0, none⟩ ps) := fun q => by
      have := parts_rem (X := w1.drewN q) (i := i) (show Ars (w1.drewN q) ao n cap L from HA1.out) (by omega) (T2 := 26)
      rw [hta, hm, hcm] at this
      rw [← hps]
      exact this
    have HL3 : Hid (ps.length = 2) := by show _ = _; rw [← hps]; rfl
    have HSU : Hid (sumN ps 2 = n - 1) := by show _ = _; rw [← hps]; simp [sumN]; omega
    clear hm hcm hta hps h1 h2
    go_wp2_with fail
    go_region_held (fun _ => True) (trivial) (first | (go_at_call 21; refine (concat_any _ 2 ps _ HL3.out (by omega) (HPA.out 1) (by rw [HSU.out]; omega)).mono ?_; rintro e w5 ⟨v5, rfl, ao5, c5, rfl, A5, b5, _⟩; rw [HSU.out] at A5 ⊢; have HA5 := hide A5; have HW5 := hide (below_one (below_d1 w1 1 _) b5); have HB5 := hide (HB1.out.trans (HW5.out.mono HB1.out.size)); clear A5 b5))
    all_goals
      go_wp2
      go_ret2
      have en := HN.out
      refine ⟨.inr ⟨i, by omega, by simpa using H1.out, ao5, c5, by rw [← en]; rfl, ?_⟩, HB5.out⟩
      have := HA5.out
      rw [← HPS.out] at this
      simp only [flatL, List.take_succ_cons, List.take_zero, List.flatMap_cons, List.flatMap_nil, List.append_nil] at this
      rw [← en]
      exact this
end Go.Proofs.YtigbicggcohcgaaDoor
