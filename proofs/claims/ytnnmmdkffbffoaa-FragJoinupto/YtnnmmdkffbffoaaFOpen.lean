/-
  Packets as they came in: their fields, their data; how many values and bytes they hold at most.
-/
import Derived.Test.YtnnmmdkffbffoaaFRead
import Derived.Deep.Slices
import Derived.ChangeSame
import Derived.ChangeSlices
import Derived.Lib.SmallJoins
namespace Go.Proofs.Ytnnmmdkffbffoaa
open Go.RowKit Go.Deep
theorem bulk_pos {H : Type} (d : DataW H) : 0 < Rows.uptoBulk d := by
  match d with
  | .lit b => cases b <;> simp [Rows.uptoBulk]
  | .nil => simp [Rows.uptoBulk]
  | .held _ => simp [Rows.uptoBulk]
  | .ptr _ | .slice _ _ | .agg _ | .iface _ _ | .map _ => simp [Rows.uptoBulk]
theorem bulk_len {H : Type} : ∀ l : List (DataW H), l.length ≤ Rows.uptoBulkAll l
  | [] => Nat.zero_le _
  | x :: r => by have h := bulk_len r; have h0 := bulk_pos x; simp only [Rows.uptoBulkAll, List.length_cons]; omega
theorem bulk_mem {H : Type} {d : DataW H} : ∀ {l : List (DataW H)}, d ∈ l → Rows.uptoBulk d ≤ Rows.uptoBulkAll l
  | x :: r, h => by
    simp only [Rows.uptoBulkAll]
    rcases List.mem_cons.1 h with rfl | h
    · omega
    · have := bulk_mem h; omega
theorem cells_six {w : World} {a : Addr} {cs : List Value} (h : w.cells? 0 a 6 = some cs) : ∃ c0 c1 c2 c3 c4 c5, cs = [c0, c1, c2, c3, c4, c5] ∧ w.cell? (a.add 0) = some c0 ∧ w.cell? (a.add 1) = some c1 ∧ w.cell? (a.add 2) = some c2 ∧ w.cell? (a.add 3) = some c3 ∧ w.cell? (a.add 4) = some c4 ∧ w.cell? (a.add 5) = some c5 := by
  unfold World.cells? at h
  rw [if_pos (Nat.zero_le _), show List.range 6 = [0, 1, 2, 3, 4, 5] from by decide] at h
  simp only [List.mapM_cons, List.mapM_nil, Option.pure_def, Option.bind_eq_bind, Option.bind_eq_some_iff, Option.some.injEq] at h
  obtain ⟨c0, h0, r1, ⟨c1, h1, r2, ⟨c2, h2, r3, ⟨c3, h3, r4, ⟨c4, h4, r5, ⟨c5, h5, r6, rfl, rfl⟩, rfl⟩, rfl⟩, rfl⟩, rfl⟩, rfl⟩ := h
  exact ⟨c0, c1, c2, c3, c4, c5, rfl, h0, h1, h2, h3, h4, h5⟩
theorem cellsPk : Try.prog.cellsOf 27 = 6 := by kernel_rfl
theorem oneI : Try.prog.cellsOf 3 = 1 := by kernel_rfl
theorem oneU : Try.prog.cellsOf 24 = 1 := by kernel_rfl
theorem oneB : Try.prog.cellsOf 25 = 1 := by kernel_rfl
set_option maxRecDepth 100000 in
theorem pk_elem {H : Type} {enc : TypeId × Value → H} {w : World} {n : Nat} {a : Addr} {cs : List Value} {y : DataW H × List MemPlace}
    (hc : w.cells? 0 a 6 = some cs) (h : DataW.trod enc Try.prog w 0 (fun _ => true) true n 27 cs = some y) : ∃ x : Pa, x.has w ∧ (∀ f u, x.cells[f]? = some u → w.cell? (a.add f) = some u) ∧ x.sn ≤ Rows.uptoBulk y.1 := by
  obtain ⟨c0, c1, c2, c3, c4, c5, rfl, k0, k1, k2, k3, k4, k5⟩ := cells_six hc
  obtain ⟨xs, m, _, hx, _, hlen, hfd⟩ := DataW.trod_struct Try.underlying27 h
  have hlen6 : xs.length = 6 := hlen
  have at_ : ∀ i, i < 6 → ∃ y, xs[i]? = some y := fun i hi => ⟨xs[i]'(by omega), List.getElem?_eq_getElem (by omega)⟩
  obtain ⟨y0, hy0⟩ := at_ 0 (by omega)
  have f0 : DataW.trod enc Try.prog w 0 (fun _ => true) true m 3 [c0] = some y0 := by
    have h := hfd 0 _ rfl
    rw [hy0] at h
    simpa [oneI] using h
  obtain ⟨y1, hy1⟩ := at_ 1 (by omega)
  have f1 : DataW.trod enc Try.prog w 0 (fun _ => true) true m 3 [c1] = some y1 := by
    have h := hfd 1 _ rfl
    rw [hy1] at h
    simpa [oneI] using h
  obtain ⟨y2, hy2⟩ := at_ 2 (by omega)
  have f2 : DataW.trod enc Try.prog w 0 (fun _ => true) true m 24 [c2] = some y2 := by
    have h := hfd 2 _ rfl
    rw [hy2] at h
    simpa [oneU] using h
  obtain ⟨y3, hy3⟩ := at_ 3 (by omega)
  have f3 : DataW.trod enc Try.prog w 0 (fun _ => true) true m 3 [c3] = some y3 := by
    have h := hfd 3 _ rfl
    rw [hy3] at h
    simpa [oneI] using h
  obtain ⟨y4, hy4⟩ := at_ 4 (by omega)
  have f4 : DataW.trod enc Try.prog w 0 (fun _ => true) true m 3 [c4] = some y4 := by
    have h := hfd 4 _ rfl
    rw [hy4] at h
    simpa [oneI] using h
  obtain ⟨y5, hy5⟩ := at_ 5 (by omega)
  have f5 : DataW.trod enc Try.prog w 0 (fun _ => true) true m 25 [c5] = some y5 := by
    have h := hfd 5 _ rfl
    rw [hy5] at h
    simpa [oneB] using h
  have hmem : Rows.uptoBulk y5.1 ≤ Rows.uptoBulk y.1 := by
    rw [hx]
    have : y5.1 ∈ xs.map (·.1) := List.mem_map.2 ⟨y5, List.mem_of_getElem? hy5, rfl⟩
    have := bulk_mem this
    simp only [Rows.uptoBulk]
    omega
  clear hfd hlen hlen6 at_ h hx hc
  obtain ⟨n0, e0, _, _⟩ := DataW.trod_int Try.underlying3 f0
  obtain rfl := (List.cons.inj e0).1
  obtain ⟨n1, e1, _, _⟩ := DataW.trod_int Try.underlying3 f1
  obtain rfl := (List.cons.inj e1).1
  obtain ⟨n2, e2, _, _⟩ := DataW.trod_int Try.underlying24 f2
  obtain rfl := (List.cons.inj e2).1
  obtain ⟨n3, e3, _, _⟩ := DataW.trod_int Try.underlying3 f3
  obtain rfl := (List.cons.inj e3).1
  obtain ⟨n4, e4, _, _⟩ := DataW.trod_int Try.underlying3 f4
  obtain rfl := (List.cons.inj e4).1
  obtain ⟨so, sn, sc, zs, rfl, hr, hbk⟩ : ∃ so sn sc zs, c5 = .slice so sn sc ∧ RowOf .u8 w so sn sc zs ∧ sn ≤ Rows.uptoBulk y5.1 := by
    rcases Go.ChangeShapes.open_ints Try.underlying25 Try.underlying5 (by kernel_rfl) f5 with ⟨hcs, _⟩ | ⟨x, l, c, zs, hcs, _, hl, hm, hz, hx, hcell, hwz⟩
    · simp at hcs
      exact ⟨none, 0, 0, [], hcs, .inl ⟨rfl, rfl, rfl, rfl⟩, Nat.zero_le _⟩
    · simp at hcs
      refine ⟨some x, l, c, zs, hcs, .inr ⟨_, rfl, hl, hm, by simpa using hz, hcell, hwz⟩, ?_⟩
      rw [hx]
      have hz' : zs.length = c := by simpa using hz
      have h1 := bulk_len (Go.ChangeShapes.lits (H := H) .u8 (zs.take l))
      simp only [Rows.uptoBulk]
      simp only [Go.ChangeShapes.lits, List.length_map, List.length_take] at h1
      have h2 : min l zs.length = l := by omega
      rw [h2] at h1
      exact Nat.le_trans h1 (by simp only [Go.ChangeShapes.lits]; omega)
  obtain ⟨l, hb⟩ := hr.bytes
  refine ⟨⟨n0, n1, n2, n3, n4, so, sn, sc, l⟩, hb, fun f u hu => ?_, Nat.le_trans hbk hmem⟩
  match f, hu with
  | 0, hu => obtain rfl := Option.some.inj hu; exact k0
  | 1, hu => obtain rfl := Option.some.inj hu; exact k1
  | 2, hu => obtain rfl := Option.some.inj hu; exact k2
  | 3, hu => obtain rfl := Option.some.inj hu; exact k3
  | 4, hu => obtain rfl := Option.some.inj hu; exact k4
  | 5, hu => obtain rfl := Option.some.inj hu; exact k5
theorem open_pks {H : Type} {enc : TypeId × Value → H} {w : World} {a : Option Addr} {len cap fuel : Nat} {x : DataW H × List MemPlace} (hf : DataW.trod enc Try.prog w 0 (fun _ => true) true fuel 22 [.slice a len cap] = some x) :
    ∃ xs, Pks w a len cap xs ∧ len ≤ Rows.uptoBulk x.1 ∧ ∀ y ∈ xs, y.sn ≤ Rows.uptoBulk x.1 := by
  rcases open_slice Try.underlying22 hf with ⟨hcs, hx⟩ | ⟨ad, l, c, m, n, D, Pl, hcs, _, hl, hm, hmm, hx, hel⟩
  · simp at hcs
    obtain ⟨rfl, rfl, rfl⟩ := hcs
    exact ⟨[], pks_nil w, Nat.zero_le _, fun y hy => by cases hy⟩
  · simp at hcs
    obtain ⟨rfl, rfl, rfl⟩ := hcs
    simp at hmm
    subst hmm
    have hF : ∀ i, ∃ z : Pa, i < len → z.has w ∧ (∀ f u, z.cells[f]? = some u → w.cell? ((ad.add (i * 6)).add f) = some u) ∧ z.sn ≤ Rows.uptoBulk (D i) := by
      intro i
      by_cases hi : i < len
      · obtain ⟨cs', h1, h2⟩ := hel i (by omega)
        rw [cellsPk] at h1
        obtain ⟨z, hz⟩ := pk_elem h1 h2
        exact ⟨z, fun _ => hz⟩
      · exact ⟨Pa.zero, fun h => absurd h hi⟩
    have eg : ∀ j, j < len → ((List.range len).map (fun i => Classical.choose (hF i))).getD j Pa.zero = Classical.choose (hF j) := fun j hj => by
      rw [List.getD_eq_getElem?_getD, List.getElem?_map, List.getElem?_range hj]; rfl
    have hlen : ((List.range len).map (fun i => Classical.choose (hF i))).length = len := by simp
    have hbig : Rows.uptoBulkAll ((List.range len).map D) ≤ Rows.uptoBulk x.1 := by rw [hx]; simp only [Rows.uptoBulk]; omega
    refine ⟨(List.range len).map (fun i => Classical.choose (hF i)), ⟨⟨by rw [cellsK_len, hlen], hl, hm, (fun e => by cases e), fun ad' e j u hu => ?_⟩, fun y hy => ?_⟩, ?_, fun y hy => ?_⟩
    · obtain rfl := Option.some.inj e
      have hj : j < len * 6 := by have := (List.getElem?_eq_some_iff.1 hu).1; rw [cellsK_len, hlen] at this; exact this
      have e6 : j / 6 * 6 + j % 6 = j := by omega
      have hq : j / 6 < len := by omega
      have h1 := cellsK_get ((List.range len).map (fun i => Classical.choose (hF i))) (j / 6) (j % 6) (by rw [hlen]; exact hq) (by omega)
      rw [e6, hu, eg _ hq] at h1
      have h2 := (Classical.choose_spec (hF (j / 6)) hq).2.1 (j % 6) u h1.symm
      rw [add_add, e6] at h2
      exact h2
    · obtain ⟨i, hi, rfl⟩ := List.mem_map.1 hy
      exact (Classical.choose_spec (hF i) (List.mem_range.1 hi)).1
    · have := bulk_len ((List.range len).map D); rw [List.length_map, List.length_range] at this; exact Nat.le_trans this hbig
    · obtain ⟨i, hi, rfl⟩ := List.mem_map.1 hy
      refine Nat.le_trans (Classical.choose_spec (hF i) (List.mem_range.1 hi)).2.2 (Nat.le_trans (bulk_mem ?_) hbig)
      exact List.mem_map.2 ⟨i, hi, rfl⟩
end Go.Proofs.Ytnnmmdkffbffoaa
