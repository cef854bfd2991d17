/-
  A script's deeds on a Served, as they came in: what is done, to which request, and a reply; how many bytes its data has at most.
-/
import Derived.Test.YtnkfdnmaocfjnaaDoorLMsg
namespace Go.Proofs.YtnkfdnmaocfjnaaDoor
open Go.RowKit Go.Deep
structure Ac where
  o : Nat
  m : Ms
  n : Nat
def Ac.zero : Ac := ⟨0, Ms.zero, 0⟩
def Ac.sn (x : Ac) : Nat := x.m.sn
def Ac.ok (x : Ac) : Prop := x.o ≤ 255 ∧ x.n ≤ 255 ∧ (Lit.int .u32 x.m.id).wf = true
def Ac.at (w : World) (a : Addr) (x : Ac) : Prop :=
  x.ok ∧ x.m.has w ∧ w.cell? a = some (.int .u8 (x.o : Nat)) ∧ w.cell? (a.add 1) = some (.int .u8 (x.n : Nat)) ∧ w.cell? (a.add 2) = some (.int .u64 x.m.ta) ∧ w.cell? (a.add 3) = some (.int .u64 x.m.rp) ∧ w.cell? (a.add 4) = some (.int .u32 x.m.id) ∧ w.cell? (a.add 5) = some (.int .u16 x.m.op) ∧ w.cell? (a.add 6) = some (.int .u16 x.m.st) ∧ w.cell? (a.add 7) = some (.int .u64 x.m.p) ∧ w.cell? (a.add 8) = some (.int .u32 x.m.o) ∧ w.cell? (a.add 9) = some (.int .u8 x.m.r) ∧ w.cell? (a.add 10) = some (.int .u64 x.m.c) ∧ w.cell? (a.add 11) = some (.int .u64 x.m.ar) ∧ w.cell? (a.add 12) = some (.slice x.m.so x.m.sn x.m.sc)
theorem Ac.at.carry {w w' : World} {a : Addr} {x : Ac} (h : Ac.at w a x) (b : Below w.heap.size w w') : Ac.at w' a x := by
  obtain ⟨h0, h1, h2, h3, h4, h5, h6, h7, h8, h9, h10, h11, h12, h13, h14⟩ := h
  exact ⟨h0, Bts.carry h1 b, by rw [b.cell (lt_of_cell h2), h2], by rw [b.cell (lt_of_cell h3), h3], by rw [b.cell (lt_of_cell h4), h4], by rw [b.cell (lt_of_cell h5), h5], by rw [b.cell (lt_of_cell h6), h6], by rw [b.cell (lt_of_cell h7), h7], by rw [b.cell (lt_of_cell h8), h8], by rw [b.cell (lt_of_cell h9), h9], by rw [b.cell (lt_of_cell h10), h10], by rw [b.cell (lt_of_cell h11), h11], by rw [b.cell (lt_of_cell h12), h12], by rw [b.cell (lt_of_cell h13), h13], by rw [b.cell (lt_of_cell h14), h14]⟩
def Acts (w : World) (ao : Option Addr) (n cap : Nat) (xs : List Ac) : Prop :=
  n = xs.length ∧ n ≤ cap ∧ cap ≤ maxLen ∧ (ao = none → cap = 0) ∧ ∀ ad, ao = some ad → ∀ j, j < n → Ac.at w (ad.add (j * 13)) (xs.getD j Ac.zero)
theorem Acts.carry {w w' : World} {ao : Option Addr} {n cap : Nat} {xs : List Ac} (h : Acts w ao n cap xs) (b : Below w.heap.size w w') : Acts w' ao n cap xs :=
  ⟨h.1, h.2.1, h.2.2.1, h.2.2.2.1, fun ad e j hj => (h.2.2.2.2 ad e j hj).carry b⟩
theorem cells_thirteen {w : World} {a : Addr} {cs : List Value} (h : w.cells? 0 a 13 = some cs) : ∃ c0 c1 c2 c3 c4 c5 c6 c7 c8 c9 c10 c11 c12, cs = [c0, c1, c2, c3, c4, c5, c6, c7, c8, c9, c10, c11, c12] ∧ w.cell? (a.add 0) = some c0 ∧ w.cell? (a.add 1) = some c1 ∧ w.cell? (a.add 2) = some c2 ∧ w.cell? (a.add 3) = some c3 ∧ w.cell? (a.add 4) = some c4 ∧ w.cell? (a.add 5) = some c5 ∧ w.cell? (a.add 6) = some c6 ∧ w.cell? (a.add 7) = some c7 ∧ w.cell? (a.add 8) = some c8 ∧ w.cell? (a.add 9) = some c9 ∧ w.cell? (a.add 10) = some c10 ∧ w.cell? (a.add 11) = some c11 ∧ w.cell? (a.add 12) = some c12 := by
  unfold World.cells? at h
  rw [if_pos (Nat.zero_le _), show List.range 13 = [0, 1, 2, 3, 4, 5, 6, 7, 8, 9, 10, 11, 12] from by decide] at h
  simp only [List.mapM_cons, List.mapM_nil, Option.pure_def, Option.bind_eq_bind, Option.bind_eq_some_iff, Option.some.injEq] at h
  obtain ⟨c0, h0, r1, ⟨c1, h1, r2, ⟨c2, h2, r3, ⟨c3, h3, r4, ⟨c4, h4, r5, ⟨c5, h5, r6, ⟨c6, h6, r7, ⟨c7, h7, r8, ⟨c8, h8, r9, ⟨c9, h9, r10, ⟨c10, h10, r11, ⟨c11, h11, r12, ⟨c12, h12, r13, rfl, rfl⟩, rfl⟩, rfl⟩, rfl⟩, rfl⟩, rfl⟩, rfl⟩, rfl⟩, rfl⟩, rfl⟩, rfl⟩, rfl⟩, rfl⟩ := h
  exact ⟨c0, c1, c2, c3, c4, c5, c6, c7, c8, c9, c10, c11, c12, rfl, h0, h1, h2, h3, h4, h5, h6, h7, h8, h9, h10, h11, h12⟩
theorem cellsA : Tryd.prog.cellsOf 40 = 13 := by kernel_rfl
set_option maxRecDepth 100000 in
theorem act_elem {H : Type} {enc : TypeId × Value → H} {w : World} {n : Nat} {a : Addr} {cs : List Value} {y : DataW H × List MemPlace}
    (hc : w.cells? 0 a 13 = some cs) (h : DataW.trod enc Tryd.prog w 0 (fun _ => true) true n 40 cs = some y) : ∃ x : Ac, Ac.at w a x ∧ SizeBy y.1 40 x.sn := by
  obtain ⟨c0, c1, c2, c3, c4, c5, c6, c7, c8, c9, c10, c11, c12, rfl, k0, k1, k2, k3, k4, k5, k6, k7, k8, k9, k10, k11, k12⟩ := cells_thirteen hc
  obtain ⟨xs, m, _, hx, _, hlen, hfd⟩ := DataW.trod_struct Tryd.underlying40 h
  have hlen3 : xs.length = 3 := hlen
  have at_ : ∀ i, i < 3 → ∃ y, xs[i]? = some y := fun i hi => ⟨xs[i]'(by omega), List.getElem?_eq_getElem (by omega)⟩
  obtain ⟨y0, hy0⟩ := at_ 0 (by omega)
  have f0 : DataW.trod enc Tryd.prog w 0 (fun _ => true) true m 5 [c0] = some y0 := by
    have h := hfd 0 _ rfl
    rw [hy0] at h
    simpa [m8, mMsg] using h
  obtain ⟨y1, hy1⟩ := at_ 1 (by omega)
  have f1 : DataW.trod enc Tryd.prog w 0 (fun _ => true) true m 5 [c1] = some y1 := by
    have h := hfd 1 _ rfl
    rw [hy1] at h
    simpa [m8, mMsg] using h
  obtain ⟨y2, hy2⟩ := at_ 2 (by omega)
  have f2 : DataW.trod enc Tryd.prog w 0 (fun _ => true) true m 32 [c2, c3, c4, c5, c6, c7, c8, c9, c10, c11, c12] = some y2 := by
    have h := hfd 2 _ rfl
    rw [hy2] at h
    simpa [m8, mMsg] using h
  have hmem : ∀ k ∈ y2.1.weights Tryd.prog 32, k ∈ y.1.weights Tryd.prog 40 := fun k hk => by
    rw [hx]
    simp only [DataW.weights, Tryd.underlying40]
    refine DataW.weights_mem_each (j := 2) (t := 32) (d := y2.1) rfl ?_ k hk
    rw [List.getElem?_map, hy2]; rfl
  obtain ⟨n0, e0, _, w0⟩ := DataW.trod_int Tryd.underlying5 f0
  obtain rfl := (List.cons.inj e0).1
  obtain ⟨p0, rfl, hp0⟩ := u8_nat w0
  obtain ⟨n1, e1, _, w1⟩ := DataW.trod_int Tryd.underlying5 f1
  obtain rfl := (List.cons.inj e1).1
  obtain ⟨p1, rfl, hp1⟩ := u8_nat w1
  obtain ⟨x, e, hb, hbk, hwf⟩ := msg_elem f2
  unfold Ms.cells at e
  simp only [List.cons.injEq, and_true] at e
  obtain ⟨rfl, rfl, rfl, rfl, rfl, rfl, rfl, rfl, rfl, rfl, rfl⟩ := e
  rw [addZ] at k0
  exact ⟨⟨p0, x, p1⟩, ⟨⟨hp0, hp1, hwf⟩, hb, k0, k1, k2, k3, k4, k5, k6, k7, k8, k9, k10, k11, k12⟩, hbk.imp id (fun ⟨k, h1, h2⟩ => ⟨k, hmem k h1, h2⟩)⟩
theorem Ac.at.all {w w' : World} {a : Addr} {x : Ac} (h : Ac.at w a x) (b : Below w.heap.size w w') : (w'.cell? a = some (.int .u8 (x.o : Nat)) ∧ w'.cell? { block := a.block, off := a.off + 1 } = some (.int .u8 (x.n : Nat)) ∧ w'.cell? { block := a.block, off := a.off + 2 } = some (.int .u64 x.m.ta) ∧ w'.cell? { block := a.block, off := a.off + 3 } = some (.int .u64 x.m.rp) ∧ w'.cell? { block := a.block, off := a.off + 4 } = some (.int .u32 x.m.id) ∧ w'.cell? { block := a.block, off := a.off + 5 } = some (.int .u16 x.m.op) ∧ w'.cell? { block := a.block, off := a.off + 6 } = some (.int .u16 x.m.st) ∧ w'.cell? { block := a.block, off := a.off + 7 } = some (.int .u64 x.m.p) ∧ w'.cell? { block := a.block, off := a.off + 8 } = some (.int .u32 x.m.o) ∧ w'.cell? { block := a.block, off := a.off + 9 } = some (.int .u8 x.m.r) ∧ w'.cell? { block := a.block, off := a.off + 10 } = some (.int .u64 x.m.c) ∧ w'.cell? { block := a.block, off := a.off + 11 } = some (.int .u64 x.m.ar) ∧ w'.cell? { block := a.block, off := a.off + 12 } = some (.slice x.m.so x.m.sn x.m.sc)) := by
  obtain ⟨_, _, h2, h3, h4, h5, h6, h7, h8, h9, h10, h11, h12, h13, h14⟩ := h.carry b
  rw [addS _ 0] at h3
  rw [addS _ 1] at h4
  rw [addS _ 2] at h5
  rw [addS _ 3] at h6
  rw [addS _ 4] at h7
  rw [addS _ 5] at h8
  rw [addS _ 6] at h9
  rw [addS _ 7] at h10
  rw [addS _ 8] at h11
  rw [addS _ 9] at h12
  rw [addS _ 10] at h13
  rw [addS _ 11] at h14
  exact ⟨h2, h3, h4, h5, h6, h7, h8, h9, h10, h11, h12, h13, h14⟩
theorem open_acts {H : Type} {enc : TypeId × Value → H} {w : World} {a : Option Addr} {len cap fuel : Nat} {x : DataW H × List MemPlace} (hf : DataW.trod enc Tryd.prog w 0 (fun _ => true) true fuel 22 [.slice a len cap] = some x) :
    ∃ xs, Acts w a len cap xs ∧ ∀ y ∈ xs, SizeBy x.1 22 y.sn := by
  rcases open_slice Tryd.underlying22 hf with ⟨hcs, hx⟩ | ⟨ad, l, c, m, n, D, Pl, hcs, _, hl, hm, hmm, hx, hel⟩
  · simp at hcs
    obtain ⟨rfl, rfl, rfl⟩ := hcs
    exact ⟨[], ⟨rfl, Nat.le_refl _, by decide, fun _ => rfl, (fun ad e => by cases e)⟩, fun y hy => by cases hy⟩
  · simp at hcs
    obtain ⟨rfl, rfl, rfl⟩ := hcs
    simp at hmm
    subst hmm
    have hF : ∀ i, ∃ z : Ac, i < len → Ac.at w (ad.add (i * 13)) z ∧ SizeBy (D i) 40 z.sn := by
      intro i
      by_cases hi : i < len
      · obtain ⟨cs', h1, h2⟩ := hel i (by omega)
        rw [cellsA] at h1
        obtain ⟨z, hz⟩ := act_elem h1 h2
        exact ⟨z, fun _ => hz⟩
      · exact ⟨Ac.zero, fun h => absurd h hi⟩
    have eg : ∀ j, j < len → ((List.range len).map (fun i => Classical.choose (hF i))).getD j Ac.zero = Classical.choose (hF j) := fun j hj => by
      rw [List.getD_eq_getElem?_getD, List.getElem?_map, List.getElem?_range hj]; rfl
    refine ⟨(List.range len).map (fun i => Classical.choose (hF i)), ⟨by simp, hl, hm, (fun e => by cases e), fun ad' e j hj => ?_⟩, fun y hy => ?_⟩
    · obtain rfl := Option.some.inj e
      rw [eg j hj]
      exact (Classical.choose_spec (hF j) hj).1
    · obtain ⟨i, hi, rfl⟩ := List.mem_map.1 hy
      rcases (Classical.choose_spec (hF i) (List.mem_range.1 hi)).2 with h | ⟨k, h1, h2⟩
      · exact .inl h
      · refine .inr ⟨k, ?_, h2⟩
        rw [hx]
        simp only [DataW.weights, Tryd.underlying22, List.mem_cons, List.mem_append]
        exact .inr (.inl (weights_all h1 (List.mem_map.2 ⟨i, hi, rfl⟩)))
end Go.Proofs.YtnkfdnmaocfjnaaDoor
