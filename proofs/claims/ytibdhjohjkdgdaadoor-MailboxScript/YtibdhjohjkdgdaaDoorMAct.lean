/-
  A script's deeds on a box, as they came in: what is done, and a message; how many bytes its data has at most.
-/
import Derived.Test.YtibdhjohjkdgdaaDoorFRead
import Derived.Deep.Slices
import Derived.ChangeSame
import Derived.ChangeSlices
import Derived.Lib.SmallJoins
import Derived.SizedLaws
namespace Go.Proofs.YtibdhjohjkdgdaaDoor
open Go.RowKit Go.Deep
structure Ac where
  o : Nat
  m : Ms
def Ac.zero : Ac := ⟨0, Ms.zero⟩
def Ac.sn (x : Ac) : Nat := x.m.sn
def Ac.ok (x : Ac) : Prop := x.o ≤ 255
def Ac.at (w : World) (a : Addr) (x : Ac) : Prop :=
  x.ok ∧ x.m.has w ∧ w.cell? a = some (.int .u8 (x.o : Nat)) ∧ w.cell? (a.add 1) = some (.int .u64 x.m.ta) ∧ w.cell? (a.add 2) = some (.int .u64 x.m.rp) ∧ w.cell? (a.add 3) = some (.int .u32 x.m.id) ∧ w.cell? (a.add 4) = some (.int .u16 x.m.op) ∧ w.cell? (a.add 5) = some (.int .u16 x.m.st) ∧ w.cell? (a.add 6) = some (.int .u64 x.m.p) ∧ w.cell? (a.add 7) = some (.int .u32 x.m.o) ∧ w.cell? (a.add 8) = some (.int .u8 x.m.r) ∧ w.cell? (a.add 9) = some (.int .u64 x.m.c) ∧ w.cell? (a.add 10) = some (.int .u64 x.m.ar) ∧ w.cell? (a.add 11) = some (.slice x.m.so x.m.sn x.m.sc)
theorem Ac.at.carry {w w' : World} {a : Addr} {x : Ac} (h : Ac.at w a x) (b : Below w.heap.size w w') : Ac.at w' a x := by
  obtain ⟨h0, h1, h2, h3, h4, h5, h6, h7, h8, h9, h10, h11, h12, h13⟩ := h
  exact ⟨h0, Bts.carry h1 b, by rw [b.cell (lt_of_cell h2), h2], by rw [b.cell (lt_of_cell h3), h3], by rw [b.cell (lt_of_cell h4), h4], by rw [b.cell (lt_of_cell h5), h5], by rw [b.cell (lt_of_cell h6), h6], by rw [b.cell (lt_of_cell h7), h7], by rw [b.cell (lt_of_cell h8), h8], by rw [b.cell (lt_of_cell h9), h9], by rw [b.cell (lt_of_cell h10), h10], by rw [b.cell (lt_of_cell h11), h11], by rw [b.cell (lt_of_cell h12), h12], by rw [b.cell (lt_of_cell h13), h13]⟩
def Acts (w : World) (ao : Option Addr) (n cap : Nat) (xs : List Ac) : Prop :=
  n = xs.length ∧ n ≤ cap ∧ cap ≤ maxLen ∧ (ao = none → cap = 0) ∧ ∀ ad, ao = some ad → ∀ j, j < n → Ac.at w (ad.add (j * 12)) (xs.getD j Ac.zero)
theorem Acts.carry {w w' : World} {ao : Option Addr} {n cap : Nat} {xs : List Ac} (h : Acts w ao n cap xs) (b : Below w.heap.size w w') : Acts w' ao n cap xs :=
  ⟨h.1, h.2.1, h.2.2.1, h.2.2.2.1, fun ad e j hj => (h.2.2.2.2 ad e j hj).carry b⟩
theorem cells_twelve {w : World} {a : Addr} {cs : List Value} (h : w.cells? 0 a 12 = some cs) : ∃ c0 c1 c2 c3 c4 c5 c6 c7 c8 c9 c10 c11, cs = [c0, c1, c2, c3, c4, c5, c6, c7, c8, c9, c10, c11] ∧ w.cell? (a.add 0) = some c0 ∧ w.cell? (a.add 1) = some c1 ∧ w.cell? (a.add 2) = some c2 ∧ w.cell? (a.add 3) = some c3 ∧ w.cell? (a.add 4) = some c4 ∧ w.cell? (a.add 5) = some c5 ∧ w.cell? (a.add 6) = some c6 ∧ w.cell? (a.add 7) = some c7 ∧ w.cell? (a.add 8) = some c8 ∧ w.cell? (a.add 9) = some c9 ∧ w.cell? (a.add 10) = some c10 ∧ w.cell? (a.add 11) = some c11 := by
  unfold World.cells? at h
  rw [if_pos (Nat.zero_le _), show List.range 12 = [0, 1, 2, 3, 4, 5, 6, 7, 8, 9, 10, 11] from by decide] at h
  simp only [List.mapM_cons, List.mapM_nil, Option.pure_def, Option.bind_eq_bind, Option.bind_eq_some_iff, Option.some.injEq] at h
  obtain ⟨c0, h0, r1, ⟨c1, h1, r2, ⟨c2, h2, r3, ⟨c3, h3, r4, ⟨c4, h4, r5, ⟨c5, h5, r6, ⟨c6, h6, r7, ⟨c7, h7, r8, ⟨c8, h8, r9, ⟨c9, h9, r10, ⟨c10, h10, r11, ⟨c11, h11, r12, rfl, rfl⟩, rfl⟩, rfl⟩, rfl⟩, rfl⟩, rfl⟩, rfl⟩, rfl⟩, rfl⟩, rfl⟩, rfl⟩, rfl⟩ := h
  exact ⟨c0, c1, c2, c3, c4, c5, c6, c7, c8, c9, c10, c11, rfl, h0, h1, h2, h3, h4, h5, h6, h7, h8, h9, h10, h11⟩
theorem m64 : Tryd.prog.cellsOf 28 = 1 := by kernel_rfl
theorem m32 : Tryd.prog.cellsOf 29 = 1 := by kernel_rfl
theorem m16 : Tryd.prog.cellsOf 30 = 1 := by kernel_rfl
theorem m8 : Tryd.prog.cellsOf 5 = 1 := by kernel_rfl
theorem mB : Tryd.prog.cellsOf 33 = 1 := by kernel_rfl
theorem mCap : Tryd.prog.cellsOf 32 = 4 := by kernel_rfl
theorem mMsg : Tryd.prog.cellsOf 35 = 11 := by kernel_rfl
theorem cellsA : Tryd.prog.cellsOf 37 = 12 := by kernel_rfl
theorem weights_all {H : Type} {P : Program} {e : TypeId} {d : DataW H} {n : Nat} (hn : n ∈ d.weights P e) : ∀ {l : List (DataW H)}, d ∈ l → n ∈ DataW.weightsAll P e l
  | x :: r, h => by
    simp only [DataW.weightsAll, List.mem_append]
    rcases List.mem_cons.1 h with rfl | h
    · exact .inl hn
    · exact .inr (weights_all hn h)
def SizeBy {H : Type} (d : DataW H) (t : TypeId) (k : Nat) : Prop := k = 0 ∨ ∃ n ∈ d.weights Tryd.prog t, k ≤ n
set_option maxRecDepth 100000 in
theorem msg_elem {H : Type} {enc : TypeId × Value → H} {w : World} {n : Nat} {c0 c1 c2 c3 c4 c5 c6 c7 c8 c9 c10 : Value} {y : DataW H × List MemPlace}
    (h : DataW.trod enc Tryd.prog w 0 (fun _ => true) true n 35 [c0, c1, c2, c3, c4, c5, c6, c7, c8, c9, c10] = some y) : ∃ x : Ms, [c0, c1, c2, c3, c4, c5, c6, c7, c8, c9, c10] = x.cells ∧ x.has w ∧ SizeBy y.1 35 x.sn := by
  obtain ⟨xs, m, _, hx, _, hlen, hfd⟩ := DataW.trod_struct Tryd.underlying35 h
  have hlen8 : xs.length = 8 := hlen
  have at_ : ∀ i, i < 8 → ∃ y, xs[i]? = some y := fun i hi => ⟨xs[i]'(by omega), List.getElem?_eq_getElem (by omega)⟩
  obtain ⟨y0, hy0⟩ := at_ 0 (by omega)
  have f0 : DataW.trod enc Tryd.prog w 0 (fun _ => true) true m 28 [c0] = some y0 := by
    have h := hfd 0 _ rfl
    rw [hy0] at h
    simpa [m64] using h
  obtain ⟨y1, hy1⟩ := at_ 1 (by omega)
  have f1 : DataW.trod enc Tryd.prog w 0 (fun _ => true) true m 28 [c1] = some y1 := by
    have h := hfd 1 _ rfl
    rw [hy1] at h
    simpa [m64] using h
  obtain ⟨y2, hy2⟩ := at_ 2 (by omega)
  have f2 : DataW.trod enc Tryd.prog w 0 (fun _ => true) true m 29 [c2] = some y2 := by
    have h := hfd 2 _ rfl
    rw [hy2] at h
    simpa [m32] using h
  obtain ⟨y3, hy3⟩ := at_ 3 (by omega)
  have f3 : DataW.trod enc Tryd.prog w 0 (fun _ => true) true m 30 [c3] = some y3 := by
    have h := hfd 3 _ rfl
    rw [hy3] at h
    simpa [m16] using h
  obtain ⟨y4, hy4⟩ := at_ 4 (by omega)
  have f4 : DataW.trod enc Tryd.prog w 0 (fun _ => true) true m 30 [c4] = some y4 := by
    have h := hfd 4 _ rfl
    rw [hy4] at h
    simpa [m16] using h
  obtain ⟨y5, hy5⟩ := at_ 5 (by omega)
  have f5 : DataW.trod enc Tryd.prog w 0 (fun _ => true) true m 32 [c5, c6, c7, c8] = some y5 := by
    have h := hfd 5 _ rfl
    rw [hy5] at h
    simpa [mCap] using h
  obtain ⟨y6, hy6⟩ := at_ 6 (by omega)
  have f6 : DataW.trod enc Tryd.prog w 0 (fun _ => true) true m 28 [c9] = some y6 := by
    have h := hfd 6 _ rfl
    rw [hy6] at h
    simpa [m64] using h
  obtain ⟨y7, hy7⟩ := at_ 7 (by omega)
  have f7 : DataW.trod enc Tryd.prog w 0 (fun _ => true) true m 33 [c10] = some y7 := by
    have h := hfd 7 _ rfl
    rw [hy7] at h
    simpa [mB] using h
  have hmem : ∀ k ∈ y7.1.weights Tryd.prog 33, k ∈ y.1.weights Tryd.prog 35 := fun k hk => by
    rw [hx]
    simp only [DataW.weights, Tryd.underlying35]
    refine DataW.weights_mem_each (j := 7) (t := 33) (d := y7.1) rfl ?_ k hk
    rw [List.getElem?_map, hy7]; rfl
  clear hfd hlen hlen8 at_ h hx
  obtain ⟨n0, e0, _, _⟩ := DataW.trod_int Tryd.underlying28 f0
  obtain rfl := (List.cons.inj e0).1
  obtain ⟨n1, e1, _, _⟩ := DataW.trod_int Tryd.underlying28 f1
  obtain rfl := (List.cons.inj e1).1
  obtain ⟨n2, e2, _, _⟩ := DataW.trod_int Tryd.underlying29 f2
  obtain rfl := (List.cons.inj e2).1
  obtain ⟨n3, e3, _, _⟩ := DataW.trod_int Tryd.underlying30 f3
  obtain rfl := (List.cons.inj e3).1
  obtain ⟨n4, e4, _, _⟩ := DataW.trod_int Tryd.underlying30 f4
  obtain rfl := (List.cons.inj e4).1
  obtain ⟨n6, e6, _, _⟩ := DataW.trod_int Tryd.underlying28 f6
  obtain rfl := (List.cons.inj e6).1
  obtain ⟨z0, z1, z2, z3, nz, _, _, g0, g1, g2, g3⟩ := Go.Joins.trod_struct4 Tryd.underlying32 f5
  have q0 : DataW.trod enc Tryd.prog w 0 (fun _ => true) true nz 28 [c5] = some z0 := by simpa [m64, m32, m8] using g0
  obtain ⟨k0, i0, _, _⟩ := DataW.trod_int Tryd.underlying28 q0
  obtain rfl := (List.cons.inj i0).1
  have q1 : DataW.trod enc Tryd.prog w 0 (fun _ => true) true nz 29 [c6] = some z1 := by simpa [m64, m32, m8] using g1
  obtain ⟨k1, i1, _, _⟩ := DataW.trod_int Tryd.underlying29 q1
  obtain rfl := (List.cons.inj i1).1
  have q2 : DataW.trod enc Tryd.prog w 0 (fun _ => true) true nz 5 [c7] = some z2 := by simpa [m64, m32, m8] using g2
  obtain ⟨k2, i2, _, _⟩ := DataW.trod_int Tryd.underlying5 q2
  obtain rfl := (List.cons.inj i2).1
  have q3 : DataW.trod enc Tryd.prog w 0 (fun _ => true) true nz 28 [c8] = some z3 := by simpa [m64, m32, m8] using g3
  obtain ⟨k3, i3, _, _⟩ := DataW.trod_int Tryd.underlying28 q3
  obtain rfl := (List.cons.inj i3).1
  obtain ⟨so, sn, sc, zs, rfl, hr, hbk⟩ : ∃ so sn sc zs, c10 = .slice so sn sc ∧ RowOf .u8 w so sn sc zs ∧ SizeBy y7.1 33 sn := by
    rcases Go.ChangeShapes.open_ints Tryd.underlying33 Tryd.underlying5 (by kernel_rfl) f7 with ⟨hcs, _⟩ | ⟨x, l, c, zs, hcs, _, hl, hm, hz, hx, hcell, hwz⟩
    · simp at hcs
      exact ⟨none, 0, 0, [], hcs, .inl ⟨rfl, rfl, rfl, rfl⟩, .inl rfl⟩
    · simp at hcs
      refine ⟨some x, l, c, zs, hcs, .inr ⟨_, rfl, hl, hm, by simpa using hz, hcell, hwz⟩, .inr ?_⟩
      rw [hx]
      have hz' : zs.length = c := by simpa using hz
      refine ⟨_, by simp only [DataW.weights, Tryd.underlying33]; exact List.mem_cons_self .., ?_⟩
      rw [bytesOf5]
      simp only [Go.ChangeShapes.lits, List.length_map, List.length_take, List.length_drop]
      omega
  obtain ⟨l, hb⟩ := hr.bytes
  exact ⟨⟨n0, n1, n2, n3, n4, k0, k1, k2, k3, n6, so, sn, sc, l⟩, rfl, hb, hbk.imp id (fun ⟨k, h1, h2⟩ => ⟨k, hmem k h1, h2⟩)⟩
set_option maxRecDepth 100000 in
theorem act_elem {H : Type} {enc : TypeId × Value → H} {w : World} {n : Nat} {a : Addr} {cs : List Value} {y : DataW H × List MemPlace}
    (hc : w.cells? 0 a 12 = some cs) (h : DataW.trod enc Tryd.prog w 0 (fun _ => true) true n 37 cs = some y) : ∃ x : Ac, Ac.at w a x ∧ SizeBy y.1 37 x.sn := by
  obtain ⟨c0, c1, c2, c3, c4, c5, c6, c7, c8, c9, c10, c11, rfl, k0, k1, k2, k3, k4, k5, k6, k7, k8, k9, k10, k11⟩ := cells_twelve hc
  obtain ⟨xs, m, _, hx, _, hlen, hfd⟩ := DataW.trod_struct Tryd.underlying37 h
  have hlen2 : xs.length = 2 := hlen
  have at_ : ∀ i, i < 2 → ∃ y, xs[i]? = some y := fun i hi => ⟨xs[i]'(by omega), List.getElem?_eq_getElem (by omega)⟩
  obtain ⟨y0, hy0⟩ := at_ 0 (by omega)
  have f0 : DataW.trod enc Tryd.prog w 0 (fun _ => true) true m 5 [c0] = some y0 := by
    have h := hfd 0 _ rfl
    rw [hy0] at h
    simpa [m8] using h
  obtain ⟨y1, hy1⟩ := at_ 1 (by omega)
  have f1 : DataW.trod enc Tryd.prog w 0 (fun _ => true) true m 35 [c1, c2, c3, c4, c5, c6, c7, c8, c9, c10, c11] = some y1 := by
    have h := hfd 1 _ rfl
    rw [hy1] at h
    simpa [mMsg] using h
  have hmem : ∀ k ∈ y1.1.weights Tryd.prog 35, k ∈ y.1.weights Tryd.prog 37 := fun k hk => by
    rw [hx]
    simp only [DataW.weights, Tryd.underlying37]
    refine DataW.weights_mem_each (j := 1) (t := 35) (d := y1.1) rfl ?_ k hk
    rw [List.getElem?_map, hy1]; rfl
  obtain ⟨n0, e0, _, w0⟩ := DataW.trod_int Tryd.underlying5 f0
  obtain rfl := (List.cons.inj e0).1
  obtain ⟨p0, rfl, hp0⟩ := u8_nat w0
  obtain ⟨x, e, hb, hbk⟩ := msg_elem f1
  unfold Ms.cells at e
  simp only [List.cons.injEq, and_true] at e
  obtain ⟨rfl, rfl, rfl, rfl, rfl, rfl, rfl, rfl, rfl, rfl, rfl⟩ := e
  rw [addZ] at k0
  exact ⟨⟨p0, x⟩, ⟨hp0, hb, k0, k1, k2, k3, k4, k5, k6, k7, k8, k9, k10, k11⟩, hbk.imp id (fun ⟨k, h1, h2⟩ => ⟨k, hmem k h1, h2⟩)⟩
theorem open_acts {H : Type} {enc : TypeId × Value → H} {w : World} {a : Option Addr} {len cap fuel : Nat} {x : DataW H × List MemPlace} (hf : DataW.trod enc Tryd.prog w 0 (fun _ => true) true fuel 23 [.slice a len cap] = some x) :
    ∃ xs, Acts w a len cap xs ∧ ∀ y ∈ xs, SizeBy x.1 23 y.sn := by
  rcases open_slice Tryd.underlying23 hf with ⟨hcs, hx⟩ | ⟨ad, l, c, m, n, D, Pl, hcs, _, hl, hm, hmm, hx, hel⟩
  · simp at hcs
    obtain ⟨rfl, rfl, rfl⟩ := hcs
    exact ⟨[], ⟨rfl, Nat.le_refl _, by decide, fun _ => rfl, (fun ad e => by cases e)⟩, fun y hy => by cases hy⟩
  · simp at hcs
    obtain ⟨rfl, rfl, rfl⟩ := hcs
    simp at hmm
    subst hmm
    have hF : ∀ i, ∃ z : Ac, i < len → Ac.at w (ad.add (i * 12)) z ∧ SizeBy (D i) 37 z.sn := by
      intro i
      by_cases hi : i < len
      · obtain ⟨cs', h1, h2⟩ := hel i (by omega)
        rw [cellsA] at h1
        obtain ⟨z, hz⟩ := act_elem h1 h2
        exact ⟨z, fun _ => hz⟩
      · exact ⟨Ac.zero, fun h => absurd h hi⟩
    have eg : ∀ j, j < len → ((List.range len).map (fun i => Classical.choose (hF i))).getD j Ac.zero = Classical.choose (hF j) := fun j hj => by
      rw [List.getD_eq_getElem?_getD, List.getElem?_map, List.getElem?_range hj]; rfl
    refine ⟨(List.range len).map (fun i => Classical.choose (hF i)), ⟨by simp, hl, hm, (fun e => by cases e), fun ad' e j hj => ?_⟩, fun y hy => ?_⟩
    · obtain rfl := Option.some.inj e
      rw [eg j hj]
      exact (Classical.choose_spec (hF j) hj).1
    · obtain ⟨i, hi, rfl⟩ := List.mem_map.1 hy
      rcases (Classical.choose_spec (hF i) (List.mem_range.1 hi)).2 with h | ⟨k, h1, h2⟩
      · exact .inl h
      · refine .inr ⟨k, ?_, h2⟩
        rw [hx]
        simp only [DataW.weights, Tryd.underlying23, List.mem_cons, List.mem_append]
        exact .inr (.inl (weights_all h1 (List.mem_map.2 ⟨i, hi, rfl⟩)))
end Go.Proofs.YtibdhjohjkdgdaaDoor
