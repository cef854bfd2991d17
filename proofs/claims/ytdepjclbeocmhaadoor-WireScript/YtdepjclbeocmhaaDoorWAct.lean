/-
  A script's deeds on a wire, as they came in: what is done, a pick, a number, and bytes; how many bytes these are at most.
-/
import Derived.Test.YtdepjclbeocmhaaDoorFRead
import Derived.Deep.Slices
import Derived.ChangeSame
import Derived.ChangeSlices
import Derived.Lib.SmallJoins
import Derived.SizedLaws
namespace Go.Proofs.YtdepjclbeocmhaaDoor
open Go.RowKit Go.Deep
structure Ac where
  o : Nat
  p : Int
  f : Nat
  so : Option Addr
  sn : Nat
  sc : Nat
  l : List UInt8
def Ac.zero : Ac := ⟨0, 0, 0, none, 0, 0, []⟩
def Ac.ok (x : Ac) : Prop := x.o ≤ 255 ∧ x.f ≤ 255
def Ac.at (w : World) (a : Addr) (x : Ac) : Prop :=
  x.ok ∧ Bts w x.so x.sn x.sc x.l ∧ w.cell? a = some (.int .u8 (x.o : Nat)) ∧ w.cell? (a.add 1) = some (.int .i64 x.p) ∧ w.cell? (a.add 2) = some (.int .u8 (x.f : Nat)) ∧ w.cell? (a.add 3) = some (.slice x.so x.sn x.sc)
theorem Ac.at.carry {w w' : World} {a : Addr} {x : Ac} (h : Ac.at w a x) (b : Below w.heap.size w w') : Ac.at w' a x := by
  obtain ⟨h0, h1, h2, h3, h4, h5⟩ := h
  exact ⟨h0, h1.carry b, by rw [b.cell (lt_of_cell h2), h2], by rw [b.cell (lt_of_cell h3), h3], by rw [b.cell (lt_of_cell h4), h4], by rw [b.cell (lt_of_cell h5), h5]⟩
def Acts (w : World) (ao : Option Addr) (n cap : Nat) (xs : List Ac) : Prop :=
  n = xs.length ∧ n ≤ cap ∧ cap ≤ maxLen ∧ (ao = none → cap = 0) ∧ ∀ ad, ao = some ad → ∀ j, j < n → Ac.at w (ad.add (j * 4)) (xs.getD j Ac.zero)
theorem Acts.carry {w w' : World} {ao : Option Addr} {n cap : Nat} {xs : List Ac} (h : Acts w ao n cap xs) (b : Below w.heap.size w w') : Acts w' ao n cap xs :=
  ⟨h.1, h.2.1, h.2.2.1, h.2.2.2.1, fun ad e j hj => (h.2.2.2.2 ad e j hj).carry b⟩
theorem cells_four {w : World} {a : Addr} {cs : List Value} (h : w.cells? 0 a 4 = some cs) : ∃ c0 c1 c2 c3, cs = [c0, c1, c2, c3] ∧ w.cell? (a.add 0) = some c0 ∧ w.cell? (a.add 1) = some c1 ∧ w.cell? (a.add 2) = some c2 ∧ w.cell? (a.add 3) = some c3 := by
  unfold World.cells? at h
  rw [if_pos (Nat.zero_le _), show List.range 4 = [0, 1, 2, 3] from by decide] at h
  simp only [List.mapM_cons, List.mapM_nil, Option.pure_def, Option.bind_eq_bind, Option.bind_eq_some_iff, Option.some.injEq] at h
  obtain ⟨c0, h0, r1, ⟨c1, h1, r2, ⟨c2, h2, r3, ⟨c3, h3, r4, rfl, rfl⟩, rfl⟩, rfl⟩, rfl⟩ := h
  exact ⟨c0, c1, c2, c3, rfl, h0, h1, h2, h3⟩
theorem oneI : Tryd.prog.cellsOf 3 = 1 := by kernel_rfl
theorem one8 : Tryd.prog.cellsOf 5 = 1 := by kernel_rfl
theorem oneB : Tryd.prog.cellsOf 28 = 1 := by kernel_rfl
theorem cellsA : Tryd.prog.cellsOf 30 = 4 := by kernel_rfl
theorem bytesA : Tryd.prog.bytesOf 30 = 48 := by kernel_rfl
theorem weights_all {H : Type} {P : Program} {e : TypeId} {d : DataW H} {n : Nat} (hn : n ∈ d.weights P e) : ∀ {l : List (DataW H)}, d ∈ l → n ∈ DataW.weightsAll P e l
  | x :: r, h => by
    simp only [DataW.weightsAll, List.mem_append]
    rcases List.mem_cons.1 h with rfl | h
    · exact .inl hn
    · exact .inr (weights_all hn h)
def SizeBy {H : Type} (d : DataW H) (t : TypeId) (k : Nat) : Prop := k = 0 ∨ ∃ n ∈ d.weights Tryd.prog t, k ≤ n
set_option maxRecDepth 100000 in
theorem act_elem {H : Type} {enc : TypeId × Value → H} {w : World} {n : Nat} {a : Addr} {cs : List Value} {y : DataW H × List MemPlace}
    (hc : w.cells? 0 a 4 = some cs) (h : DataW.trod enc Tryd.prog w 0 (fun _ => true) true n 30 cs = some y) : ∃ x : Ac, Ac.at w a x ∧ SizeBy y.1 30 x.sn := by
  obtain ⟨c0, c1, c2, c3, rfl, k0, k1, k2, k3⟩ := cells_four hc
  obtain ⟨xs, m, _, hx, _, hlen, hfd⟩ := DataW.trod_struct Tryd.underlying30 h
  have hlen4 : xs.length = 4 := hlen
  have at_ : ∀ i, i < 4 → ∃ y, xs[i]? = some y := fun i hi => ⟨xs[i]'(by omega), List.getElem?_eq_getElem (by omega)⟩
  obtain ⟨y0, hy0⟩ := at_ 0 (by omega)
  have f0 : DataW.trod enc Tryd.prog w 0 (fun _ => true) true m 5 [c0] = some y0 := by
    have h := hfd 0 _ rfl
    rw [hy0] at h
    simpa [one8] using h
  obtain ⟨y1, hy1⟩ := at_ 1 (by omega)
  have f1 : DataW.trod enc Tryd.prog w 0 (fun _ => true) true m 3 [c1] = some y1 := by
    have h := hfd 1 _ rfl
    rw [hy1] at h
    simpa [oneI] using h
  obtain ⟨y2, hy2⟩ := at_ 2 (by omega)
  have f2 : DataW.trod enc Tryd.prog w 0 (fun _ => true) true m 5 [c2] = some y2 := by
    have h := hfd 2 _ rfl
    rw [hy2] at h
    simpa [one8] using h
  obtain ⟨y3, hy3⟩ := at_ 3 (by omega)
  have f3 : DataW.trod enc Tryd.prog w 0 (fun _ => true) true m 28 [c3] = some y3 := by
    have h := hfd 3 _ rfl
    rw [hy3] at h
    simpa [oneB] using h
  have hmem : ∀ k ∈ y3.1.weights Tryd.prog 28, k ∈ y.1.weights Tryd.prog 30 := fun k hk => by
    rw [hx]
    simp only [DataW.weights, Tryd.underlying30]
    refine DataW.weights_mem_each (j := 3) (t := 28) (d := y3.1) rfl ?_ k hk
    rw [List.getElem?_map, hy3]; rfl
  clear hfd hlen hlen4 at_ h hx hc
  obtain ⟨n0, e0, _, w0⟩ := DataW.trod_int Tryd.underlying5 f0
  obtain rfl := (List.cons.inj e0).1
  obtain ⟨n1, e1, _, _⟩ := DataW.trod_int Tryd.underlying3 f1
  obtain rfl := (List.cons.inj e1).1
  obtain ⟨n2, e2, _, w2⟩ := DataW.trod_int Tryd.underlying5 f2
  obtain rfl := (List.cons.inj e2).1
  obtain ⟨p0, rfl, hp0⟩ := u8_nat w0
  obtain ⟨p2, rfl, hp2⟩ := u8_nat w2
  obtain ⟨so, sn, sc, zs, rfl, hr, hbk⟩ : ∃ so sn sc zs, c3 = .slice so sn sc ∧ RowOf .u8 w so sn sc zs ∧ SizeBy y3.1 28 sn := by
    rcases Go.ChangeShapes.open_ints Tryd.underlying28 Tryd.underlying5 (by kernel_rfl) f3 with ⟨hcs, _⟩ | ⟨x, l, c, zs, hcs, _, hl, hm, hz, hx, hcell, hwz⟩
    · simp at hcs
      exact ⟨none, 0, 0, [], hcs, .inl ⟨rfl, rfl, rfl, rfl⟩, .inl rfl⟩
    · simp at hcs
      refine ⟨some x, l, c, zs, hcs, .inr ⟨_, rfl, hl, hm, by simpa using hz, hcell, hwz⟩, .inr ?_⟩
      rw [hx]
      have hz' : zs.length = c := by simpa using hz
      refine ⟨_, by simp only [DataW.weights, Tryd.underlying28]; exact List.mem_cons_self .., ?_⟩
      rw [bytesOf5]
      simp only [Go.ChangeShapes.lits, List.length_map, List.length_take, List.length_drop]
      omega
  obtain ⟨l, hb⟩ := hr.bytes
  rw [addZ] at k0
  exact ⟨⟨p0, n1, p2, so, sn, sc, l⟩, ⟨⟨hp0, hp2⟩, hb, k0, k1, k2, k3⟩, hbk.imp id (fun ⟨k, h1, h2⟩ => ⟨k, hmem k h1, h2⟩)⟩
theorem open_acts {H : Type} {enc : TypeId × Value → H} {w : World} {a : Option Addr} {len cap fuel : Nat} {x : DataW H × List MemPlace} (hf : DataW.trod enc Tryd.prog w 0 (fun _ => true) true fuel 22 [.slice a len cap] = some x) :
    ∃ xs, Acts w a len cap xs ∧ ∀ y ∈ xs, SizeBy x.1 22 y.sn := by
  rcases open_slice Tryd.underlying22 hf with ⟨hcs, hx⟩ | ⟨ad, l, c, m, n, D, Pl, hcs, _, hl, hm, hmm, hx, hel⟩
  · simp at hcs
    obtain ⟨rfl, rfl, rfl⟩ := hcs
    exact ⟨[], ⟨rfl, Nat.le_refl _, by decide, fun _ => rfl, (fun ad e => by cases e)⟩, fun y hy => by cases hy⟩
  · simp at hcs
    obtain ⟨rfl, rfl, rfl⟩ := hcs
    simp at hmm
    subst hmm
    have hF : ∀ i, ∃ z : Ac, i < len → Ac.at w (ad.add (i * 4)) z ∧ SizeBy (D i) 30 z.sn := by
      intro i
      by_cases hi : i < len
      · obtain ⟨cs', h1, h2⟩ := hel i (by omega)
        rw [cellsA] at h1
        obtain ⟨z, hz⟩ := act_elem h1 h2
        exact ⟨z, fun _ => hz⟩
      · exact ⟨Ac.zero, fun h => absurd h hi⟩
    have eg : ∀ j, j < len → ((List.range len).map (fun i => Classical.choose (hF i))).getD j Ac.zero = Classical.choose (hF j) := fun j hj => by
      rw [List.getD_eq_getElem?_getD, List.getElem?_map, List.getElem?_range hj]; rfl
    refine ⟨(List.range len).map (fun i => Classical.choose (hF i)), ⟨by simp, hl, hm, (fun e => by cases e), fun ad' e j hj => ?_⟩, fun y hy => ?_⟩
    · obtain rfl := Option.some.inj e
      rw [eg j hj]
      exact (Classical.choose_spec (hF j) hj).1
    · obtain ⟨i, hi, rfl⟩ := List.mem_map.1 hy
      rcases (Classical.choose_spec (hF i) (List.mem_range.1 hi)).2 with h | ⟨k, h1, h2⟩
      · exact .inl h
      · refine .inr ⟨k, ?_, h2⟩
        rw [hx]
        simp only [DataW.weights, Tryd.underlying22, List.mem_cons, List.mem_append]
        exact .inr (.inl (weights_all h1 (List.mem_map.2 ⟨i, hi, rfl⟩)))
end Go.Proofs.YtdepjclbeocmhaaDoor
