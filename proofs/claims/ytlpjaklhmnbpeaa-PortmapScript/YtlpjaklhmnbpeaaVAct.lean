/-
  A script's deeds, as they came in: what is done, to which port and node, how much later.
-/
import Derived.Test.YtlpjaklhmnbpeaaVRead
import Derived.Deep.Slices
import Derived.ChangeSame
import Derived.ChangeSlices
import Derived.Lib.SmallJoins
namespace Go.Proofs.Ytlpjaklhmnbpeaa
open Go.RowKit Go.Deep
structure Ac where
  o : Nat
  p : Nat
  n : Nat
  t : Nat
def Ac.zero : Ac := ⟨0, 0, 0, 0⟩
def Ac.ok (x : Ac) : Prop := x.o ≤ 255 ∧ x.p ≤ 255 ∧ x.n ≤ 255 ∧ x.t ≤ 255
def Ac.at (w : World) (a : Addr) (x : Ac) : Prop :=
  x.ok ∧ w.cell? a = some (.int .u8 (x.o : Nat)) ∧ w.cell? (a.add 1) = some (.int .u8 (x.p : Nat)) ∧ w.cell? (a.add 2) = some (.int .u8 (x.n : Nat)) ∧ w.cell? (a.add 3) = some (.int .u8 (x.t : Nat))
theorem Ac.at.carry {w w' : World} {a : Addr} {x : Ac} (h : Ac.at w a x) (b : Below w.heap.size w w') : Ac.at w' a x := by
  obtain ⟨h0, h2, h3, h4, h5⟩ := h
  exact ⟨h0, by rw [b.cell (lt_of_cell h2), h2], by rw [b.cell (lt_of_cell h3), h3], by rw [b.cell (lt_of_cell h4), h4], by rw [b.cell (lt_of_cell h5), h5]⟩
def Acts (w : World) (ao : Option Addr) (n cap : Nat) (xs : List Ac) : Prop :=
  n = xs.length ∧ n ≤ cap ∧ cap ≤ maxLen ∧ (ao = none → cap = 0) ∧ ∀ ad, ao = some ad → ∀ j, j < n → Ac.at w (ad.add (j * 4)) (xs.getD j Ac.zero)
theorem Acts.carry {w w' : World} {ao : Option Addr} {n cap : Nat} {xs : List Ac} (h : Acts w ao n cap xs) (b : Below w.heap.size w w') : Acts w' ao n cap xs :=
  ⟨h.1, h.2.1, h.2.2.1, h.2.2.2.1, fun ad e j hj => (h.2.2.2.2 ad e j hj).carry b⟩
theorem Acts.there {w : World} {ao : Option Addr} {n cap : Nat} {xs : List Ac} (h : Acts w ao n cap xs) {k : Nat} (hk : k < n) : ∃ ad, ao = some ad := by
  cases ao with
  | none => have := h.2.2.2.1 rfl; have := h.2.1; omega
  | some ad => exact ⟨ad, rfl⟩
theorem cells_four {w : World} {a : Addr} {cs : List Value} (h : w.cells? 0 a 4 = some cs) : ∃ c0 c1 c2 c3, cs = [c0, c1, c2, c3] ∧ w.cell? (a.add 0) = some c0 ∧ w.cell? (a.add 1) = some c1 ∧ w.cell? (a.add 2) = some c2 ∧ w.cell? (a.add 3) = some c3 := by
  unfold World.cells? at h
  rw [if_pos (Nat.zero_le _), show List.range 4 = [0, 1, 2, 3] from by decide] at h
  simp only [List.mapM_cons, List.mapM_nil, Option.pure_def, Option.bind_eq_bind, Option.bind_eq_some_iff, Option.some.injEq] at h
  obtain ⟨c0, h0, r1, ⟨c1, h1, r2, ⟨c2, h2, r3, ⟨c3, h3, r4, rfl, rfl⟩, rfl⟩, rfl⟩, rfl⟩ := h
  exact ⟨c0, c1, c2, c3, rfl, h0, h1, h2, h3⟩
theorem one8 : Try.prog.cellsOf 5 = 1 := by kernel_rfl
theorem cellsA : Try.prog.cellsOf 34 = 4 := by kernel_rfl
theorem bytesA : Try.prog.bytesOf 34 = 4 := by kernel_rfl
set_option maxRecDepth 100000 in
theorem act_elem {H : Type} {enc : TypeId × Value → H} {w : World} {n : Nat} {a : Addr} {cs : List Value} {y : DataW H × List MemPlace}
    (hc : w.cells? 0 a 4 = some cs) (h : DataW.trod enc Try.prog w 0 (fun _ => true) true n 34 cs = some y) : ∃ x : Ac, Ac.at w a x := by
  obtain ⟨c0, c1, c2, c3, rfl, k0, k1, k2, k3⟩ := cells_four hc
  obtain ⟨xs, m, _, hx, _, hlen, hfd⟩ := DataW.trod_struct Try.underlying34 h
  have hlen4 : xs.length = 4 := hlen
  have at_ : ∀ i, i < 4 → ∃ y, xs[i]? = some y := fun i hi => ⟨xs[i]'(by omega), List.getElem?_eq_getElem (by omega)⟩
  obtain ⟨y0, hy0⟩ := at_ 0 (by omega)
  have f0 : DataW.trod enc Try.prog w 0 (fun _ => true) true m 5 [c0] = some y0 := by
    have h := hfd 0 _ rfl
    rw [hy0] at h
    simpa [one8] using h
  obtain ⟨y1, hy1⟩ := at_ 1 (by omega)
  have f1 : DataW.trod enc Try.prog w 0 (fun _ => true) true m 5 [c1] = some y1 := by
    have h := hfd 1 _ rfl
    rw [hy1] at h
    simpa [one8] using h
  obtain ⟨y2, hy2⟩ := at_ 2 (by omega)
  have f2 : DataW.trod enc Try.prog w 0 (fun _ => true) true m 5 [c2] = some y2 := by
    have h := hfd 2 _ rfl
    rw [hy2] at h
    simpa [one8] using h
  obtain ⟨y3, hy3⟩ := at_ 3 (by omega)
  have f3 : DataW.trod enc Try.prog w 0 (fun _ => true) true m 5 [c3] = some y3 := by
    have h := hfd 3 _ rfl
    rw [hy3] at h
    simpa [one8] using h
  clear hx
  obtain ⟨n0, e0, _, w0⟩ := DataW.trod_int Try.underlying5 f0
  obtain ⟨n1, e1, _, w1⟩ := DataW.trod_int Try.underlying5 f1
  obtain ⟨n2, e2, _, w2⟩ := DataW.trod_int Try.underlying5 f2
  obtain ⟨n3, e3, _, w3⟩ := DataW.trod_int Try.underlying5 f3
  obtain ⟨p0, rfl, hp0⟩ := u8_nat w0
  obtain ⟨p1, rfl, hp1⟩ := u8_nat w1
  obtain ⟨p2, rfl, hp2⟩ := u8_nat w2
  obtain ⟨p3, rfl, hp3⟩ := u8_nat w3
  simp at e0 e1 e2 e3
  subst e0; subst e1; subst e2; subst e3
  rw [addZ] at k0
  exact ⟨⟨p0, p1, p2, p3⟩, ⟨hp0, hp1, hp2, hp3⟩, k0, k1, k2, k3⟩
theorem open_acts {H : Type} {enc : TypeId × Value → H} {w : World} {a : Option Addr} {len cap fuel : Nat} {x : DataW H × List MemPlace} (hf : DataW.trod enc Try.prog w 0 (fun _ => true) true fuel 23 [.slice a len cap] = some x) :
    ∃ xs, Acts w a len cap xs ∧ (x.1 = .nil ∧ cap = 0 ∨ ∃ els sp, x.1 = .slice els sp ∧ els.length + sp.length = cap) := by
  rcases open_slice Try.underlying23 hf with ⟨hcs, hx⟩ | ⟨ad, l, c, m, n, D, Pl, hcs, _, hl, hm, hmm, hx, hel⟩
  · simp at hcs
    obtain ⟨rfl, rfl, rfl⟩ := hcs
    exact ⟨[], ⟨rfl, Nat.le_refl _, by decide, fun _ => rfl, (fun ad e => by cases e)⟩, .inl ⟨by rw [hx], rfl⟩⟩
  · simp at hcs
    obtain ⟨rfl, rfl, rfl⟩ := hcs
    simp at hmm
    subst hmm
    have hF : ∀ i, ∃ z : Ac, i < len → Ac.at w (ad.add (i * 4)) z := by
      intro i
      by_cases hi : i < len
      · obtain ⟨cs', h1, h2⟩ := hel i (by omega)
        rw [cellsA] at h1
        obtain ⟨z, hz⟩ := act_elem h1 h2
        exact ⟨z, fun _ => hz⟩
      · exact ⟨Ac.zero, fun h => absurd h hi⟩
    refine ⟨(List.range len).map (fun i => Classical.choose (hF i)), ⟨by simp, hl, hm, (fun e => by cases e), fun ad' e j hj => ?_⟩, .inr ⟨_, _, by rw [hx], by simp; omega⟩⟩
    obtain rfl := Option.some.inj e
    have eg : ((List.range len).map (fun i => Classical.choose (hF i))).getD j Ac.zero = Classical.choose (hF j) := by
      rw [List.getD_eq_getElem?_getD, List.getElem?_map, List.getElem?_range hj]; rfl
    rw [eg]
    exact Classical.choose_spec (hF j) hj
end Go.Proofs.Ytlpjaklhmnbpeaa
