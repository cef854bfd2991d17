/-
  A script's deeds, as they came in: what is done, to which alarm, with how many ticks.
-/
import Derived.Test.YtifmeljdkohkkaaDoorYInv
import Derived.Deep.Slices
import Derived.Deep.Strs
import Derived.ChangeSame
namespace Go.Proofs.YtifmeljdkohkkaaDoor
open Go.RowKit Go.Deep
structure Ac where
  o : Nat
  id : Int
  wi : Int
def Ac.zero : Ac := ⟨0, 0, 0⟩
def Ac.ok (x : Ac) : Prop := x.o ≤ 255 ∧ (-128 ≤ x.id ∧ x.id ≤ 127) ∧ (-2147483648 ≤ x.wi ∧ x.wi ≤ 2147483647)
def Ac.at (w : World) (a : Addr) (x : Ac) : Prop :=
  x.ok ∧ w.cell? a = some (.int .u8 (x.o : Nat)) ∧ w.cell? (a.add 1) = some (.int .i8 x.id) ∧ w.cell? (a.add 2) = some (.int .i32 x.wi)
def Acts (w : World) (ao : Option Addr) (n cap : Nat) (xs : List Ac) : Prop :=
  n = xs.length ∧ n ≤ cap ∧ cap ≤ maxLen ∧ (ao = none → cap = 0) ∧ ∀ ad, ao = some ad → ∀ j, j < n → Ac.at w (ad.add (j * 3)) (xs.getD j Ac.zero)
theorem Acts.carry {w w' : World} {ao : Option Addr} {n cap : Nat} {xs : List Ac} (h : Acts w ao n cap xs) {B : Nat} (b : Below B w w') (hB : w.heap.size ≤ B) : Acts w' ao n cap xs :=
  ⟨h.1, h.2.1, h.2.2.1, h.2.2.2.1, fun ad e j hj => by
    obtain ⟨h0, h1, h2, h3⟩ := h.2.2.2.2 ad e j hj
    exact ⟨h0, by rw [b.cell (Nat.lt_of_lt_of_le (lt_of_cell h1) hB), h1], by rw [b.cell (Nat.lt_of_lt_of_le (lt_of_cell h2) hB), h2], by rw [b.cell (Nat.lt_of_lt_of_le (lt_of_cell h3) hB), h3]⟩⟩
theorem cells_three {w : World} {a : Addr} {cs : List Value} (h : w.cells? 0 a 3 = some cs) : ∃ c0 c1 c2, cs = [c0, c1, c2] ∧ w.cell? (a.add 0) = some c0 ∧ w.cell? (a.add 1) = some c1 ∧ w.cell? (a.add 2) = some c2 := by
  unfold World.cells? at h
  rw [if_pos (Nat.zero_le _), show List.range 3 = [0, 1, 2] from by decide] at h
  simp only [List.mapM_cons, List.mapM_nil, Option.pure_def, Option.bind_eq_bind, Option.bind_eq_some_iff, Option.some.injEq] at h
  obtain ⟨c0, h0, r1, ⟨c1, h1, r2, ⟨c2, h2, r3, rfl, rfl⟩, rfl⟩, rfl⟩ := h
  exact ⟨c0, c1, c2, rfl, h0, h1, h2⟩
theorem Tryd.cells8 : Tryd.prog.cellsOf 5 = 1 := by kernel_rfl
theorem Tryd.cellsI8 : Tryd.prog.cellsOf 30 = 1 := by kernel_rfl
theorem Tryd.cellsN : Tryd.prog.cellsOf 21 = 1 := by kernel_rfl
theorem Tryd.cellsA : Tryd.prog.cellsOf 32 = 3 := by kernel_rfl
theorem bytesA : Tryd.prog.bytesOf 32 = 8 := by kernel_rfl
theorem act_elem {H : Type} {enc : TypeId × Value → H} {w : World} {n : Nat} {a : Addr} {cs : List Value} {y : DataW H × List MemPlace}
    (hc : w.cells? 0 a 3 = some cs) (h : DataW.trod enc Tryd.prog w 0 (fun _ => true) true n 32 cs = some y) : ∃ x : Ac, Ac.at w a x := by
  obtain ⟨c0, c1, c2, rfl, k0, k1, k2⟩ := cells_three hc
  obtain ⟨y0, y1, y2, m, _, _, h0, h1, h2⟩ := trod_struct3 Tryd.underlying32 h
  obtain ⟨n0, e0, _, w0⟩ := DataW.trod_int Tryd.underlying5 h0
  obtain ⟨n1, e1, _, w1⟩ := DataW.trod_int Tryd.underlying30 h1
  obtain ⟨n2, e2, _, w2⟩ := DataW.trod_int Tryd.underlying21 h2
  obtain ⟨p, rfl, hp⟩ := u8_nat w0
  have b1 := bounds_i8 w1
  have b2 := bounds_i32 w2
  simp [Tryd.cells8] at e0
  simp [Tryd.cellsI8] at e1
  simp [Tryd.cellsN] at e2
  subst e0; subst e1; subst e2
  rw [addZ] at k0
  exact ⟨⟨p, n1, n2⟩, ⟨hp, b1, b2⟩, k0, k1, k2⟩
theorem open_acts {H : Type} {enc : TypeId × Value → H} {w : World} {a : Option Addr} {len cap fuel : Nat} {x : DataW H × List MemPlace} (hf : DataW.trod enc Tryd.prog w 0 (fun _ => true) true fuel 22 [.slice a len cap] = some x) :
    ∃ xs, Acts w a len cap xs ∧ (x.1 = .nil ∧ cap = 0 ∨ ∃ els sp, x.1 = .slice els sp ∧ els.length + sp.length = cap) := by
  rcases open_slice Tryd.underlying22 hf with ⟨hcs, hx⟩ | ⟨ad, l, c, m, n, D, Pl, hcs, _, hl, hm, hmm, hx, hel⟩
  · simp at hcs
    obtain ⟨rfl, rfl, rfl⟩ := hcs
    exact ⟨[], ⟨rfl, Nat.le_refl _, by decide, fun _ => rfl, (fun ad e => by cases e)⟩, .inl ⟨by rw [hx], rfl⟩⟩
  · simp at hcs
    obtain ⟨rfl, rfl, rfl⟩ := hcs
    simp at hmm
    subst hmm
    have hF : ∀ i, ∃ z : Ac, i < len → Ac.at w (ad.add (i * 3)) z := by
      intro i
      by_cases hi : i < len
      · obtain ⟨cs', h1, h2⟩ := hel i (by omega)
        rw [Tryd.cellsA] at h1
        obtain ⟨z, hz⟩ := act_elem h1 h2
        exact ⟨z, fun _ => hz⟩
      · exact ⟨Ac.zero, fun h => absurd h hi⟩
    refine ⟨(List.range len).map (fun i => Classical.choose (hF i)), ⟨by simp, hl, hm, (fun e => by cases e), fun ad' e j hj => ?_⟩, .inr ⟨_, _, by rw [hx], by simp; omega⟩⟩
    obtain rfl := Option.some.inj e
    have eg : ((List.range len).map (fun i => Classical.choose (hF i))).getD j Ac.zero = Classical.choose (hF j) := by
      rw [List.getD_eq_getElem?_getD, List.getElem?_map, List.getElem?_range hj]; rfl
    rw [eg]
    exact Classical.choose_spec (hF j) hj
theorem Acts.there {w : World} {ao : Option Addr} {n cap : Nat} {xs : List Ac} (h : Acts w ao n cap xs) {k : Nat} (hk : k < n) : ∃ ad, ao = some ad := by
  cases ao with
  | none => have := h.2.2.2.1 rfl; have := h.2.1; omega
  | some ad => exact ⟨ad, rfl⟩
end Go.Proofs.YtifmeljdkohkkaaDoor
