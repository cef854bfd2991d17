/-
  What came in gives to the walks: a number; a slice of questions.
-/
import Derived.Test.YtckpdgheoacbfaaTRead
import Derived.Test.YtckpdgheoacbfaaOLaw
import Derived.Deep.Slices
import Derived.ChangeSame
namespace Go.Proofs.Ytckpdgheoacbfaa
open Go.RowKit Go.Deep
theorem u64_nat {n : Int} (h : (Lit.int .u64 n).wf = true) : ∃ v : Nat, n = (v : Int) ∧ v ≤ 18446744073709551615 := by
  have := bounds_u64 h; exact ⟨n.toNat, by omega, by omega⟩
/- a question: of which function, to which word -/
structure Qu where
  o : Nat
  q : Nat
def Qu.zero : Qu := ⟨0, 0⟩
def Qu.ok (x : Qu) : Prop := x.o ≤ 255 ∧ x.q ≤ 18446744073709551615
def Qus (w : World) (ao : Option Addr) (n cap : Nat) (xs : List Qu) : Prop :=
  n = xs.length ∧ n ≤ cap ∧ cap ≤ maxLen ∧ (ao = none → cap = 0) ∧ ∀ ad, ao = some ad → ∀ j, j < n → (xs.getD j Qu.zero).ok ∧ w.cell? (ad.add (j * 2)) = some (.int .u8 ((xs.getD j Qu.zero).o : Nat)) ∧ w.cell? ((ad.add (j * 2)).add 1) = some (.int .u64 ((xs.getD j Qu.zero).q : Nat))
theorem Qus.carry {w w' : World} {ao : Option Addr} {n cap : Nat} {xs : List Qu} (h : Qus w ao n cap xs) (b : Below w.heap.size w w') : Qus w' ao n cap xs := by
  refine ⟨h.1, h.2.1, h.2.2.1, h.2.2.2.1, fun ad e j hj => ?_⟩
  obtain ⟨h0, h1, h2⟩ := h.2.2.2.2 ad e j hj
  exact ⟨h0, by rw [b.cell (lt_of_cell h1), h1], by rw [b.cell (lt_of_cell h2), h2]⟩
theorem cells_two {w : World} {a : Addr} {cs : List Value} (h : w.cells? 0 a 2 = some cs) : ∃ c0 c1, cs = [c0, c1] ∧ w.cell? (a.add 0) = some c0 ∧ w.cell? (a.add 1) = some c1 := by
  unfold World.cells? at h
  rw [if_pos (Nat.zero_le _), show List.range 2 = [0, 1] from by decide] at h
  simp only [List.mapM_cons, List.mapM_nil, Option.pure_def, Option.bind_eq_bind, Option.bind_eq_some_iff, Option.some.injEq] at h
  obtain ⟨c0, h0, r1, ⟨c1, h1, r2, rfl, rfl⟩, rfl⟩ := h
  exact ⟨c0, c1, rfl, h0, h1⟩
theorem addZ (a : Addr) : a.add 0 = a := by unfold Addr.add; simp
theorem Try.cells8 : Try.prog.cellsOf 5 = 1 := by kernel_rfl
theorem Try.cellsA : Try.prog.cellsOf 32 = 2 := by kernel_rfl
theorem bytesA : Try.prog.bytesOf 32 = 16 := by kernel_rfl
theorem qu_elem {H : Type} {enc : TypeId × Value → H} {w : World} {spare : Nat → Bool} {held : Bool} {n : Nat} {a : Addr} {cs : List Value} {y : DataW H × List MemPlace}
    (hc : w.cells? 0 a 2 = some cs) (h : DataW.trod enc Try.prog w 0 spare held n 32 cs = some y) : ∃ x : Qu, x.ok ∧ w.cell? a = some (.int .u8 (x.o : Nat)) ∧ w.cell? (a.add 1) = some (.int .u64 (x.q : Nat)) := by
  obtain ⟨c0, c1, rfl, k0, k1⟩ := cells_two hc
  obtain ⟨y0, y1, m, _, _, h0, h1⟩ := Go.ChangeShapes.trod_struct2 Try.underlying32 h
  obtain ⟨n0, e0, _, w0⟩ := DataW.trod_int Try.underlying5 h0
  obtain ⟨n1, e1, _, w1⟩ := DataW.trod_int Try.underlying30 h1
  obtain ⟨p, rfl, hp⟩ := u8_nat w0
  obtain ⟨o, rfl, ho⟩ := u64_nat w1
  simp [Try.cells8] at e0
  simp [Try.cellsU] at e1
  subst e0; subst e1
  rw [addZ] at k0
  exact ⟨⟨p, o⟩, ⟨hp, ho⟩, k0, k1⟩
theorem open_qus {H : Type} {enc : TypeId × Value → H} {w : World} {a : Option Addr} {len cap fuel : Nat} {x : DataW H × List MemPlace} (hf : DataW.trod enc Try.prog w 0 (fun _ => true) true fuel 23 [.slice a len cap] = some x) :
    ∃ xs, Qus w a len cap xs ∧ (x.1 = .nil ∧ cap = 0 ∨ ∃ els sp, x.1 = .slice els sp ∧ els.length + sp.length = cap) := by
  rcases open_slice Try.underlying23 hf with ⟨hcs, hx⟩ | ⟨ad, l, c, m, n, D, Pl, hcs, _, hl, hm, hmm, hx, hel⟩
  · simp at hcs
    obtain ⟨rfl, rfl, rfl⟩ := hcs
    exact ⟨[], ⟨rfl, Nat.le_refl _, by decide, fun _ => rfl, (fun ad e => by cases e)⟩, .inl ⟨by rw [hx], rfl⟩⟩
  · simp at hcs
    obtain ⟨rfl, rfl, rfl⟩ := hcs
    simp at hmm
    subst hmm
    have hall : ∀ i, i < len → ∃ z : Qu, z.ok ∧ w.cell? (ad.add (i * 2)) = some (.int .u8 (z.o : Nat)) ∧ w.cell? ((ad.add (i * 2)).add 1) = some (.int .u64 (z.q : Nat)) := by
      intro i hi
      obtain ⟨cs', h1, h2⟩ := hel i (by omega)
      rw [Try.cellsA] at h1
      exact qu_elem h1 h2
    have hF : ∀ i, ∃ z : Qu, i < len → z.ok ∧ w.cell? (ad.add (i * 2)) = some (.int .u8 (z.o : Nat)) ∧ w.cell? ((ad.add (i * 2)).add 1) = some (.int .u64 (z.q : Nat)) := by
      intro i
      by_cases hi : i < len
      · obtain ⟨z, hz⟩ := hall i hi; exact ⟨z, fun _ => hz⟩
      · exact ⟨Qu.zero, fun h => absurd h hi⟩
    refine ⟨(List.range len).map (fun i => Classical.choose (hF i)), ⟨by simp, hl, hm, (fun e => by cases e), fun ad' e j hj => ?_⟩, .inr ⟨_, _, by rw [hx], by simp; omega⟩⟩
    obtain rfl := Option.some.inj e
    have eg : ((List.range len).map (fun i => Classical.choose (hF i))).getD j Qu.zero = Classical.choose (hF j) := by
      rw [List.getD_eq_getElem?_getD, List.getElem?_map, List.getElem?_range hj]; rfl
    rw [eg]
    exact Classical.choose_spec (hF j) hj
end Go.Proofs.Ytckpdgheoacbfaa
