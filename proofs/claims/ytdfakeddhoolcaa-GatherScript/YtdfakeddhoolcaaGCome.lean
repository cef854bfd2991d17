/-
  Packets that come, as they came in: of which message, which one, of how many, with which data; the packet that each of them is.
-/
import Derived.Test.YtdfakeddhoolcaaGAwake
import Derived.Test.YtdfakeddhoolcaaFRead
import Derived.Deep.Slices
import Derived.ChangeSame
import Derived.ChangeSlices
import Derived.Lib.SmallJoins
namespace Go.Proofs.Ytdfakeddhoolcaa
open Go.RowKit Go.Deep
structure Ac where
  o : Nat
  pg : Int
  pt : Int
  so : Option Addr
  sn : Nat
  sc : Nat
  l : List UInt8
def Ac.zero : Ac := ⟨0, 0, 0, none, 0, 0, []⟩
def Ac.ok (x : Ac) : Prop := x.o ≤ 255 ∧ (-128 ≤ x.pg ∧ x.pg ≤ 127) ∧ (-128 ≤ x.pt ∧ x.pt ≤ 127)
def Ac.at (w : World) (a : Addr) (x : Ac) : Prop :=
  x.ok ∧ Bts w x.so x.sn x.sc x.l ∧ w.cell? a = some (.int .u8 (x.o : Nat)) ∧ w.cell? (a.add 1) = some (.int .i8 x.pg) ∧ w.cell? (a.add 2) = some (.int .i8 x.pt) ∧ w.cell? (a.add 3) = some (.slice x.so x.sn x.sc)
theorem Ac.at.carry {w w' : World} {a : Addr} {x : Ac} (h : Ac.at w a x) (b : Below w.heap.size w w') : Ac.at w' a x := by
  obtain ⟨h0, h1, h2, h3, h4, h5⟩ := h
  exact ⟨h0, h1.carry b, by rw [b.cell (lt_of_cell h2), h2], by rw [b.cell (lt_of_cell h3), h3], by rw [b.cell (lt_of_cell h4), h4], by rw [b.cell (lt_of_cell h5), h5]⟩
def Acts (w : World) (ao : Option Addr) (n cap : Nat) (xs : List Ac) : Prop :=
  n = xs.length ∧ n ≤ cap ∧ cap ≤ maxLen ∧ (ao = none → cap = 0) ∧ ∀ ad, ao = some ad → ∀ j, j < n → Ac.at w (ad.add (j * 4)) (xs.getD j Ac.zero)
theorem Acts.carry {w w' : World} {ao : Option Addr} {n cap : Nat} {xs : List Ac} (h : Acts w ao n cap xs) (b : Below w.heap.size w w') : Acts w' ao n cap xs :=
  ⟨h.1, h.2.1, h.2.2.1, h.2.2.2.1, fun ad e j hj => (h.2.2.2.2 ad e j hj).carry b⟩
theorem cells_four {w : World} {a : Addr} {cs : List Value} (h : w.cells? 0 a 4 = some cs) : ∃ c0 c1 c2 c3, cs = [c0, c1, c2, c3] ∧ w.cell? (a.add 0) = some c0 ∧ w.cell? (a.add 1) = some c1 ∧ w.cell? (a.add 2) = some c2 ∧ w.cell? (a.add 3) = some c3 := by
  unfold World.cells? at h
  rw [if_pos (Nat.zero_le _), show List.range 4 = [0, 1, 2, 3] from by decide] at h
  simp only [List.mapM_cons, List.mapM_nil, Option.pure_def, Option.bind_eq_bind, Option.bind_eq_some_iff, Option.some.injEq] at h
  obtain ⟨c0, h0, r1, ⟨c1, h1, r2, ⟨c2, h2, r3, ⟨c3, h3, r4, rfl, rfl⟩, rfl⟩, rfl⟩, rfl⟩ := h
  exact ⟨c0, c1, c2, c3, rfl, h0, h1, h2, h3⟩
theorem Try.cells8 : Try.prog.cellsOf 5 = 1 := by kernel_rfl
theorem Try.cellsI8 : Try.prog.cellsOf 29 = 1 := by kernel_rfl
theorem Try.cellsSB : Try.prog.cellsOf 30 = 1 := by kernel_rfl
theorem Try.cellsA : Try.prog.cellsOf 32 = 4 := by kernel_rfl
theorem bytesA : Try.prog.bytesOf 32 = 32 := by kernel_rfl
theorem act_elem {H : Type} {enc : TypeId × Value → H} {w : World} {n : Nat} {a : Addr} {cs : List Value} {y : DataW H × List MemPlace}
    (hc : w.cells? 0 a 4 = some cs) (h : DataW.trod enc Try.prog w 0 (fun _ => true) true n 32 cs = some y) : ∃ x : Ac, Ac.at w a x := by
  obtain ⟨c0, c1, c2, c3, rfl, k0, k1, k2, k3⟩ := cells_four hc
  obtain ⟨y0, y1, y2, y3, m, _, _, h0, h1, h2, h3⟩ := Go.Joins.trod_struct4 Try.underlying32 h
  obtain ⟨n0, e0, _, w0⟩ := DataW.trod_int Try.underlying5 h0
  obtain ⟨n1, e1, _, w1⟩ := DataW.trod_int Try.underlying29 h1
  obtain ⟨n2, e2, _, w2⟩ := DataW.trod_int Try.underlying29 h2
  obtain ⟨p, rfl, hp⟩ := u8_nat w0
  have b1 := bounds_i8 w1
  have b2 := bounds_i8 w2
  simp [Try.cells8] at e0
  simp [Try.cellsI8] at e1
  simp [Try.cellsI8] at e2
  simp [Try.cellsSB] at h3
  subst e0; subst e1; subst e2
  rw [addZ] at k0
  obtain ⟨so, sn, sc, zs, rfl, hr⟩ : ∃ so sn sc zs, c3 = .slice so sn sc ∧ RowOf .u8 w so sn sc zs := by
    rcases Go.ChangeShapes.open_ints Try.underlying30 Try.underlying5 (by kernel_rfl) h3 with ⟨hcs, _⟩ | ⟨x, l, c, zs, hcs, _, hl, hm, hz, hx, hcell, hwz⟩
    · simp at hcs
      exact ⟨none, 0, 0, [], hcs, .inl ⟨rfl, rfl, rfl, rfl⟩⟩
    · simp at hcs
      exact ⟨some x, l, c, zs, hcs, .inr ⟨_, rfl, hl, hm, by simpa using hz, hcell, hwz⟩⟩
  obtain ⟨l, hb⟩ := hr.bytes
  exact ⟨⟨p, n1, n2, so, sn, sc, l⟩, ⟨hp, b1, b2⟩, hb, k0, k1, k2, k3⟩
theorem open_acts {H : Type} {enc : TypeId × Value → H} {w : World} {a : Option Addr} {len cap fuel : Nat} {x : DataW H × List MemPlace} (hf : DataW.trod enc Try.prog w 0 (fun _ => true) true fuel 22 [.slice a len cap] = some x) :
    ∃ xs, Acts w a len cap xs ∧ (x.1 = .nil ∧ cap = 0 ∨ ∃ els sp, x.1 = .slice els sp ∧ els.length + sp.length = cap) := by
  rcases open_slice Try.underlying22 hf with ⟨hcs, hx⟩ | ⟨ad, l, c, m, n, D, Pl, hcs, _, hl, hm, hmm, hx, hel⟩
  · simp at hcs
    obtain ⟨rfl, rfl, rfl⟩ := hcs
    exact ⟨[], ⟨rfl, Nat.le_refl _, by decide, fun _ => rfl, (fun ad e => by cases e)⟩, .inl ⟨by rw [hx], rfl⟩⟩
  · simp at hcs
    obtain ⟨rfl, rfl, rfl⟩ := hcs
    simp at hmm
    subst hmm
    have hF : ∀ i, ∃ z : Ac, i < len → Ac.at w (ad.add (i * 4)) z := by
      intro i
      by_cases hi : i < len
      · obtain ⟨cs', h1, h2⟩ := hel i (by omega)
        rw [Try.cellsA] at h1
        obtain ⟨z, hz⟩ := act_elem h1 h2
        exact ⟨z, fun _ => hz⟩
      · exact ⟨Ac.zero, fun h => absurd h hi⟩
    refine ⟨(List.range len).map (fun i => Classical.choose (hF i)), ⟨by simp, hl, hm, (fun e => by cases e), fun ad' e j hj => ?_⟩, .inr ⟨_, _, by rw [hx], by simp; omega⟩⟩
    obtain rfl := Option.some.inj e
    have eg : ((List.range len).map (fun i => Classical.choose (hF i))).getD j Ac.zero = Classical.choose (hF j) := by
      rw [List.getD_eq_getElem?_getD, List.getElem?_map, List.getElem?_range hj]; rfl
    rw [eg]
    exact Classical.choose_spec (hF j) hj
/- the packet that it is -/
def cmP (x : Ac) : Pa := ⟨(x.o : Int) % 2, 3, (x.o : Int) % 24, x.pg, x.pt, x.so, x.sn, x.sc, x.l⟩
set_option maxRecDepth 20000 in
set_option maxHeartbeats 800000 in
theorem packet_any (x : Ac) (w : World) (hx : x.ok) :
    Calls Try.prog 8 #[.agg #[.int .u8 (x.o : Nat), .int .i8 x.pg, .int .i8 x.pt, .slice x.so x.sn x.sc]] w fun e w' => e = .returned (.agg #[.int .i64 (cmP x).f, .int .i64 (cmP x).t, .int .u64 (cmP x).i, .int .i64 (cmP x).x, .int .i64 (cmP x).c, .slice (cmP x).so (cmP x).sn (cmP x).sc]) ∧ Below w.heap.size w w' := by
  obtain ⟨h0, ⟨h1, h2⟩, h3, h4⟩ := hx
  have hb := below_one (below_alloc w (.cells #[.int .u8 (x.o : Nat), .int .i8 x.pg, .int .i8 x.pt, .slice x.so x.sn x.sc] 32)) (below_alloc _ (.cells #[.int .i64 (cmP x).f, .int .i64 (cmP x).t, .int .u64 (cmP x).i, .int .i64 (cmP x).x, .int .i64 (cmP x).c, .slice (cmP x).so (cmP x).sn (cmP x).sc] 35))
  go_enter Try.func8, Try.ntmps8
  go_wp2
  go_returns
  exact ⟨rfl, hb⟩
end Go.Proofs.Ytdfakeddhoolcaa
