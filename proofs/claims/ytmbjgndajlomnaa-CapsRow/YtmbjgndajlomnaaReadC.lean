/-
  What a slice of capabilities that came in gives to the walks.
-/
import Derived.Test.YtmbjgndajlomnaaRead
import Derived.Test.YtmbjgndajlomnaaLists
import Derived.Deep.Slices
namespace Go.Proofs.Ytmbjgndajlomnaa
open Go.RowKit Go.Deep
theorem getD_range {F : Nat → Cp} (n i : Nat) (h : i < n) : ((List.range n).map F).getD i Cp.zero = F i := by
  rw [List.getD_eq_getElem?_getD, List.getElem?_map, List.getElem?_range h]; rfl
def CellAt (w : World) (a : Addr) (x : Cp) : Prop := ∀ f u, f < 4 → x.cells[f]? = some u → w.cell? (a.add f) = some u
theorem caps_of {w : World} {a : Addr} {len cap : Nat} (F : Nat → Cp) (hl : len ≤ cap) (hm : cap ≤ maxLen) (hF : ∀ i, i < len → (F i).ok ∧ CellAt w (a.add (i * 4)) (F i)) : Caps w (some a) len cap ((List.range len).map F) := by
  refine ⟨by simp, hl, hm, (fun e => by cases e), fun ad e j u hj => ?_, fun x hx => ?_⟩
  · obtain rfl := Option.some.inj e
    have hlt : j < len * 4 := by
      have := (List.getElem?_eq_some_iff.1 hj).1
      rw [cellsC_len] at this; simpa using this
    have hi : j / 4 < len := by omega
    have hf : j % 4 < 4 := Nat.mod_lt _ (by omega)
    have e : j = j / 4 * 4 + j % 4 := by omega
    rw [e, cellsC_get _ _ _ (by simpa using hi) hf, getD_range len _ hi] at hj
    have := (hF (j / 4) hi).2 (j % 4) u hf hj
    rw [Addr.add_add, ← e] at this
    exact this
  · simp only [List.mem_map, List.mem_range] at hx
    obtain ⟨i, hi, rfl⟩ := hx
    exact (hF i hi).1
theorem cells_four {w : World} {a : Addr} {cs : List Value} (h : w.cells? 0 a 4 = some cs) : ∃ c0 c1 c2 c3, cs = [c0, c1, c2, c3] ∧ w.cell? (a.add 0) = some c0 ∧ w.cell? (a.add 1) = some c1 ∧ w.cell? (a.add 2) = some c2 ∧ w.cell? (a.add 3) = some c3 := by
  unfold World.cells? at h
  rw [if_pos (Nat.zero_le _), show List.range 4 = [0, 1, 2, 3] from by decide] at h
  simp only [List.mapM_cons, List.mapM_nil, Option.pure_def, Option.bind_eq_bind, Option.bind_eq_some_iff, Option.some.injEq] at h
  obtain ⟨c0, h0, r1, ⟨c1, h1, r2, ⟨c2, h2, r3, ⟨c3, h3, r4, rfl, rfl⟩, rfl⟩, rfl⟩, rfl⟩ := h
  exact ⟨c0, c1, c2, c3, rfl, h0, h1, h2, h3⟩
theorem cap_elem {H : Type} {enc : TypeId × Value → H} {w : World} {spare : Nat → Bool} {held : Bool} {n : Nat} {a : Addr} {cs : List Value} {y : DataW H × List MemPlace}
    (hc : w.cells? 0 a 4 = some cs) (h : DataW.trod enc Try.prog w 0 spare held n 25 cs = some y) : ∃ x : Cp, x.ok ∧ CellAt w a x := by
  obtain ⟨c0, c1, c2, c3, rfl, k0, k1, k2, k3⟩ := cells_four hc
  obtain ⟨y0, y1, y2, y3, m, _, _, h0, h1, h2, h3⟩ := Go.Joins.trod_struct4 Try.underlying25 h
  obtain ⟨n0, e0, _, w0⟩ := DataW.trod_int Try.underlying22 h0
  obtain ⟨n1, e1, _, w1⟩ := DataW.trod_int Try.underlying23 h1
  obtain ⟨n2, e2, _, w2⟩ := DataW.trod_int Try.underlying5 h2
  obtain ⟨n3, e3, _, w3⟩ := DataW.trod_int Try.underlying22 h3
  obtain ⟨p, rfl, hp⟩ := u64_nat w0
  obtain ⟨o, rfl, ho⟩ := u32_nat w1
  obtain ⟨r, rfl, hr⟩ := u8_nat w2
  obtain ⟨c, rfl, hcc⟩ := u64_nat w3
  have z22 : Try.prog.cellsOf 22 = 1 := by kernel_rfl
  have z23 : Try.prog.cellsOf 23 = 1 := by kernel_rfl
  have z5 : Try.prog.cellsOf 5 = 1 := by kernel_rfl
  simp [z22] at e0
  simp [z23] at e1
  simp [z5] at e2
  simp [z22] at e3
  subst e0; subst e1; subst e2; subst e3
  refine ⟨⟨p, o, r, c⟩, ⟨hp, ho, hr, hcc⟩, fun f u hf hu => ?_⟩
  match f, hf with
  | 0, _ => cases hu; exact k0
  | 1, _ => cases hu; exact k1
  | 2, _ => cases hu; exact k2
  | 3, _ => cases hu; exact k3
theorem open_caps {H : Type} {enc : TypeId × Value → H} {w : World} {a : Option Addr} {len cap fuel : Nat} {x : DataW H × List MemPlace} (hf : DataW.trod enc Try.prog w 0 (fun _ => true) true fuel 35 [.slice a len cap] = some x) :
    ∃ xs, Caps w a len cap xs ∧ (x.1 = .nil ∧ cap = 0 ∨ ∃ els sp, x.1 = .slice els sp ∧ els.length + sp.length = cap) := by
  rcases open_slice Try.underlying35 hf with ⟨hcs, hx⟩ | ⟨ad, l, c, m, n, D, Pl, hcs, _, hl, hm, hmm, hx, hel⟩
  · simp at hcs
    obtain ⟨rfl, rfl, rfl⟩ := hcs
    exact ⟨[], caps_nil w, .inl ⟨by rw [hx], rfl⟩⟩
  · simp at hcs
    obtain ⟨rfl, rfl, rfl⟩ := hcs
    simp at hmm
    subst hmm
    have hall : ∀ i, i < len → ∃ z : Cp, z.ok ∧ CellAt w (ad.add (i * 4)) z := by
      intro i hi
      obtain ⟨cs', h1, h2⟩ := hel i (by omega)
      rw [cells25] at h1
      exact cap_elem h1 h2
    have hF : ∀ i, ∃ z : Cp, i < len → z.ok ∧ CellAt w (ad.add (i * 4)) z := by
      intro i
      by_cases hi : i < len
      · obtain ⟨z, hz⟩ := hall i hi; exact ⟨z, fun _ => hz⟩
      · exact ⟨Cp.zero, fun h => absurd h hi⟩
    refine ⟨_, caps_of (fun i => Classical.choose (hF i)) hl hm (fun i hi => Classical.choose_spec (hF i) hi), .inr ⟨_, _, by rw [hx], by simp; omega⟩⟩
end Go.Proofs.Ytmbjgndajlomnaa
