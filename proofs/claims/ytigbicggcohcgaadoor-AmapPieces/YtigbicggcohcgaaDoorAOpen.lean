/-
  Areas as they come in: a slice of them, and one by value.
-/
import Derived.Test.YtigbicggcohcgaaDoorARow
import Derived.Deep.Slices
import Derived.ChangeSame
import Derived.ChangeSlices
import Derived.Lib.SmallJoins
namespace Go.Proofs.YtigbicggcohcgaaDoor
open Go.RowKit Go.Deep
theorem cells_five {w : World} {a : Addr} {cs : List Value} (h : w.cells? 0 a 5 = some cs) : ∃ c0 c1 c2 c3 c4, cs = [c0, c1, c2, c3, c4] ∧ w.cell? (a.add 0) = some c0 ∧ w.cell? (a.add 1) = some c1 ∧ w.cell? (a.add 2) = some c2 ∧ w.cell? (a.add 3) = some c3 ∧ w.cell? (a.add 4) = some c4 := by
  unfold World.cells? at h
  rw [if_pos (Nat.zero_le _), show List.range 5 = [0, 1, 2, 3, 4] from by decide] at h
  simp only [List.mapM_cons, List.mapM_nil, Option.pure_def, Option.bind_eq_bind, Option.bind_eq_some_iff, Option.some.injEq] at h
  obtain ⟨c0, h0, r1, ⟨c1, h1, r2, ⟨c2, h2, r3, ⟨c3, h3, r4, ⟨c4, h4, r5, rfl, rfl⟩, rfl⟩, rfl⟩, rfl⟩, rfl⟩ := h
  exact ⟨c0, c1, c2, c3, c4, rfl, h0, h1, h2, h3, h4⟩
theorem trod_five {H : Type} {enc : TypeId × Value → H} {P : Program} {w : World} {base : Nat} {spare : TypeId → Bool} {held : Bool} {t : TypeId} {f0 f1 f2 f3 f4 : Field} {fuel : Nat} {cs : List Value} {x : DataW H × List MemPlace} (ht : P.underlying t = some (.struct #[f0, f1, f2, f3, f4])) (h : DataW.trod enc P w base spare held fuel t cs = some x) :
    ∃ y0 y1 y2 y3 y4 n, DataW.trod enc P w base spare held n f0.type ((cs.drop f0.offset).take (P.cellsOf f0.type)) = some y0 ∧ DataW.trod enc P w base spare held n f1.type ((cs.drop f1.offset).take (P.cellsOf f1.type)) = some y1 ∧ DataW.trod enc P w base spare held n f2.type ((cs.drop f2.offset).take (P.cellsOf f2.type)) = some y2 ∧
      DataW.trod enc P w base spare held n f3.type ((cs.drop f3.offset).take (P.cellsOf f3.type)) = some y3 ∧ DataW.trod enc P w base spare held n f4.type ((cs.drop f4.offset).take (P.cellsOf f4.type)) = some y4 := by
  obtain ⟨xs, n, _, rfl, hl, hlen, hf⟩ := DataW.trod_struct ht h
  match xs, hlen with
  | [y0, y1, y2, y3, y4], _ => exact ⟨y0, y1, y2, y3, y4, n, by simpa using hf 0 f0 rfl, by simpa using hf 1 f1 rfl, by simpa using hf 2 f2 rfl, by simpa using hf 3 f3 rfl, by simpa using hf 4 f4 rfl⟩
theorem Tryd.cellsI : Tryd.prog.cellsOf 3 = 1 := by kernel_rfl
theorem Tryd.cellsBo : Tryd.prog.cellsOf 4 = 1 := by kernel_rfl
theorem Tryd.cellsAr : Tryd.prog.cellsOf 24 = 5 := by kernel_rfl
theorem bytesAr : Tryd.prog.bytesOf 24 = 40 := by kernel_rfl
theorem i64_of {n : Int} (h : (Lit.int .i64 n).wf = true) : I64 n := by have := bounds_i64 h; exact this
theorem area_cells {H : Type} {enc : TypeId × Value → H} {w : World} {base : Nat} {spare : TypeId → Bool} {held : Bool} {n : Nat} {cs : List Value} {y : DataW H × List MemPlace}
    (hl : cs.length = 5) (h : DataW.trod enc Tryd.prog w base spare held n 24 cs = some y) : ∃ x : Ar, cs = x.cells ∧ x.fit := by
  match cs, hl with
  | [c0, c1, c2, c3, c4], _ =>
  obtain ⟨y0, y1, y2, y3, y4, m, h0, h1, h2, h3, h4⟩ := trod_five Tryd.underlying24 h
  obtain ⟨n0, e0, _, w0⟩ := DataW.trod_int Tryd.underlying3 h0
  obtain ⟨n1, e1, _, w1⟩ := DataW.trod_int Tryd.underlying3 h1
  obtain ⟨n2, e2, _, w2⟩ := DataW.trod_int Tryd.underlying3 h2
  obtain ⟨n3, e3, _, w3⟩ := DataW.trod_int Tryd.underlying3 h3
  obtain ⟨n4, e4, _⟩ := DataW.trod_bool Tryd.underlying4 h4
  simp [Tryd.cellsI] at e0
  simp [Tryd.cellsI] at e1
  simp [Tryd.cellsI] at e2
  simp [Tryd.cellsI] at e3
  simp [Tryd.cellsBo] at e4
  subst e0; subst e1; subst e2; subst e3; subst e4
  exact ⟨⟨n0, n1, n2, n3, n4⟩, rfl, i64_of w0, i64_of w1, i64_of w2, i64_of w3⟩
theorem addZ (a : Addr) : a.add 0 = a := by unfold Addr.add; simp
theorem flat_get (F : Nat → Ar) (len : Nat) (j : Nat) (u : Value) (h : (cellsA ((List.range len).map F))[j]? = some u) : j / 5 < len ∧ (F (j / 5)).cells[j % 5]? = some u := by
  have hj : j < (cellsA ((List.range len).map F)).length := by
    rcases Nat.lt_or_ge j (cellsA ((List.range len).map F)).length with hlt | hge
    · exact hlt
    · rw [List.getElem?_eq_none hge] at h; cases h
  rw [cellsA_len, List.length_map, List.length_range] at hj
  have hq : j / 5 < len := by omega
  refine ⟨hq, ?_⟩
  have e := cellsA_get ((List.range len).map F) (j / 5) (j % 5) (by simpa using hq) (by omega)
  rw [show j / 5 * 5 + j % 5 = j by omega, h] at e
  rw [e]
  congr 2
  rw [List.getD_eq_getElem?_getD, List.getElem?_map, List.getElem?_range hq]; rfl
theorem open_areas {H : Type} {enc : TypeId × Value → H} {w : World} {a : Option Addr} {len cap fuel : Nat} {x : DataW H × List MemPlace} (hf : DataW.trod enc Tryd.prog w 0 (fun _ => true) true fuel 22 [.slice a len cap] = some x) :
    ∃ xs, Ars w a len cap xs ∧ (x.1 = .nil ∧ cap = 0 ∨ ∃ els sp, x.1 = .slice els sp ∧ els.length + sp.length = cap) := by
  rcases open_slice Tryd.underlying22 hf with ⟨hcs, hx⟩ | ⟨ad, l, c, m, n, D, Pl, hcs, _, hl, hm, hmm, hx, hel⟩
  · simp at hcs
    obtain ⟨rfl, rfl, rfl⟩ := hcs
    exact ⟨[], ars_nil w, .inl ⟨by rw [hx], rfl⟩⟩
  · simp at hcs
    obtain ⟨rfl, rfl, rfl⟩ := hcs
    simp at hmm
    subst hmm
    have hF : ∀ i, ∃ z : Ar, i < len → ∀ f u, z.cells[f]? = some u → w.cell? ((ad.add (i * 5)).add f) = some u := by
      intro i
      by_cases hi : i < len
      · obtain ⟨cs', h1, h2⟩ := hel i (by omega)
        rw [Tryd.cellsAr] at h1
        obtain ⟨c0, c1, c2, c3, c4, rfl, k0, k1, k2, k3, k4⟩ := cells_five h1
        obtain ⟨z, hz, _⟩ := area_cells rfl h2
        refine ⟨z, fun _ f u hu => ?_⟩
        rw [← hz] at hu
        rcases f with _ | _ | _ | _ | _ | f
        · cases hu; exact k0
        · cases hu; exact k1
        · cases hu; exact k2
        · cases hu; exact k3
        · cases hu; exact k4
        · simp at hu
      · exact ⟨Ar.zero, fun h => absurd h hi⟩
    refine ⟨(List.range len).map (fun i => Classical.choose (hF i)), ⟨by rw [cellsA_len]; simp, hl, hm, (fun e => by cases e), fun ad' e j u hu => ?_⟩, .inr ⟨_, _, by rw [hx], by simp; omega⟩⟩
    obtain rfl := Option.some.inj e
    obtain ⟨hq, hc⟩ := flat_get _ _ _ _ hu
    have := Classical.choose_spec (hF (j / 5)) hq (j % 5) u hc
    rw [add_add, show j / 5 * 5 + j % 5 = j by omega] at this
    exact this
end Go.Proofs.YtigbicggcohcgaaDoor
