/-
  An area by value, as it comes in.
-/
import Derived.Test.YtigbicggcohcgaaDoorAOpen
namespace Go.Proofs.YtigbicggcohcgaaDoor
open Go.RowKit Go.Deep Go.ChangeShapes Go.WideShapes
theorem array5 {α : Type} {cs : Array α} (h : cs.size = 5) : ∃ c0 c1 c2 c3 c4, cs = #[c0, c1, c2, c3, c4] := by
  obtain ⟨l⟩ := cs
  match l, h with
  | [c0, c1, c2, c3, c4], _ => exact ⟨c0, c1, c2, c3, c4, rfl⟩
theorem open_area {H : Type} {enc : TypeId × Value → H} {w : World} {base : Nat} {spare : Nat → Bool} {held : Bool} {r : Reach} {b0 : Nat} {v : Value} {d : DataW H} {pl : List MemPlace}
    (hv : Value.okWide Tryd.prog w r b0 24 v) (h : DataW.Trod enc Tryd.prog w base spare held 24 v d pl) : ∃ x : Ar, v = .agg #[.int .i64 x.b, .int .i64 x.s, .int .i64 x.g, .int .i64 x.o, .bool x.w] ∧ x.fit := by
  obtain ⟨cs, rfl, hsz⟩ := okWide_struct Tryd.underlying24 hv
  obtain ⟨c0, c1, c2, c3, c4, rfl⟩ := array5 (hsz.trans Tryd.cellsAr)
  obtain ⟨fuel, hf⟩ := h
  obtain ⟨x, hx, hfit⟩ := area_cells (cs := [c0, c1, c2, c3, c4]) rfl (by simpa [Value.cells] using hf)
  unfold Ar.cells at hx
  injection hx with e0 hx
  injection hx with e1 hx
  injection hx with e2 hx
  injection hx with e3 hx
  injection hx with e4 hx
  subst e0; subst e1; subst e2; subst e3; subst e4
  exact ⟨x, rfl, hfit⟩
end Go.Proofs.YtigbicggcohcgaaDoor
