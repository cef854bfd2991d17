/-
  What came in gives to the walks: numbers; a capability's four numbers.
-/
import Derived.Test.YtgcmompldcnhlaaDoorTRead
import Derived.Test.YtgcmompldcnhlaaDoorKRes
import Derived.OpenShut
import Derived.Lib.SmallJoins
namespace Go.Proofs.YtgcmompldcnhlaaDoor
open Go.RowKit
theorem u64_nat {n : Int} (h : (Lit.int .u64 n).wf = true) : ∃ v : Nat, n = (v : Int) ∧ v ≤ 18446744073709551615 := by
  have := bounds_u64 h; exact ⟨n.toNat, by omega, by omega⟩
theorem u32_nat {n : Int} (h : (Lit.int .u32 n).wf = true) : ∃ v : Nat, n = (v : Int) ∧ v ≤ 4294967295 := by
  have := bounds_u32 h; exact ⟨n.toNat, by omega, by omega⟩
theorem cells49 : Tryd.prog.cellsOf 49 = 4 := by kernel_rfl
/- a capability that came in by value -/
def CapIs (v : Value) (p o r c : Nat) : Prop := v = .agg #[.int .u64 p, .int .u32 o, .int .u8 r, .int .u64 c] ∧ p ≤ 18446744073709551615 ∧ o ≤ 4294967295 ∧ r ≤ 255 ∧ c ≤ 18446744073709551615
set_option maxRecDepth 100000 in
theorem open_cap {H : Type} {enc : TypeId × Value → H} {w : World} {base : Nat} {spare : Nat → Bool} {held : Bool} {r : Reach} {b0 : Nat} {v : Value} {d : DataW H} {pl : List MemPlace}
    (hv : Value.okWide Tryd.prog w r b0 49 v) (h : DataW.Trod enc Tryd.prog w base spare held 49 v d pl) : ∃ p o r c, CapIs v p o r c := by
  obtain ⟨v0, v1, v2, v3, y0, y1, y2, y3, n, rfl, _, _, h0, h1, h2, h3⟩ := Go.Joins.open_agg4 Tryd.underlying49 (by kernel_rfl) cells49 hv h
  obtain ⟨n0, e0, _, w0⟩ := DataW.trod_int Tryd.underlying22 h0
  obtain ⟨n1, e1, _, w1⟩ := DataW.trod_int Tryd.underlying47 h1
  obtain ⟨n2, e2, _, w2⟩ := DataW.trod_int Tryd.underlying5 h2
  obtain ⟨n3, e3, _, w3⟩ := DataW.trod_int Tryd.underlying22 h3
  obtain ⟨p, rfl, hp⟩ := u64_nat w0
  obtain ⟨o, rfl, ho⟩ := u32_nat w1
  obtain ⟨r, rfl, hr⟩ := u8_nat w2
  obtain ⟨c, rfl, hc⟩ := u64_nat w3
  obtain rfl := (List.cons.inj e0).1
  obtain rfl := (List.cons.inj e1).1
  obtain rfl := (List.cons.inj e2).1
  obtain rfl := (List.cons.inj e3).1
  exact ⟨p, o, r, c, rfl, hp, ho, hr, hc⟩
end Go.Proofs.YtgcmompldcnhlaaDoor
