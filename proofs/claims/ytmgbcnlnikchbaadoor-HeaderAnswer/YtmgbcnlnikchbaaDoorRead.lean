/-
  What came in gives to the walks: a capability's four numbers, a slice's bytes.
-/
import Derived.Test.YtmgbcnlnikchbaaDoorRows
import Derived.Test.YtmgbcnlnikchbaaDoorMore
import Derived.OpenShut
import Derived.Lib.SmallJoins
namespace Go.Proofs.YtmgbcnlnikchbaaDoor
open Go.RowKit
/- a slice of integers that came in: nil, or a row of so many cells, each fitting its kind -/
def RowOf (k : IntKind) (w : World) (a : Option Addr) (len cap : Nat) (zs : List Int) : Prop :=
  (a = none ∧ len = 0 ∧ cap = 0 ∧ zs = []) ∨
  ∃ x, a = some x ∧ len ≤ cap ∧ cap ≤ maxLen ∧ zs.length = cap ∧ (∀ i, i < zs.length → w.cell? (x.add i) = some (.int k (zs.getD i 0))) ∧ ∀ n ∈ zs, (Lit.int k n).wf = true
theorem RowOf.bytes {w : World} {a : Option Addr} {len cap : Nat} {zs : List Int} (h : RowOf .u8 w a len cap zs) : ∃ l, Bts w a len cap l := by
  rcases h with ⟨rfl, rfl, rfl, rfl⟩ | ⟨x, rfl, h1, h2, h3, h4, h5⟩
  · exact ⟨[], bts_nil w⟩
  · have hlen : ((zs.take len).map fun z => UInt8.ofNat z.toNat).length = len := by simp; omega
    refine ⟨(zs.take len).map fun z => UInt8.ofNat z.toNat, hlen.symm, h1, h2, (fun e => by cases e), fun ad e j hj => ?_⟩
    obtain rfl := Option.some.inj e
    rw [hlen] at hj
    have hjz : j < zs.length := by omega
    rw [h4 j hjz, bt_get _ _ (by rw [hlen]; exact hj)]
    have e1 : zs.getD j 0 = zs[j] := by rw [List.getD_eq_getElem?_getD, List.getElem?_eq_getElem hjz]; rfl
    have e2 := bounds_u8 (h5 zs[j] (List.getElem_mem hjz))
    rw [e1]
    simp only [List.getElem_map, List.getElem_take, ofNat_toNat]
    congr 2
    omega
theorem u64_nat {n : Int} (h : (Lit.int .u64 n).wf = true) : ∃ v : Nat, n = (v : Int) ∧ v ≤ 18446744073709551615 := by
  have := bounds_u64 h; exact ⟨n.toNat, by omega, by omega⟩
theorem u32_nat {n : Int} (h : (Lit.int .u32 n).wf = true) : ∃ v : Nat, n = (v : Int) ∧ v ≤ 4294967295 := by
  have := bounds_u32 h; exact ⟨n.toNat, by omega, by omega⟩
theorem u8_nat {n : Int} (h : (Lit.int .u8 n).wf = true) : ∃ v : Nat, n = (v : Int) ∧ v ≤ 255 := by
  have := bounds_u8 h; exact ⟨n.toNat, by omega, by omega⟩
theorem bytesOf5 : Tryd.prog.bytesOf 5 = 1 := by kernel_rfl
theorem bytesOf26 : Tryd.prog.bytesOf 26 = 24 := by kernel_rfl
theorem cells26 : Tryd.prog.cellsOf 26 = 4 := by kernel_rfl
/- a capability that came in by value -/
def CapIs (v : Value) (p o r c : Nat) : Prop := v = .agg #[.int .u64 p, .int .u32 o, .int .u8 r, .int .u64 c] ∧ p ≤ 18446744073709551615 ∧ o ≤ 4294967295 ∧ r ≤ 255 ∧ c ≤ 18446744073709551615
set_option maxRecDepth 100000 in
theorem open_cap {H : Type} {enc : TypeId × Value → H} {w : World} {base : Nat} {spare : Nat → Bool} {held : Bool} {r : Reach} {b0 : Nat} {v : Value} {d : DataW H} {pl : List MemPlace}
    (hv : Value.okWide Tryd.prog w r b0 26 v) (h : DataW.Trod enc Tryd.prog w base spare held 26 v d pl) : ∃ p o r c, CapIs v p o r c := by
  obtain ⟨v0, v1, v2, v3, y0, y1, y2, y3, n, rfl, _, _, h0, h1, h2, h3⟩ := Go.Joins.open_agg4 Tryd.underlying26 (by kernel_rfl) cells26 hv h
  obtain ⟨n0, e0, _, w0⟩ := DataW.trod_int Tryd.underlying22 h0
  obtain ⟨n1, e1, _, w1⟩ := DataW.trod_int Tryd.underlying23 h1
  obtain ⟨n2, e2, _, w2⟩ := DataW.trod_int Tryd.underlying5 h2
  obtain ⟨n3, e3, _, w3⟩ := DataW.trod_int Tryd.underlying22 h3
  obtain ⟨p, rfl, hp⟩ := u64_nat w0
  obtain ⟨o, rfl, ho⟩ := u32_nat w1
  obtain ⟨r, rfl, hr⟩ := u8_nat w2
  obtain ⟨c, rfl, hc⟩ := u64_nat w3
  obtain rfl := (List.cons.inj e0).1
  obtain rfl := (List.cons.inj e1).1
  obtain rfl := (List.cons.inj e2).1
  obtain rfl := (List.cons.inj e3).1
  exact ⟨p, o, r, c, rfl, hp, ho, hr, hc⟩
end Go.Proofs.YtmgbcnlnikchbaaDoor
