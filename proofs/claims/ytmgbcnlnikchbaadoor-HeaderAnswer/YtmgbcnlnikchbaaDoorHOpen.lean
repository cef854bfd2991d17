/-
  What a message that came in gives to the walks: its numbers, its data's bytes.
-/
import Derived.Test.YtmgbcnlnikchbaaDoorMsg
namespace Go.Proofs.YtmgbcnlnikchbaaDoor
open Go.RowKit Go.ChangeShapes Go.WideShapes
theorem array11 {α : Type} {cs : Array α} (h : cs.size = 11) : ∃ c0 c1 c2 c3 c4 c5 c6 c7 c8 c9 c10, cs = #[c0, c1, c2, c3, c4, c5, c6, c7, c8, c9, c10] := by
  obtain ⟨l⟩ := cs
  match l, h with
  | [c0, c1, c2, c3, c4, c5, c6, c7, c8, c9, c10], _ => exact ⟨c0, c1, c2, c3, c4, c5, c6, c7, c8, c9, c10, rfl⟩
theorem u16_nat {n : Int} (h : (Lit.int .u16 n).wf = true) : ∃ v : Nat, n = (v : Int) ∧ v ≤ 65535 := by
  have := bounds_u16 h; exact ⟨n.toNat, by omega, by omega⟩
theorem cells29 : Tryd.prog.cellsOf 29 = 11 := by kernel_rfl
theorem one22 : Tryd.prog.cellsOf 22 = 1 := by kernel_rfl
theorem one23 : Tryd.prog.cellsOf 23 = 1 := by kernel_rfl
theorem one24 : Tryd.prog.cellsOf 24 = 1 := by kernel_rfl
theorem one5 : Tryd.prog.cellsOf 5 = 1 := by kernel_rfl
theorem one27 : Tryd.prog.cellsOf 27 = 1 := by kernel_rfl
set_option maxRecDepth 100000 in
theorem open_msg {H : Type} {enc : TypeId × Value → H} {w : World} {base : Nat} {held : Bool} {r : Reach} {b0 : Nat} {v : Value} {d : DataW H} {pl : List MemPlace}
    (hv : Value.okWide Tryd.prog w r b0 29 v) (h : DataW.Trod enc Tryd.prog w base (fun _ => true) held 29 v d pl) : ∃ (m : Msg) (ao : Option Addr) (n cap : Nat) (zs : List Int), v = .agg #[.int .u64 m.ta, .int .u64 m.rp, .int .u32 m.id, .int .u16 m.op, .int .u16 m.st, .int .u64 m.p, .int .u32 m.o, .int .u8 m.r, .int .u64 m.c, .int .u64 m.ar, .slice ao n cap] ∧ m.ok ∧ RowOf .u8 w ao n cap zs := by
  obtain ⟨cs, rfl, hsz⟩ := okWide_struct Tryd.underlying29 hv
  obtain ⟨c0, c1, c2, c3, c4, c5, c6, c7, c8, c9, c10, rfl⟩ := array11 (hsz.trans cells29)
  obtain ⟨fuel, hf⟩ := h
  obtain ⟨xs, n, _, _, _, hlen, hfd⟩ := DataW.trod_struct Tryd.underlying29 hf
  have hlen8 : xs.length = 8 := hlen
  have at_ : ∀ i, i < 8 → ∃ y, xs[i]? = some y := fun i hi => ⟨xs[i]'(by omega), List.getElem?_eq_getElem (by omega)⟩
  obtain ⟨y0, hy0⟩ := at_ 0 (by omega)
  have f0 : DataW.trod enc Tryd.prog w base (fun _ => true) held n 22 [c0] = some y0 := by
    have h := hfd 0 _ rfl
    rw [hy0] at h
    simpa [Value.cells, one22] using h
  obtain ⟨y1, hy1⟩ := at_ 1 (by omega)
  have f1 : DataW.trod enc Tryd.prog w base (fun _ => true) held n 22 [c1] = some y1 := by
    have h := hfd 1 _ rfl
    rw [hy1] at h
    simpa [Value.cells, one22] using h
  obtain ⟨y2, hy2⟩ := at_ 2 (by omega)
  have f2 : DataW.trod enc Tryd.prog w base (fun _ => true) held n 23 [c2] = some y2 := by
    have h := hfd 2 _ rfl
    rw [hy2] at h
    simpa [Value.cells, one23] using h
  obtain ⟨y3, hy3⟩ := at_ 3 (by omega)
  have f3 : DataW.trod enc Tryd.prog w base (fun _ => true) held n 24 [c3] = some y3 := by
    have h := hfd 3 _ rfl
    rw [hy3] at h
    simpa [Value.cells, one24] using h
  obtain ⟨y4, hy4⟩ := at_ 4 (by omega)
  have f4 : DataW.trod enc Tryd.prog w base (fun _ => true) held n 24 [c4] = some y4 := by
    have h := hfd 4 _ rfl
    rw [hy4] at h
    simpa [Value.cells, one24] using h
  obtain ⟨y5, hy5⟩ := at_ 5 (by omega)
  have f5 : DataW.trod enc Tryd.prog w base (fun _ => true) held n 26 [c5, c6, c7, c8] = some y5 := by
    have h := hfd 5 _ rfl
    rw [hy5] at h
    simpa [Value.cells, cells26] using h
  obtain ⟨y6, hy6⟩ := at_ 6 (by omega)
  have f6 : DataW.trod enc Tryd.prog w base (fun _ => true) held n 22 [c9] = some y6 := by
    have h := hfd 6 _ rfl
    rw [hy6] at h
    simpa [Value.cells, one22] using h
  obtain ⟨y7, hy7⟩ := at_ 7 (by omega)
  have f7 : DataW.trod enc Tryd.prog w base (fun _ => true) held n 27 [c10] = some y7 := by
    have h := hfd 7 _ rfl
    rw [hy7] at h
    simpa [Value.cells, one27] using h
  clear hfd hlen hlen8 at_ hf hv hsz
  obtain ⟨n0, e0, _, w0⟩ := DataW.trod_int Tryd.underlying22 f0
  obtain ⟨v0, rfl, h0⟩ := u64_nat w0
  obtain rfl := (List.cons.inj e0).1
  obtain ⟨n1, e1, _, w1⟩ := DataW.trod_int Tryd.underlying22 f1
  obtain ⟨v1, rfl, h1⟩ := u64_nat w1
  obtain rfl := (List.cons.inj e1).1
  obtain ⟨n2, e2, _, w2⟩ := DataW.trod_int Tryd.underlying23 f2
  obtain ⟨v2, rfl, h2⟩ := u32_nat w2
  obtain rfl := (List.cons.inj e2).1
  obtain ⟨n3, e3, _, w3⟩ := DataW.trod_int Tryd.underlying24 f3
  obtain ⟨v3, rfl, h3⟩ := u16_nat w3
  obtain rfl := (List.cons.inj e3).1
  obtain ⟨n4, e4, _, w4⟩ := DataW.trod_int Tryd.underlying24 f4
  obtain ⟨v4, rfl, h4⟩ := u16_nat w4
  obtain rfl := (List.cons.inj e4).1
  obtain ⟨n6, e6, _, w6⟩ := DataW.trod_int Tryd.underlying22 f6
  obtain ⟨v6, rfl, h6⟩ := u64_nat w6
  obtain rfl := (List.cons.inj e6).1
  obtain ⟨z0, z1, z2, z3, nz, _, _, g0, g1, g2, g3⟩ := Go.Joins.trod_struct4 Tryd.underlying26 f5
  have q0 : DataW.trod enc Tryd.prog w base (fun _ => true) held nz 22 [c5] = some z0 := by simpa [one22] using g0
  have q1 : DataW.trod enc Tryd.prog w base (fun _ => true) held nz 23 [c6] = some z1 := by simpa [one23] using g1
  have q2 : DataW.trod enc Tryd.prog w base (fun _ => true) held nz 5 [c7] = some z2 := by simpa [one5] using g2
  have q3 : DataW.trod enc Tryd.prog w base (fun _ => true) held nz 22 [c8] = some z3 := by simpa [one22] using g3
  obtain ⟨nn0, ee0, _, ww0⟩ := DataW.trod_int Tryd.underlying22 q0
  obtain ⟨vv0, rfl, hh0⟩ := u64_nat ww0
  obtain rfl := (List.cons.inj ee0).1
  obtain ⟨nn1, ee1, _, ww1⟩ := DataW.trod_int Tryd.underlying23 q1
  obtain ⟨vv1, rfl, hh1⟩ := u32_nat ww1
  obtain rfl := (List.cons.inj ee1).1
  obtain ⟨nn2, ee2, _, ww2⟩ := DataW.trod_int Tryd.underlying5 q2
  obtain ⟨vv2, rfl, hh2⟩ := u8_nat ww2
  obtain rfl := (List.cons.inj ee2).1
  obtain ⟨nn3, ee3, _, ww3⟩ := DataW.trod_int Tryd.underlying22 q3
  obtain ⟨vv3, rfl, hh3⟩ := u64_nat ww3
  obtain rfl := (List.cons.inj ee3).1
  have hm : Msg.ok ⟨v0, v1, v2, v3, v4, vv0, vv1, vv2, vv3, v6⟩ := ⟨h0, h1, h2, h3, h4, hh0, hh1, hh2, hh3, h6⟩
  rcases open_ints Tryd.underlying27 Tryd.underlying5 one5 f7 with ⟨hcs, _⟩ | ⟨x, l, c, zs, hcs, _, hl, hmx, hz, _, hcell, hwz⟩
  · obtain rfl := (List.cons.inj hcs).1
    exact ⟨⟨v0, v1, v2, v3, v4, vv0, vv1, vv2, vv3, v6⟩, none, 0, 0, [], rfl, hm, .inl ⟨rfl, rfl, rfl, rfl⟩⟩
  · obtain rfl := (List.cons.inj hcs).1
    exact ⟨⟨v0, v1, v2, v3, v4, vv0, vv1, vv2, vv3, v6⟩, some x, l, c, zs, rfl, hm, .inr ⟨x, rfl, hl, hmx, by simpa using hz, hcell, hwz⟩⟩
end Go.Proofs.YtmgbcnlnikchbaaDoor
