/-
  A message that came in by value: its numbers, its data's bytes, and how many these are at most.
-/
import Derived.Test.YtjpgfldppepmiaaDoorJh
import Derived.Deep.Slices
import Derived.ChangeSame
import Derived.ChangeSlices
import Derived.Lib.SmallJoins
import Derived.SizedLaws
namespace Go.Proofs.YtjpgfldppepmiaaDoor
section
open Go.RowKit Go.Deep
theorem RowOf.bytes {w : World} {a : Option Addr} {len cap : Nat} {zs : List Int} (h : RowOf .u8 w a len cap zs) : ∃ l, Bts w a len cap l := by
  rcases h with ⟨rfl, rfl, rfl, rfl⟩ | ⟨x, rfl, h1, h2, h3, h4, h5⟩
  · exact ⟨[], bts_nil w⟩
  · have hlen : ((zs.take len).map fun z => UInt8.ofNat z.toNat).length = len := by simp; omega
    refine ⟨(zs.take len).map fun z => UInt8.ofNat z.toNat, hlen.symm, h1, h2, (fun e => by cases e), fun ad e j hj => ?_⟩
    obtain rfl := Option.some.inj e
    rw [hlen] at hj
    have hjz : j < zs.length := by omega
    rw [h4 j hjz, bt_get _ _ (by rw [hlen]; exact hj)]
    have e1 : zs.getD j 0 = zs[j] := by rw [List.getD_eq_getElem?_getD, List.getElem?_eq_getElem hjz]; rfl
    have e2 := bounds_u8 (h5 zs[j] (List.getElem_mem hjz))
    rw [e1]
    simp only [List.getElem_map, List.getElem_take, ofNat_toNat]
    congr 2
    omega
theorem u16_nat {n : Int} (h : (Lit.int .u16 n).wf = true) : ∃ v : Nat, n = (v : Int) ∧ v ≤ 65535 := by
  have := bounds_u16 h; exact ⟨n.toNat, by omega, by omega⟩
theorem bytesOf5 : Tryd.prog.bytesOf 5 = 1 := by kernel_rfl
def msgL (m : Msg) (so : Option Addr) (sn sc : Nat) : List Value := (#[.int .u64 m.ta, .int .u64 m.rp, .int .u32 m.id, .int .u16 m.op, .int .u16 m.st, .int .u64 m.p, .int .u32 m.o, .int .u8 m.r, .int .u64 m.c, .int .u64 m.ar, .slice so sn sc] : Array Value).toList
theorem m64 : Tryd.prog.cellsOf 27 = 1 := by kernel_rfl
theorem m32 : Tryd.prog.cellsOf 39 = 1 := by kernel_rfl
theorem m16 : Tryd.prog.cellsOf 46 = 1 := by kernel_rfl
theorem m8 : Tryd.prog.cellsOf 5 = 1 := by kernel_rfl
theorem mB : Tryd.prog.cellsOf 47 = 1 := by kernel_rfl
theorem mCap : Tryd.prog.cellsOf 41 = 4 := by kernel_rfl
theorem mMsg : Tryd.prog.cellsOf 49 = 11 := by kernel_rfl
theorem weights_all {H : Type} {P : Program} {e : TypeId} {d : DataW H} {n : Nat} (hn : n ∈ d.weights P e) : ∀ {l : List (DataW H)}, d ∈ l → n ∈ DataW.weightsAll P e l
  | x :: r, h => by
    simp only [DataW.weightsAll, List.mem_append]
    rcases List.mem_cons.1 h with rfl | h
    · exact .inl hn
    · exact .inr (weights_all hn h)
def SizeBy {H : Type} (d : DataW H) (t : TypeId) (k : Nat) : Prop := k = 0 ∨ ∃ n ∈ d.weights Tryd.prog t, k ≤ n
set_option maxRecDepth 100000 in
theorem msg_elem {H : Type} {enc : TypeId × Value → H} {w : World} {n : Nat} {c0 c1 c2 c3 c4 c5 c6 c7 c8 c9 c10 : Value} {y : DataW H × List MemPlace}
    (h : DataW.trod enc Tryd.prog w 0 (fun _ => true) true n 49 [c0, c1, c2, c3, c4, c5, c6, c7, c8, c9, c10] = some y) : ∃ (m : Msg) (so : Option Addr) (sn sc : Nat) (l : List UInt8), [c0, c1, c2, c3, c4, c5, c6, c7, c8, c9, c10] = msgL m so sn sc ∧ m.ok ∧ Bts w so sn sc l ∧ SizeBy y.1 49 sn := by
  obtain ⟨xs, m, _, hx, _, hlen, hfd⟩ := DataW.trod_struct Tryd.underlying49 h
  have hlen8 : xs.length = 8 := hlen
  have at_ : ∀ i, i < 8 → ∃ y, xs[i]? = some y := fun i hi => ⟨xs[i]'(by omega), List.getElem?_eq_getElem (by omega)⟩
  obtain ⟨y0, hy0⟩ := at_ 0 (by omega)
  have f0 : DataW.trod enc Tryd.prog w 0 (fun _ => true) true m 27 [c0] = some y0 := by
    have h := hfd 0 _ rfl
    rw [hy0] at h
    simpa [m64] using h
  obtain ⟨y1, hy1⟩ := at_ 1 (by omega)
  have f1 : DataW.trod enc Tryd.prog w 0 (fun _ => true) true m 27 [c1] = some y1 := by
    have h := hfd 1 _ rfl
    rw [hy1] at h
    simpa [m64] using h
  obtain ⟨y2, hy2⟩ := at_ 2 (by omega)
  have f2 : DataW.trod enc Tryd.prog w 0 (fun _ => true) true m 39 [c2] = some y2 := by
    have h := hfd 2 _ rfl
    rw [hy2] at h
    simpa [m32] using h
  obtain ⟨y3, hy3⟩ := at_ 3 (by omega)
  have f3 : DataW.trod enc Tryd.prog w 0 (fun _ => true) true m 46 [c3] = some y3 := by
    have h := hfd 3 _ rfl
    rw [hy3] at h
    simpa [m16] using h
  obtain ⟨y4, hy4⟩ := at_ 4 (by omega)
  have f4 : DataW.trod enc Tryd.prog w 0 (fun _ => true) true m 46 [c4] = some y4 := by
    have h := hfd 4 _ rfl
    rw [hy4] at h
    simpa [m16] using h
  obtain ⟨y5, hy5⟩ := at_ 5 (by omega)
  have f5 : DataW.trod enc Tryd.prog w 0 (fun _ => true) true m 41 [c5, c6, c7, c8] = some y5 := by
    have h := hfd 5 _ rfl
    rw [hy5] at h
    simpa [mCap] using h
  obtain ⟨y6, hy6⟩ := at_ 6 (by omega)
  have f6 : DataW.trod enc Tryd.prog w 0 (fun _ => true) true m 27 [c9] = some y6 := by
    have h := hfd 6 _ rfl
    rw [hy6] at h
    simpa [m64] using h
  obtain ⟨y7, hy7⟩ := at_ 7 (by omega)
  have f7 : DataW.trod enc Tryd.prog w 0 (fun _ => true) true m 47 [c10] = some y7 := by
    have h := hfd 7 _ rfl
    rw [hy7] at h
    simpa [mB] using h
  have hmem : ∀ k ∈ y7.1.weights Tryd.prog 47, k ∈ y.1.weights Tryd.prog 49 := fun k hk => by
    rw [hx]
    simp only [DataW.weights, Tryd.underlying49]
    refine DataW.weights_mem_each (j := 7) (t := 47) (d := y7.1) rfl ?_ k hk
    rw [List.getElem?_map, hy7]; rfl
  clear hfd hlen hlen8 at_ h hx
  obtain ⟨n0, e0, _, wf0⟩ := DataW.trod_int Tryd.underlying27 f0
  obtain rfl := (List.cons.inj e0).1
  obtain ⟨n1, e1, _, wf1⟩ := DataW.trod_int Tryd.underlying27 f1
  obtain rfl := (List.cons.inj e1).1
  obtain ⟨n2, e2, _, wf2⟩ := DataW.trod_int Tryd.underlying39 f2
  obtain rfl := (List.cons.inj e2).1
  obtain ⟨n3, e3, _, wf3⟩ := DataW.trod_int Tryd.underlying46 f3
  obtain rfl := (List.cons.inj e3).1
  obtain ⟨n4, e4, _, wf4⟩ := DataW.trod_int Tryd.underlying46 f4
  obtain rfl := (List.cons.inj e4).1
  obtain ⟨n6, e6, _, wf6⟩ := DataW.trod_int Tryd.underlying27 f6
  obtain rfl := (List.cons.inj e6).1
  obtain ⟨z0, z1, z2, z3, nz, _, _, g0, g1, g2, g3⟩ := Go.Joins.trod_struct4 Tryd.underlying41 f5
  have q0 : DataW.trod enc Tryd.prog w 0 (fun _ => true) true nz 27 [c5] = some z0 := by simpa [m64, m32, m8] using g0
  obtain ⟨k0, i0, _, wq0⟩ := DataW.trod_int Tryd.underlying27 q0
  obtain rfl := (List.cons.inj i0).1
  have q1 : DataW.trod enc Tryd.prog w 0 (fun _ => true) true nz 39 [c6] = some z1 := by simpa [m64, m32, m8] using g1
  obtain ⟨k1, i1, _, wq1⟩ := DataW.trod_int Tryd.underlying39 q1
  obtain rfl := (List.cons.inj i1).1
  have q2 : DataW.trod enc Tryd.prog w 0 (fun _ => true) true nz 5 [c7] = some z2 := by simpa [m64, m32, m8] using g2
  obtain ⟨k2, i2, _, wq2⟩ := DataW.trod_int Tryd.underlying5 q2
  obtain rfl := (List.cons.inj i2).1
  have q3 : DataW.trod enc Tryd.prog w 0 (fun _ => true) true nz 27 [c8] = some z3 := by simpa [m64, m32, m8] using g3
  obtain ⟨k3, i3, _, wq3⟩ := DataW.trod_int Tryd.underlying27 q3
  obtain rfl := (List.cons.inj i3).1
  obtain ⟨so, sn, sc, zs, rfl, hr, hbk⟩ : ∃ so sn sc zs, c10 = .slice so sn sc ∧ RowOf .u8 w so sn sc zs ∧ SizeBy y7.1 47 sn := by
    rcases Go.ChangeShapes.open_ints Tryd.underlying47 Tryd.underlying5 (by kernel_rfl) f7 with ⟨hcs, _⟩ | ⟨x, l, c, zs, hcs, _, hl, hm, hz, hx, hcell, hwz⟩
    · simp at hcs
      exact ⟨none, 0, 0, [], hcs, .inl ⟨rfl, rfl, rfl, rfl⟩, .inl rfl⟩
    · simp at hcs
      refine ⟨some x, l, c, zs, hcs, .inr ⟨_, rfl, hl, hm, by simpa using hz, hcell, hwz⟩, .inr ?_⟩
      rw [hx]
      have hz' : zs.length = c := by simpa using hz
      refine ⟨_, by simp only [DataW.weights, Tryd.underlying47]; exact List.mem_cons_self .., ?_⟩
      rw [bytesOf5]
      simp only [Go.ChangeShapes.lits, List.length_map, List.length_take, List.length_drop]
      omega
  obtain ⟨l, hb⟩ := hr.bytes
  obtain ⟨v0, rfl, b0⟩ := u64_nat wf0
  obtain ⟨v1, rfl, b1⟩ := u64_nat wf1
  obtain ⟨v2, rfl, b2⟩ := u32_nat wf2
  obtain ⟨v3, rfl, b3⟩ := u16_nat wf3
  obtain ⟨v4, rfl, b4⟩ := u16_nat wf4
  obtain ⟨v6, rfl, b6⟩ := u64_nat wf6
  obtain ⟨x0, rfl, d0⟩ := u64_nat wq0
  obtain ⟨x1, rfl, d1⟩ := u32_nat wq1
  obtain ⟨x2, rfl, d2⟩ := u8_nat wq2
  obtain ⟨x3, rfl, d3⟩ := u64_nat wq3
  exact ⟨⟨v0, v1, v2, v3, v4, x0, x1, x2, x3, v6⟩, so, sn, sc, l, rfl, ⟨b0, b1, b2, b3, b4, d0, d1, d2, d3, b6⟩, hb, hbk.imp id (fun ⟨k, h1, h2⟩ => ⟨k, hmem k h1, h2⟩)⟩
theorem array11 {α : Type} {cs : Array α} (h : cs.size = 11) : ∃ c0 c1 c2 c3 c4 c5 c6 c7 c8 c9 c10, cs = #[c0, c1, c2, c3, c4, c5, c6, c7, c8, c9, c10] := by
  obtain ⟨l⟩ := cs
  match l, h with
  | [c0, c1, c2, c3, c4, c5, c6, c7, c8, c9, c10], _ => exact ⟨c0, c1, c2, c3, c4, c5, c6, c7, c8, c9, c10, rfl⟩
set_option maxRecDepth 100000 in
theorem open_msg {H : Type} {enc : TypeId × Value → H} {w : World} {r : Reach} {b0 : Nat} {v : Value} {d : DataW H} {pl : List MemPlace}
    (hv : Value.okWide Tryd.prog w r b0 49 v) (h : DataW.Trod enc Tryd.prog w 0 (fun _ => true) true 49 v d pl) : ∃ (m : Msg) (so : Option Addr) (sn sc : Nat) (l : List UInt8), v = .agg #[.int .u64 m.ta, .int .u64 m.rp, .int .u32 m.id, .int .u16 m.op, .int .u16 m.st, .int .u64 m.p, .int .u32 m.o, .int .u8 m.r, .int .u64 m.c, .int .u64 m.ar, .slice so sn sc] ∧ m.ok ∧ Bts w so sn sc l ∧ SizeBy d 49 sn := by
  obtain ⟨cs, rfl, hsz⟩ := Go.WideShapes.okWide_struct Tryd.underlying49 hv
  obtain ⟨c0, c1, c2, c3, c4, c5, c6, c7, c8, c9, c10, rfl⟩ := array11 (hsz.trans mMsg)
  obtain ⟨fuel, hf⟩ := h
  obtain ⟨m, so, sn, sc, l, e, hm, hb, hbk⟩ := msg_elem (y := (d, pl)) hf
  unfold msgL at e
  simp only [List.cons.injEq, and_true] at e
  obtain ⟨rfl, rfl, rfl, rfl, rfl, rfl, rfl, rfl, rfl, rfl, rfl⟩ := e
  exact ⟨m, so, sn, sc, l, rfl, hm, hb, hbk⟩
end
end Go.Proofs.YtjpgfldppepmiaaDoor
