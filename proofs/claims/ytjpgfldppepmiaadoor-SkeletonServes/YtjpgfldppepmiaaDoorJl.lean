/-
  A script's deeds, as they came in: which operation, by which of the capabilities that were told, changed in which way, and a message.
  Which operation a deed asks for, as a contract.
  What a script keeps, round by round: plain facts of what comes of a request; two halves, a row of capabilities.
  Two halves that are made, and what a script has beside them: a server, a row of capabilities, a message.
-/
import Derived.Test.YtjpgfldppepmiaaDoorJj
import Derived.Test.YtjpgfldppepmiaaDoorJk
import Derived.Test.YtjpgfldppepmiaaDoorJi
import Derived.Test.YtjpgfldppepmiaaDoorJe
namespace Go.Proofs.YtjpgfldppepmiaaDoor
section
open Go.RowKit Go.Deep
structure Ac where
  o : Nat
  wh : Nat
  ch : Nat
  m : Msg
  so : Option Addr
  sn : Nat
  sc : Nat
  l : List UInt8
def Ac.zero : Ac := ⟨0, 0, 0, Msg.zero, none, 0, 0, []⟩
def Ac.ok (x : Ac) : Prop := x.o ≤ 65535 ∧ x.wh ≤ 255 ∧ x.ch ≤ 255 ∧ x.m.ok
def Ac.at (w : World) (a : Addr) (x : Ac) : Prop := (x.ok ∧ Bts w x.so x.sn x.sc x.l) ∧ w.cell? a = some (.int .u16 (x.o : Nat)) ∧ w.cell? (a.add 1) = some (.int .u8 (x.wh : Nat)) ∧ w.cell? (a.add 2) = some (.int .u8 (x.ch : Nat)) ∧ w.cell? (a.add 3) = some (.int .u64 (x.m.ta : Nat)) ∧ w.cell? (a.add 4) = some (.int .u64 (x.m.rp : Nat)) ∧ w.cell? (a.add 5) = some (.int .u32 (x.m.id : Nat)) ∧ w.cell? (a.add 6) = some (.int .u16 (x.m.op : Nat)) ∧ w.cell? (a.add 7) = some (.int .u16 (x.m.st : Nat)) ∧ w.cell? (a.add 8) = some (.int .u64 (x.m.p : Nat)) ∧ w.cell? (a.add 9) = some (.int .u32 (x.m.o : Nat)) ∧ w.cell? (a.add 10) = some (.int .u8 (x.m.r : Nat)) ∧ w.cell? (a.add 11) = some (.int .u64 (x.m.c : Nat)) ∧ w.cell? (a.add 12) = some (.int .u64 (x.m.ar : Nat)) ∧ w.cell? (a.add 13) = some (.slice x.so x.sn x.sc)
theorem Ac.at.carry {w w' : World} {a : Addr} {x : Ac} (h : Ac.at w a x) (b : Below w.heap.size w w') : Ac.at w' a x := by
  obtain ⟨⟨h0, hb⟩, k0, k1, k2, k3, k4, k5, k6, k7, k8, k9, k10, k11, k12, k13⟩ := h
  exact ⟨⟨h0, Bts.carry hb b⟩, by rw [b.cell (lt_of_cell k0), k0], by rw [b.cell (lt_of_cell k1), k1], by rw [b.cell (lt_of_cell k2), k2], by rw [b.cell (lt_of_cell k3), k3], by rw [b.cell (lt_of_cell k4), k4], by rw [b.cell (lt_of_cell k5), k5], by rw [b.cell (lt_of_cell k6), k6], by rw [b.cell (lt_of_cell k7), k7], by rw [b.cell (lt_of_cell k8), k8], by rw [b.cell (lt_of_cell k9), k9], by rw [b.cell (lt_of_cell k10), k10], by rw [b.cell (lt_of_cell k11), k11], by rw [b.cell (lt_of_cell k12), k12], by rw [b.cell (lt_of_cell k13), k13]⟩
def Acts (w : World) (ao : Option Addr) (n cap : Nat) (xs : List Ac) : Prop :=
  n = xs.length ∧ n ≤ cap ∧ cap ≤ maxLen ∧ (ao = none → cap = 0) ∧ ∀ ad, ao = some ad → ∀ j, j < n → Ac.at w (ad.add (j * 14)) (xs.getD j Ac.zero)
theorem Acts.carry {w w' : World} {ao : Option Addr} {n cap : Nat} {xs : List Ac} (h : Acts w ao n cap xs) (b : Below w.heap.size w w') : Acts w' ao n cap xs :=
  ⟨h.1, h.2.1, h.2.2.1, h.2.2.2.1, fun ad e j hj => (h.2.2.2.2 ad e j hj).carry b⟩
theorem Acts.there {w : World} {ao : Option Addr} {n cap : Nat} {xs : List Ac} (h : Acts w ao n cap xs) {k : Nat} (hk : k < n) : ∃ ad, ao = some ad := by
  cases ao with
  | none => have := h.2.2.2.1 rfl; have := h.2.1; omega
  | some ad => exact ⟨ad, rfl⟩
theorem cells_all {w : World} {a : Addr} {cs : List Value} (h : w.cells? 0 a 14 = some cs) : ∃ c0 c1 c2 c3 c4 c5 c6 c7 c8 c9 c10 c11 c12 c13, cs = [c0, c1, c2, c3, c4, c5, c6, c7, c8, c9, c10, c11, c12, c13] ∧ w.cell? (a.add 0) = some c0 ∧ w.cell? (a.add 1) = some c1 ∧ w.cell? (a.add 2) = some c2 ∧ w.cell? (a.add 3) = some c3 ∧ w.cell? (a.add 4) = some c4 ∧ w.cell? (a.add 5) = some c5 ∧ w.cell? (a.add 6) = some c6 ∧ w.cell? (a.add 7) = some c7 ∧ w.cell? (a.add 8) = some c8 ∧ w.cell? (a.add 9) = some c9 ∧ w.cell? (a.add 10) = some c10 ∧ w.cell? (a.add 11) = some c11 ∧ w.cell? (a.add 12) = some c12 ∧ w.cell? (a.add 13) = some c13 := by
  unfold World.cells? at h
  rw [if_pos (Nat.zero_le _), show List.range 14 = [0, 1, 2, 3, 4, 5, 6, 7, 8, 9, 10, 11, 12, 13] from by decide] at h
  simp only [List.mapM_cons, List.mapM_nil, Option.pure_def, Option.bind_eq_bind, Option.bind_eq_some_iff, Option.some.injEq] at h
  obtain ⟨c0, h0, r1, ⟨c1, h1, r2, ⟨c2, h2, r3, ⟨c3, h3, r4, ⟨c4, h4, r5, ⟨c5, h5, r6, ⟨c6, h6, r7, ⟨c7, h7, r8, ⟨c8, h8, r9, ⟨c9, h9, r10, ⟨c10, h10, r11, ⟨c11, h11, r12, ⟨c12, h12, r13, ⟨c13, h13, r14, rfl, rfl⟩, rfl⟩, rfl⟩, rfl⟩, rfl⟩, rfl⟩, rfl⟩, rfl⟩, rfl⟩, rfl⟩, rfl⟩, rfl⟩, rfl⟩, rfl⟩ := h
  exact ⟨c0, c1, c2, c3, c4, c5, c6, c7, c8, c9, c10, c11, c12, c13, rfl, h0, h1, h2, h3, h4, h5, h6, h7, h8, h9, h10, h11, h12, h13⟩
theorem cellsA : Tryd.prog.cellsOf 51 = 14 := by kernel_rfl
theorem bytesA : Tryd.prog.bytesOf 51 = 88 := by kernel_rfl
set_option maxRecDepth 100000 in
theorem act_elem {H : Type} {enc : TypeId × Value → H} {w : World} {n : Nat} {a : Addr} {cs : List Value} {y : DataW H × List MemPlace}
    (hc : w.cells? 0 a 14 = some cs) (h : DataW.trod enc Tryd.prog w 0 (fun _ => true) true n 51 cs = some y) : ∃ x : Ac, Ac.at w a x ∧ SizeBy y.1 51 x.sn := by
  obtain ⟨c0, c1, c2, c3, c4, c5, c6, c7, c8, c9, c10, c11, c12, c13, rfl, k0, k1, k2, k3, k4, k5, k6, k7, k8, k9, k10, k11, k12, k13⟩ := cells_all hc
  obtain ⟨xs, m, _, hx, _, hlen, hfd⟩ := DataW.trod_struct Tryd.underlying51 h
  have hlen4 : xs.length = 4 := hlen
  have at_ : ∀ i, i < 4 → ∃ y, xs[i]? = some y := fun i hi => ⟨xs[i]'(by omega), List.getElem?_eq_getElem (by omega)⟩
  obtain ⟨y0, hy0⟩ := at_ 0 (by omega)
  have f0 : DataW.trod enc Tryd.prog w 0 (fun _ => true) true m 46 [c0] = some y0 := by
    have h := hfd 0 _ rfl
    rw [hy0] at h
    simpa [m16, m8, mMsg] using h
  obtain ⟨y1, hy1⟩ := at_ 1 (by omega)
  have f1 : DataW.trod enc Tryd.prog w 0 (fun _ => true) true m 5 [c1] = some y1 := by
    have h := hfd 1 _ rfl
    rw [hy1] at h
    simpa [m16, m8, mMsg] using h
  obtain ⟨y2, hy2⟩ := at_ 2 (by omega)
  have f2 : DataW.trod enc Tryd.prog w 0 (fun _ => true) true m 5 [c2] = some y2 := by
    have h := hfd 2 _ rfl
    rw [hy2] at h
    simpa [m16, m8, mMsg] using h
  obtain ⟨y3, hy3⟩ := at_ 3 (by omega)
  have f3 : DataW.trod enc Tryd.prog w 0 (fun _ => true) true m 49 [c3, c4, c5, c6, c7, c8, c9, c10, c11, c12, c13] = some y3 := by
    have h := hfd 3 _ rfl
    rw [hy3] at h
    simpa [m16, m8, mMsg] using h
  have hmem : ∀ k ∈ y3.1.weights Tryd.prog 49, k ∈ y.1.weights Tryd.prog 51 := fun k hk => by
    rw [hx]
    simp only [DataW.weights, Tryd.underlying51]
    refine DataW.weights_mem_each (j := 3) (t := 49) (d := y3.1) rfl ?_ k hk
    rw [List.getElem?_map, hy3]; rfl
  obtain ⟨n0, e0, _, wf0⟩ := DataW.trod_int Tryd.underlying46 f0
  obtain rfl := (List.cons.inj e0).1
  obtain ⟨p0, rfl, hp0⟩ := u16_nat wf0
  obtain ⟨n1, e1, _, wf1⟩ := DataW.trod_int Tryd.underlying5 f1
  obtain rfl := (List.cons.inj e1).1
  obtain ⟨p1, rfl, hp1⟩ := u8_nat wf1
  obtain ⟨n2, e2, _, wf2⟩ := DataW.trod_int Tryd.underlying5 f2
  obtain rfl := (List.cons.inj e2).1
  obtain ⟨p2, rfl, hp2⟩ := u8_nat wf2
  obtain ⟨mm, so, sn, sc, l, e, hm, hb, hbk⟩ := msg_elem f3
  unfold msgL at e
  simp only [List.cons.injEq, and_true] at e
  obtain ⟨rfl, rfl, rfl, rfl, rfl, rfl, rfl, rfl, rfl, rfl, rfl⟩ := e
  rw [addZ] at k0
  exact ⟨⟨p0, p1, p2, mm, so, sn, sc, l⟩, ⟨⟨⟨hp0, hp1, hp2, hm⟩, hb⟩, k0, k1, k2, k3, k4, k5, k6, k7, k8, k9, k10, k11, k12, k13⟩, hbk.imp id (fun ⟨k, h1, h2⟩ => ⟨k, hmem k h1, h2⟩)⟩
theorem Ac.at.all {w w' : World} {a : Addr} {x : Ac} (h : Ac.at w a x) (b : Below w.heap.size w w') : w'.cell? a = some (.int .u16 (x.o : Nat)) ∧ w'.cell? { block := a.block, off := a.off + 1 } = some (.int .u8 (x.wh : Nat)) ∧ w'.cell? { block := a.block, off := a.off + 2 } = some (.int .u8 (x.ch : Nat)) ∧ w'.cell? { block := a.block, off := a.off + 3 } = some (.int .u64 (x.m.ta : Nat)) ∧ w'.cell? { block := a.block, off := a.off + 4 } = some (.int .u64 (x.m.rp : Nat)) ∧ w'.cell? { block := a.block, off := a.off + 5 } = some (.int .u32 (x.m.id : Nat)) ∧ w'.cell? { block := a.block, off := a.off + 6 } = some (.int .u16 (x.m.op : Nat)) ∧ w'.cell? { block := a.block, off := a.off + 7 } = some (.int .u16 (x.m.st : Nat)) ∧ w'.cell? { block := a.block, off := a.off + 8 } = some (.int .u64 (x.m.p : Nat)) ∧ w'.cell? { block := a.block, off := a.off + 9 } = some (.int .u32 (x.m.o : Nat)) ∧ w'.cell? { block := a.block, off := a.off + 10 } = some (.int .u8 (x.m.r : Nat)) ∧ w'.cell? { block := a.block, off := a.off + 11 } = some (.int .u64 (x.m.c : Nat)) ∧ w'.cell? { block := a.block, off := a.off + 12 } = some (.int .u64 (x.m.ar : Nat)) ∧ w'.cell? { block := a.block, off := a.off + 13 } = some (.slice x.so x.sn x.sc) := by
  obtain ⟨_, k0, k1, k2, k3, k4, k5, k6, k7, k8, k9, k10, k11, k12, k13⟩ := h.carry b
  rw [addS _ 0] at k1
  rw [addS _ 1] at k2
  rw [addS _ 2] at k3
  rw [addS _ 3] at k4
  rw [addS _ 4] at k5
  rw [addS _ 5] at k6
  rw [addS _ 6] at k7
  rw [addS _ 7] at k8
  rw [addS _ 8] at k9
  rw [addS _ 9] at k10
  rw [addS _ 10] at k11
  rw [addS _ 11] at k12
  rw [addS _ 12] at k13
  exact ⟨k0, k1, k2, k3, k4, k5, k6, k7, k8, k9, k10, k11, k12, k13⟩
theorem open_acts {H : Type} {enc : TypeId × Value → H} {w : World} {a : Option Addr} {len cap fuel : Nat} {x : DataW H × List MemPlace} (hf : DataW.trod enc Tryd.prog w 0 (fun _ => true) true fuel 23 [.slice a len cap] = some x) :
    ∃ xs, Acts w a len cap xs ∧ (∀ y ∈ xs, SizeBy x.1 23 y.sn) ∧ (x.1 = .nil ∧ cap = 0 ∨ ∃ els sp, x.1 = .slice els sp ∧ els.length + sp.length = cap) := by
  rcases open_slice Tryd.underlying23 hf with ⟨hcs, hx⟩ | ⟨ad, l, c, m, n, D, Pl, hcs, _, hl, hm, hmm, hx, hel⟩
  · simp at hcs
    obtain ⟨rfl, rfl, rfl⟩ := hcs
    exact ⟨[], ⟨rfl, Nat.le_refl _, by decide, fun _ => rfl, (fun ad e => by cases e)⟩, (fun y hy => by cases hy), .inl ⟨by rw [hx], rfl⟩⟩
  · simp at hcs
    obtain ⟨rfl, rfl, rfl⟩ := hcs
    simp at hmm
    subst hmm
    have hF : ∀ i, ∃ z : Ac, i < len → Ac.at w (ad.add (i * 14)) z ∧ SizeBy (D i) 51 z.sn := by
      intro i
      by_cases hi : i < len
      · obtain ⟨cs', h1, h2⟩ := hel i (by omega)
        rw [cellsA] at h1
        obtain ⟨z, hz⟩ := act_elem h1 h2
        exact ⟨z, fun _ => hz⟩
      · exact ⟨Ac.zero, fun h => absurd h hi⟩
    have eg : ∀ j, j < len → ((List.range len).map (fun i => Classical.choose (hF i))).getD j Ac.zero = Classical.choose (hF j) := fun j hj => by
      rw [List.getD_eq_getElem?_getD, List.getElem?_map, List.getElem?_range hj]; rfl
    refine ⟨(List.range len).map (fun i => Classical.choose (hF i)), ⟨by simp, hl, hm, (fun e => by cases e), fun ad' e j hj => ?_⟩, fun y hy => ?_, .inr ⟨_, _, by rw [hx], by simp; omega⟩⟩
    · obtain rfl := Option.some.inj e
      rw [eg j hj]
      exact (Classical.choose_spec (hF j) hj).1
    · obtain ⟨i, hi, rfl⟩ := List.mem_map.1 hy
      rcases (Classical.choose_spec (hF i) (List.mem_range.1 hi)).2 with h | ⟨k, h1, h2⟩
      · exact .inl h
      · refine .inr ⟨k, ?_, h2⟩
        rw [hx]
        simp only [DataW.weights, Tryd.underlying23, List.mem_cons, List.mem_append]
        exact .inr (.inl (weights_all h1 (List.mem_map.2 ⟨i, hi, rfl⟩)))
end
end Go.Proofs.YtjpgfldppepmiaaDoor
namespace Go.Proofs.YtjpgfldppepmiaaDoor
section
open Go.RowKit
def opF (o : Nat) : Nat := if o % 16 < 5 then 1 + o % 16 else if o % 16 < 9 then 95 + o % 16 else if o % 16 = 9 then 7 else o
theorem opF_le {o : Nat} (h : o ≤ 65535) : opF o ≤ 65535 := by
  unfold opF
  split
  · omega
  · split
    · omega
    · split <;> omega
set_option maxRecDepth 20000 in
set_option maxHeartbeats 6400000 in
theorem op_any (o wh ch : Nat) (m : Msg) (so : Option Addr) (sn sc : Nat) (w : World) (ho : o ≤ 65535) :
    Calls Tryd.prog 13 #[.agg #[.int .u16 (o : Int), .int .u8 (wh : Int), .int .u8 (ch : Int), .int .u64 (m.ta : Int), .int .u64 (m.rp : Int), .int .u32 (m.id : Int), .int .u16 (m.op : Int), .int .u16 (m.st : Int), .int .u64 (m.p : Int), .int .u32 (m.o : Int), .int .u8 (m.r : Int), .int .u64 (m.c : Int), .int .u64 (m.ar : Int), .slice so sn sc]] w fun e w' => e = .returned (.int .u16 (opF o : Int)) ∧ Below w.heap.size w w' := by
  obtain ⟨X, hX⟩ : ∃ X, w.alloc (.cells #[.int .u16 (o : Int), .int .u8 (wh : Int), .int .u8 (ch : Int), .int .u64 (m.ta : Int), .int .u64 (m.rp : Int), .int .u32 (m.id : Int), .int .u16 (m.op : Int), .int .u16 (m.st : Int), .int .u64 (m.p : Int), .int .u32 (m.o : Int), .int .u8 (m.r : Int), .int .u64 (m.c : Int), .int .u64 (m.ar : Int), .slice so sn sc] 51) = X := ⟨_, rfl⟩
  have HB : Hid (Below w.heap.size w X) := hX ▸ below_alloc _ _
  have c0 : X.cell? ⟨w.heap.size, 0, none⟩ = some (.int .u16 (o : Int)) := by rw [← hX, cell_of_row _ w.heap.size 0 _ _ _ (heap_alloc_new w _)]; rfl
  obtain ⟨q, hq⟩ : ∃ q, opF o = q := ⟨_, rfl⟩
  rw [hq]
  have HQ := hide hq
  obtain ⟨d, hd⟩ : ∃ d, o % 16 = d := ⟨_, rfl⟩
  have hdi : (o : Int) % 16 = (d : Int) := by omega
  have HD := hide hd
  have h16 : d < 16 := by omega
  have hob : (o : Int) ≤ 65535 := by omega
  have ho0 : (0 : Int) ≤ (o : Int) := by omega
  have htm : (o : Int).tmod 16 = (d : Int) := by rw [Int.tmod_eq_emod_of_nonneg ho0]; exact hdi
  clear hq hd ho
  have hcase : d = 0 ∨ d = 1 ∨ d = 2 ∨ d = 3 ∨ d = 4 ∨ d = 5 ∨ d = 6 ∨ d = 7 ∨ d = 8 ∨ d = 9 ∨ 10 ≤ d := by omega
  rcases hcase with rfl | rfl | rfl | rfl | rfl | rfl | rfl | rfl | rfl | rfl | h10
  · obtain rfl : q = 1 := by rw [← HQ.out]; unfold opF; rw [HD.out]; rfl
    go_enter Tryd.func13, Tryd.ntmps13
    go_wp2
    go_ret
    exact ⟨rfl, HB.out⟩
  · obtain rfl : q = 2 := by rw [← HQ.out]; unfold opF; rw [HD.out]; rfl
    go_enter Tryd.func13, Tryd.ntmps13
    go_wp2
    go_ret
    exact ⟨rfl, HB.out⟩
  · obtain rfl : q = 3 := by rw [← HQ.out]; unfold opF; rw [HD.out]; rfl
    go_enter Tryd.func13, Tryd.ntmps13
    go_wp2
    go_ret
    exact ⟨rfl, HB.out⟩
  · obtain rfl : q = 4 := by rw [← HQ.out]; unfold opF; rw [HD.out]; rfl
    go_enter Tryd.func13, Tryd.ntmps13
    go_wp2
    go_ret
    exact ⟨rfl, HB.out⟩
  · obtain rfl : q = 5 := by rw [← HQ.out]; unfold opF; rw [HD.out]; rfl
    go_enter Tryd.func13, Tryd.ntmps13
    go_wp2
    go_ret
    exact ⟨rfl, HB.out⟩
  · obtain rfl : q = 100 := by rw [← HQ.out]; unfold opF; rw [HD.out]; rfl
    go_enter Tryd.func13, Tryd.ntmps13
    go_wp2
    go_ret
    exact ⟨rfl, HB.out⟩
  · obtain rfl : q = 101 := by rw [← HQ.out]; unfold opF; rw [HD.out]; rfl
    go_enter Tryd.func13, Tryd.ntmps13
    go_wp2
    go_ret
    exact ⟨rfl, HB.out⟩
  · obtain rfl : q = 102 := by rw [← HQ.out]; unfold opF; rw [HD.out]; rfl
    go_enter Tryd.func13, Tryd.ntmps13
    go_wp2
    go_ret
    exact ⟨rfl, HB.out⟩
  · obtain rfl : q = 103 := by rw [← HQ.out]; unfold opF; rw [HD.out]; rfl
    go_enter Tryd.func13, Tryd.ntmps13
    go_wp2
    go_ret
    exact ⟨rfl, HB.out⟩
  · obtain rfl : q = 7 := by rw [← HQ.out]; unfold opF; rw [HD.out]; rfl
    go_enter Tryd.func13, Tryd.ntmps13
    go_wp2
    go_ret
    exact ⟨rfl, HB.out⟩
  · obtain rfl : q = o := by
      rw [← HQ.out]; unfold opF; rw [HD.out, if_neg (by omega), if_neg (by omega), if_neg (by omega)]
    have e0 : ((d : Int) == 0) = false := by rw [beq_eq_false_iff_ne]; omega
    have e1 : ((d : Int) == 1) = false := by rw [beq_eq_false_iff_ne]; omega
    have e2 : ((d : Int) == 2) = false := by rw [beq_eq_false_iff_ne]; omega
    have e3 : ((d : Int) == 3) = false := by rw [beq_eq_false_iff_ne]; omega
    have e4 : ((d : Int) == 4) = false := by rw [beq_eq_false_iff_ne]; omega
    have e5 : ((d : Int) == 5) = false := by rw [beq_eq_false_iff_ne]; omega
    have e6 : ((d : Int) == 6) = false := by rw [beq_eq_false_iff_ne]; omega
    have e7 : ((d : Int) == 7) = false := by rw [beq_eq_false_iff_ne]; omega
    have e8 : ((d : Int) == 8) = false := by rw [beq_eq_false_iff_ne]; omega
    have e9 : ((d : Int) == 9) = false := by rw [beq_eq_false_iff_ne]; omega
    go_enter Tryd.func13, Tryd.ntmps13
    go_wp2
    go_ret
    exact ⟨rfl, HB.out⟩
end
end Go.Proofs.YtjpgfldppepmiaaDoor
namespace Go.Proofs.YtjpgfldppepmiaaDoor
section
open Go.RowKit
variable {w0 w w1 w2 w' : World} {A A' : Ad} {p N : Nat} {ws : List Nat} {s s' s1 : Hs} {r g sb t : Nat} {es : List Ent} {T : Nat → Ob} {L : List Cp} {v : Value}
def Wd (ws : List Nat) (es : List Ent) : Prop := (∀ j, ws.getD j 0 ≤ 281474976710655) ∧ ∀ j, j < es.length → (es.getD j Ent.zero).o ≤ 281474976710655
theorem of_wd (h : Wd ws es) (t s r : Nat) : (ofF ws t es s r).x ≤ 281474976710655 ∧ Wd ws (ofF ws t es s r).es := by
  rcases of_cases ws t es s r with ⟨y, hy, e⟩ | ⟨_, _, _, e⟩ | ⟨_, e⟩ <;> rw [e]
  · refine ⟨?_, h⟩
    unfold HasA at hy
    split at hy
    · show y ≤ _; omega
    · obtain ⟨j, h1, h2⟩ := hy
      show y ≤ _
      rw [← h2]
      exact h.2 j (findE_some h1).1
  · refine ⟨h.1 t, h.1, fun j hj => ?_⟩
    simp only [List.length_append, List.length_cons, List.length_nil] at hj
    by_cases e2 : j < es.length
    · rw [show (es ++ [Ent.mk 1 ((s % 281474976710656) ^^^ r) (ws.getD t 0)]).getD j Ent.zero = es.getD j Ent.zero from getD_snoc_lt es _ j e2]; exact h.2 j e2
    · obtain rfl : j = es.length := by omega
      rw [getD_snoc_end]; exact h.1 t
  · exact ⟨Nat.zero_le _, h⟩
theorem chk_wd (h : Wd ws es) (t p : Nat) (T : Nat → Ob) (c : Cp) (need : Nat) : Wd ws (chkF ws t es p T c need).es := by
  have q := (of_wd h t (T c.o).s c.r).2
  unfold chkF
  repeat' split
  all_goals first | exact h | exact q
theorem Sv.wd (x : Sv w0 w A p ws s) : Wd ws s.es := ⟨fun j => x.od.tk.tape.word j, fun j hj => (okAt x.od.tk.orc.ok j hj).2.2.2⟩
theorem zero_ok : Cp.zero.ok := ⟨by decide, by decide, by decide, by decide⟩
/- a capability that is told may be -/
theorem res_ok (h : Wd ws es) {c : Cp} (hc : c.ok) (hp : p ≤ 18446744073709551615) (mask : Nat) : (resF ws t es p T c mask).c.ok := by
  unfold resF
  split
  · rename_i h0
    unfold cabF
    split
    · have k := chk_lt h0
      exact ⟨hp, by show (chkF ws t es p T c 0).k ≤ _; omega, by show c.r &&& mask ≤ _; exact and_le hc.2.2.1, Nat.le_trans (of_wd (chk_wd h t p T c 0) _ _ _).1 (by decide)⟩
    · exact zero_ok
  · exact zero_ok
theorem rev_ok (h : Wd ws es) (c : Cp) (hp : p ≤ 18446744073709551615) : (revF ws t es p T c).c.ok := by
  unfold revF
  split
  · rename_i h0
    split
    · have k := chk_lt h0
      exact ⟨hp, by show (chkF ws t es p T c 255).k ≤ _; omega, by show 255 ≤ _; omega, Nat.le_trans (h.1 _) (by decide)⟩
    · exact zero_ok
  · exact zero_ok
/- how great all may grow -/
structure Fw (N : Nat) (s : Hs) : Prop where
  el : s.es.length ≤ 2 * N
  dl : s.D.length ≤ N
  gl : s.G.length ≤ N
  ep : ∀ j, (s.T j).e ≤ N
theorem Fw.lim (h : Fw N s) (hN : N ≤ 1600000000000) : Lim s := ⟨by have := h.el; omega, by have := h.dl; omega, by have := h.gl; omega, fun j => by have := h.ep j; omega⟩
theorem Fw.up (h : Fw N s) : Fw (N + 1) s := ⟨by have := h.el; omega, by have := h.dl; omega, by have := h.gl; omega, fun j => by have := h.ep j; omega⟩
theorem upd_ep {T : Nat → Ob} {k : Nat} {y : Ob} (h : ∀ j, (T j).e ≤ N) (hy : y.e ≤ N + 1) (j : Nat) : (updO T k y j).e ≤ N + 1 := by
  unfold updO
  split
  · exact hy
  · have := h j; omega
theorem out_few (h : Fw N s) (op : Nat) (c : Cp) (ar : Nat) : Fw (N + 1) (outF ws p s op c ar).s := by
  have k0 := chk_len ws s.t s.es p s.T c 0
  have k8 := chk_len ws s.t s.es p s.T c 8
  have kn := chk_len ws s.t s.es p s.T c (needN op)
  have k255 := chk_len ws s.t s.es p s.T c 255
  have el := h.el
  have dl := h.dl
  have gl := h.gl
  have ep := h.ep
  have up := h.up.ep
  unfold outF
  split
  · exact h.up
  split
  · exact ⟨by show (chkF ws s.t s.es p s.T c 0).es.length ≤ _; omega, by show s.D.length ≤ _; omega, by show s.G.length ≤ _; omega, up⟩
  split
  · refine ⟨by show (chkF ws s.t s.es p s.T c 0).es.length ≤ _; omega, by show s.D.length ≤ _; omega, by show s.G.length ≤ _; omega, fun j => ?_⟩
    show (touT s.T _ j).e ≤ _
    unfold touT
    split
    · exact upd_ep ep (by show (s.T _).e ≤ _; exact up _) j
    · exact up j
  split
  · refine ⟨?_, by show s.D.length ≤ _; omega, by show s.G.length ≤ _; omega, fun j => ?_⟩
    · show (resF ws s.t s.es p s.T c (ar % 256)).es.length ≤ _
      unfold resF
      split
      · have := of_len ws (chkF ws s.t s.es p s.T c 0).t (chkF ws s.t s.es p s.T c 0).es (s.T (chkF ws s.t s.es p s.T c 0).k).s (c.r &&& (ar % 256))
        simp only; omega
      · simp only; omega
    · show ((resF ws s.t s.es p s.T c (ar % 256)).T j).e ≤ _
      unfold resF
      split <;> exact up j
  split
  · refine ⟨?_, by show s.D.length ≤ _; omega, by show s.G.length ≤ _; omega, fun j => ?_⟩
    · show (revF ws s.t s.es p s.T c).es.length ≤ _
      unfold revF
      split
      · split <;> (simp only; omega)
      · simp only; omega
    · show ((revF ws s.t s.es p s.T c).T j).e ≤ _
      unfold revF
      split
      · split
        · exact upd_ep ep (by show (s.T _).e + 1 ≤ _; have := ep (chkF ws s.t s.es p s.T c 255).k; omega) j
        · show (s.T j).e ≤ _; exact up j
      · show (s.T j).e ≤ _; exact up j
  split
  · unfold dstF
    split
    · exact ⟨by show (chkF ws s.t s.es p s.T c 8).es.length ≤ _; omega, by show s.D.length ≤ _; omega, by show s.G.length ≤ _; omega, up⟩
    · split
      · refine ⟨by show (chkF ws s.t s.es p s.T c 8).es.length ≤ _; omega, by show s.D.length ≤ _; omega, by show (s.G ++ [_]).length ≤ _; rw [len_snoc]; omega, fun j => ?_⟩
        show (desT s.T _ j).e ≤ _
        unfold desT
        rw [if_pos (by assumption)]
        exact upd_ep ep (by show 0 ≤ _; omega) j
      · exact ⟨by show (chkF ws s.t s.es p s.T c 8).es.length ≤ _; omega, by show s.D.length ≤ _; omega, by show s.G.length ≤ _; omega, up⟩
  split
  · exact h.up
  · unfold ownF
    split
    · split <;> exact ⟨by show (chkF ws s.t s.es p s.T c (needN op)).es.length ≤ _; omega, by show (s.D ++ [_]).length ≤ _; rw [len_snoc]; omega, by show s.G.length ≤ _; omega, up⟩
    · exact ⟨by show (chkF ws s.t s.es p s.T c (needN op)).es.length ≤ _; omega, by show s.D.length ≤ _; omega, by show s.G.length ≤ _; omega, up⟩
theorem out_ok (h : Wd ws s.es) {op : Nat} {c : Cp} (ar : Nat) (hc : c.ok) (hp : p ≤ 18446744073709551615) (ho : op = 3 ∨ op = 4) : (outF ws p s op c ar).c.ok := by
  unfold outF
  split
  · exact zero_ok
  rw [if_neg (by omega), if_neg (by omega)]
  rcases ho with rfl | rfl
  · rw [if_pos rfl]; exact res_ok h hc hp _
  · rw [if_neg (by omega), if_pos rfl]; exact rev_ok h c hp
/- the second half lies behind all that the first has -/
theorem Du.make {p : Nat} (x : Sv w0 w A p ws s) (y : Sv w0 w A' p ws s') {n : Nat} (hA : ∀ j, SvS A j → j < n ∨ j = A.sb) (hB : ∀ j, SvS A' j → n ≤ j) (hb : ¬ SvS A' A.sb) (hx : A.h < A'.N) (hy : A'.h < A.N) : Du w0 w A A' p ws s s' :=
  ⟨x, y, fun j e h => by
    have h2 := hB j h
    rcases hA j e with e | e
    · omega
    · subst e; exact hb h, hx, hy⟩
/- what a script keeps -/
structure Scr (N : Nat) (w0 w : World) (A A' : Ad) (rr : Nat) (ws : List Nat) (s : Hs) (v : Value) (L : List Cp) : Prop where
  du : Du w0 w A A' 5 ws s s
  sr : Sr w rr A.g A.sb
  row : w.ownsRow w0.heap.size 41 4 v L.length (cellsC L)
  ok : ∀ c, c ∈ L → c.ok
  len : L.length ≤ N + 3
  few : Fw N s
  gl : Glob w0
theorem Scr.grow {rr : Nat} (h : Scr N w0 w A A' rr ws s v L) (b : Below w.heap.size w w') : Scr N w0 w' A A' rr ws s v L := ⟨h.du.grow b, h.sr.grow b, owns_grow h.row b, h.ok, h.len, h.few, h.gl⟩
theorem Scr.drewN {rr : Nat} (h : Scr N w0 w A A' rr ws s v L) (q : Nat) : Scr N w0 (w.drewN q) A A' rr ws s v L := ⟨h.du.drewN q, h.sr, h.row, h.ok, h.len, h.few, h.gl⟩
/- a deed's data are not turned by the other half's deeds -/
theorem Bts.half {co : Option Addr} {n cc : Nat} {d : List UInt8} (hb : Bts w1 co n cc d) (hn : d = [] ∨ New w co) (hup : ∀ j, SvS A' j → j < w.heap.size) (E : SvEnd w0 w1 A' p ws w2 s1) : Bts w2 co n cc d := by
  obtain ⟨v, dv, nv, S, F, _⟩ := E
  rcases hn with rfl | hn
  · exact bts_none hb
  · exact Bts.foot hb F (fun ad e _ h => by have := hn ad e; have := hup _ h; omega)
end
end Go.Proofs.YtjpgfldppepmiaaDoor
namespace Go.Proofs.YtjpgfldppepmiaaDoor
section
open Go.RowKit
variable {w0 w w1 w2 w' : World} {A A' : Ad} {p N rr : Nat} {ws : List Nat} {s s' s1 : Hs} {v : Value} {L : List Cp}
theorem Od.low {B g go m a h k t : Nat} {es : List Ent} {T : Nat → Ob} (x : Od w0 w B g go m a h k p v ws t es T) : g < w.heap.size ∧ go < w.heap.size ∧ m < w.heap.size ∧ a < w.heap.size ∧ h < w.heap.size := by
  obtain ⟨C, hC⟩ := x.tb.blk
  exact ⟨lt_of_heap hC, lt_of_heap x.tk.orc.box, x.tk.orc.map.lt, lt_of_heap x.tk.tape.box, lt_of_heap x.tk.tape.row⟩
theorem fw0 : Fw 0 ⟨0, [], noneO, [], []⟩ := ⟨Nat.le_refl _, Nat.le_refl _, Nat.le_refl _, fun _ => Nat.le_refl _⟩
theorem cre_few (h : Fw N s) (vl : Int) : Fw N (s.tab (creF ws s.t s.es p s.T vl).t (creF ws s.t s.es p s.T vl).es (creF ws s.t s.es p s.T vl).T) := by
  unfold creF
  split
  · split
    · exact ⟨h.el, h.dl, h.gl, fun j => by
        show (updO s.T _ _ j).e ≤ _
        unfold updO
        split
        · exact Nat.zero_le _
        · exact h.ep j⟩
    · exact ⟨h.el, h.dl, h.gl, h.ep⟩
  · exact ⟨h.el, h.dl, h.gl, h.ep⟩
theorem cre_cok (h : Wd ws s.es) (hp : p ≤ 18446744073709551615) (vl : Int) : (creF ws s.t s.es p s.T vl).c.ok := by
  unfold creF
  split
  · split
    · exact ⟨hp, by show freeO s.T ≤ _; omega, by show 255 ≤ _; omega, Nat.le_trans (h.1 _) (by decide)⟩
    · exact zero_ok
  · exact zero_ok
abbrev svc0 : Obj := .cells #[.slice none 0 0, .slice none 0 0] 35
theorem Du.of {B g go m a h k B2 g2 go2 m2 a2 h2 k2 n : Nat} (x : Od w0 w B g go m a h k p (.slice none 0 0) ws 0 [] noneO) (y : Od w0 w B2 g2 go2 m2 a2 h2 k2 p (.slice none 0 0) ws 0 [] noneO)
    (l : g < n ∧ go < n ∧ m < n ∧ a < n) (u : n ≤ g2 ∧ n ≤ go2 ∧ n ≤ m2 ∧ n ≤ a2) :
    Du w0 ((w.alloc svc0).alloc svc0) ⟨B, g, go, m, a, h, k, .slice none 0 0, w.heap.size, w.heap.size, .slice none 0 0, .slice none 0 0⟩ ⟨B2, g2, go2, m2, a2, h2, k2, .slice none 0 0, w.heap.size + 1, w.heap.size + 1, .slice none 0 0, .slice none 0 0⟩ p ws ⟨0, [], noneO, [], []⟩ ⟨0, [], noneO, [], []⟩ := by
  have X := (Sv.make x).grow (below_alloc _ svc0)
  have Y := Sv.make (y.grow (below_alloc w svc0))
  have hs : (w.alloc svc0).heap.size = w.heap.size + 1 := by simp
  rw [hs] at Y
  have lx := x.low
  have ly := y.low
  refine Du.make X Y (n := n) ?_ ?_ ?_ (by show h < w.heap.size + 1; omega) (by show h2 < w.heap.size; omega)
  · intro j e
    rcases e with ((e | e | e | e) | e) | e | e | e
    · left; have : j = go := e; omega
    · left; have : j = m := e; omega
    · left; have : j = a := e; omega
    · cases e
    · left; have : j = g := e; omega
    · exact .inr e
    · cases e
    · cases e
  · intro j e
    rcases e with ((e | e | e | e) | e) | e | e | e
    · have : j = go2 := e; omega
    · have : j = m2 := e; omega
    · have : j = a2 := e; omega
    · cases e
    · have : j = g2 := e; omega
    · have : j = w.heap.size + 1 := e; omega
    · cases e
    · cases e
  · intro e
    rcases e with ((e | e | e | e) | e) | e | e | e
    · have : w.heap.size = go2 := e; omega
    · have : w.heap.size = m2 := e; omega
    · have : w.heap.size = a2 := e; omega
    · cases e
    · have : w.heap.size = g2 := e; omega
    · have : w.heap.size = w.heap.size + 1 := e; omega
    · cases e
    · cases e
/- what there is beside the two halves -/
structure Bas (w0 w : World) (A A' : Ad) (rr : Nat) (ws : List Nat) (s s' : Hs) (v : Value) (L : List Cp) : Prop where
  du : Du w0 w A A' 5 ws s s'
  sr : Sr w rr A.g A.sb
  row : w.ownsRow w0.heap.size 41 4 v L.length (cellsC L)
  gl : Glob w0
theorem Scr.bas (h : Scr N w0 w A A' rr ws s v L) : Bas w0 w A A' rr ws s s v L := ⟨h.du, h.sr, h.row, h.gl⟩
theorem Bas.bel (h : Bas w0 w A A' rr ws s s' v L) : Below w0.heap.size w0 w := h.du.x.bel
theorem Bas.grow (h : Bas w0 w A A' rr ws s s' v L) (b : Below w.heap.size w w') : Bas w0 w' A A' rr ws s s' v L := ⟨h.du.grow b, h.sr.grow b, owns_grow h.row b, h.gl⟩
theorem Bas.drewN (h : Bas w0 w A A' rr ws s s' v L) (q : Nat) : Bas w0 (w.drewN q) A A' rr ws s s' v L := ⟨h.du.drewN q, h.sr, h.row, h.gl⟩
theorem Bas.left (h : Bas w0 w A A' rr ws s s' v L) (E : SvEnd w0 w A 5 ws w' s1) : ∃ va dv nv, Bas w0 w' (A.upd va dv nv) A' rr ws s1 s' v L := by
  obtain ⟨va, dv, nv, d⟩ := h.du.left E
  have k := h.du.x.kh E
  exact ⟨_, _, _, d, h.sr.kh k, owns_kh h.row k cap_odd3, h.gl⟩
theorem Bas.right (h : Bas w0 w A A' rr ws s s' v L) (E : SvEnd w0 w A' 5 ws w' s1) : ∃ va dv nv, Bas w0 w' A (A'.upd va dv nv) rr ws s s1 v L := by
  obtain ⟨va, dv, nv, d⟩ := h.du.symm.left E
  have k := h.du.y.kh E
  exact ⟨_, _, _, d.symm, h.sr.kh k, owns_kh h.row k cap_odd3, h.gl⟩
theorem Bas.lay {g : Nat} {m : Msg} {D : Value} (h : Bas w0 w A A' rr ws s s' v L) (hm : MB w g m D) (hg : w0.heap.size ≤ g) (f : Foot (fun j => j = g) w w') : Bas w0 w' A A' rr ws s s' v L := by
  refine ⟨h.du.off f (fun b e => ?_), h.sr.foot f (fun e => ?_), owns_foot h.row f (fun r hr e => ?_), h.gl⟩
  · have e : b = g := e
    subst e
    exact ⟨hg, .inr ⟨_, _, hm, msg_odd3⟩⟩
  · have e : rr = g := e
    have h1 : w.heap[rr]? = some _ := h.sr
    rw [e, show w.heap[g]? = _ from hm] at h1
    cases h1
  · have e : r = g := e
    obtain ⟨cur, h1, _⟩ := owns_block h.row hr
    rw [e, show w.heap[g]? = _ from hm] at h1
    cases h1
/- the row grows -/
theorem Bas.app {v' : Value} {L' : List Cp} (h : Bas w0 w A A' rr ws s s' v L) (f : Foot (fun k => v.ownBlock = some k) w w') (hr : w'.ownsRow w0.heap.size 41 4 v' L'.length (cellsC L')) : Bas w0 w' A A' rr ws s s' v' L' := by
  refine ⟨h.du.off f (fun b e => ?_), h.sr.foot f (fun e => ?_), hr, h.gl⟩
  · obtain ⟨cur, h1, h2⟩ := owns_block h.row e
    exact ⟨h2, .inr ⟨cur, _, h1, cap_odd3⟩⟩
  · obtain ⟨cur, h1, _⟩ := owns_block h.row e
    have h2 : w.heap[rr]? = some _ := h.sr
    rw [h1] at h2
    cases h2
/- a message in a variable, other memory turned -/
theorem MB.app {g : Nat} {m : Msg} {D : Value} {B n : Nat} {xs : List Value} (h : MB w g m D) (hr : w.ownsRow B 41 4 v n xs) (f : Foot (fun k => v.ownBlock = some k) w w') : MB w' g m D :=
  h.foot f (fun e => by
    obtain ⟨cur, h1, _⟩ := owns_block hr e
    rw [show w.heap[g]? = _ from h] at h1
    cases h1)
/- the services' boxes -/
theorem Sv.cd (x : Sv w0 w A p ws s) : w.cell? ⟨A.sb, 0, none⟩ = some A.dv := by rw [cell_of_row w A.sb _ _ _ _ x.box]; rfl
theorem Sv.cn (x : Sv w0 w A p ws s) : w.cell? ⟨A.sb, 1, none⟩ = some A.nv := by rw [cell_of_row w A.sb _ _ _ _ x.box]; rfl
theorem Sv.fd (x : Sv w0 w A p ws s) : ∃ ao cap, A.dv = .slice ao s.D.length cap ∧ cap ≤ 9223372036854775807 ∧ s.D.length ≤ cap := by
  obtain ⟨ao, cap, e, h1, h2, h3, _⟩ := owns_lies x.dn
  exact ⟨ao, cap, e, h3, h2⟩
theorem Sv.fn (x : Sv w0 w A p ws s) : ∃ ao cap, A.nv = .slice ao s.G.length cap ∧ cap ≤ 9223372036854775807 ∧ s.G.length ≤ cap := by
  obtain ⟨ao, cap, e, h1, h2, h3, _⟩ := owns_lies x.gn
  exact ⟨ao, cap, e, h3, h2⟩
/- a deed in a variable -/
def AB (w : World) (g : Nat) (x : Ac) : Prop := w.heap[g]? = some (.cells #[.int .u16 (x.o : Int), .int .u8 (x.wh : Int), .int .u8 (x.ch : Int), .int .u64 (x.m.ta : Int), .int .u64 (x.m.rp : Int), .int .u32 (x.m.id : Int), .int .u16 (x.m.op : Int), .int .u16 (x.m.st : Int), .int .u64 (x.m.p : Int), .int .u32 (x.m.o : Int), .int .u8 (x.m.r : Int), .int .u64 (x.m.c : Int), .int .u64 (x.m.ar : Int), .slice x.so x.sn x.sc] 51 (0, 0))
theorem AB.new (w : World) (x : Ac) : AB (w.alloc (.cells #[.int .u16 (x.o : Int), .int .u8 (x.wh : Int), .int .u8 (x.ch : Int), .int .u64 (x.m.ta : Int), .int .u64 (x.m.rp : Int), .int .u32 (x.m.id : Int), .int .u16 (x.m.op : Int), .int .u16 (x.m.st : Int), .int .u64 (x.m.p : Int), .int .u32 (x.m.o : Int), .int .u8 (x.m.r : Int), .int .u64 (x.m.c : Int), .int .u64 (x.m.ar : Int), .slice x.so x.sn x.sc] 51)) w.heap.size x := heap_alloc_new _ _
theorem AB.grow {g : Nat} {x : Ac} (h : AB w g x) (b : Below w.heap.size w w') : AB w' g x := (b.block g (lt_of_heap h)).trans h
theorem AB.foot {g : Nat} {x : Ac} {S : Nat → Prop} (h : AB w g x) (f : Foot S w w') (hS : ¬ S g) : AB w' g x := (f.block g (lt_of_heap h) hS).trans h
theorem AB.all {g : Nat} {x : Ac} (h : AB w g x) : w.cell? ⟨g, 0, none⟩ = some (.int .u16 (x.o : Int)) ∧ w.cell? ⟨g, 1, none⟩ = some (.int .u8 (x.wh : Int)) ∧ w.cell? ⟨g, 2, none⟩ = some (.int .u8 (x.ch : Int)) ∧ w.cell? ⟨g, 3, none⟩ = some (.int .u64 (x.m.ta : Int)) ∧ w.cell? ⟨g, 4, none⟩ = some (.int .u64 (x.m.rp : Int)) ∧ w.cell? ⟨g, 5, none⟩ = some (.int .u32 (x.m.id : Int)) ∧ w.cell? ⟨g, 6, none⟩ = some (.int .u16 (x.m.op : Int)) ∧ w.cell? ⟨g, 7, none⟩ = some (.int .u16 (x.m.st : Int)) ∧ w.cell? ⟨g, 8, none⟩ = some (.int .u64 (x.m.p : Int)) ∧ w.cell? ⟨g, 9, none⟩ = some (.int .u32 (x.m.o : Int)) ∧ w.cell? ⟨g, 10, none⟩ = some (.int .u8 (x.m.r : Int)) ∧ w.cell? ⟨g, 11, none⟩ = some (.int .u64 (x.m.c : Int)) ∧ w.cell? ⟨g, 12, none⟩ = some (.int .u64 (x.m.ar : Int)) ∧ w.cell? ⟨g, 13, none⟩ = some (.slice x.so x.sn x.sc) := by
  refine ⟨?_, ?_, ?_, ?_, ?_, ?_, ?_, ?_, ?_, ?_, ?_, ?_, ?_, ?_⟩ <;> (rw [cell_of_row w g _ _ _ _ h]; rfl)
theorem MB.put3 {g : Nat} {m : Msg} {D : Value} (h : MB w g m D) (o : Nat) : MB (w.setCell ⟨g, 3, none⟩ (.int .u16 (o : Int))) g ⟨m.ta, m.rp, m.id, o, m.st, m.p, m.o, m.r, m.c, m.ar⟩ D := by
  have h1 := heap_setCell_same w g 3 _ _ (.int .u16 (o : Int)) h
  unfold MB
  rw [h1]
  simp
theorem MB.put7 {g : Nat} {m : Msg} {D : Value} (h : MB w g m D) (o : Nat) : MB (w.setCell ⟨g, 7, none⟩ (.int .u8 (o : Int))) g ⟨m.ta, m.rp, m.id, m.op, m.st, m.p, m.o, o, m.c, m.ar⟩ D := by
  have h1 := heap_setCell_same w g 7 _ _ (.int .u8 (o : Int)) h
  unfold MB
  rw [h1]
  simp
def layC (w : World) (g : Nat) (p o r c : Nat) : World := (((w.setCell ⟨g, 5, none⟩ (.int .u64 (p : Int))).setCell ⟨g, 6, none⟩ (.int .u32 (o : Int))).setCell ⟨g, 7, none⟩ (.int .u8 (r : Int))).setCell ⟨g, 8, none⟩ (.int .u64 (c : Int))
theorem MB.putC {g : Nat} {m : Msg} {D : Value} (h : MB w g m D) (p o r c : Nat) : MB (layC w g p o r c) g ⟨m.ta, m.rp, m.id, m.op, m.st, p, o, r, c, m.ar⟩ D := by
  have h1 := heap_setCell_same w g 5 _ _ (.int .u64 (p : Int)) h
  have h2 := heap_setCell_same _ g 6 _ _ (.int .u32 (o : Int)) h1
  have h3 := heap_setCell_same _ g 7 _ _ (.int .u8 (r : Int)) h2
  have h4 := heap_setCell_same _ g 8 _ _ (.int .u64 (c : Int)) h3
  unfold MB layC
  rw [h4]
  simp
theorem foot_layC (w : World) (g p o r c : Nat) : Foot (fun j => j = g) w (layC w g p o r c) := by
  unfold layC
  exact (((((Foot.refl _ w).put _ _).put _ _).put _ _).put _ _)
theorem foot_one (w : World) (g o : Nat) (v : Value) : Foot (fun j => j = g) w (w.setCell ⟨g, o, none⟩ v) := (Foot.refl _ w).put _ _
theorem bits8 (op : BinOp) (x y : Int) : ∃ v : Nat, bits op .u8 x y = (v : Int) ∧ v ≤ 255 := u8_nat (wf_bits op .u8 x y)
theorem cap_in {k : Nat} (hk : k < L.length) : L.getD k Cp.zero ∈ L := by
  rw [List.getD_eq_getElem?_getD, List.getElem?_eq_getElem hk]; exact List.getElem_mem hk
/- what the choice of a capability leaves -/
structure Chs (w0 w : World) (gm : Nat) (op : Nat) (so : Option Addr) (sn sc : Nat) (A A' : Ad) (rr : Nat) (ws : List Nat) (s : Hs) (v : Value) (L : List Cp) (m : Msg) : Prop where
  mb : MB w gm m (.slice so sn sc)
  op : m.op = op
  ok : m.ok
  ba : Bas w0 w A A' rr ws s s v L
/- bytes that a variable has nothing of -/
def Apa (co : Option Addr) (d : List UInt8) (g : Nat) : Prop := d = [] ∨ ∀ ad, co = some ad → ad.block ≠ g
theorem Apa.old {co : Option Addr} {n cc g : Nat} {d : List UInt8} (h : Bts w co n cc d) (hg : w.heap.size ≤ g) : Apa co d g := by
  by_cases e : d = []
  · exact .inl e
  · refine .inr (fun ad e2 => ?_)
    have h0 : 0 < d.length := List.length_pos_iff.2 e
    have h1 : ad.block < w.heap.size := lt_of_cell (h.2.2.2.2 ad e2 0 h0)
    omega
theorem Apa.new {co : Option Addr} {g : Nat} {d : List UInt8} (h : d = [] ∨ New w co) (hg : g < w.heap.size) : Apa co d g := by
  rcases h with h | h
  · exact .inl h
  · exact .inr (fun ad e => by have := h ad e; omega)
theorem Bts.apa {co : Option Addr} {n cc g : Nat} {d : List UInt8} (h : Bts w co n cc d) (a : Apa co d g) (f : Foot (fun j => j = g) w w') : Bts w' co n cc d := by
  rcases a with rfl | a
  · exact bts_none h
  · exact Bts.foot h f (fun ad e _ => a ad e)
/- both answers -/
def MidRel (w0 : World) (A A' : Ad) (rr : Nat) (ws : List Nat) (s : Hs) (v : Value) (L : List Cp) (gm : Nat) (m : Msg) (D : Value) (m2 : Msg) (d : List UInt8) (v17 v18 : Value) (wx : World) : Prop :=
  ∃ (ga gb : Nat) (co : Option Addr) (cn cc : Nat) (bo : Option Addr) (bn bc : Nat) (va dv nv va' dv' nv' : Value), v17 = .pointer (some ⟨ga, 0, none⟩) ∧ v18 = .pointer (some ⟨gb, 0, none⟩) ∧ MB wx ga m2 (.slice co cn cc) ∧ MB wx gb m2 (.slice bo bn bc) ∧ Bts wx co cn cc d ∧ Bts wx bo bn bc d ∧ MB wx gm m D ∧ Bas w0 wx (A.upd va dv nv) (A'.upd va' dv' nv') rr ws s s v L
theorem rpl_c {m : Msg} {R : Ro} (h : (rplF m R).st = 0) : (⟨(rplF m R).p, (rplF m R).o, (rplF m R).r, (rplF m R).c⟩ : Cp) = R.c := by
  by_cases e : R.e = 0
  · unfold rplF; rw [if_pos e]
  · unfold rplF at h
    rw [if_neg e] at h
    exact absurd h e
theorem cells_u (D : List Int) (f : Int → Value) {j : Nat} (hj : j < D.length) : (D.map f)[j]? = some (f (D.getD j 0)) := by
  rw [List.getElem?_map, List.getD_eq_getElem?_getD, List.getElem?_eq_getElem hj]; rfl
theorem owns_one {B : Nat} {e : TypeId} {D : List Int} {f : Int → Value} {ao : Option Addr} {n cap : Nat} (h : w.ownsRow B e 1 (.slice ao n cap) D.length (D.map f)) {j : Nat} (hj : j < D.length) :
    ∃ b, ao = some ⟨b, 0, none⟩ ∧ w.cell? ⟨b, j, none⟩ = some (f (D.getD j 0)) := by
  rcases h.2 with ⟨_, h2⟩ | ⟨b, cap', cur, e2, h1, h2, h3, h4, h5, h6⟩
  · omega
  · have e3 : ao = some ⟨b, 0, none⟩ := by cases e2; rfl
    subst e3
    refine ⟨b, rfl, ?_⟩
    rw [← add0]; exact h.cells (g := b) rfl j _ (cells_u D f hj)
def EndU (w0 : World) (A A' : Ad) (rr : Nat) (ws : List Nat) (s : Hs) (v : Value) (L : List Cp) (n gk : Nat) (vi : Value) (wx : World) : Prop :=
  ∃ k : Nat, vi = .int .i64 (k : Int) ∧ k + gk = n ∧ Bas w0 wx A A' rr ws s s v L
end
end Go.Proofs.YtjpgfldppepmiaaDoor
