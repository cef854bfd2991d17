/-
  A message that came in by value: its numbers, its data's bytes, and how many these are at most.
  What the closure of the statements' own 'want' answers, as a contract.
  What the statements' own 'want' answers, and what it leaves: a capability that may not be.
  What the statements' own 'want' answers, and what it leaves: Info.
  What the statements' own 'want' answers, and what it leaves: Touch.
  What the statements' own 'want' answers, and what it leaves: Restrict.
-/
import Derived.Test.YtjpgfldppepmiaaDoorJh
import Derived.Deep.Slices
import Derived.ChangeSame
import Derived.ChangeSlices
import Derived.Lib.SmallJoins
import Derived.SizedLaws
namespace Go.Proofs.YtjpgfldppepmiaaDoor
section
open Go.RowKit Go.Deep
theorem RowOf.bytes {w : World} {a : Option Addr} {len cap : Nat} {zs : List Int} (h : RowOf .u8 w a len cap zs) : ∃ l, Bts w a len cap l := by
  rcases h with ⟨rfl, rfl, rfl, rfl⟩ | ⟨x, rfl, h1, h2, h3, h4, h5⟩
  · exact ⟨[], bts_nil w⟩
  · have hlen : ((zs.take len).map fun z => UInt8.ofNat z.toNat).length = len := by simp; omega
    refine ⟨(zs.take len).map fun z => UInt8.ofNat z.toNat, hlen.symm, h1, h2, (fun e => by cases e), fun ad e j hj => ?_⟩
    obtain rfl := Option.some.inj e
    rw [hlen] at hj
    have hjz : j < zs.length := by omega
    rw [h4 j hjz, bt_get _ _ (by rw [hlen]; exact hj)]
    have e1 : zs.getD j 0 = zs[j] := by rw [List.getD_eq_getElem?_getD, List.getElem?_eq_getElem hjz]; rfl
    have e2 := bounds_u8 (h5 zs[j] (List.getElem_mem hjz))
    rw [e1]
    simp only [List.getElem_map, List.getElem_take, ofNat_toNat]
    congr 2
    omega
theorem u16_nat {n : Int} (h : (Lit.int .u16 n).wf = true) : ∃ v : Nat, n = (v : Int) ∧ v ≤ 65535 := by
  have := bounds_u16 h; exact ⟨n.toNat, by omega, by omega⟩
theorem bytesOf5 : Tryd.prog.bytesOf 5 = 1 := by kernel_rfl
def msgL (m : Msg) (so : Option Addr) (sn sc : Nat) : List Value := (#[.int .u64 m.ta, .int .u64 m.rp, .int .u32 m.id, .int .u16 m.op, .int .u16 m.st, .int .u64 m.p, .int .u32 m.o, .int .u8 m.r, .int .u64 m.c, .int .u64 m.ar, .slice so sn sc] : Array Value).toList
theorem m64 : Tryd.prog.cellsOf 27 = 1 := by kernel_rfl
theorem m32 : Tryd.prog.cellsOf 39 = 1 := by kernel_rfl
theorem m16 : Tryd.prog.cellsOf 46 = 1 := by kernel_rfl
theorem m8 : Tryd.prog.cellsOf 5 = 1 := by kernel_rfl
theorem mB : Tryd.prog.cellsOf 47 = 1 := by kernel_rfl
theorem mCap : Tryd.prog.cellsOf 41 = 4 := by kernel_rfl
theorem mMsg : Tryd.prog.cellsOf 49 = 11 := by kernel_rfl
theorem weights_all {H : Type} {P : Program} {e : TypeId} {d : DataW H} {n : Nat} (hn : n ∈ d.weights P e) : ∀ {l : List (DataW H)}, d ∈ l → n ∈ DataW.weightsAll P e l
  | x :: r, h => by
    simp only [DataW.weightsAll, List.mem_append]
    rcases List.mem_cons.1 h with rfl | h
    · exact .inl hn
    · exact .inr (weights_all hn h)
def SizeBy {H : Type} (d : DataW H) (t : TypeId) (k : Nat) : Prop := k = 0 ∨ ∃ n ∈ d.weights Tryd.prog t, k ≤ n
set_option maxRecDepth 100000 in
theorem msg_elem {H : Type} {enc : TypeId × Value → H} {w : World} {n : Nat} {c0 c1 c2 c3 c4 c5 c6 c7 c8 c9 c10 : Value} {y : DataW H × List MemPlace}
    (h : DataW.trod enc Tryd.prog w 0 (fun _ => true) true n 49 [c0, c1, c2, c3, c4, c5, c6, c7, c8, c9, c10] = some y) : ∃ (m : Msg) (so : Option Addr) (sn sc : Nat) (l : List UInt8), [c0, c1, c2, c3, c4, c5, c6, c7, c8, c9, c10] = msgL m so sn sc ∧ m.ok ∧ Bts w so sn sc l ∧ SizeBy y.1 49 sn := by
  obtain ⟨xs, m, _, hx, _, hlen, hfd⟩ := DataW.trod_struct Tryd.underlying49 h
  have hlen8 : xs.length = 8 := hlen
  have at_ : ∀ i, i < 8 → ∃ y, xs[i]? = some y := fun i hi => ⟨xs[i]'(by omega), List.getElem?_eq_getElem (by omega)⟩
  obtain ⟨y0, hy0⟩ := at_ 0 (by omega)
  have f0 : DataW.trod enc Tryd.prog w 0 (fun _ => true) true m 27 [c0] = some y0 := by
    have h := hfd 0 _ rfl
    rw [hy0] at h
    simpa [m64] using h
  obtain ⟨y1, hy1⟩ := at_ 1 (by omega)
  have f1 : DataW.trod enc Tryd.prog w 0 (fun _ => true) true m 27 [c1] = some y1 := by
    have h := hfd 1 _ rfl
    rw [hy1] at h
    simpa [m64] using h
  obtain ⟨y2, hy2⟩ := at_ 2 (by omega)
  have f2 : DataW.trod enc Tryd.prog w 0 (fun _ => true) true m 39 [c2] = some y2 := by
    have h := hfd 2 _ rfl
    rw [hy2] at h
    simpa [m32] using h
  obtain ⟨y3, hy3⟩ := at_ 3 (by omega)
  have f3 : DataW.trod enc Tryd.prog w 0 (fun _ => true) true m 46 [c3] = some y3 := by
    have h := hfd 3 _ rfl
    rw [hy3] at h
    simpa [m16] using h
  obtain ⟨y4, hy4⟩ := at_ 4 (by omega)
  have f4 : DataW.trod enc Tryd.prog w 0 (fun _ => true) true m 46 [c4] = some y4 := by
    have h := hfd 4 _ rfl
    rw [hy4] at h
    simpa [m16] using h
  obtain ⟨y5, hy5⟩ := at_ 5 (by omega)
  have f5 : DataW.trod enc Tryd.prog w 0 (fun _ => true) true m 41 [c5, c6, c7, c8] = some y5 := by
    have h := hfd 5 _ rfl
    rw [hy5] at h
    simpa [mCap] using h
  obtain ⟨y6, hy6⟩ := at_ 6 (by omega)
  have f6 : DataW.trod enc Tryd.prog w 0 (fun _ => true) true m 27 [c9] = some y6 := by
    have h := hfd 6 _ rfl
    rw [hy6] at h
    simpa [m64] using h
  obtain ⟨y7, hy7⟩ := at_ 7 (by omega)
  have f7 : DataW.trod enc Tryd.prog w 0 (fun _ => true) true m 47 [c10] = some y7 := by
    have h := hfd 7 _ rfl
    rw [hy7] at h
    simpa [mB] using h
  have hmem : ∀ k ∈ y7.1.weights Tryd.prog 47, k ∈ y.1.weights Tryd.prog 49 := fun k hk => by
    rw [hx]
    simp only [DataW.weights, Tryd.underlying49]
    refine DataW.weights_mem_each (j := 7) (t := 47) (d := y7.1) rfl ?_ k hk
    rw [List.getElem?_map, hy7]; rfl
  clear hfd hlen hlen8 at_ h hx
  obtain ⟨n0, e0, _, wf0⟩ := DataW.trod_int Tryd.underlying27 f0
  obtain rfl := (List.cons.inj e0).1
  obtain ⟨n1, e1, _, wf1⟩ := DataW.trod_int Tryd.underlying27 f1
  obtain rfl := (List.cons.inj e1).1
  obtain ⟨n2, e2, _, wf2⟩ := DataW.trod_int Tryd.underlying39 f2
  obtain rfl := (List.cons.inj e2).1
  obtain ⟨n3, e3, _, wf3⟩ := DataW.trod_int Tryd.underlying46 f3
  obtain rfl := (List.cons.inj e3).1
  obtain ⟨n4, e4, _, wf4⟩ := DataW.trod_int Tryd.underlying46 f4
  obtain rfl := (List.cons.inj e4).1
  obtain ⟨n6, e6, _, wf6⟩ := DataW.trod_int Tryd.underlying27 f6
  obtain rfl := (List.cons.inj e6).1
  obtain ⟨z0, z1, z2, z3, nz, _, _, g0, g1, g2, g3⟩ := Go.Joins.trod_struct4 Tryd.underlying41 f5
  have q0 : DataW.trod enc Tryd.prog w 0 (fun _ => true) true nz 27 [c5] = some z0 := by simpa [m64, m32, m8] using g0
  obtain ⟨k0, i0, _, wq0⟩ := DataW.trod_int Tryd.underlying27 q0
  obtain rfl := (List.cons.inj i0).1
  have q1 : DataW.trod enc Tryd.prog w 0 (fun _ => true) true nz 39 [c6] = some z1 := by simpa [m64, m32, m8] using g1
  obtain ⟨k1, i1, _, wq1⟩ := DataW.trod_int Tryd.underlying39 q1
  obtain rfl := (List.cons.inj i1).1
  have q2 : DataW.trod enc Tryd.prog w 0 (fun _ => true) true nz 5 [c7] = some z2 := by simpa [m64, m32, m8] using g2
  obtain ⟨k2, i2, _, wq2⟩ := DataW.trod_int Tryd.underlying5 q2
  obtain rfl := (List.cons.inj i2).1
  have q3 : DataW.trod enc Tryd.prog w 0 (fun _ => true) true nz 27 [c8] = some z3 := by simpa [m64, m32, m8] using g3
  obtain ⟨k3, i3, _, wq3⟩ := DataW.trod_int Tryd.underlying27 q3
  obtain rfl := (List.cons.inj i3).1
  obtain ⟨so, sn, sc, zs, rfl, hr, hbk⟩ : ∃ so sn sc zs, c10 = .slice so sn sc ∧ RowOf .u8 w so sn sc zs ∧ SizeBy y7.1 47 sn := by
    rcases Go.ChangeShapes.open_ints Tryd.underlying47 Tryd.underlying5 (by kernel_rfl) f7 with ⟨hcs, _⟩ | ⟨x, l, c, zs, hcs, _, hl, hm, hz, hx, hcell, hwz⟩
    · simp at hcs
      exact ⟨none, 0, 0, [], hcs, .inl ⟨rfl, rfl, rfl, rfl⟩, .inl rfl⟩
    · simp at hcs
      refine ⟨some x, l, c, zs, hcs, .inr ⟨_, rfl, hl, hm, by simpa using hz, hcell, hwz⟩, .inr ?_⟩
      rw [hx]
      have hz' : zs.length = c := by simpa using hz
      refine ⟨_, by simp only [DataW.weights, Tryd.underlying47]; exact List.mem_cons_self .., ?_⟩
      rw [bytesOf5]
      simp only [Go.ChangeShapes.lits, List.length_map, List.length_take, List.length_drop]
      omega
  obtain ⟨l, hb⟩ := hr.bytes
  obtain ⟨v0, rfl, b0⟩ := u64_nat wf0
  obtain ⟨v1, rfl, b1⟩ := u64_nat wf1
  obtain ⟨v2, rfl, b2⟩ := u32_nat wf2
  obtain ⟨v3, rfl, b3⟩ := u16_nat wf3
  obtain ⟨v4, rfl, b4⟩ := u16_nat wf4
  obtain ⟨v6, rfl, b6⟩ := u64_nat wf6
  obtain ⟨x0, rfl, d0⟩ := u64_nat wq0
  obtain ⟨x1, rfl, d1⟩ := u32_nat wq1
  obtain ⟨x2, rfl, d2⟩ := u8_nat wq2
  obtain ⟨x3, rfl, d3⟩ := u64_nat wq3
  exact ⟨⟨v0, v1, v2, v3, v4, x0, x1, x2, x3, v6⟩, so, sn, sc, l, rfl, ⟨b0, b1, b2, b3, b4, d0, d1, d2, d3, b6⟩, hb, hbk.imp id (fun ⟨k, h1, h2⟩ => ⟨k, hmem k h1, h2⟩)⟩
theorem array11 {α : Type} {cs : Array α} (h : cs.size = 11) : ∃ c0 c1 c2 c3 c4 c5 c6 c7 c8 c9 c10, cs = #[c0, c1, c2, c3, c4, c5, c6, c7, c8, c9, c10] := by
  obtain ⟨l⟩ := cs
  match l, h with
  | [c0, c1, c2, c3, c4, c5, c6, c7, c8, c9, c10], _ => exact ⟨c0, c1, c2, c3, c4, c5, c6, c7, c8, c9, c10, rfl⟩
set_option maxRecDepth 100000 in
theorem open_msg {H : Type} {enc : TypeId × Value → H} {w : World} {r : Reach} {b0 : Nat} {v : Value} {d : DataW H} {pl : List MemPlace}
    (hv : Value.okWide Tryd.prog w r b0 49 v) (h : DataW.Trod enc Tryd.prog w 0 (fun _ => true) true 49 v d pl) : ∃ (m : Msg) (so : Option Addr) (sn sc : Nat) (l : List UInt8), v = .agg #[.int .u64 m.ta, .int .u64 m.rp, .int .u32 m.id, .int .u16 m.op, .int .u16 m.st, .int .u64 m.p, .int .u32 m.o, .int .u8 m.r, .int .u64 m.c, .int .u64 m.ar, .slice so sn sc] ∧ m.ok ∧ Bts w so sn sc l ∧ SizeBy d 49 sn := by
  obtain ⟨cs, rfl, hsz⟩ := Go.WideShapes.okWide_struct Tryd.underlying49 hv
  obtain ⟨c0, c1, c2, c3, c4, c5, c6, c7, c8, c9, c10, rfl⟩ := array11 (hsz.trans mMsg)
  obtain ⟨fuel, hf⟩ := h
  obtain ⟨m, so, sn, sc, l, e, hm, hb, hbk⟩ := msg_elem (y := (d, pl)) hf
  unfold msgL at e
  simp only [List.cons.injEq, and_true] at e
  obtain ⟨rfl, rfl, rfl, rfl, rfl, rfl, rfl, rfl, rfl, rfl, rfl⟩ := e
  exact ⟨m, so, sn, sc, l, rfl, hm, hb, hbk⟩
end
end Go.Proofs.YtjpgfldppepmiaaDoor
namespace Go.Proofs.YtjpgfldppepmiaaDoor
section
open Go.RowKit
set_option maxHeartbeats 1600000 in
theorem wfail_any (m : Msg) (D : Value) (e : Nat) (w : World) {gm : Nat} (hM : MB w gm m D) (he : e ≤ 65535) (hg : Glob w) (m2 : Msg) (h2 : (⟨m.rp, m.ta, m.id, m.op, e, 0, 0, 0, 0, 0⟩ : Msg) = m2) :
    Calls Tryd.prog 30 #[erN (e : Int), .pointer (some ⟨gm, 0, none⟩)] w fun e w' => ∃ co cc, e = .returned (.agg #[.int .u64 m2.ta, .int .u64 m2.rp, .int .u32 m2.id, .int .u16 m2.op, .int .u16 m2.st, .int .u64 m2.p, .int .u32 m2.o, .int .u8 m2.r, .int .u64 m2.c, .int .u64 m2.ar, .slice co 0 cc]) ∧ Bts w' co 0 cc [] ∧ Below w.heap.size w w' := by
  obtain ⟨er, her⟩ : ∃ er, erN (e : Int) = er := ⟨_, rfl⟩
  have hf := srv_fault m D e
  rw [her] at hf ⊢
  have HF := hide hf
  have HM := hide hM
  have HG := hide hg
  have HEL := hide he
  have H2 := hide h2
  obtain ⟨X, hX⟩ : ∃ X, w.alloc (.cells #[.int .u64 0, .int .u64 0, .int .u32 0, .int .u16 0, .int .u16 0, .int .u64 0, .int .u32 0, .int .u8 0, .int .u64 0, .int .u64 0, .slice none 0 0] 49) = X := ⟨_, rfl⟩
  have bX : Below w.heap.size w X := hX ▸ below_alloc _ _
  have HZ : Hid (MB X w.heap.size Msg.zero (.slice none 0 0)) := hX ▸ mb_new w Msg.zero _
  have HB := hide bX
  have HMX := hide (HM.out.grow bX)
  have HGX := hide (HG.out.carry bX)
  obtain ⟨k0, k1, k2, k3, k4, k5, k6, k7, k8, k9, k10⟩ := HMX.out.all
  clear hf hM hg he h2 bX her
  go_enter Tryd.func30, Tryd.ntmps30
  go_wp2_with fail
  refine (HF.out _ HEL.out HGX.out m2 H2.out).mono ?_; rintro e w6 ⟨co2, cc2, rfl, B6, b6⟩
  have HB6 := hide B6
  have HZ6 := hide (HZ.out.grow b6)
  have HBX6 := hide (below_one HB.out b6)
  clear B6 b6 k0 k1 k2 k3 k4 k5 k6 k7 k8 k9 k10
  have HZL := hide (HZ6.out.lay (m := m2) (D := .slice co2 0 cc2))
  have HB7 : Hid (Below w.heap.size w (lay11 w6 w.heap.size m2 (.slice co2 0 cc2))) := (((below_foot (fun j => w.heap.size ≤ j) HBX6.out).trans (foot_lay11 w6 w.heap.size m2 (.slice co2 0 cc2)) (fun j (e : j = _) => .inl (by show w.heap.size ≤ j; omega))).below (Nat.le_refl _) (fun k e => e))
  have HD7 : Hid (Bts (lay11 w6 w.heap.size m2 (.slice co2 0 cc2)) co2 0 cc2 []) := bts_none HB6.out
  obtain ⟨w7, hw7⟩ : ∃ w7, lay11 w6 w.heap.size m2 (.slice co2 0 cc2) = w7 := ⟨_, rfl⟩
  rw [hw7] at HZL HB7 HD7
  unfold lay11 at hw7
  obtain ⟨v0, v1, v2, v3, v4, v5, v6, v7, v8, v9, v10⟩ := HZL.out.all
  obtain ⟨z0, z1, z2, z3, z4, z5, z6, z7, z8, z9, z10⟩ := HZ6.out.all
  have x0 := HZ6.out.z 0
  have x1 := HZ6.out.z 1
  have x2 := HZ6.out.z 2
  have x3 := HZ6.out.z 3
  have x4 := HZ6.out.z 4
  have x5 := HZ6.out.z 5
  have x6 := HZ6.out.z 6
  have x7 := HZ6.out.z 7
  have x8 := HZ6.out.z 8
  have x9 := HZ6.out.z 9
  have x10 := HZ6.out.z 10
  go_wp2
  refine bodyPost_ret (by simp [results, Tryd.results30, go_sem, v0, v1, v2, v3, v4, v5, v6, v7, v8, v9, v10]; rfl) rfl ?_
  exact ⟨co2, cc2, rfl, HD7.out, HB7.out⟩
end
end Go.Proofs.YtjpgfldppepmiaaDoor
namespace Go.Proofs.YtjpgfldppepmiaaDoor
section
open Go.RowKit
variable {w0 w w1 w2 w' : World} {A A' : Ad} {p : Nat} {ws : List Nat} {s s' s1 : Hs} {r g sb : Nat}
set_option maxRecDepth 20000 in
set_option maxHeartbeats 6400000 in
theorem want_may (m : Msg) (so : Option Addr) (sn sc : Nat) (l : List UInt8) (w : World) (x : Sv w0 w A p ws s) (hb : Bts w so sn sc l) (q : Okm w0 m so sn) (li : Lim s) (hg : Glob w0) (hm : mayC ⟨m.p, m.o, m.r, m.c⟩ = false) :
    Calls Tryd.prog 15 #[.pointer (some ⟨A.g, 0, none⟩), .pointer (some ⟨A.sb, 0, none⟩), .agg #[.int .u64 m.ta, .int .u64 m.rp, .int .u32 m.id, .int .u16 m.op, .int .u16 m.st, .int .u64 m.p, .int .u32 m.o, .int .u8 m.r, .int .u64 m.c, .int .u64 m.ar, .slice so sn sc]] w fun e w' => RplEnd w0 w A p ws m (badF s 1) l e w' := by
  have hmf : ∀ (fn : Fn) (first cap : Array Value) (w : World), (Instr.makeFunc fn first cap).run Tryd.prog w = .ok (.func fn first cap) w := fun _ _ _ _ => rfl
  obtain ⟨X, hX, bm, bz, bX⟩ := rep_vars w m (.slice so sn sc)
  have HX0 := hide (x.grow bX)
  have HB0 := hide (hb.carry bX)
  have HM0 := hide bm
  have HZ0 := hide bz
  have HBX0 := hide bX
  have HW0 : Hid (w0.heap.size ≤ w.heap.size) := x.bel.size
  have HQ := hide q
  have HLI := hide li
  have HG := hide hg
  have HMY : Hid (decide (m.p ≤ 281474976710655 ∧ m.o ≤ 16777215 ∧ m.c ≤ 281474976710655) = false) := hm
  obtain ⟨k0, k1, k2, k3, k4, k5, k6, k7, k8, k9, k10⟩ := bm.all
  clear bm bz bX x hb q li hg hm
  go_enter Tryd.func15, Tryd.ntmps15
  go_wp2_with fail
  refine (may_any m.p m.o m.r m.c _ HQ.out.c.1 HQ.out.c.2.1 HQ.out.c.2.2.1 HQ.out.c.2.2.2).mono ?_; rw [HMY.out]; rintro e w2 ⟨rfl, hw2⟩
  have b2 : Below X.heap.size X w2 := hw2 ▸ below_alloc _ _
  have HX := hide (HX0.out.grow b2)
  have HB := hide (HB0.out.carry b2)
  have HM := hide (HM0.out.grow b2)
  have HZ := hide (HZ0.out.grow b2)
  have HBX := hide (below_one HBX0.out b2)
  clear b2 hw2 k0 k1 k2 k3 k4 k5 k6 k7 k8 k9 k10 hX HX0 HB0 HM0 HZ0 HBX0
  obtain ⟨k0, k1, k2, k3, k4, k5, k6, k7, k8, k9, k10⟩ := HM.out.all
  have HE0 : Hid ((1 : Nat) ≠ 0) := by show (1 : Nat) ≠ 0; omega
  have HEL : Hid ((1 : Nat) ≤ 65535) := by show (1 : Nat) ≤ 65535; omega
  have HE := hide ((Sv.stay HX.out).from HBX.out)
  obtain ⟨m2, h2⟩ : ∃ m2, (⟨m.rp, m.ta, m.id, m.op, 1, 0, 0, 0, 0, 0⟩ : Msg) = m2 := ⟨_, rfl⟩
  have hf := fun W (hM : MB W w.heap.size m (.slice so sn sc)) hW => wfail_any m (.slice so sn sc) (1) W hM (HEL.out) hW m2 h2
  rw [show erN (((1 : Nat)) : Int) = .iface 61 (.int .i64 1) from rfl] at hf
  have HF := hide hf
  clear hf
  go_wp2_with fail
  refine (HF.out _ HM.out (HE.out.glob HG.out)).mono ?_; rintro e w6 ⟨co2, cc2, rfl, B6, b6⟩
  have HB6 := hide B6
  have HZ6 := hide (HZ.out.grow b6)
  have HE6 := hide (HE.out.to b6)
  have HM2 : Hid (m2 = rplF m (badF s 1)) := by show m2 = rplF m (badF s 1); unfold rplF badF; rw [if_neg (by have := HE0.out; exact this), ← h2]
  have HDT : Hid (datF (badF s 1) l = []) := by show datF (badF s 1) l = _; unfold datF badF; rw [if_neg (fun e => HE0.out e.1)]
  clear B6 b6 h2 k0 k1 k2 k3 k4 k5 k6 k7 k8 k9 k10
  have HZL := hide (HZ6.out.lay (m := m2) (D := .slice co2 0 cc2))
  have f7 := foot_lay11 w6 (w.heap.size + 1) m2 (.slice co2 0 cc2)
  have HE7 := hide (HE6.out.msg HW0.out HZ6.out (by omega) f7)
  have HB7 : Hid (Bts (lay11 w6 (w.heap.size + 1) m2 (.slice co2 0 cc2)) co2 0 cc2 []) := bts_none HB6.out
  obtain ⟨w7, hw7⟩ : ∃ w7, lay11 w6 (w.heap.size + 1) m2 (.slice co2 0 cc2) = w7 := ⟨_, rfl⟩
  rw [hw7] at HZL HE7 HB7
  unfold lay11 at hw7
  clear f7
  obtain ⟨v0, v1, v2, v3, v4, v5, v6, v7, v8, v9, v10⟩ := HZL.out.all
  obtain ⟨z0, z1, z2, z3, z4, z5, z6, z7, z8, z9, z10⟩ := HZ6.out.all
  have x0 := HZ6.out.z 0
  have x1 := HZ6.out.z 1
  have x2 := HZ6.out.z 2
  have x3 := HZ6.out.z 3
  have x4 := HZ6.out.z 4
  have x5 := HZ6.out.z 5
  have x6 := HZ6.out.z 6
  have x7 := HZ6.out.z 7
  have x8 := HZ6.out.z 8
  have x9 := HZ6.out.z 9
  have x10 := HZ6.out.z 10
  go_wp2
  refine bodyPost_ret (by simp [results, Tryd.results15, go_sem, v0, v1, v2, v3, v4, v5, v6, v7, v8, v9, v10]; rfl) rfl ?_
  refine ⟨m2, co2, 0, cc2, HM2.out, rfl, ?_, .inl HDT.out, HE7.out⟩
  rw [HDT.out]; exact HB7.out
end
end Go.Proofs.YtjpgfldppepmiaaDoor
namespace Go.Proofs.YtjpgfldppepmiaaDoor
section
open Go.RowKit
variable {w0 w w1 w2 w' : World} {A A' : Ad} {p : Nat} {ws : List Nat} {s s' s1 : Hs} {r g sb : Nat}
set_option maxRecDepth 20000 in
set_option maxHeartbeats 6400000 in
theorem want_info (m : Msg) (so : Option Addr) (sn sc : Nat) (l : List UInt8) (w : World) (x : Sv w0 w A p ws s) (hb : Bts w so sn sc l) (q : Okm w0 m so sn) (li : Lim s) (hg : Glob w0) (hm : mayC ⟨m.p, m.o, m.r, m.c⟩ = true) (hop : m.op = 1) (K : Chk) (hK : chkF ws s.t s.es p s.T ⟨m.p, m.o, m.r, m.c⟩ 0 = K) :
    Calls Tryd.prog 15 #[.pointer (some ⟨A.g, 0, none⟩), .pointer (some ⟨A.sb, 0, none⟩), .agg #[.int .u64 m.ta, .int .u64 m.rp, .int .u32 m.id, .int .u16 m.op, .int .u16 m.st, .int .u64 m.p, .int .u32 m.o, .int .u8 m.r, .int .u64 m.c, .int .u64 m.ar, .slice so sn sc]] w fun e w' => RplEnd w0 w A p ws m (infF s K) l e w' := by
  have hmf : ∀ (fn : Fn) (first cap : Array Value) (w : World), (Instr.makeFunc fn first cap).run Tryd.prog w = .ok (.func fn first cap) w := fun _ _ _ _ => rfl
  obtain ⟨X, hX, bm, bz, bX⟩ := rep_vars w m (.slice so sn sc)
  have HX0 := hide (x.grow bX)
  have HB0 := hide (hb.carry bX)
  have HM0 := hide bm
  have HZ0 := hide bz
  have HBX0 := hide bX
  have HW0 : Hid (w0.heap.size ≤ w.heap.size) := x.bel.size
  have HQ := hide q
  have HLI := hide li
  have HG := hide hg
  have HMY : Hid (decide (m.p ≤ 281474976710655 ∧ m.o ≤ 16777215 ∧ m.c ≤ 281474976710655) = true) := hm
  have HK := hide hK
  have hopi : ((m.op : Int)) = 1 := by omega
  have HOP := hide hopi
  have n1 : ((m.op : Int) == 1) = true := by rw [hopi]; rfl
  have n2 : ((m.op : Int) == 2) = false := by rw [hopi]; rfl
  have n3 : ((m.op : Int) == 3) = false := by rw [hopi]; rfl
  have n4 : ((m.op : Int) == 4) = false := by rw [hopi]; rfl
  have n5 : ((m.op : Int) == 5) = false := by rw [hopi]; rfl
  obtain ⟨RR, hRR⟩ : ∃ RR : Ro, (infF s K) = RR := ⟨_, rfl⟩
  rw [hRR]
  have HRO := hide hRR
  clear hRR
  obtain ⟨ev, hev⟩ : ∃ ev : Int, (if K.e = 0 then ((s.T K.k).e : Int) else 0) = ev := ⟨_, rfl⟩
  obtain ⟨lv, hlv⟩ : ∃ lv : Int, (if K.e = 0 then ((s.T K.k).l : Int) else 0) = lv := ⟨_, rfl⟩
  obtain ⟨er, her⟩ : ∃ er, erN (K.e : Int) = er := ⟨_, rfl⟩
  have HEV := hide hev
  have HLV := hide hlv
  have HER := hide her
  clear hev hlv her
  obtain ⟨k0, k1, k2, k3, k4, k5, k6, k7, k8, k9, k10⟩ := bm.all
  clear bm bz bX x hb q li hg hm hK hop hopi
  go_enter Tryd.func15, Tryd.ntmps15
  go_wp2_with fail
  refine (may_any m.p m.o m.r m.c _ HQ.out.c.1 HQ.out.c.2.1 HQ.out.c.2.2.1 HQ.out.c.2.2.2).mono ?_; rw [HMY.out]; rintro e w2 ⟨rfl, hw2⟩
  have b2 : Below X.heap.size X w2 := hw2 ▸ below_alloc _ _
  have HX := hide (HX0.out.grow b2)
  have HB := hide (HB0.out.carry b2)
  have HM := hide (HM0.out.grow b2)
  have HZ := hide (HZ0.out.grow b2)
  have HBX := hide (below_one HBX0.out b2)
  clear b2 hw2 k0 k1 k2 k3 k4 k5 k6 k7 k8 k9 k10 hX HX0 HB0 HM0 HZ0 HBX0
  obtain ⟨k0, k1, k2, k3, k4, k5, k6, k7, k8, k9, k10⟩ := HM.out.all
  go_wp2_with fail
  refine (tb_info ⟨m.p, m.o, m.r, m.c⟩ _ HX.out HQ.out.c (by have := HLI.out.el; omega) K HK.out).mono ?_; rw [HEV.out, HLV.out, HER.out]; rintro e w3 ⟨rfl, E⟩
  have kh := HX.out.kh E
  have HM3 := hide (HM.out.kh kh)
  have HZ3 := hide (HZ.out.kh kh)
  have HE3 := hide (E.from HBX.out)
  have HB3 := hide (Bts.sv HB.out HQ.out.d HX.out E)
  have HN3 := hide E
  clear kh E k0 k1 k2 k3 k4 k5 k6 k7 k8 k9 k10
  obtain ⟨k0, k1, k2, k3, k4, k5, k6, k7, k8, k9, k10⟩ := HM3.out.all
  by_cases h0 : K.e = 0
  · obtain rfl : er = .nilIface := by rw [← HER.out, h0]; rfl
    have e1 := HEV.out
    have e2 := HLV.out
    rw [if_pos h0] at e1 e2
    have eb : (s.T K.k).e ≤ 9223372036854775806 := HLI.out.ep K.k
    have lb : (s.T K.k).l ≤ 24 := (HX.out.od.tb.ok K.k).2
    obtain ⟨en, hen⟩ : ∃ en, (s.T K.k).e = en := ⟨_, rfl⟩
    obtain ⟨ln, hln⟩ : ∃ ln, (s.T K.k).l = ln := ⟨_, rfl⟩
    rw [hen] at e1 eb
    rw [hln] at e2 lb
    subst e1 e2
    have eb1 : (en : Int) ≤ 9223372036854775806 := by omega
    have eb0 : (0 : Int) ≤ (en : Int) := by omega
    have lb1 : (ln : Int) ≤ 24 := by omega
    have lb0 : (0 : Int) ≤ (ln : Int) := by omega
    have hw1 : IntKind.u64.wrap (en : Int) = (en : Int) := by rw [IntKind.wrap_u64]; omega
    have hw2 : IntKind.u64.wrap (ln : Int) = (ln : Int) := by rw [IntKind.wrap_u64]; omega
    obtain ⟨a, ha⟩ : ∃ a, (en * 4294967296 + ln) % 18446744073709551616 = a := ⟨_, rfl⟩
    have hw3 : IntKind.u64.wrap (IntKind.u64.wrap ((en : Int) * 4294967296) + (ln : Int)) = (a : Int) := by rw [arI_eq, ha]
    have HAA : Hid (infF s K = ⟨0, Cp.zero, a, false, s.tab K.t K.es s.T⟩) := by show infF s K = _; unfold infF arI; rw [if_pos h0, h0, hen, hln, ha]
    obtain rfl : RR = ⟨0, Cp.zero, a, false, s.tab K.t K.es s.T⟩ := HRO.out.symm.trans HAA.out
    go_wp2_with fail
    obtain ⟨m2, h2⟩ : ∃ m2, (⟨m.rp, m.ta, m.id, m.op, 0, 0, 0, 0, 0, a⟩ : Msg) = m2 := ⟨_, rfl⟩
    refine (answer_any m (.slice so sn sc) (0) (0) (0) (0) (0) (a) none 0 0 [] _ (by omega) (bts_nil _) (by omega) m2 h2).mono ?_; rintro e w6 ⟨co2, cc2, rfl, B6, N6, b6⟩
    have HB6 := hide B6
    have HZ6 := hide (HZ3.out.grow b6)
    have HE6 := hide (HE3.out.to b6)
    have HN6 := hide N6
    have HS6 : Hid (w.heap.size + 1 < w3.heap.size) := lt_of_heap HZ3.out
    have HM2 : Hid (m2 = rplF m ⟨0, Cp.zero, a, false, s.tab K.t K.es s.T⟩) := by show m2 = rplF m _; unfold rplF; rw [if_pos rfl, ← h2]; rfl
    have HDT : Hid (datF ⟨0, Cp.zero, a, false, s.tab K.t K.es s.T⟩ l = []) := by show datF _ l = _; unfold datF; rw [if_neg (fun e => by cases e.2)]
    clear B6 N6 b6 h2 k0 k1 k2 k3 k4 k5 k6 k7 k8 k9 k10 hw1 hw2 hw3 eb eb1 eb0 lb lb1 lb0
    have HZL := hide (HZ6.out.lay (m := m2) (D := .slice co2 0 cc2))
    have f7 := foot_lay11 w6 (w.heap.size + 1) m2 (.slice co2 0 cc2)
    have HE7 := hide (HE6.out.msg HW0.out HZ6.out (by omega) f7)
    have HB7 := hide (Bts.foot HB6.out f7 (fun ad e _ (h : ad.block = w.heap.size + 1) => by have := HN6.out ad e; have := HS6.out; omega))
    obtain ⟨w7, hw7⟩ : ∃ w7, lay11 w6 (w.heap.size + 1) m2 (.slice co2 0 cc2) = w7 := ⟨_, rfl⟩
    rw [hw7] at HZL HE7 HB7
    unfold lay11 at hw7
    clear f7
    obtain ⟨v0, v1, v2, v3, v4, v5, v6, v7, v8, v9, v10⟩ := HZL.out.all
    obtain ⟨z0, z1, z2, z3, z4, z5, z6, z7, z8, z9, z10⟩ := HZ6.out.all
    have x0 := HZ6.out.z 0
    have x1 := HZ6.out.z 1
    have x2 := HZ6.out.z 2
    have x3 := HZ6.out.z 3
    have x4 := HZ6.out.z 4
    have x5 := HZ6.out.z 5
    have x6 := HZ6.out.z 6
    have x7 := HZ6.out.z 7
    have x8 := HZ6.out.z 8
    have x9 := HZ6.out.z 9
    have x10 := HZ6.out.z 10
    go_wp2
    refine bodyPost_ret (by simp [results, Tryd.results15, go_sem, v0, v1, v2, v3, v4, v5, v6, v7, v8, v9, v10]; rfl) rfl ?_
    refine ⟨m2, co2, 0, cc2, HM2.out, rfl, ?_, .inr (HN6.out.le (by have := HS6.out; omega)), HE7.out⟩
    rw [HDT.out]; exact HB7.out
  · have HE0 : Hid (K.e ≠ 0) := h0
    have HEL : Hid (K.e ≤ 65535) := by have := chk_err ws s.t s.es p s.T ⟨m.p, m.o, m.r, m.c⟩ (0); rw [HK.out] at this; show K.e ≤ 65535; omega
    have HAA : Hid (infF s K = badF (s.tab K.t K.es s.T) K.e) := by show infF s K = _; unfold infF badF; rw [if_neg h0]
    obtain rfl : RR = badF (s.tab K.t K.es s.T) K.e := HRO.out.symm.trans HAA.out
    obtain ⟨m2, h2⟩ : ∃ m2, (⟨m.rp, m.ta, m.id, m.op, K.e, 0, 0, 0, 0, 0⟩ : Msg) = m2 := ⟨_, rfl⟩
    have hf := fun W (hM : MB W w.heap.size m (.slice so sn sc)) hW => wfail_any m (.slice so sn sc) (K.e) W hM (HEL.out) hW m2 h2
    rw [HER.out] at hf
    obtain ⟨tE, hE⟩ : ∃ v, er = .iface 61 v := ⟨_, by rw [← HER.out]; exact erN_not (by have := HE0.out; omega)⟩
    subst hE
    have HF := hide hf
    clear hf
    go_wp2_with fail
    refine (HF.out _ HM3.out (HE3.out.glob HG.out)).mono ?_; rintro e w6 ⟨co2, cc2, rfl, B6, b6⟩
    have HB6 := hide B6
    have HZ6 := hide (HZ3.out.grow b6)
    have HE6 := hide (HE3.out.to b6)
    have HM2 : Hid (m2 = rplF m (badF (s.tab K.t K.es s.T) K.e)) := by show m2 = rplF m (badF (s.tab K.t K.es s.T) K.e); unfold rplF badF; rw [if_neg (by have := HE0.out; exact this), ← h2]
    have HDT : Hid (datF (badF (s.tab K.t K.es s.T) K.e) l = []) := by show datF (badF (s.tab K.t K.es s.T) K.e) l = _; unfold datF badF; rw [if_neg (fun e => HE0.out e.1)]
    clear B6 b6 h2 k0 k1 k2 k3 k4 k5 k6 k7 k8 k9 k10
    have HZL := hide (HZ6.out.lay (m := m2) (D := .slice co2 0 cc2))
    have f7 := foot_lay11 w6 (w.heap.size + 1) m2 (.slice co2 0 cc2)
    have HE7 := hide (HE6.out.msg HW0.out HZ6.out (by omega) f7)
    have HB7 : Hid (Bts (lay11 w6 (w.heap.size + 1) m2 (.slice co2 0 cc2)) co2 0 cc2 []) := bts_none HB6.out
    obtain ⟨w7, hw7⟩ : ∃ w7, lay11 w6 (w.heap.size + 1) m2 (.slice co2 0 cc2) = w7 := ⟨_, rfl⟩
    rw [hw7] at HZL HE7 HB7
    unfold lay11 at hw7
    clear f7
    obtain ⟨v0, v1, v2, v3, v4, v5, v6, v7, v8, v9, v10⟩ := HZL.out.all
    obtain ⟨z0, z1, z2, z3, z4, z5, z6, z7, z8, z9, z10⟩ := HZ6.out.all
    have x0 := HZ6.out.z 0
    have x1 := HZ6.out.z 1
    have x2 := HZ6.out.z 2
    have x3 := HZ6.out.z 3
    have x4 := HZ6.out.z 4
    have x5 := HZ6.out.z 5
    have x6 := HZ6.out.z 6
    have x7 := HZ6.out.z 7
    have x8 := HZ6.out.z 8
    have x9 := HZ6.out.z 9
    have x10 := HZ6.out.z 10
    go_wp2
    refine bodyPost_ret (by simp [results, Tryd.results15, go_sem, v0, v1, v2, v3, v4, v5, v6, v7, v8, v9, v10]; rfl) rfl ?_
    refine ⟨m2, co2, 0, cc2, HM2.out, rfl, ?_, .inl HDT.out, HE7.out⟩
    rw [HDT.out]; exact HB7.out
end
end Go.Proofs.YtjpgfldppepmiaaDoor
namespace Go.Proofs.YtjpgfldppepmiaaDoor
section
open Go.RowKit
variable {w0 w w1 w2 w' : World} {A A' : Ad} {p : Nat} {ws : List Nat} {s s' s1 : Hs} {r g sb : Nat}
set_option maxRecDepth 20000 in
set_option maxHeartbeats 6400000 in
theorem want_touch (m : Msg) (so : Option Addr) (sn sc : Nat) (l : List UInt8) (w : World) (x : Sv w0 w A p ws s) (hb : Bts w so sn sc l) (q : Okm w0 m so sn) (li : Lim s) (hg : Glob w0) (hm : mayC ⟨m.p, m.o, m.r, m.c⟩ = true) (hop : m.op = 2) (K : Chk) (hK : chkF ws s.t s.es p s.T ⟨m.p, m.o, m.r, m.c⟩ 0 = K) :
    Calls Tryd.prog 15 #[.pointer (some ⟨A.g, 0, none⟩), .pointer (some ⟨A.sb, 0, none⟩), .agg #[.int .u64 m.ta, .int .u64 m.rp, .int .u32 m.id, .int .u16 m.op, .int .u16 m.st, .int .u64 m.p, .int .u32 m.o, .int .u8 m.r, .int .u64 m.c, .int .u64 m.ar, .slice so sn sc]] w fun e w' => RplEnd w0 w A p ws m (badF (s.tab K.t K.es (touT s.T K)) K.e) l e w' := by
  have hmf : ∀ (fn : Fn) (first cap : Array Value) (w : World), (Instr.makeFunc fn first cap).run Tryd.prog w = .ok (.func fn first cap) w := fun _ _ _ _ => rfl
  obtain ⟨X, hX, bm, bz, bX⟩ := rep_vars w m (.slice so sn sc)
  have HX0 := hide (x.grow bX)
  have HB0 := hide (hb.carry bX)
  have HM0 := hide bm
  have HZ0 := hide bz
  have HBX0 := hide bX
  have HW0 : Hid (w0.heap.size ≤ w.heap.size) := x.bel.size
  have HQ := hide q
  have HLI := hide li
  have HG := hide hg
  have HMY : Hid (decide (m.p ≤ 281474976710655 ∧ m.o ≤ 16777215 ∧ m.c ≤ 281474976710655) = true) := hm
  have HK := hide hK
  have hopi : ((m.op : Int)) = 2 := by omega
  have HOP := hide hopi
  have n1 : ((m.op : Int) == 1) = false := by rw [hopi]; rfl
  have n2 : ((m.op : Int) == 2) = true := by rw [hopi]; rfl
  have n3 : ((m.op : Int) == 3) = false := by rw [hopi]; rfl
  have n4 : ((m.op : Int) == 4) = false := by rw [hopi]; rfl
  have n5 : ((m.op : Int) == 5) = false := by rw [hopi]; rfl
  obtain ⟨er, her⟩ : ∃ er, erN (K.e : Int) = er := ⟨_, rfl⟩
  have HER := hide her
  clear her
  obtain ⟨k0, k1, k2, k3, k4, k5, k6, k7, k8, k9, k10⟩ := bm.all
  clear bm bz bX x hb q li hg hm hK hop hopi
  go_enter Tryd.func15, Tryd.ntmps15
  go_wp2_with fail
  refine (may_any m.p m.o m.r m.c _ HQ.out.c.1 HQ.out.c.2.1 HQ.out.c.2.2.1 HQ.out.c.2.2.2).mono ?_; rw [HMY.out]; rintro e w2 ⟨rfl, hw2⟩
  have b2 : Below X.heap.size X w2 := hw2 ▸ below_alloc _ _
  have HX := hide (HX0.out.grow b2)
  have HB := hide (HB0.out.carry b2)
  have HM := hide (HM0.out.grow b2)
  have HZ := hide (HZ0.out.grow b2)
  have HBX := hide (below_one HBX0.out b2)
  clear b2 hw2 k0 k1 k2 k3 k4 k5 k6 k7 k8 k9 k10 hX HX0 HB0 HM0 HZ0 HBX0
  obtain ⟨k0, k1, k2, k3, k4, k5, k6, k7, k8, k9, k10⟩ := HM.out.all
  have HEL : Hid (K.e ≤ 65535) := by have := chk_err ws s.t s.es p s.T ⟨m.p, m.o, m.r, m.c⟩ (0); rw [HK.out] at this; show K.e ≤ 65535; omega
  go_wp2_with fail
  clear k0 k1 k2 k3 k4 k5 k6 k7 k8 k9 k10
  have hS : Hid ((w2.drew.cell? ⟨w.heap.size, 0, none⟩ = some (.int .u64 m.ta) ∧ w2.drew.cell? ⟨w.heap.size, 1, none⟩ = some (.int .u64 m.rp) ∧ w2.drew.cell? ⟨w.heap.size, 2, none⟩ = some (.int .u32 m.id) ∧ w2.drew.cell? ⟨w.heap.size, 3, none⟩ = some (.int .u16 m.op) ∧ w2.drew.cell? ⟨w.heap.size, 4, none⟩ = some (.int .u16 m.st) ∧ w2.drew.cell? ⟨w.heap.size, 5, none⟩ = some (.int .u64 m.p) ∧ w2.drew.cell? ⟨w.heap.size, 6, none⟩ = some (.int .u32 m.o) ∧ w2.drew.cell? ⟨w.heap.size, 7, none⟩ = some (.int .u8 m.r) ∧ w2.drew.cell? ⟨w.heap.size, 8, none⟩ = some (.int .u64 m.c) ∧ w2.drew.cell? ⟨w.heap.size, 9, none⟩ = some (.int .u64 m.ar) ∧ w2.drew.cell? ⟨w.heap.size, 10, none⟩ = some (.slice so sn sc))) := HM.out.all
  refine wp_region_held_drew (S := fun U => (U.cell? ⟨w.heap.size, 0, none⟩ = some (.int .u64 m.ta) ∧ U.cell? ⟨w.heap.size, 1, none⟩ = some (.int .u64 m.rp) ∧ U.cell? ⟨w.heap.size, 2, none⟩ = some (.int .u32 m.id) ∧ U.cell? ⟨w.heap.size, 3, none⟩ = some (.int .u16 m.op) ∧ U.cell? ⟨w.heap.size, 4, none⟩ = some (.int .u16 m.st) ∧ U.cell? ⟨w.heap.size, 5, none⟩ = some (.int .u64 m.p) ∧ U.cell? ⟨w.heap.size, 6, none⟩ = some (.int .u32 m.o) ∧ U.cell? ⟨w.heap.size, 7, none⟩ = some (.int .u8 m.r) ∧ U.cell? ⟨w.heap.size, 8, none⟩ = some (.int .u64 m.c) ∧ U.cell? ⟨w.heap.size, 9, none⟩ = some (.int .u64 m.ar) ∧ U.cell? ⟨w.heap.size, 10, none⟩ = some (.slice so sn sc))) (by kernel_rfl) hS.out (fun _ => ?_)
  refine wpAnyH_take (i := 0) (oi := { dst := some 61, op := Op.load 49 (Operand.tmp 5), type := 49, pos := "law.go:89", after := #[], guard := none }) (v := (.agg #[.int .u64 (m.ta : Int), .int .u64 (m.rp : Int), .int .u32 (m.id : Int), .int .u16 (m.op : Int), .int .u16 (m.st : Int), .int .u64 (m.p : Int), .int .u32 (m.o : Int), .int .u8 (m.r : Int), .int .u64 (m.c : Int), .int .u64 (m.ar : Int), .slice so sn sc])) rfl (by kernel_rfl) (by kernel_rfl) (by kernel_rfl) (fun _ _ _ h => h) (Or.inl ⟨by kernel_rfl, fun w hC => by (obtain ⟨j0, j1, j2, j3, j4, j5, j6, j7, j8, j9, j10⟩ := hC; go_simp)⟩) hS.out ?_
  simp only [Act.put, List.setIfInBounds_toArray, List.set_cons_zero, List.set_cons_succ]
  refine wpAnyH_take (i := 1) (oi := { dst := some 62, op := Op.move (Operand.tmp 0), type := 25, pos := "law.go:89", after := #[], guard := none }) (v := (.pointer (some ⟨A.g, 0, none⟩))) rfl (by kernel_rfl) (by kernel_rfl) (by kernel_rfl) (fun _ _ _ h => h) (Or.inl ⟨by kernel_rfl, fun w hC => by go_simp⟩) hS.out ?_
  simp only [Act.put, List.setIfInBounds_toArray, List.set_cons_zero, List.set_cons_succ]
  refine wpAnyH_take (i := 2) (oi := { dst := some 63, op := Op.fieldAddr 49 (Operand.tmp 5) 5, type := 0, pos := "law.go:89", after := #[], guard := none }) (v := (.pointer (some ⟨w.heap.size, 5, none⟩))) rfl (by kernel_rfl) (by kernel_rfl) (by kernel_rfl) (fun _ _ _ h => h) (Or.inl ⟨by kernel_rfl, fun w hC => by go_simp⟩) hS.out ?_
  simp only [Act.put, List.setIfInBounds_toArray, List.set_cons_zero, List.set_cons_succ]
  refine wpAnyH_take (i := 3) (oi := { dst := some 64, op := Op.load 41 (Operand.tmp 63), type := 41, pos := "law.go:89", after := #[{ on := 2, ground := Ground.data }], guard := none }) (v := (.agg #[.int .u64 (m.p : Int), .int .u32 (m.o : Int), .int .u8 (m.r : Int), .int .u64 (m.c : Int)])) rfl (by kernel_rfl) (by kernel_rfl) (by kernel_rfl) (fun _ _ _ h => h) (Or.inl ⟨by kernel_rfl, fun w hC => by (obtain ⟨j0, j1, j2, j3, j4, j5, j6, j7, j8, j9, j10⟩ := hC; go_simp)⟩) hS.out ?_
  simp only [Act.put, List.setIfInBounds_toArray, List.set_cons_zero, List.set_cons_succ]
  refine wpAnyH_take (i := 6) (oi := { dst := some 67, op := Op.build 41 #[], type := 41, pos := "law.go:89", after := #[], guard := none }) (v := (.agg #[.int .u64 0, .int .u32 0, .int .u8 0, .int .u64 0])) rfl (by kernel_rfl) (by kernel_rfl) (by kernel_rfl) (fun _ _ _ h => h) (Or.inl ⟨by kernel_rfl, fun w hC => by go_simp⟩) hS.out ?_
  simp only [Act.put, List.setIfInBounds_toArray, List.set_cons_zero, List.set_cons_succ]
  refine wpAnyH_ready (rs := [4]) (by kernel_rfl) (by simp) ?_
  refine AllReadyH.cons (o := { dst := some 65, op := Op.call { callee := Callee.value (Operand.func 34), args := #[Operand.tmp 62, Operand.tmp 64], argTypes := #[25, 41] }, type := 43, pos := "law.go:89", after := #[{ on := 1, ground := Ground.data }, { on := 3, ground := Ground.data }], guard := none }) rfl (fun KK hKK => ?_) AllReadyH.nil
  go_simp
  refine (tb_touch ⟨m.p, m.o, m.r, m.c⟩ _ (HX.out.drewN 1) HQ.out.c (by have := HLI.out.el; omega) K HK.out).mono ?_; rw [HER.out]; rintro e w3 ⟨rfl, E⟩
  have kh := (HX.out.drewN 1).kh E
  have HM3 := hide ((show MB w2.drew _ _ _ from HM.out).kh kh)
  have HZ3 := hide ((show MB w2.drew _ _ _ from HZ.out).kh kh)
  have HE3 := hide (E.from (below_one HBX.out (below_d w2 1)))
  clear kh E
  have hS : Hid ((w3.cell? ⟨w.heap.size, 0, none⟩ = some (.int .u64 m.ta) ∧ w3.cell? ⟨w.heap.size, 1, none⟩ = some (.int .u64 m.rp) ∧ w3.cell? ⟨w.heap.size, 2, none⟩ = some (.int .u32 m.id) ∧ w3.cell? ⟨w.heap.size, 3, none⟩ = some (.int .u16 m.op) ∧ w3.cell? ⟨w.heap.size, 4, none⟩ = some (.int .u16 m.st) ∧ w3.cell? ⟨w.heap.size, 5, none⟩ = some (.int .u64 m.p) ∧ w3.cell? ⟨w.heap.size, 6, none⟩ = some (.int .u32 m.o) ∧ w3.cell? ⟨w.heap.size, 7, none⟩ = some (.int .u8 m.r) ∧ w3.cell? ⟨w.heap.size, 8, none⟩ = some (.int .u64 m.c) ∧ w3.cell? ⟨w.heap.size, 9, none⟩ = some (.int .u64 m.ar) ∧ w3.cell? ⟨w.heap.size, 10, none⟩ = some (.slice so sn sc))) := HM3.out.all
  refine hKK.out _ _ hS.out (fun _ => ?_)
  clear hKK
  refine wpAnyH_ready (rs := [5]) (by kernel_rfl) (by simp) ?_
  refine AllReadyH.cons (o := { dst := some 66, op := Op.call { callee := Callee.value (Operand.func 33), args := #[Operand.tmp 65], argTypes := #[43] }, type := 61, pos := "law.go:89", after := #[{ on := 4, ground := Ground.data }, { on := 4, ground := Ground.chain }], guard := none }) rfl (fun KK hKK => ?_) AllReadyH.nil
  go_simp
  have hnum := number_any (K.e : Int) w3 (HE3.out.glob HG.out)
  rw [HER.out] at hnum
  refine hnum.mono ?_; rintro e w4 ⟨rfl, b4⟩
  have HM4 := hide (HM3.out.grow b4)
  have HZ4 := hide (HZ3.out.grow b4)
  have HE4 := hide (HE3.out.to b4)
  clear b4 hnum
  have hS : Hid ((w4.cell? ⟨w.heap.size, 0, none⟩ = some (.int .u64 m.ta) ∧ w4.cell? ⟨w.heap.size, 1, none⟩ = some (.int .u64 m.rp) ∧ w4.cell? ⟨w.heap.size, 2, none⟩ = some (.int .u32 m.id) ∧ w4.cell? ⟨w.heap.size, 3, none⟩ = some (.int .u16 m.op) ∧ w4.cell? ⟨w.heap.size, 4, none⟩ = some (.int .u16 m.st) ∧ w4.cell? ⟨w.heap.size, 5, none⟩ = some (.int .u64 m.p) ∧ w4.cell? ⟨w.heap.size, 6, none⟩ = some (.int .u32 m.o) ∧ w4.cell? ⟨w.heap.size, 7, none⟩ = some (.int .u8 m.r) ∧ w4.cell? ⟨w.heap.size, 8, none⟩ = some (.int .u64 m.c) ∧ w4.cell? ⟨w.heap.size, 9, none⟩ = some (.int .u64 m.ar) ∧ w4.cell? ⟨w.heap.size, 10, none⟩ = some (.slice so sn sc))) := HM4.out.all
  refine hKK.out _ _ hS.out (fun _ => ?_)
  clear hKK
  obtain ⟨m2, h2⟩ : ∃ m2, (⟨m.rp, m.ta, m.id, m.op, K.e, 0, 0, 0, 0, 0⟩ : Msg) = m2 := ⟨_, rfl⟩
  refine wpAnyH_ready (rs := [7]) (by kernel_rfl) (by simp) ?_
  refine AllReadyH.cons (o := { dst := some 68, op := Op.call { callee := Callee.value (Operand.func 29), args := #[Operand.tmp 61, Operand.tmp 66, Operand.tmp 67, Operand.const (Value.int IntKind.u64 0), Operand.const (Value.slice none 0 0)], argTypes := #[49, 61, 41, 27, 47] }, type := 49, pos := "law.go:89", after := #[{ on := 0, ground := Ground.data }, { on := 5, ground := Ground.data }, { on := 6, ground := Ground.data }, { on := 5, ground := Ground.chain }], guard := none }) rfl (fun KK hKK => ?_) AllReadyH.nil
  go_simp
  refine (answer_any m (.slice so sn sc) K.e 0 0 0 0 0 none 0 0 [] _ HEL.out (bts_nil _) (by omega) m2 h2).mono ?_; rintro e w6 ⟨co2, cc2, rfl, B6, N6, b6⟩
  have HB6 := hide B6
  have HM6 := hide (HM4.out.grow b6)
  have HZ6 := hide (HZ4.out.grow b6)
  have HE6 := hide (HE4.out.to b6)
  have HN6 := hide N6
  have HS6 : Hid (w.heap.size + 1 < w4.heap.size) := lt_of_heap HZ4.out
  clear B6 N6 b6
  have hS : Hid ((w6.cell? ⟨w.heap.size, 0, none⟩ = some (.int .u64 m.ta) ∧ w6.cell? ⟨w.heap.size, 1, none⟩ = some (.int .u64 m.rp) ∧ w6.cell? ⟨w.heap.size, 2, none⟩ = some (.int .u32 m.id) ∧ w6.cell? ⟨w.heap.size, 3, none⟩ = some (.int .u16 m.op) ∧ w6.cell? ⟨w.heap.size, 4, none⟩ = some (.int .u16 m.st) ∧ w6.cell? ⟨w.heap.size, 5, none⟩ = some (.int .u64 m.p) ∧ w6.cell? ⟨w.heap.size, 6, none⟩ = some (.int .u32 m.o) ∧ w6.cell? ⟨w.heap.size, 7, none⟩ = some (.int .u8 m.r) ∧ w6.cell? ⟨w.heap.size, 8, none⟩ = some (.int .u64 m.c) ∧ w6.cell? ⟨w.heap.size, 9, none⟩ = some (.int .u64 m.ar) ∧ w6.cell? ⟨w.heap.size, 10, none⟩ = some (.slice so sn sc))) := HM6.out.all
  refine hKK.out _ _ hS.out (fun _ => ?_)
  clear hKK
  have HM2 : Hid (m2 = rplF m (badF (s.tab K.t K.es (touT s.T K)) K.e)) := by
    show m2 = rplF m _
    unfold rplF badF
    by_cases h0 : K.e = 0
    · rw [if_pos h0, ← h2, h0]; rfl
    · rw [if_neg h0, ← h2]
  have HDT : Hid (datF (badF (s.tab K.t K.es (touT s.T K)) K.e) l = []) := by show datF _ l = _; unfold datF badF; rw [if_neg (fun e => by cases e.2)]
  clear h2
  have HZL := hide (HZ6.out.lay (m := m2) (D := .slice co2 0 cc2))
  have f7 := foot_lay11 w6 (w.heap.size + 1) m2 (.slice co2 0 cc2)
  have HE7 := hide (HE6.out.msg HW0.out HZ6.out (by omega) f7)
  have HB7 := hide (Bts.foot HB6.out f7 (fun ad e _ (h : ad.block = w.heap.size + 1) => by have := HN6.out ad e; have := HS6.out; omega))
  have HM7 := hide (HM6.out.foot f7 (by show ¬ w.heap.size = w.heap.size + 1; omega))
  obtain ⟨w7, hw7⟩ : ∃ w7, lay11 w6 (w.heap.size + 1) m2 (.slice co2 0 cc2) = w7 := ⟨_, rfl⟩
  rw [hw7] at HZL HE7 HB7 HM7
  unfold lay11 at hw7
  clear f7
  obtain ⟨v0, v1, v2, v3, v4, v5, v6, v7, v8, v9, v10⟩ := HZL.out.all
  obtain ⟨z0, z1, z2, z3, z4, z5, z6, z7, z8, z9, z10⟩ := HZ6.out.all
  have x0 := HZ6.out.z 0
  have x1 := HZ6.out.z 1
  have x2 := HZ6.out.z 2
  have x3 := HZ6.out.z 3
  have x4 := HZ6.out.z 4
  have x5 := HZ6.out.z 5
  have x6 := HZ6.out.z 6
  have x7 := HZ6.out.z 7
  have x8 := HZ6.out.z 8
  have x9 := HZ6.out.z 9
  have x10 := HZ6.out.z 10
  refine wpAnyH_ready (rs := [8]) (by kernel_rfl) (by simp) ?_
  refine AllReadyH.cons (o := { dst := none, op := Op.store 49 (Operand.tmp 6) (Operand.tmp 68), type := 0, pos := "law.go:89", after := #[{ on := 7, ground := Ground.data }, { on := 7, ground := Ground.chain }, { on := 0, ground := Ground.phase }, { on := 1, ground := Ground.phase }, { on := 2, ground := Ground.phase }, { on := 3, ground := Ground.phase }, { on := 4, ground := Ground.phase }, { on := 5, ground := Ground.phase }, { on := 6, ground := Ground.phase }, { on := 7, ground := Ground.phase }], guard := none }) rfl (fun KK hKK => ?_) AllReadyH.nil
  go_simp
  have hS : Hid ((w7.cell? ⟨w.heap.size, 0, none⟩ = some (.int .u64 m.ta) ∧ w7.cell? ⟨w.heap.size, 1, none⟩ = some (.int .u64 m.rp) ∧ w7.cell? ⟨w.heap.size, 2, none⟩ = some (.int .u32 m.id) ∧ w7.cell? ⟨w.heap.size, 3, none⟩ = some (.int .u16 m.op) ∧ w7.cell? ⟨w.heap.size, 4, none⟩ = some (.int .u16 m.st) ∧ w7.cell? ⟨w.heap.size, 5, none⟩ = some (.int .u64 m.p) ∧ w7.cell? ⟨w.heap.size, 6, none⟩ = some (.int .u32 m.o) ∧ w7.cell? ⟨w.heap.size, 7, none⟩ = some (.int .u8 m.r) ∧ w7.cell? ⟨w.heap.size, 8, none⟩ = some (.int .u64 m.c) ∧ w7.cell? ⟨w.heap.size, 9, none⟩ = some (.int .u64 m.ar) ∧ w7.cell? ⟨w.heap.size, 10, none⟩ = some (.slice so sn sc))) := HM7.out.all
  refine hKK.out _ _ hS.out (fun _ => ?_)
  clear hKK
  refine wpAnyH_done (by kernel_rfl) ?_ _
  go_wp2
  refine bodyPost_ret (by simp [results, Tryd.results15, go_sem, v0, v1, v2, v3, v4, v5, v6, v7, v8, v9, v10]; rfl) rfl ?_
  refine ⟨m2, co2, 0, cc2, HM2.out, rfl, ?_, .inr (HN6.out.le (by have := HS6.out; omega)), HE7.out⟩
  rw [HDT.out]; exact HB7.out
end
end Go.Proofs.YtjpgfldppepmiaaDoor
namespace Go.Proofs.YtjpgfldppepmiaaDoor
section
open Go.RowKit
variable {w0 w w1 w2 w' : World} {A A' : Ad} {p : Nat} {ws : List Nat} {s s' s1 : Hs} {r g sb : Nat}
set_option maxRecDepth 20000 in
set_option maxHeartbeats 6400000 in
theorem want_restrict (m : Msg) (so : Option Addr) (sn sc : Nat) (l : List UInt8) (w : World) (x : Sv w0 w A p ws s) (hb : Bts w so sn sc l) (q : Okm w0 m so sn) (li : Lim s) (hg : Glob w0) (hm : mayC ⟨m.p, m.o, m.r, m.c⟩ = true) (hop : m.op = 3) (R : Cre) (hR : resF ws s.t s.es p s.T ⟨m.p, m.o, m.r, m.c⟩ (m.ar % 256) = R) :
    Calls Tryd.prog 15 #[.pointer (some ⟨A.g, 0, none⟩), .pointer (some ⟨A.sb, 0, none⟩), .agg #[.int .u64 m.ta, .int .u64 m.rp, .int .u32 m.id, .int .u16 m.op, .int .u16 m.st, .int .u64 m.p, .int .u32 m.o, .int .u8 m.r, .int .u64 m.c, .int .u64 m.ar, .slice so sn sc]] w fun e w' => RplEnd w0 w A p ws m ⟨R.e, R.c, 0, false, s.tab R.t R.es R.T⟩ l e w' := by
  have hmf : ∀ (fn : Fn) (first cap : Array Value) (w : World), (Instr.makeFunc fn first cap).run Tryd.prog w = .ok (.func fn first cap) w := fun _ _ _ _ => rfl
  obtain ⟨X, hX, bm, bz, bX⟩ := rep_vars w m (.slice so sn sc)
  have HX0 := hide (x.grow bX)
  have HB0 := hide (hb.carry bX)
  have HM0 := hide bm
  have HZ0 := hide bz
  have HBX0 := hide bX
  have HW0 : Hid (w0.heap.size ≤ w.heap.size) := x.bel.size
  have HQ := hide q
  have HLI := hide li
  have HG := hide hg
  have HMY : Hid (decide (m.p ≤ 281474976710655 ∧ m.o ≤ 16777215 ∧ m.c ≤ 281474976710655) = true) := hm
  have HRR := hide hR
  have hopi : ((m.op : Int)) = 3 := by omega
  have HOP := hide hopi
  have n1 : ((m.op : Int) == 1) = false := by rw [hopi]; rfl
  have n2 : ((m.op : Int) == 2) = false := by rw [hopi]; rfl
  have n3 : ((m.op : Int) == 3) = true := by rw [hopi]; rfl
  have n4 : ((m.op : Int) == 4) = false := by rw [hopi]; rfl
  have n5 : ((m.op : Int) == 5) = false := by rw [hopi]; rfl
  obtain ⟨RR, hRR⟩ : ∃ RR : Ro, ⟨R.e, R.c, 0, false, s.tab R.t R.es R.T⟩ = RR := ⟨_, rfl⟩
  rw [hRR]
  have HRO := hide hRR
  clear hRR
  have hRE : R.e ≤ 7 := by
    rw [← hR]
    unfold resF
    have := chk_err ws s.t s.es p s.T ⟨m.p, m.o, m.r, m.c⟩ 0
    split
    · simp only; split <;> omega
    · show (chkF _ _ _ _ _ _ _).e ≤ _; omega
  have HRE := hide hRE
  clear hRE
  obtain ⟨er, her⟩ : ∃ er, erN (R.e : Int) = er := ⟨_, rfl⟩
  have HER := hide her
  obtain ⟨q1, q2, q3, q4, hq⟩ : ∃ q1 q2 q3 q4, R.c = ⟨q1, q2, q3, q4⟩ := ⟨_, _, _, _, rfl⟩
  have HQC := hide hq
  have HCV : Hid (R.c.val = .agg #[.int .u64 (q1 : Int), .int .u32 (q2 : Int), .int .u8 (q3 : Int), .int .u64 (q4 : Int)]) := by show R.c.val = _; rw [hq]; rfl
  clear her hq
  obtain ⟨k0, k1, k2, k3, k4, k5, k6, k7, k8, k9, k10⟩ := bm.all
  clear bm bz bX x hb q li hg hm hR hop hopi
  go_enter Tryd.func15, Tryd.ntmps15
  go_wp2_with fail
  refine (may_any m.p m.o m.r m.c _ HQ.out.c.1 HQ.out.c.2.1 HQ.out.c.2.2.1 HQ.out.c.2.2.2).mono ?_; rw [HMY.out]; rintro e w2 ⟨rfl, hw2⟩
  have b2 : Below X.heap.size X w2 := hw2 ▸ below_alloc _ _
  have HX := hide (HX0.out.grow b2)
  have HB := hide (HB0.out.carry b2)
  have HM := hide (HM0.out.grow b2)
  have HZ := hide (HZ0.out.grow b2)
  have HBX := hide (below_one HBX0.out b2)
  clear b2 hw2 k0 k1 k2 k3 k4 k5 k6 k7 k8 k9 k10 hX HX0 HB0 HM0 HZ0 HBX0
  obtain ⟨k0, k1, k2, k3, k4, k5, k6, k7, k8, k9, k10⟩ := HM.out.all
  have hu8 : IntKind.u8.wrap ((m.ar : Int) % 256) = ((m.ar % 256 : Nat) : Int) := by rw [IntKind.wrap_u8]; omega
  have ha0 : (0 : Int) ≤ (m.ar : Int) := by omega
  obtain ⟨w3, hw3⟩ : ∃ w3, w2.alloc (.cells #[.int .u64 0, .int .u32 0, .int .u8 0, .int .u64 0] 41) = w3 := ⟨_, rfl⟩
  have b3 : Below w2.heap.size w2 w3 := hw3 ▸ below_alloc _ _
  obtain ⟨gc, hgc⟩ : ∃ gc, w2.heap.size = gc := ⟨_, rfl⟩
  have HC3 : Hid (CBox w3 gc 0 0 0 0) := by show CBox _ _ _ _ _ _; rw [← hgc, ← hw3]; exact CBox.new w2 0 0 0 0
  have HGC : Hid (w.heap.size ≤ gc) := by show _ ≤ _; rw [← hgc]; exact HBX.out.size
  have HX3 := hide (HX.out.grow b3)
  have HM3 := hide (HM.out.grow b3)
  have HZ3 := hide (HZ.out.grow b3)
  have HBX3 := hide (below_one HBX.out b3)
  have HGR : Hid (w.heap.size + 1 < gc) := by show _ < _; rw [← hgc]; exact lt_of_heap HZ.out
  clear b3 k0 k1 k2 k3 k4 k5 k6 k7 k8 k9 k10
  obtain ⟨k0, k1, k2, k3, k4, k5, k6, k7, k8, k9, k10⟩ := HM3.out.all
  obtain ⟨o0, o1, o2, o3, o4, o5, o6, o7, o8, o9, o10⟩ := HM.out.all
  go_wp2_with fail
  refine (tb_restrict ⟨m.p, m.o, m.r, m.c⟩ (m.ar % 256) _ HX3.out HQ.out.c (by omega) HLI.out.el R HRR.out).mono ?_; rw [HER.out, HCV.out]; rintro e w4 ⟨rfl, E⟩
  have kh := HX3.out.kh E
  have HM4 := hide (HM3.out.kh kh)
  have HZ4 := hide (HZ3.out.kh kh)
  have HC4 := hide (HC3.out.kh kh)
  have HE4 := hide (E.from HBX3.out)
  clear kh E hw3 o0 o1 o2 o3 o4 o5 o6 o7 o8 o9 o10 k0 k1 k2 k3 k4 k5 k6 k7 k8 k9 k10
  try rw [hgc]
  clear hgc
  have d0 := HC4.out.c0
  have d1 := HC4.out.c1
  have d2 := HC4.out.c2
  have d3 := HC4.out.c3
  have x0 := HC4.out.z
  have f9 := foot4 w4 gc (.int .u64 (q1 : Int)) (.int .u32 (q2 : Int)) (.int .u8 (q3 : Int)) (.int .u64 (q4 : Int))
  have HC9 := hide (put_box HC4.out q1 q2 q3 q4)
  have HM9 := hide (HM4.out.foot f9 (fun e => two_types HM4.out HC4.out (by decide) e))
  have HZ9 := hide (HZ4.out.foot f9 (fun e => two_types HZ4.out HC4.out (by decide) e))
  have HE9 := hide (HE4.out.cap HW0.out HC4.out HGC.out f9)
  obtain ⟨w9, hw9⟩ : ∃ w9, (((w4.setCell ⟨gc, 0, none⟩ (.int .u64 (q1 : Int))).setCell ⟨gc, 1, none⟩ (.int .u32 (q2 : Int))).setCell ⟨gc, 2, none⟩ (.int .u8 (q3 : Int))).setCell ⟨gc, 3, none⟩ (.int .u64 (q4 : Int)) = w9 := ⟨_, rfl⟩
  rw [hw9] at HC9 HM9 HZ9 HE9
  obtain ⟨k0, k1, k2, k3, k4, k5, k6, k7, k8, k9, k10⟩ := HM9.out.all
  clear f9
  have c0 := HC9.out.c0
  have c1 := HC9.out.c1
  have c2 := HC9.out.c2
  have c3 := HC9.out.c3
  by_cases h0 : R.e = 0
  · obtain rfl : er = .nilIface := by rw [← HER.out, h0]; rfl
    obtain rfl : RR = ⟨0, ⟨q1, q2, q3, q4⟩, 0, false, s.tab R.t R.es R.T⟩ := by rw [← HRO.out, h0, HQC.out]
    go_wp2_with fail
    obtain ⟨m2, h2⟩ : ∃ m2, (⟨m.rp, m.ta, m.id, m.op, 0, q1, q2, q3, q4, 0⟩ : Msg) = m2 := ⟨_, rfl⟩
    refine (answer_any m (.slice so sn sc) (0) (q1) (q2) (q3) (q4) (0) none 0 0 [] _ (by omega) (bts_nil _) (by omega) m2 h2).mono ?_; rintro e w6 ⟨co2, cc2, rfl, B6, N6, b6⟩
    have HB6 := hide B6
    have HZ6 := hide (HZ9.out.grow b6)
    have HE6 := hide (HE9.out.to b6)
    have HN6 := hide N6
    have HS6 : Hid (w.heap.size + 1 < w9.heap.size) := lt_of_heap HZ9.out
    have HM2 : Hid (m2 = rplF m ⟨0, ⟨q1, q2, q3, q4⟩, 0, false, s.tab R.t R.es R.T⟩) := by show m2 = rplF m _; unfold rplF; rw [if_pos rfl, ← h2]
    have HDT : Hid (datF ⟨0, ⟨q1, q2, q3, q4⟩, 0, false, s.tab R.t R.es R.T⟩ l = []) := by show datF _ l = _; unfold datF; rw [if_neg (fun e => by cases e.2)]
    clear B6 N6 b6 h2 k0 k1 k2 k3 k4 k5 k6 k7 k8 k9 k10 c0 c1 c2 c3 d0 d1 d2 d3 x0 hw9
    have HZL := hide (HZ6.out.lay (m := m2) (D := .slice co2 0 cc2))
    have f7 := foot_lay11 w6 (w.heap.size + 1) m2 (.slice co2 0 cc2)
    have HE7 := hide (HE6.out.msg HW0.out HZ6.out (by omega) f7)
    have HB7 := hide (Bts.foot HB6.out f7 (fun ad e _ (h : ad.block = w.heap.size + 1) => by have := HN6.out ad e; have := HS6.out; omega))
    obtain ⟨w7, hw7⟩ : ∃ w7, lay11 w6 (w.heap.size + 1) m2 (.slice co2 0 cc2) = w7 := ⟨_, rfl⟩
    rw [hw7] at HZL HE7 HB7
    unfold lay11 at hw7
    clear f7
    obtain ⟨v0, v1, v2, v3, v4, v5, v6, v7, v8, v9, v10⟩ := HZL.out.all
    obtain ⟨z0, z1, z2, z3, z4, z5, z6, z7, z8, z9, z10⟩ := HZ6.out.all
    have x0 := HZ6.out.z 0
    have x1 := HZ6.out.z 1
    have x2 := HZ6.out.z 2
    have x3 := HZ6.out.z 3
    have x4 := HZ6.out.z 4
    have x5 := HZ6.out.z 5
    have x6 := HZ6.out.z 6
    have x7 := HZ6.out.z 7
    have x8 := HZ6.out.z 8
    have x9 := HZ6.out.z 9
    have x10 := HZ6.out.z 10
    go_wp2
    refine bodyPost_ret (by simp [results, Tryd.results15, go_sem, v0, v1, v2, v3, v4, v5, v6, v7, v8, v9, v10]; rfl) rfl ?_
    refine ⟨m2, co2, 0, cc2, HM2.out, rfl, ?_, .inr (HN6.out.le (by have := HS6.out; omega)), HE7.out⟩
    rw [HDT.out]; exact HB7.out
  · have HE0 : Hid (R.e ≠ 0) := h0
    obtain rfl : RR = ⟨R.e, R.c, 0, false, s.tab R.t R.es R.T⟩ := HRO.out.symm
    have HEL : Hid (R.e ≤ 65535) := by show R.e ≤ _; have := HRE.out; omega
    obtain ⟨m2, h2⟩ : ∃ m2, (⟨m.rp, m.ta, m.id, m.op, R.e, 0, 0, 0, 0, 0⟩ : Msg) = m2 := ⟨_, rfl⟩
    have hf := fun W (hM : MB W w.heap.size m (.slice so sn sc)) hW => wfail_any m (.slice so sn sc) (R.e) W hM (HEL.out) hW m2 h2
    rw [HER.out] at hf
    obtain ⟨tE, hE⟩ : ∃ v, er = .iface 61 v := ⟨_, by rw [← HER.out]; exact erN_not (by have := HE0.out; omega)⟩
    subst hE
    have HF := hide hf
    clear hf
    go_wp2_with fail
    refine (HF.out _ HM9.out (HE9.out.glob HG.out)).mono ?_; rintro e w6 ⟨co2, cc2, rfl, B6, b6⟩
    have HB6 := hide B6
    have HZ6 := hide (HZ9.out.grow b6)
    have HE6 := hide (HE9.out.to b6)
    have HM2 : Hid (m2 = rplF m ⟨R.e, R.c, 0, false, s.tab R.t R.es R.T⟩) := by show m2 = rplF m ⟨R.e, R.c, 0, false, s.tab R.t R.es R.T⟩; unfold rplF; rw [if_neg (by have := HE0.out; exact this), ← h2]
    have HDT : Hid (datF ⟨R.e, R.c, 0, false, s.tab R.t R.es R.T⟩ l = []) := by show datF ⟨R.e, R.c, 0, false, s.tab R.t R.es R.T⟩ l = _; unfold datF; rw [if_neg (fun e => HE0.out e.1)]
    clear B6 b6 h2 k0 k1 k2 k3 k4 k5 k6 k7 k8 k9 k10 c0 c1 c2 c3 d0 d1 d2 d3 x0 hw9
    have HZL := hide (HZ6.out.lay (m := m2) (D := .slice co2 0 cc2))
    have f7 := foot_lay11 w6 (w.heap.size + 1) m2 (.slice co2 0 cc2)
    have HE7 := hide (HE6.out.msg HW0.out HZ6.out (by omega) f7)
    have HB7 : Hid (Bts (lay11 w6 (w.heap.size + 1) m2 (.slice co2 0 cc2)) co2 0 cc2 []) := bts_none HB6.out
    obtain ⟨w7, hw7⟩ : ∃ w7, lay11 w6 (w.heap.size + 1) m2 (.slice co2 0 cc2) = w7 := ⟨_, rfl⟩
    rw [hw7] at HZL HE7 HB7
    unfold lay11 at hw7
    clear f7
    obtain ⟨v0, v1, v2, v3, v4, v5, v6, v7, v8, v9, v10⟩ := HZL.out.all
    obtain ⟨z0, z1, z2, z3, z4, z5, z6, z7, z8, z9, z10⟩ := HZ6.out.all
    have x0 := HZ6.out.z 0
    have x1 := HZ6.out.z 1
    have x2 := HZ6.out.z 2
    have x3 := HZ6.out.z 3
    have x4 := HZ6.out.z 4
    have x5 := HZ6.out.z 5
    have x6 := HZ6.out.z 6
    have x7 := HZ6.out.z 7
    have x8 := HZ6.out.z 8
    have x9 := HZ6.out.z 9
    have x10 := HZ6.out.z 10
    go_wp2
    refine bodyPost_ret (by simp [results, Tryd.results15, go_sem, v0, v1, v2, v3, v4, v5, v6, v7, v8, v9, v10]; rfl) rfl ?_
    refine ⟨m2, co2, 0, cc2, HM2.out, rfl, ?_, .inl HDT.out, HE7.out⟩
    rw [HDT.out]; exact HB7.out
end
end Go.Proofs.YtjpgfldppepmiaaDoor
