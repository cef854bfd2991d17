/-
  What the statements' own 'want' answers, and what it leaves: Revoke.
  What the statements' own 'want' answers, and what it leaves: Destroy.
  What the statements' own 'want' answers, and what it leaves: Destroy of the first object.
  What the statements' own 'want' answers, and what it leaves: no operation.
  What the statements' own 'want' answers, and what it leaves: a capability that is not taken.
  What the statements' own 'want' answers, and what it leaves: the service's own.
  What the statements' own 'want' answers, and what it leaves: what the service can not do.
  What the statements' own 'want' answers, and what it leaves: all ways.
-/
import Derived.Test.YtjpgfldppepmiaaDoorJj
namespace Go.Proofs.YtjpgfldppepmiaaDoor
section
open Go.RowKit
variable {w0 w w1 w2 w' : World} {A A' : Ad} {p : Nat} {ws : List Nat} {s s' s1 : Hs} {r g sb : Nat}
set_option maxRecDepth 20000 in
set_option maxHeartbeats 6400000 in
theorem want_revoke (m : Msg) (so : Option Addr) (sn sc : Nat) (l : List UInt8) (w : World) (x : Sv w0 w A p ws s) (hb : Bts w so sn sc l) (q : Okm w0 m so sn) (li : Lim s) (hg : Glob w0) (hm : mayC ⟨m.p, m.o, m.r, m.c⟩ = true) (hop : m.op = 4) (R : Cre) (hR : revF ws s.t s.es p s.T ⟨m.p, m.o, m.r, m.c⟩ = R) :
    Calls Tryd.prog 15 #[.pointer (some ⟨A.g, 0, none⟩), .pointer (some ⟨A.sb, 0, none⟩), .agg #[.int .u64 m.ta, .int .u64 m.rp, .int .u32 m.id, .int .u16 m.op, .int .u16 m.st, .int .u64 m.p, .int .u32 m.o, .int .u8 m.r, .int .u64 m.c, .int .u64 m.ar, .slice so sn sc]] w fun e w' => RplEnd w0 w A p ws m ⟨R.e, R.c, 0, false, s.tab R.t R.es R.T⟩ l e w' := by
  have hmf : ∀ (fn : Fn) (first cap : Array Value) (w : World), (Instr.makeFunc fn first cap).run Tryd.prog w = .ok (.func fn first cap) w := fun _ _ _ _ => rfl
  obtain ⟨X, hX, bm, bz, bX⟩ := rep_vars w m (.slice so sn sc)
  have HX0 := hide (x.grow bX)
  have HB0 := hide (hb.carry bX)
  have HM0 := hide bm
  have HZ0 := hide bz
  have HBX0 := hide bX
  have HW0 : Hid (w0.heap.size ≤ w.heap.size) := x.bel.size
  have HQ := hide q
  have HLI := hide li
  have HG := hide hg
  have HMY : Hid (decide (m.p ≤ 281474976710655 ∧ m.o ≤ 16777215 ∧ m.c ≤ 281474976710655) = true) := hm
  have HRR := hide hR
  have hopi : ((m.op : Int)) = 4 := by omega
  have HOP := hide hopi
  have n1 : ((m.op : Int) == 1) = false := by rw [hopi]; rfl
  have n2 : ((m.op : Int) == 2) = false := by rw [hopi]; rfl
  have n3 : ((m.op : Int) == 3) = false := by rw [hopi]; rfl
  have n4 : ((m.op : Int) == 4) = true := by rw [hopi]; rfl
  have n5 : ((m.op : Int) == 5) = false := by rw [hopi]; rfl
  obtain ⟨RR, hRR⟩ : ∃ RR : Ro, ⟨R.e, R.c, 0, false, s.tab R.t R.es R.T⟩ = RR := ⟨_, rfl⟩
  rw [hRR]
  have HRO := hide hRR
  clear hRR
  have hRE : R.e ≤ 7 := by
    rw [← hR]
    unfold revF
    have := chk_err ws s.t s.es p s.T ⟨m.p, m.o, m.r, m.c⟩ 255
    split
    · split <;> simp only <;> omega
    · show (chkF _ _ _ _ _ _ _).e ≤ _; omega
  have HRE := hide hRE
  clear hRE
  obtain ⟨er, her⟩ : ∃ er, erN (R.e : Int) = er := ⟨_, rfl⟩
  have HER := hide her
  obtain ⟨q1, q2, q3, q4, hq⟩ : ∃ q1 q2 q3 q4, R.c = ⟨q1, q2, q3, q4⟩ := ⟨_, _, _, _, rfl⟩
  have HQC := hide hq
  have HCV : Hid (R.c.val = .agg #[.int .u64 (q1 : Int), .int .u32 (q2 : Int), .int .u8 (q3 : Int), .int .u64 (q4 : Int)]) := by show R.c.val = _; rw [hq]; rfl
  clear her hq
  obtain ⟨k0, k1, k2, k3, k4, k5, k6, k7, k8, k9, k10⟩ := bm.all
  clear bm bz bX x hb q li hg hm hR hop hopi
  go_enter Tryd.func15, Tryd.ntmps15
  go_wp2_with fail
  refine (may_any m.p m.o m.r m.c _ HQ.out.c.1 HQ.out.c.2.1 HQ.out.c.2.2.1 HQ.out.c.2.2.2).mono ?_; rw [HMY.out]; rintro e w2 ⟨rfl, hw2⟩
  have b2 : Below X.heap.size X w2 := hw2 ▸ below_alloc _ _
  have HX := hide (HX0.out.grow b2)
  have HB := hide (HB0.out.carry b2)
  have HM := hide (HM0.out.grow b2)
  have HZ := hide (HZ0.out.grow b2)
  have HBX := hide (below_one HBX0.out b2)
  clear b2 hw2 k0 k1 k2 k3 k4 k5 k6 k7 k8 k9 k10 hX HX0 HB0 HM0 HZ0 HBX0
  obtain ⟨k0, k1, k2, k3, k4, k5, k6, k7, k8, k9, k10⟩ := HM.out.all
  obtain ⟨w3, hw3⟩ : ∃ w3, w2.alloc (.cells #[.int .u64 0, .int .u32 0, .int .u8 0, .int .u64 0] 41) = w3 := ⟨_, rfl⟩
  have b3 : Below w2.heap.size w2 w3 := hw3 ▸ below_alloc _ _
  obtain ⟨gc, hgc⟩ : ∃ gc, w2.heap.size = gc := ⟨_, rfl⟩
  have HC3 : Hid (CBox w3 gc 0 0 0 0) := by show CBox _ _ _ _ _ _; rw [← hgc, ← hw3]; exact CBox.new w2 0 0 0 0
  have HGC : Hid (w.heap.size ≤ gc) := by show _ ≤ _; rw [← hgc]; exact HBX.out.size
  have HX3 := hide (HX.out.grow b3)
  have HM3 := hide (HM.out.grow b3)
  have HZ3 := hide (HZ.out.grow b3)
  have HBX3 := hide (below_one HBX.out b3)
  have HGR : Hid (w.heap.size + 1 < gc) := by show _ < _; rw [← hgc]; exact lt_of_heap HZ.out
  clear b3 k0 k1 k2 k3 k4 k5 k6 k7 k8 k9 k10
  obtain ⟨k0, k1, k2, k3, k4, k5, k6, k7, k8, k9, k10⟩ := HM3.out.all
  obtain ⟨o0, o1, o2, o3, o4, o5, o6, o7, o8, o9, o10⟩ := HM.out.all
  go_wp2_with fail
  refine (tb_revoke ⟨m.p, m.o, m.r, m.c⟩ _ HX3.out HQ.out.c HLI.out.el HLI.out.ep R HRR.out).mono ?_; rw [HER.out, HCV.out]; rintro e w4 ⟨rfl, E⟩
  have kh := HX3.out.kh E
  have HM4 := hide (HM3.out.kh kh)
  have HZ4 := hide (HZ3.out.kh kh)
  have HC4 := hide (HC3.out.kh kh)
  have HE4 := hide (E.from HBX3.out)
  clear kh E hw3 o0 o1 o2 o3 o4 o5 o6 o7 o8 o9 o10 k0 k1 k2 k3 k4 k5 k6 k7 k8 k9 k10
  try rw [hgc]
  clear hgc
  have d0 := HC4.out.c0
  have d1 := HC4.out.c1
  have d2 := HC4.out.c2
  have d3 := HC4.out.c3
  have x0 := HC4.out.z
  have f9 := foot4 w4 gc (.int .u64 (q1 : Int)) (.int .u32 (q2 : Int)) (.int .u8 (q3 : Int)) (.int .u64 (q4 : Int))
  have HC9 := hide (put_box HC4.out q1 q2 q3 q4)
  have HM9 := hide (HM4.out.foot f9 (fun e => two_types HM4.out HC4.out (by decide) e))
  have HZ9 := hide (HZ4.out.foot f9 (fun e => two_types HZ4.out HC4.out (by decide) e))
  have HE9 := hide (HE4.out.cap HW0.out HC4.out HGC.out f9)
  obtain ⟨w9, hw9⟩ : ∃ w9, (((w4.setCell ⟨gc, 0, none⟩ (.int .u64 (q1 : Int))).setCell ⟨gc, 1, none⟩ (.int .u32 (q2 : Int))).setCell ⟨gc, 2, none⟩ (.int .u8 (q3 : Int))).setCell ⟨gc, 3, none⟩ (.int .u64 (q4 : Int)) = w9 := ⟨_, rfl⟩
  rw [hw9] at HC9 HM9 HZ9 HE9
  obtain ⟨k0, k1, k2, k3, k4, k5, k6, k7, k8, k9, k10⟩ := HM9.out.all
  clear f9
  have c0 := HC9.out.c0
  have c1 := HC9.out.c1
  have c2 := HC9.out.c2
  have c3 := HC9.out.c3
  by_cases h0 : R.e = 0
  · obtain rfl : er = .nilIface := by rw [← HER.out, h0]; rfl
    obtain rfl : RR = ⟨0, ⟨q1, q2, q3, q4⟩, 0, false, s.tab R.t R.es R.T⟩ := by rw [← HRO.out, h0, HQC.out]
    go_wp2_with fail
    obtain ⟨m2, h2⟩ : ∃ m2, (⟨m.rp, m.ta, m.id, m.op, 0, q1, q2, q3, q4, 0⟩ : Msg) = m2 := ⟨_, rfl⟩
    refine (answer_any m (.slice so sn sc) (0) (q1) (q2) (q3) (q4) (0) none 0 0 [] _ (by omega) (bts_nil _) (by omega) m2 h2).mono ?_; rintro e w6 ⟨co2, cc2, rfl, B6, N6, b6⟩
    have HB6 := hide B6
    have HZ6 := hide (HZ9.out.grow b6)
    have HE6 := hide (HE9.out.to b6)
    have HN6 := hide N6
    have HS6 : Hid (w.heap.size + 1 < w9.heap.size) := lt_of_heap HZ9.out
    have HM2 : Hid (m2 = rplF m ⟨0, ⟨q1, q2, q3, q4⟩, 0, false, s.tab R.t R.es R.T⟩) := by show m2 = rplF m _; unfold rplF; rw [if_pos rfl, ← h2]
    have HDT : Hid (datF ⟨0, ⟨q1, q2, q3, q4⟩, 0, false, s.tab R.t R.es R.T⟩ l = []) := by show datF _ l = _; unfold datF; rw [if_neg (fun e => by cases e.2)]
    clear B6 N6 b6 h2 k0 k1 k2 k3 k4 k5 k6 k7 k8 k9 k10 c0 c1 c2 c3 d0 d1 d2 d3 x0 hw9
    have HZL := hide (HZ6.out.lay (m := m2) (D := .slice co2 0 cc2))
    have f7 := foot_lay11 w6 (w.heap.size + 1) m2 (.slice co2 0 cc2)
    have HE7 := hide (HE6.out.msg HW0.out HZ6.out (by omega) f7)
    have HB7 := hide (Bts.foot HB6.out f7 (fun ad e _ (h : ad.block = w.heap.size + 1) => by have := HN6.out ad e; have := HS6.out; omega))
    obtain ⟨w7, hw7⟩ : ∃ w7, lay11 w6 (w.heap.size + 1) m2 (.slice co2 0 cc2) = w7 := ⟨_, rfl⟩
    rw [hw7] at HZL HE7 HB7
    unfold lay11 at hw7
    clear f7
    obtain ⟨v0, v1, v2, v3, v4, v5, v6, v7, v8, v9, v10⟩ := HZL.out.all
    obtain ⟨z0, z1, z2, z3, z4, z5, z6, z7, z8, z9, z10⟩ := HZ6.out.all
    have x0 := HZ6.out.z 0
    have x1 := HZ6.out.z 1
    have x2 := HZ6.out.z 2
    have x3 := HZ6.out.z 3
    have x4 := HZ6.out.z 4
    have x5 := HZ6.out.z 5
    have x6 := HZ6.out.z 6
    have x7 := HZ6.out.z 7
    have x8 := HZ6.out.z 8
    have x9 := HZ6.out.z 9
    have x10 := HZ6.out.z 10
    go_wp2
    refine bodyPost_ret (by simp [results, Tryd.results15, go_sem, v0, v1, v2, v3, v4, v5, v6, v7, v8, v9, v10]; rfl) rfl ?_
    refine ⟨m2, co2, 0, cc2, HM2.out, rfl, ?_, .inr (HN6.out.le (by have := HS6.out; omega)), HE7.out⟩
    rw [HDT.out]; exact HB7.out
  · have HE0 : Hid (R.e ≠ 0) := h0
    obtain rfl : RR = ⟨R.e, R.c, 0, false, s.tab R.t R.es R.T⟩ := HRO.out.symm
    have HEL : Hid (R.e ≤ 65535) := by show R.e ≤ _; have := HRE.out; omega
    obtain ⟨m2, h2⟩ : ∃ m2, (⟨m.rp, m.ta, m.id, m.op, R.e, 0, 0, 0, 0, 0⟩ : Msg) = m2 := ⟨_, rfl⟩
    have hf := fun W (hM : MB W w.heap.size m (.slice so sn sc)) hW => wfail_any m (.slice so sn sc) (R.e) W hM (HEL.out) hW m2 h2
    rw [HER.out] at hf
    obtain ⟨tE, hE⟩ : ∃ v, er = .iface 61 v := ⟨_, by rw [← HER.out]; exact erN_not (by have := HE0.out; omega)⟩
    subst hE
    have HF := hide hf
    clear hf
    go_wp2_with fail
    refine (HF.out _ HM9.out (HE9.out.glob HG.out)).mono ?_; rintro e w6 ⟨co2, cc2, rfl, B6, b6⟩
    have HB6 := hide B6
    have HZ6 := hide (HZ9.out.grow b6)
    have HE6 := hide (HE9.out.to b6)
    have HM2 : Hid (m2 = rplF m ⟨R.e, R.c, 0, false, s.tab R.t R.es R.T⟩) := by show m2 = rplF m ⟨R.e, R.c, 0, false, s.tab R.t R.es R.T⟩; unfold rplF; rw [if_neg (by have := HE0.out; exact this), ← h2]
    have HDT : Hid (datF ⟨R.e, R.c, 0, false, s.tab R.t R.es R.T⟩ l = []) := by show datF ⟨R.e, R.c, 0, false, s.tab R.t R.es R.T⟩ l = _; unfold datF; rw [if_neg (fun e => HE0.out e.1)]
    clear B6 b6 h2 k0 k1 k2 k3 k4 k5 k6 k7 k8 k9 k10 c0 c1 c2 c3 d0 d1 d2 d3 x0 hw9
    have HZL := hide (HZ6.out.lay (m := m2) (D := .slice co2 0 cc2))
    have f7 := foot_lay11 w6 (w.heap.size + 1) m2 (.slice co2 0 cc2)
    have HE7 := hide (HE6.out.msg HW0.out HZ6.out (by omega) f7)
    have HB7 : Hid (Bts (lay11 w6 (w.heap.size + 1) m2 (.slice co2 0 cc2)) co2 0 cc2 []) := bts_none HB6.out
    obtain ⟨w7, hw7⟩ : ∃ w7, lay11 w6 (w.heap.size + 1) m2 (.slice co2 0 cc2) = w7 := ⟨_, rfl⟩
    rw [hw7] at HZL HE7 HB7
    unfold lay11 at hw7
    clear f7
    obtain ⟨v0, v1, v2, v3, v4, v5, v6, v7, v8, v9, v10⟩ := HZL.out.all
    obtain ⟨z0, z1, z2, z3, z4, z5, z6, z7, z8, z9, z10⟩ := HZ6.out.all
    have x0 := HZ6.out.z 0
    have x1 := HZ6.out.z 1
    have x2 := HZ6.out.z 2
    have x3 := HZ6.out.z 3
    have x4 := HZ6.out.z 4
    have x5 := HZ6.out.z 5
    have x6 := HZ6.out.z 6
    have x7 := HZ6.out.z 7
    have x8 := HZ6.out.z 8
    have x9 := HZ6.out.z 9
    have x10 := HZ6.out.z 10
    go_wp2
    refine bodyPost_ret (by simp [results, Tryd.results15, go_sem, v0, v1, v2, v3, v4, v5, v6, v7, v8, v9, v10]; rfl) rfl ?_
    refine ⟨m2, co2, 0, cc2, HM2.out, rfl, ?_, .inl HDT.out, HE7.out⟩
    rw [HDT.out]; exact HB7.out
end
end Go.Proofs.YtjpgfldppepmiaaDoor
namespace Go.Proofs.YtjpgfldppepmiaaDoor
section
open Go.RowKit
variable {w0 w w1 w2 w' : World} {A A' : Ad} {p : Nat} {ws : List Nat} {s s' s1 : Hs} {r g sb : Nat}
set_option maxRecDepth 20000 in
set_option maxHeartbeats 6400000 in
theorem want_destroy (m : Msg) (so : Option Addr) (sn sc : Nat) (l : List UInt8) (w : World) (x : Sv w0 w A p ws s) (hb : Bts w so sn sc l) (q : Okm w0 m so sn) (li : Lim s) (hg : Glob w0) (hm : mayC ⟨m.p, m.o, m.r, m.c⟩ = true) (hop : m.op = 5) (ho : m.o ≠ 0) (K : Chk) (hK : chkF ws s.t s.es p s.T ⟨m.p, m.o, m.r, m.c⟩ 8 = K) :
    Calls Tryd.prog 15 #[.pointer (some ⟨A.g, 0, none⟩), .pointer (some ⟨A.sb, 0, none⟩), .agg #[.int .u64 m.ta, .int .u64 m.rp, .int .u32 m.id, .int .u16 m.op, .int .u16 m.st, .int .u64 m.p, .int .u32 m.o, .int .u8 m.r, .int .u64 m.c, .int .u64 m.ar, .slice so sn sc]] w fun e w' => RplEnd w0 w A p ws m (dstF s ⟨m.p, m.o, m.r, m.c⟩ K) l e w' := by
  have hmf : ∀ (fn : Fn) (first cap : Array Value) (w : World), (Instr.makeFunc fn first cap).run Tryd.prog w = .ok (.func fn first cap) w := fun _ _ _ _ => rfl
  obtain ⟨X, hX, bm, bz, bX⟩ := rep_vars w m (.slice so sn sc)
  have HX0 := hide (x.grow bX)
  have HB0 := hide (hb.carry bX)
  have HM0 := hide bm
  have HZ0 := hide bz
  have HBX0 := hide bX
  have HW0 : Hid (w0.heap.size ≤ w.heap.size) := x.bel.size
  have HQ := hide q
  have HLI := hide li
  have HG := hide hg
  have HMY : Hid (decide (m.p ≤ 281474976710655 ∧ m.o ≤ 16777215 ∧ m.c ≤ 281474976710655) = true) := hm
  have HK := hide hK
  have hopi : ((m.op : Int)) = 5 := by omega
  have HOP := hide hopi
  have HO := hide ho
  have hoi : ((m.o : Int) == 0) = false := by rw [beq_eq_false_iff_ne]; omega
  have n1 : ((m.op : Int) == 1) = false := by rw [hopi]; rfl
  have n2 : ((m.op : Int) == 2) = false := by rw [hopi]; rfl
  have n3 : ((m.op : Int) == 3) = false := by rw [hopi]; rfl
  have n4 : ((m.op : Int) == 4) = false := by rw [hopi]; rfl
  have n5 : ((m.op : Int) == 5) = true := by rw [hopi]; rfl
  obtain ⟨RR, hRR⟩ : ∃ RR : Ro, (dstF s ⟨m.p, m.o, m.r, m.c⟩ K) = RR := ⟨_, rfl⟩
  rw [hRR]
  have HRO := hide hRR
  clear hRR
  obtain ⟨er, her⟩ : ∃ er, erN (K.e : Int) = er := ⟨_, rfl⟩
  have HER := hide her
  obtain ⟨vl, hvl⟩ : ∃ vl : Int, (if K.e = 0 then (s.T K.k).v else 0) = vl := ⟨_, rfl⟩
  have HVL := hide hvl
  clear her hvl
  obtain ⟨k0, k1, k2, k3, k4, k5, k6, k7, k8, k9, k10⟩ := bm.all
  clear bm bz bX x hb q li hg hm hK hop hopi ho
  go_enter Tryd.func15, Tryd.ntmps15
  go_wp2_with fail
  refine (may_any m.p m.o m.r m.c _ HQ.out.c.1 HQ.out.c.2.1 HQ.out.c.2.2.1 HQ.out.c.2.2.2).mono ?_; rw [HMY.out]; rintro e w2 ⟨rfl, hw2⟩
  have b2 : Below X.heap.size X w2 := hw2 ▸ below_alloc _ _
  have HX := hide (HX0.out.grow b2)
  have HB := hide (HB0.out.carry b2)
  have HM := hide (HM0.out.grow b2)
  have HZ := hide (HZ0.out.grow b2)
  have HBX := hide (below_one HBX0.out b2)
  clear b2 hw2 k0 k1 k2 k3 k4 k5 k6 k7 k8 k9 k10 hX HX0 HB0 HM0 HZ0 HBX0
  obtain ⟨k0, k1, k2, k3, k4, k5, k6, k7, k8, k9, k10⟩ := HM.out.all
  go_wp2_with fail
  refine (tb_destroy ⟨m.p, m.o, m.r, m.c⟩ _ HX.out HQ.out.c (by have := HLI.out.el; omega) K HK.out).mono ?_; rw [HER.out, HVL.out]; rintro e w3 ⟨rfl, E⟩
  have kh := HX.out.kh E
  have HM3 := hide (HM.out.kh kh)
  have HZ3 := hide (HZ.out.kh kh)
  have HE3 := hide (E.from HBX.out)
  have HB3 := hide (Bts.sv HB.out HQ.out.d HX.out E)
  have HN3 := hide E
  clear kh E k0 k1 k2 k3 k4 k5 k6 k7 k8 k9 k10
  obtain ⟨k0, k1, k2, k3, k4, k5, k6, k7, k8, k9, k10⟩ := HM3.out.all
  by_cases h0 : K.e = 0
  · obtain rfl : er = .nilIface := by rw [← HER.out, h0]; rfl
    have hv : (s.T K.k).v = vl := by have := HVL.out; rw [if_pos h0] at this; exact this
    obtain rfl : RR = badF ⟨K.t, K.es, desT s.T K, s.D, s.G ++ [vl]⟩ 0 := HRO.out.symm.trans (by unfold dstF; rw [if_neg HO.out, if_pos h0, hv])
    obtain ⟨v, dv, nv, S1, on1⟩ := SvEnd.run HN3.out
    have HS1 := hide S1
    have HON := hide on1
    clear S1 on1 hv
    go_wp2_with fail
    refine (svc_gone vl _ (A := A.upd v dv nv) HS1.out HLI.out.gl).mono ?_; rintro e w4 ⟨rfl, E⟩
    have kh := HS1.out.kh E
    have HM4 := hide (HM3.out.kh kh)
    have HZ4 := hide (HZ3.out.kh kh)
    have HE4 := hide ((HON.out _ _ E).from HBX.out)
    clear kh E k0 k1 k2 k3 k4 k5 k6 k7 k8 k9 k10
    obtain ⟨k0, k1, k2, k3, k4, k5, k6, k7, k8, k9, k10⟩ := HM4.out.all
    go_wp2_with fail
    obtain ⟨m2, h2⟩ : ∃ m2, (⟨m.rp, m.ta, m.id, m.op, 0, 0, 0, 0, 0, 0⟩ : Msg) = m2 := ⟨_, rfl⟩
    refine (answer_any m (.slice so sn sc) (0) (0) (0) (0) (0) (0) none 0 0 [] _ (by omega) (bts_nil _) (by omega) m2 h2).mono ?_; rintro e w6 ⟨co2, cc2, rfl, B6, N6, b6⟩
    have HB6 := hide B6
    have HZ6 := hide (HZ4.out.grow b6)
    have HE6 := hide (HE4.out.to b6)
    have HN6 := hide N6
    have HS6 : Hid (w.heap.size + 1 < w4.heap.size) := lt_of_heap HZ4.out
    have HM2 : Hid (m2 = rplF m (badF ⟨K.t, K.es, desT s.T K, s.D, s.G ++ [vl]⟩ 0)) := by show m2 = rplF m _; unfold rplF badF; rw [if_pos rfl, ← h2]; rfl
    have HDT : Hid (datF (badF ⟨K.t, K.es, desT s.T K, s.D, s.G ++ [vl]⟩ 0) l = []) := by show datF _ l = _; unfold datF badF; rw [if_neg (fun e => by cases e.2)]
    clear B6 N6 b6 h2 k0 k1 k2 k3 k4 k5 k6 k7 k8 k9 k10
    have HZL := hide (HZ6.out.lay (m := m2) (D := .slice co2 0 cc2))
    have f7 := foot_lay11 w6 (w.heap.size + 1) m2 (.slice co2 0 cc2)
    have HE7 := hide (HE6.out.msg HW0.out HZ6.out (by omega) f7)
    have HB7 := hide (Bts.foot HB6.out f7 (fun ad e _ (h : ad.block = w.heap.size + 1) => by have := HN6.out ad e; have := HS6.out; omega))
    obtain ⟨w7, hw7⟩ : ∃ w7, lay11 w6 (w.heap.size + 1) m2 (.slice co2 0 cc2) = w7 := ⟨_, rfl⟩
    rw [hw7] at HZL HE7 HB7
    unfold lay11 at hw7
    clear f7
    obtain ⟨v0, v1, v2, v3, v4, v5, v6, v7, v8, v9, v10⟩ := HZL.out.all
    obtain ⟨z0, z1, z2, z3, z4, z5, z6, z7, z8, z9, z10⟩ := HZ6.out.all
    have x0 := HZ6.out.z 0
    have x1 := HZ6.out.z 1
    have x2 := HZ6.out.z 2
    have x3 := HZ6.out.z 3
    have x4 := HZ6.out.z 4
    have x5 := HZ6.out.z 5
    have x6 := HZ6.out.z 6
    have x7 := HZ6.out.z 7
    have x8 := HZ6.out.z 8
    have x9 := HZ6.out.z 9
    have x10 := HZ6.out.z 10
    go_wp2
    refine bodyPost_ret (by simp [results, Tryd.results15, go_sem, v0, v1, v2, v3, v4, v5, v6, v7, v8, v9, v10]; rfl) rfl ?_
    refine ⟨m2, co2, 0, cc2, HM2.out, rfl, ?_, .inr (HN6.out.le (by have := HS6.out; omega)), HE7.out⟩
    rw [HDT.out]; exact HB7.out
  · have HE0 : Hid (K.e ≠ 0) := h0
    have HEL : Hid (K.e ≤ 65535) := by have := chk_err ws s.t s.es p s.T ⟨m.p, m.o, m.r, m.c⟩ (8); rw [HK.out] at this; show K.e ≤ 65535; omega
    have hT : desT s.T K = s.T := by unfold desT; rw [if_neg h0]
    rw [hT] at HE3
    obtain rfl : RR = badF (s.tab K.t K.es s.T) K.e := HRO.out.symm.trans (by unfold dstF; rw [if_neg HO.out, if_neg h0])
    clear hT
    obtain ⟨m2, h2⟩ : ∃ m2, (⟨m.rp, m.ta, m.id, m.op, K.e, 0, 0, 0, 0, 0⟩ : Msg) = m2 := ⟨_, rfl⟩
    have hf := fun W (hM : MB W w.heap.size m (.slice so sn sc)) hW => wfail_any m (.slice so sn sc) (K.e) W hM (HEL.out) hW m2 h2
    rw [HER.out] at hf
    obtain ⟨tE, hE⟩ : ∃ v, er = .iface 61 v := ⟨_, by rw [← HER.out]; exact erN_not (by have := HE0.out; omega)⟩
    subst hE
    have HF := hide hf
    clear hf
    go_wp2_with fail
    refine (HF.out _ HM3.out (HE3.out.glob HG.out)).mono ?_; rintro e w6 ⟨co2, cc2, rfl, B6, b6⟩
    have HB6 := hide B6
    have HZ6 := hide (HZ3.out.grow b6)
    have HE6 := hide (HE3.out.to b6)
    have HM2 : Hid (m2 = rplF m (badF (s.tab K.t K.es s.T) K.e)) := by show m2 = rplF m (badF (s.tab K.t K.es s.T) K.e); unfold rplF badF; rw [if_neg (by have := HE0.out; exact this), ← h2]
    have HDT : Hid (datF (badF (s.tab K.t K.es s.T) K.e) l = []) := by show datF (badF (s.tab K.t K.es s.T) K.e) l = _; unfold datF badF; rw [if_neg (fun e => HE0.out e.1)]
    clear B6 b6 h2 k0 k1 k2 k3 k4 k5 k6 k7 k8 k9 k10
    have HZL := hide (HZ6.out.lay (m := m2) (D := .slice co2 0 cc2))
    have f7 := foot_lay11 w6 (w.heap.size + 1) m2 (.slice co2 0 cc2)
    have HE7 := hide (HE6.out.msg HW0.out HZ6.out (by omega) f7)
    have HB7 : Hid (Bts (lay11 w6 (w.heap.size + 1) m2 (.slice co2 0 cc2)) co2 0 cc2 []) := bts_none HB6.out
    obtain ⟨w7, hw7⟩ : ∃ w7, lay11 w6 (w.heap.size + 1) m2 (.slice co2 0 cc2) = w7 := ⟨_, rfl⟩
    rw [hw7] at HZL HE7 HB7
    unfold lay11 at hw7
    clear f7
    obtain ⟨v0, v1, v2, v3, v4, v5, v6, v7, v8, v9, v10⟩ := HZL.out.all
    obtain ⟨z0, z1, z2, z3, z4, z5, z6, z7, z8, z9, z10⟩ := HZ6.out.all
    have x0 := HZ6.out.z 0
    have x1 := HZ6.out.z 1
    have x2 := HZ6.out.z 2
    have x3 := HZ6.out.z 3
    have x4 := HZ6.out.z 4
    have x5 := HZ6.out.z 5
    have x6 := HZ6.out.z 6
    have x7 := HZ6.out.z 7
    have x8 := HZ6.out.z 8
    have x9 := HZ6.out.z 9
    have x10 := HZ6.out.z 10
    go_wp2
    refine bodyPost_ret (by simp [results, Tryd.results15, go_sem, v0, v1, v2, v3, v4, v5, v6, v7, v8, v9, v10]; rfl) rfl ?_
    refine ⟨m2, co2, 0, cc2, HM2.out, rfl, ?_, .inl HDT.out, HE7.out⟩
    rw [HDT.out]; exact HB7.out
end
end Go.Proofs.YtjpgfldppepmiaaDoor
namespace Go.Proofs.YtjpgfldppepmiaaDoor
section
open Go.RowKit
variable {w0 w w1 w2 w' : World} {A A' : Ad} {p : Nat} {ws : List Nat} {s s' s1 : Hs} {r g sb : Nat}
set_option maxRecDepth 20000 in
set_option maxHeartbeats 6400000 in
theorem want_root (m : Msg) (so : Option Addr) (sn sc : Nat) (l : List UInt8) (w : World) (x : Sv w0 w A p ws s) (hb : Bts w so sn sc l) (q : Okm w0 m so sn) (li : Lim s) (hg : Glob w0) (hm : mayC ⟨m.p, m.o, m.r, m.c⟩ = true) (hop : m.op = 5) (ho : m.o = 0) (K : Chk) (hK : chkF ws s.t s.es p s.T ⟨m.p, m.o, m.r, m.c⟩ 8 = K) :
    Calls Tryd.prog 15 #[.pointer (some ⟨A.g, 0, none⟩), .pointer (some ⟨A.sb, 0, none⟩), .agg #[.int .u64 m.ta, .int .u64 m.rp, .int .u32 m.id, .int .u16 m.op, .int .u16 m.st, .int .u64 m.p, .int .u32 m.o, .int .u8 m.r, .int .u64 m.c, .int .u64 m.ar, .slice so sn sc]] w fun e w' => RplEnd w0 w A p ws m (dstF s ⟨m.p, m.o, m.r, m.c⟩ K) l e w' := by
  have hmf : ∀ (fn : Fn) (first cap : Array Value) (w : World), (Instr.makeFunc fn first cap).run Tryd.prog w = .ok (.func fn first cap) w := fun _ _ _ _ => rfl
  obtain ⟨X, hX, bm, bz, bX⟩ := rep_vars w m (.slice so sn sc)
  have HX0 := hide (x.grow bX)
  have HB0 := hide (hb.carry bX)
  have HM0 := hide bm
  have HZ0 := hide bz
  have HBX0 := hide bX
  have HW0 : Hid (w0.heap.size ≤ w.heap.size) := x.bel.size
  have HQ := hide q
  have HLI := hide li
  have HG := hide hg
  have HMY : Hid (decide (m.p ≤ 281474976710655 ∧ m.o ≤ 16777215 ∧ m.c ≤ 281474976710655) = true) := hm
  have HK := hide hK
  have hopi : ((m.op : Int)) = 5 := by omega
  have HOP := hide hopi
  have HO := hide ho
  have hoi : ((m.o : Int) == 0) = true := by rw [ho]; rfl
  have n1 : ((m.op : Int) == 1) = false := by rw [hopi]; rfl
  have n2 : ((m.op : Int) == 2) = false := by rw [hopi]; rfl
  have n3 : ((m.op : Int) == 3) = false := by rw [hopi]; rfl
  have n4 : ((m.op : Int) == 4) = false := by rw [hopi]; rfl
  have n5 : ((m.op : Int) == 5) = true := by rw [hopi]; rfl
  obtain ⟨RR, hRR⟩ : ∃ RR : Ro, (dstF s ⟨m.p, m.o, m.r, m.c⟩ K) = RR := ⟨_, rfl⟩
  rw [hRR]
  have HRO := hide hRR
  clear hRR
  obtain ⟨er, her⟩ : ∃ er, erN (K.e : Int) = er := ⟨_, rfl⟩
  have HER := hide her
  clear her
  obtain ⟨k0, k1, k2, k3, k4, k5, k6, k7, k8, k9, k10⟩ := bm.all
  clear bm bz bX x hb q li hg hm hK hop hopi ho
  go_enter Tryd.func15, Tryd.ntmps15
  go_wp2_with fail
  refine (may_any m.p m.o m.r m.c _ HQ.out.c.1 HQ.out.c.2.1 HQ.out.c.2.2.1 HQ.out.c.2.2.2).mono ?_; rw [HMY.out]; rintro e w2 ⟨rfl, hw2⟩
  have b2 : Below X.heap.size X w2 := hw2 ▸ below_alloc _ _
  have HX := hide (HX0.out.grow b2)
  have HB := hide (HB0.out.carry b2)
  have HM := hide (HM0.out.grow b2)
  have HZ := hide (HZ0.out.grow b2)
  have HBX := hide (below_one HBX0.out b2)
  clear b2 hw2 k0 k1 k2 k3 k4 k5 k6 k7 k8 k9 k10 hX HX0 HB0 HM0 HZ0 HBX0
  obtain ⟨k0, k1, k2, k3, k4, k5, k6, k7, k8, k9, k10⟩ := HM.out.all
  go_wp2_with fail
  refine (tb_check ⟨m.p, m.o, m.r, m.c⟩ 8 _ HX.out HQ.out.c (by omega) (by have := HLI.out.el; omega) K HK.out).mono ?_; rw [HER.out]; rintro e w3 ⟨rfl, E⟩
  have kh := HX.out.kh E
  have HM3 := hide (HM.out.kh kh)
  have HZ3 := hide (HZ.out.kh kh)
  have HE3 := hide (E.from HBX.out)
  have HB3 := hide (Bts.sv HB.out HQ.out.d HX.out E)
  have HN3 := hide E
  clear kh E k0 k1 k2 k3 k4 k5 k6 k7 k8 k9 k10
  obtain ⟨k0, k1, k2, k3, k4, k5, k6, k7, k8, k9, k10⟩ := HM3.out.all
  by_cases h0 : K.e = 0
  · obtain rfl : er = .nilIface := by rw [← HER.out, h0]; rfl
    obtain rfl : RR = badF (s.tab K.t K.es s.T) 15 := HRO.out.symm.trans (by unfold dstF; rw [if_pos HO.out, if_pos h0])
    have HE0 : Hid ((15 : Nat) ≠ 0) := by show (15 : Nat) ≠ 0; omega
    have HEL : Hid ((15 : Nat) ≤ 65535) := by show (15 : Nat) ≤ 65535; omega
    obtain ⟨m2, h2⟩ : ∃ m2, (⟨m.rp, m.ta, m.id, m.op, 15, 0, 0, 0, 0, 0⟩ : Msg) = m2 := ⟨_, rfl⟩
    have hf := fun W (hM : MB W w.heap.size m (.slice so sn sc)) hW => wfail_any m (.slice so sn sc) (15) W hM (HEL.out) hW m2 h2
    rw [show erN (((15 : Nat)) : Int) = .iface 61 (.int .i64 15) from rfl] at hf
    have HF := hide hf
    clear hf
    go_wp2_with fail
    refine (HF.out _ HM3.out (HE3.out.glob HG.out)).mono ?_; rintro e w6 ⟨co2, cc2, rfl, B6, b6⟩
    have HB6 := hide B6
    have HZ6 := hide (HZ3.out.grow b6)
    have HE6 := hide (HE3.out.to b6)
    have HM2 : Hid (m2 = rplF m (badF (s.tab K.t K.es s.T) 15)) := by show m2 = rplF m (badF (s.tab K.t K.es s.T) 15); unfold rplF badF; rw [if_neg (by have := HE0.out; exact this), ← h2]
    have HDT : Hid (datF (badF (s.tab K.t K.es s.T) 15) l = []) := by show datF (badF (s.tab K.t K.es s.T) 15) l = _; unfold datF badF; rw [if_neg (fun e => HE0.out e.1)]
    clear B6 b6 h2 k0 k1 k2 k3 k4 k5 k6 k7 k8 k9 k10
    have HZL := hide (HZ6.out.lay (m := m2) (D := .slice co2 0 cc2))
    have f7 := foot_lay11 w6 (w.heap.size + 1) m2 (.slice co2 0 cc2)
    have HE7 := hide (HE6.out.msg HW0.out HZ6.out (by omega) f7)
    have HB7 : Hid (Bts (lay11 w6 (w.heap.size + 1) m2 (.slice co2 0 cc2)) co2 0 cc2 []) := bts_none HB6.out
    obtain ⟨w7, hw7⟩ : ∃ w7, lay11 w6 (w.heap.size + 1) m2 (.slice co2 0 cc2) = w7 := ⟨_, rfl⟩
    rw [hw7] at HZL HE7 HB7
    unfold lay11 at hw7
    clear f7
    obtain ⟨v0, v1, v2, v3, v4, v5, v6, v7, v8, v9, v10⟩ := HZL.out.all
    obtain ⟨z0, z1, z2, z3, z4, z5, z6, z7, z8, z9, z10⟩ := HZ6.out.all
    have x0 := HZ6.out.z 0
    have x1 := HZ6.out.z 1
    have x2 := HZ6.out.z 2
    have x3 := HZ6.out.z 3
    have x4 := HZ6.out.z 4
    have x5 := HZ6.out.z 5
    have x6 := HZ6.out.z 6
    have x7 := HZ6.out.z 7
    have x8 := HZ6.out.z 8
    have x9 := HZ6.out.z 9
    have x10 := HZ6.out.z 10
    go_wp2
    refine bodyPost_ret (by simp [results, Tryd.results15, go_sem, v0, v1, v2, v3, v4, v5, v6, v7, v8, v9, v10]; rfl) rfl ?_
    refine ⟨m2, co2, 0, cc2, HM2.out, rfl, ?_, .inl HDT.out, HE7.out⟩
    rw [HDT.out]; exact HB7.out
  · have HE0 : Hid (K.e ≠ 0) := h0
    have HEL : Hid (K.e ≤ 65535) := by have := chk_err ws s.t s.es p s.T ⟨m.p, m.o, m.r, m.c⟩ (8); rw [HK.out] at this; show K.e ≤ 65535; omega
    obtain rfl : RR = badF (s.tab K.t K.es s.T) K.e := HRO.out.symm.trans (by unfold dstF; rw [if_pos HO.out, if_neg h0])
    obtain ⟨m2, h2⟩ : ∃ m2, (⟨m.rp, m.ta, m.id, m.op, K.e, 0, 0, 0, 0, 0⟩ : Msg) = m2 := ⟨_, rfl⟩
    have hf := fun W (hM : MB W w.heap.size m (.slice so sn sc)) hW => wfail_any m (.slice so sn sc) (K.e) W hM (HEL.out) hW m2 h2
    rw [HER.out] at hf
    obtain ⟨tE, hE⟩ : ∃ v, er = .iface 61 v := ⟨_, by rw [← HER.out]; exact erN_not (by have := HE0.out; omega)⟩
    subst hE
    have HF := hide hf
    clear hf
    go_wp2_with fail
    refine (HF.out _ HM3.out (HE3.out.glob HG.out)).mono ?_; rintro e w6 ⟨co2, cc2, rfl, B6, b6⟩
    have HB6 := hide B6
    have HZ6 := hide (HZ3.out.grow b6)
    have HE6 := hide (HE3.out.to b6)
    have HM2 : Hid (m2 = rplF m (badF (s.tab K.t K.es s.T) K.e)) := by show m2 = rplF m (badF (s.tab K.t K.es s.T) K.e); unfold rplF badF; rw [if_neg (by have := HE0.out; exact this), ← h2]
    have HDT : Hid (datF (badF (s.tab K.t K.es s.T) K.e) l = []) := by show datF (badF (s.tab K.t K.es s.T) K.e) l = _; unfold datF badF; rw [if_neg (fun e => HE0.out e.1)]
    clear B6 b6 h2 k0 k1 k2 k3 k4 k5 k6 k7 k8 k9 k10
    have HZL := hide (HZ6.out.lay (m := m2) (D := .slice co2 0 cc2))
    have f7 := foot_lay11 w6 (w.heap.size + 1) m2 (.slice co2 0 cc2)
    have HE7 := hide (HE6.out.msg HW0.out HZ6.out (by omega) f7)
    have HB7 : Hid (Bts (lay11 w6 (w.heap.size + 1) m2 (.slice co2 0 cc2)) co2 0 cc2 []) := bts_none HB6.out
    obtain ⟨w7, hw7⟩ : ∃ w7, lay11 w6 (w.heap.size + 1) m2 (.slice co2 0 cc2) = w7 := ⟨_, rfl⟩
    rw [hw7] at HZL HE7 HB7
    unfold lay11 at hw7
    clear f7
    obtain ⟨v0, v1, v2, v3, v4, v5, v6, v7, v8, v9, v10⟩ := HZL.out.all
    obtain ⟨z0, z1, z2, z3, z4, z5, z6, z7, z8, z9, z10⟩ := HZ6.out.all
    have x0 := HZ6.out.z 0
    have x1 := HZ6.out.z 1
    have x2 := HZ6.out.z 2
    have x3 := HZ6.out.z 3
    have x4 := HZ6.out.z 4
    have x5 := HZ6.out.z 5
    have x6 := HZ6.out.z 6
    have x7 := HZ6.out.z 7
    have x8 := HZ6.out.z 8
    have x9 := HZ6.out.z 9
    have x10 := HZ6.out.z 10
    go_wp2
    refine bodyPost_ret (by simp [results, Tryd.results15, go_sem, v0, v1, v2, v3, v4, v5, v6, v7, v8, v9, v10]; rfl) rfl ?_
    refine ⟨m2, co2, 0, cc2, HM2.out, rfl, ?_, .inl HDT.out, HE7.out⟩
    rw [HDT.out]; exact HB7.out
end
end Go.Proofs.YtjpgfldppepmiaaDoor
namespace Go.Proofs.YtjpgfldppepmiaaDoor
section
open Go.RowKit
variable {w0 w w1 w2 w' : World} {A A' : Ad} {p : Nat} {ws : List Nat} {s s' s1 : Hs} {r g sb : Nat}
set_option maxRecDepth 20000 in
set_option maxHeartbeats 6400000 in
theorem want_none (m : Msg) (so : Option Addr) (sn sc : Nat) (l : List UInt8) (w : World) (x : Sv w0 w A p ws s) (hb : Bts w so sn sc l) (q : Okm w0 m so sn) (li : Lim s) (hg : Glob w0) (hm : mayC ⟨m.p, m.o, m.r, m.c⟩ = true) (hop : 6 ≤ m.op ∨ m.op = 0) (hn1 : m.op < 100 ∨ needB m.op = false) :
    Calls Tryd.prog 15 #[.pointer (some ⟨A.g, 0, none⟩), .pointer (some ⟨A.sb, 0, none⟩), .agg #[.int .u64 m.ta, .int .u64 m.rp, .int .u32 m.id, .int .u16 m.op, .int .u16 m.st, .int .u64 m.p, .int .u32 m.o, .int .u8 m.r, .int .u64 m.c, .int .u64 m.ar, .slice so sn sc]] w fun e w' => RplEnd w0 w A p ws m (badF s 3) l e w' := by
  have hmf : ∀ (fn : Fn) (first cap : Array Value) (w : World), (Instr.makeFunc fn first cap).run Tryd.prog w = .ok (.func fn first cap) w := fun _ _ _ _ => rfl
  obtain ⟨X, hX, bm, bz, bX⟩ := rep_vars w m (.slice so sn sc)
  have HX0 := hide (x.grow bX)
  have HB0 := hide (hb.carry bX)
  have HM0 := hide bm
  have HZ0 := hide bz
  have HBX0 := hide bX
  have HW0 : Hid (w0.heap.size ≤ w.heap.size) := x.bel.size
  have HQ := hide q
  have HLI := hide li
  have HG := hide hg
  have HMY : Hid (decide (m.p ≤ 281474976710655 ∧ m.o ≤ 16777215 ∧ m.c ≤ 281474976710655) = true) := hm
  have n1 : ((m.op : Int) == 1) = false := by rw [beq_eq_false_iff_ne]; omega
  have n2 : ((m.op : Int) == 2) = false := by rw [beq_eq_false_iff_ne]; omega
  have n3 : ((m.op : Int) == 3) = false := by rw [beq_eq_false_iff_ne]; omega
  have n4 : ((m.op : Int) == 4) = false := by rw [beq_eq_false_iff_ne]; omega
  have n5 : ((m.op : Int) == 5) = false := by rw [beq_eq_false_iff_ne]; omega
  have HNB := hide hn1
  have HOP := hide hop
  obtain ⟨k0, k1, k2, k3, k4, k5, k6, k7, k8, k9, k10⟩ := bm.all
  clear bm bz bX x hb q li hg hm hn1 hop
  go_enter Tryd.func15, Tryd.ntmps15
  go_wp2_with fail
  refine (may_any m.p m.o m.r m.c _ HQ.out.c.1 HQ.out.c.2.1 HQ.out.c.2.2.1 HQ.out.c.2.2.2).mono ?_; rw [HMY.out]; rintro e w2 ⟨rfl, hw2⟩
  have b2 : Below X.heap.size X w2 := hw2 ▸ below_alloc _ _
  have HX := hide (HX0.out.grow b2)
  have HB := hide (HB0.out.carry b2)
  have HM := hide (HM0.out.grow b2)
  have HZ := hide (HZ0.out.grow b2)
  have HBX := hide (below_one HBX0.out b2)
  clear b2 hw2 k0 k1 k2 k3 k4 k5 k6 k7 k8 k9 k10 hX HX0 HB0 HM0 HZ0 HBX0
  obtain ⟨k0, k1, k2, k3, k4, k5, k6, k7, k8, k9, k10⟩ := HM.out.all
  have HE0 : Hid ((3 : Nat) ≠ 0) := by show (3 : Nat) ≠ 0; omega
  have HEL : Hid ((3 : Nat) ≤ 65535) := by show (3 : Nat) ≤ 65535; omega
  go_wp2_with fail
  refine (svc_need _ m.op _ HQ.out.o).mono ?_; rintro e wn ⟨rfl, hwn⟩; subst hwn
  have HE := hide ((Sv.stay HX.out).from HBX.out)
  rcases HNB.out with hlt | hnb
  · have hli : (m.op : Int) < 100 := by omega
    obtain ⟨m2, h2⟩ : ∃ m2, (⟨m.rp, m.ta, m.id, m.op, 3, 0, 0, 0, 0, 0⟩ : Msg) = m2 := ⟨_, rfl⟩
    have hf := fun W (hM : MB W w.heap.size m (.slice so sn sc)) hW => wfail_any m (.slice so sn sc) (3) W hM (HEL.out) hW m2 h2
    rw [show erN (((3 : Nat)) : Int) = .iface 61 (.int .i64 3) from rfl] at hf
    have HF := hide hf
    clear hf
    go_wp2_with fail
    refine (HF.out _ HM.out (HE.out.glob HG.out)).mono ?_; rintro e w6 ⟨co2, cc2, rfl, B6, b6⟩
    have HB6 := hide B6
    have HZ6 := hide (HZ.out.grow b6)
    have HE6 := hide (HE.out.to b6)
    have HM2 : Hid (m2 = rplF m (badF s 3)) := by show m2 = rplF m (badF s 3); unfold rplF badF; rw [if_neg (by have := HE0.out; exact this), ← h2]
    have HDT : Hid (datF (badF s 3) l = []) := by show datF (badF s 3) l = _; unfold datF badF; rw [if_neg (fun e => HE0.out e.1)]
    clear B6 b6 h2 k0 k1 k2 k3 k4 k5 k6 k7 k8 k9 k10
    have HZL := hide (HZ6.out.lay (m := m2) (D := .slice co2 0 cc2))
    have f7 := foot_lay11 w6 (w.heap.size + 1) m2 (.slice co2 0 cc2)
    have HE7 := hide (HE6.out.msg HW0.out HZ6.out (by omega) f7)
    have HB7 : Hid (Bts (lay11 w6 (w.heap.size + 1) m2 (.slice co2 0 cc2)) co2 0 cc2 []) := bts_none HB6.out
    obtain ⟨w7, hw7⟩ : ∃ w7, lay11 w6 (w.heap.size + 1) m2 (.slice co2 0 cc2) = w7 := ⟨_, rfl⟩
    rw [hw7] at HZL HE7 HB7
    unfold lay11 at hw7
    clear f7
    obtain ⟨v0, v1, v2, v3, v4, v5, v6, v7, v8, v9, v10⟩ := HZL.out.all
    obtain ⟨z0, z1, z2, z3, z4, z5, z6, z7, z8, z9, z10⟩ := HZ6.out.all
    have x0 := HZ6.out.z 0
    have x1 := HZ6.out.z 1
    have x2 := HZ6.out.z 2
    have x3 := HZ6.out.z 3
    have x4 := HZ6.out.z 4
    have x5 := HZ6.out.z 5
    have x6 := HZ6.out.z 6
    have x7 := HZ6.out.z 7
    have x8 := HZ6.out.z 8
    have x9 := HZ6.out.z 9
    have x10 := HZ6.out.z 10
    go_wp2
    refine bodyPost_ret (by simp [results, Tryd.results15, go_sem, v0, v1, v2, v3, v4, v5, v6, v7, v8, v9, v10]; rfl) rfl ?_
    refine ⟨m2, co2, 0, cc2, HM2.out, rfl, ?_, .inl HDT.out, HE7.out⟩
    rw [HDT.out]; exact HB7.out
  · rw [hnb]
    by_cases hlt : m.op < 100
    · have hli : (m.op : Int) < 100 := by omega
      obtain ⟨m2, h2⟩ : ∃ m2, (⟨m.rp, m.ta, m.id, m.op, 3, 0, 0, 0, 0, 0⟩ : Msg) = m2 := ⟨_, rfl⟩
      have hf := fun W (hM : MB W w.heap.size m (.slice so sn sc)) hW => wfail_any m (.slice so sn sc) (3) W hM (HEL.out) hW m2 h2
      rw [show erN (((3 : Nat)) : Int) = .iface 61 (.int .i64 3) from rfl] at hf
      have HF := hide hf
      clear hf
      go_wp2_with fail
      refine (HF.out _ HM.out (HE.out.glob HG.out)).mono ?_; rintro e w6 ⟨co2, cc2, rfl, B6, b6⟩
      have HB6 := hide B6
      have HZ6 := hide (HZ.out.grow b6)
      have HE6 := hide (HE.out.to b6)
      have HM2 : Hid (m2 = rplF m (badF s 3)) := by show m2 = rplF m (badF s 3); unfold rplF badF; rw [if_neg (by have := HE0.out; exact this), ← h2]
      have HDT : Hid (datF (badF s 3) l = []) := by show datF (badF s 3) l = _; unfold datF badF; rw [if_neg (fun e => HE0.out e.1)]
      clear B6 b6 h2 k0 k1 k2 k3 k4 k5 k6 k7 k8 k9 k10
      have HZL := hide (HZ6.out.lay (m := m2) (D := .slice co2 0 cc2))
      have f7 := foot_lay11 w6 (w.heap.size + 1) m2 (.slice co2 0 cc2)
      have HE7 := hide (HE6.out.msg HW0.out HZ6.out (by omega) f7)
      have HB7 : Hid (Bts (lay11 w6 (w.heap.size + 1) m2 (.slice co2 0 cc2)) co2 0 cc2 []) := bts_none HB6.out
      obtain ⟨w7, hw7⟩ : ∃ w7, lay11 w6 (w.heap.size + 1) m2 (.slice co2 0 cc2) = w7 := ⟨_, rfl⟩
      rw [hw7] at HZL HE7 HB7
      unfold lay11 at hw7
      clear f7
      obtain ⟨v0, v1, v2, v3, v4, v5, v6, v7, v8, v9, v10⟩ := HZL.out.all
      obtain ⟨z0, z1, z2, z3, z4, z5, z6, z7, z8, z9, z10⟩ := HZ6.out.all
      have x0 := HZ6.out.z 0
      have x1 := HZ6.out.z 1
      have x2 := HZ6.out.z 2
      have x3 := HZ6.out.z 3
      have x4 := HZ6.out.z 4
      have x5 := HZ6.out.z 5
      have x6 := HZ6.out.z 6
      have x7 := HZ6.out.z 7
      have x8 := HZ6.out.z 8
      have x9 := HZ6.out.z 9
      have x10 := HZ6.out.z 10
      go_wp2
      refine bodyPost_ret (by simp [results, Tryd.results15, go_sem, v0, v1, v2, v3, v4, v5, v6, v7, v8, v9, v10]; rfl) rfl ?_
      refine ⟨m2, co2, 0, cc2, HM2.out, rfl, ?_, .inl HDT.out, HE7.out⟩
      rw [HDT.out]; exact HB7.out
    · have hli : ¬ (m.op : Int) < 100 := by omega
      obtain ⟨m2, h2⟩ : ∃ m2, (⟨m.rp, m.ta, m.id, m.op, 3, 0, 0, 0, 0, 0⟩ : Msg) = m2 := ⟨_, rfl⟩
      have hf := fun W (hM : MB W w.heap.size m (.slice so sn sc)) hW => wfail_any m (.slice so sn sc) (3) W hM (HEL.out) hW m2 h2
      rw [show erN (((3 : Nat)) : Int) = .iface 61 (.int .i64 3) from rfl] at hf
      have HF := hide hf
      clear hf
      go_wp2_with fail
      refine (HF.out _ HM.out (HE.out.glob HG.out)).mono ?_; rintro e w6 ⟨co2, cc2, rfl, B6, b6⟩
      have HB6 := hide B6
      have HZ6 := hide (HZ.out.grow b6)
      have HE6 := hide (HE.out.to b6)
      have HM2 : Hid (m2 = rplF m (badF s 3)) := by show m2 = rplF m (badF s 3); unfold rplF badF; rw [if_neg (by have := HE0.out; exact this), ← h2]
      have HDT : Hid (datF (badF s 3) l = []) := by show datF (badF s 3) l = _; unfold datF badF; rw [if_neg (fun e => HE0.out e.1)]
      clear B6 b6 h2 k0 k1 k2 k3 k4 k5 k6 k7 k8 k9 k10
      have HZL := hide (HZ6.out.lay (m := m2) (D := .slice co2 0 cc2))
      have f7 := foot_lay11 w6 (w.heap.size + 1) m2 (.slice co2 0 cc2)
      have HE7 := hide (HE6.out.msg HW0.out HZ6.out (by omega) f7)
      have HB7 : Hid (Bts (lay11 w6 (w.heap.size + 1) m2 (.slice co2 0 cc2)) co2 0 cc2 []) := bts_none HB6.out
      obtain ⟨w7, hw7⟩ : ∃ w7, lay11 w6 (w.heap.size + 1) m2 (.slice co2 0 cc2) = w7 := ⟨_, rfl⟩
      rw [hw7] at HZL HE7 HB7
      unfold lay11 at hw7
      clear f7
      obtain ⟨v0, v1, v2, v3, v4, v5, v6, v7, v8, v9, v10⟩ := HZL.out.all
      obtain ⟨z0, z1, z2, z3, z4, z5, z6, z7, z8, z9, z10⟩ := HZ6.out.all
      have x0 := HZ6.out.z 0
      have x1 := HZ6.out.z 1
      have x2 := HZ6.out.z 2
      have x3 := HZ6.out.z 3
      have x4 := HZ6.out.z 4
      have x5 := HZ6.out.z 5
      have x6 := HZ6.out.z 6
      have x7 := HZ6.out.z 7
      have x8 := HZ6.out.z 8
      have x9 := HZ6.out.z 9
      have x10 := HZ6.out.z 10
      go_wp2
      refine bodyPost_ret (by simp [results, Tryd.results15, go_sem, v0, v1, v2, v3, v4, v5, v6, v7, v8, v9, v10]; rfl) rfl ?_
      refine ⟨m2, co2, 0, cc2, HM2.out, rfl, ?_, .inl HDT.out, HE7.out⟩
      rw [HDT.out]; exact HB7.out
end
end Go.Proofs.YtjpgfldppepmiaaDoor
namespace Go.Proofs.YtjpgfldppepmiaaDoor
section
open Go.RowKit
variable {w0 w w1 w2 w' : World} {A A' : Ad} {p : Nat} {ws : List Nat} {s s' s1 : Hs} {r g sb : Nat}
set_option maxRecDepth 20000 in
set_option maxHeartbeats 6400000 in
theorem want_chk (m : Msg) (so : Option Addr) (sn sc : Nat) (l : List UInt8) (w : World) (x : Sv w0 w A p ws s) (hb : Bts w so sn sc l) (q : Okm w0 m so sn) (li : Lim s) (hg : Glob w0) (hm : mayC ⟨m.p, m.o, m.r, m.c⟩ = true) (hop : 100 ≤ m.op) (hn1 : needB m.op = true) (K : Chk) (hK : chkF ws s.t s.es p s.T ⟨m.p, m.o, m.r, m.c⟩ (needN m.op) = K) (h0 : K.e ≠ 0) :
    Calls Tryd.prog 15 #[.pointer (some ⟨A.g, 0, none⟩), .pointer (some ⟨A.sb, 0, none⟩), .agg #[.int .u64 m.ta, .int .u64 m.rp, .int .u32 m.id, .int .u16 m.op, .int .u16 m.st, .int .u64 m.p, .int .u32 m.o, .int .u8 m.r, .int .u64 m.c, .int .u64 m.ar, .slice so sn sc]] w fun e w' => RplEnd w0 w A p ws m (badF (s.tab K.t K.es s.T) K.e) l e w' := by
  have hmf : ∀ (fn : Fn) (first cap : Array Value) (w : World), (Instr.makeFunc fn first cap).run Tryd.prog w = .ok (.func fn first cap) w := fun _ _ _ _ => rfl
  obtain ⟨X, hX, bm, bz, bX⟩ := rep_vars w m (.slice so sn sc)
  have HX0 := hide (x.grow bX)
  have HB0 := hide (hb.carry bX)
  have HM0 := hide bm
  have HZ0 := hide bz
  have HBX0 := hide bX
  have HW0 : Hid (w0.heap.size ≤ w.heap.size) := x.bel.size
  have HQ := hide q
  have HLI := hide li
  have HG := hide hg
  have HMY : Hid (decide (m.p ≤ 281474976710655 ∧ m.o ≤ 16777215 ∧ m.c ≤ 281474976710655) = true) := hm
  have HK := hide hK
  have n1 : ((m.op : Int) == 1) = false := by rw [beq_eq_false_iff_ne]; omega
  have n2 : ((m.op : Int) == 2) = false := by rw [beq_eq_false_iff_ne]; omega
  have n3 : ((m.op : Int) == 3) = false := by rw [beq_eq_false_iff_ne]; omega
  have n4 : ((m.op : Int) == 4) = false := by rw [beq_eq_false_iff_ne]; omega
  have n5 : ((m.op : Int) == 5) = false := by rw [beq_eq_false_iff_ne]; omega
  have HNB := hide hn1
  have HOP := hide hop
  have H0 := hide h0
  obtain ⟨er, her⟩ : ∃ er, erN (K.e : Int) = er := ⟨_, rfl⟩
  have HER := hide her
  clear her
  obtain ⟨k0, k1, k2, k3, k4, k5, k6, k7, k8, k9, k10⟩ := bm.all
  clear bm bz bX x hb q li hg hm hK hn1 hop h0
  go_enter Tryd.func15, Tryd.ntmps15
  go_wp2_with fail
  refine (may_any m.p m.o m.r m.c _ HQ.out.c.1 HQ.out.c.2.1 HQ.out.c.2.2.1 HQ.out.c.2.2.2).mono ?_; rw [HMY.out]; rintro e w2 ⟨rfl, hw2⟩
  have b2 : Below X.heap.size X w2 := hw2 ▸ below_alloc _ _
  have HX := hide (HX0.out.grow b2)
  have HB := hide (HB0.out.carry b2)
  have HM := hide (HM0.out.grow b2)
  have HZ := hide (HZ0.out.grow b2)
  have HBX := hide (below_one HBX0.out b2)
  clear b2 hw2 k0 k1 k2 k3 k4 k5 k6 k7 k8 k9 k10 hX HX0 HB0 HM0 HZ0 HBX0
  obtain ⟨k0, k1, k2, k3, k4, k5, k6, k7, k8, k9, k10⟩ := HM.out.all
  go_wp2_with fail
  refine (svc_need _ m.op _ HQ.out.o).mono ?_; rw [HNB.out]; rintro e wn ⟨rfl, hwn⟩; subst hwn
  obtain ⟨nd, hnd⟩ : ∃ nd, needN m.op = nd := ⟨_, rfl⟩
  have HND := hide hnd
  have HNL : Hid (nd ≤ 255) := by show nd ≤ _; rw [← hnd]; exact needN_le m.op
  rw [hnd]
  clear hnd
  have hli : ¬ (m.op : Int) < 100 := by have := HOP.out; omega
  go_wp2_with fail
  refine (tb_check ⟨m.p, m.o, m.r, m.c⟩ nd _ HX.out HQ.out.c HNL.out (by have := HLI.out.el; omega) K (HND.out ▸ HK.out)).mono ?_; rw [HER.out]; rintro e w3 ⟨rfl, E⟩
  have kh := HX.out.kh E
  have HM3 := hide (HM.out.kh kh)
  have HZ3 := hide (HZ.out.kh kh)
  have HE3 := hide (E.from HBX.out)
  have HB3 := hide (Bts.sv HB.out HQ.out.d HX.out E)
  have HN3 := hide E
  clear kh E k0 k1 k2 k3 k4 k5 k6 k7 k8 k9 k10
  obtain ⟨k0, k1, k2, k3, k4, k5, k6, k7, k8, k9, k10⟩ := HM3.out.all
  have HE0 : Hid (K.e ≠ 0) := H0.out
  have HEL : Hid (K.e ≤ 65535) := by have := chk_err ws s.t s.es p s.T ⟨m.p, m.o, m.r, m.c⟩ (needN m.op); rw [HK.out] at this; show K.e ≤ 65535; omega
  obtain ⟨m2, h2⟩ : ∃ m2, (⟨m.rp, m.ta, m.id, m.op, K.e, 0, 0, 0, 0, 0⟩ : Msg) = m2 := ⟨_, rfl⟩
  have hf := fun W (hM : MB W w.heap.size m (.slice so sn sc)) hW => wfail_any m (.slice so sn sc) (K.e) W hM (HEL.out) hW m2 h2
  rw [HER.out] at hf
  obtain ⟨tE, hE⟩ : ∃ v, er = .iface 61 v := ⟨_, by rw [← HER.out]; exact erN_not (by have := HE0.out; omega)⟩
  subst hE
  have HF := hide hf
  clear hf
  go_wp2_with fail
  refine (HF.out _ HM3.out (HE3.out.glob HG.out)).mono ?_; rintro e w6 ⟨co2, cc2, rfl, B6, b6⟩
  have HB6 := hide B6
  have HZ6 := hide (HZ3.out.grow b6)
  have HE6 := hide (HE3.out.to b6)
  have HM2 : Hid (m2 = rplF m (badF (s.tab K.t K.es s.T) K.e)) := by show m2 = rplF m (badF (s.tab K.t K.es s.T) K.e); unfold rplF badF; rw [if_neg (by have := HE0.out; exact this), ← h2]
  have HDT : Hid (datF (badF (s.tab K.t K.es s.T) K.e) l = []) := by show datF (badF (s.tab K.t K.es s.T) K.e) l = _; unfold datF badF; rw [if_neg (fun e => HE0.out e.1)]
  clear B6 b6 h2 k0 k1 k2 k3 k4 k5 k6 k7 k8 k9 k10
  have HZL := hide (HZ6.out.lay (m := m2) (D := .slice co2 0 cc2))
  have f7 := foot_lay11 w6 (w.heap.size + 1) m2 (.slice co2 0 cc2)
  have HE7 := hide (HE6.out.msg HW0.out HZ6.out (by omega) f7)
  have HB7 : Hid (Bts (lay11 w6 (w.heap.size + 1) m2 (.slice co2 0 cc2)) co2 0 cc2 []) := bts_none HB6.out
  obtain ⟨w7, hw7⟩ : ∃ w7, lay11 w6 (w.heap.size + 1) m2 (.slice co2 0 cc2) = w7 := ⟨_, rfl⟩
  rw [hw7] at HZL HE7 HB7
  unfold lay11 at hw7
  clear f7
  obtain ⟨v0, v1, v2, v3, v4, v5, v6, v7, v8, v9, v10⟩ := HZL.out.all
  obtain ⟨z0, z1, z2, z3, z4, z5, z6, z7, z8, z9, z10⟩ := HZ6.out.all
  have x0 := HZ6.out.z 0
  have x1 := HZ6.out.z 1
  have x2 := HZ6.out.z 2
  have x3 := HZ6.out.z 3
  have x4 := HZ6.out.z 4
  have x5 := HZ6.out.z 5
  have x6 := HZ6.out.z 6
  have x7 := HZ6.out.z 7
  have x8 := HZ6.out.z 8
  have x9 := HZ6.out.z 9
  have x10 := HZ6.out.z 10
  go_wp2
  refine bodyPost_ret (by simp [results, Tryd.results15, go_sem, v0, v1, v2, v3, v4, v5, v6, v7, v8, v9, v10]; rfl) rfl ?_
  refine ⟨m2, co2, 0, cc2, HM2.out, rfl, ?_, .inl HDT.out, HE7.out⟩
  rw [HDT.out]; exact HB7.out
end
end Go.Proofs.YtjpgfldppepmiaaDoor
namespace Go.Proofs.YtjpgfldppepmiaaDoor
section
open Go.RowKit
variable {w0 w w1 w2 w' : World} {A A' : Ad} {p : Nat} {ws : List Nat} {s s' s1 : Hs} {r g sb : Nat}
set_option maxRecDepth 20000 in
set_option maxHeartbeats 6400000 in
theorem want_yes (m : Msg) (so : Option Addr) (sn sc : Nat) (l : List UInt8) (w : World) (x : Sv w0 w A p ws s) (hb : Bts w so sn sc l) (q : Okm w0 m so sn) (li : Lim s) (hg : Glob w0) (hm : mayC ⟨m.p, m.o, m.r, m.c⟩ = true) (hop : 100 ≤ m.op) (hn1 : needB m.op = true) (K : Chk) (hK : chkF ws s.t s.es p s.T ⟨m.p, m.o, m.r, m.c⟩ (needN m.op) = K) (h0 : K.e = 0) (h3 : m.op ≠ 103) :
    Calls Tryd.prog 15 #[.pointer (some ⟨A.g, 0, none⟩), .pointer (some ⟨A.sb, 0, none⟩), .agg #[.int .u64 m.ta, .int .u64 m.rp, .int .u32 m.id, .int .u16 m.op, .int .u16 m.st, .int .u64 m.p, .int .u32 m.o, .int .u8 m.r, .int .u64 m.c, .int .u64 m.ar, .slice so sn sc]] w fun e w' => RplEnd w0 w A p ws m ⟨0, ⟨m.p, m.o, m.r, m.c⟩, (m.ar + 1) % 18446744073709551616, true, ⟨K.t, K.es, s.T, s.D ++ [doneF m.op (s.T K.k).v], s.G⟩⟩ l e w' := by
  have hmf : ∀ (fn : Fn) (first cap : Array Value) (w : World), (Instr.makeFunc fn first cap).run Tryd.prog w = .ok (.func fn first cap) w := fun _ _ _ _ => rfl
  obtain ⟨X, hX, bm, bz, bX⟩ := rep_vars w m (.slice so sn sc)
  have HX0 := hide (x.grow bX)
  have HB0 := hide (hb.carry bX)
  have HM0 := hide bm
  have HZ0 := hide bz
  have HBX0 := hide bX
  have HW0 : Hid (w0.heap.size ≤ w.heap.size) := x.bel.size
  have HQ := hide q
  have HLI := hide li
  have HG := hide hg
  have HMY : Hid (decide (m.p ≤ 281474976710655 ∧ m.o ≤ 16777215 ∧ m.c ≤ 281474976710655) = true) := hm
  have HK := hide hK
  have n1 : ((m.op : Int) == 1) = false := by rw [beq_eq_false_iff_ne]; omega
  have n2 : ((m.op : Int) == 2) = false := by rw [beq_eq_false_iff_ne]; omega
  have n3 : ((m.op : Int) == 3) = false := by rw [beq_eq_false_iff_ne]; omega
  have n4 : ((m.op : Int) == 4) = false := by rw [beq_eq_false_iff_ne]; omega
  have n5 : ((m.op : Int) == 5) = false := by rw [beq_eq_false_iff_ne]; omega
  have HNB := hide hn1
  have HOP := hide hop
  obtain ⟨RR, hRR⟩ : ∃ RR : Ro, ⟨0, ⟨m.p, m.o, m.r, m.c⟩, (m.ar + 1) % 18446744073709551616, true, ⟨K.t, K.es, s.T, s.D ++ [doneF m.op (s.T K.k).v], s.G⟩⟩ = RR := ⟨_, rfl⟩
  rw [hRR]
  have HRO := hide hRR
  clear hRR
  have H0 := hide h0
  have H3 := hide h3
  have HH : Hid (hasO s.T K.k = true) := by
    have e := chk_has (hK ▸ h0)
    show hasO s.T K.k = true
    rw [← hK, e.2.2]; exact e.1
  obtain ⟨vl, hvl⟩ : ∃ vl, (s.T K.k).v = vl := ⟨_, rfl⟩
  have HVL := hide hvl
  clear hvl
  obtain ⟨er, her⟩ : ∃ er, erN (K.e : Int) = er := ⟨_, rfl⟩
  have HER := hide her
  clear her
  obtain ⟨k0, k1, k2, k3, k4, k5, k6, k7, k8, k9, k10⟩ := bm.all
  clear bm bz bX x hb q li hg hm hK hn1 hop h0 h3
  go_enter Tryd.func15, Tryd.ntmps15
  go_wp2_with fail
  refine (may_any m.p m.o m.r m.c _ HQ.out.c.1 HQ.out.c.2.1 HQ.out.c.2.2.1 HQ.out.c.2.2.2).mono ?_; rw [HMY.out]; rintro e w2 ⟨rfl, hw2⟩
  have b2 : Below X.heap.size X w2 := hw2 ▸ below_alloc _ _
  have HX := hide (HX0.out.grow b2)
  have HB := hide (HB0.out.carry b2)
  have HM := hide (HM0.out.grow b2)
  have HZ := hide (HZ0.out.grow b2)
  have HBX := hide (below_one HBX0.out b2)
  clear b2 hw2 k0 k1 k2 k3 k4 k5 k6 k7 k8 k9 k10 hX HX0 HB0 HM0 HZ0 HBX0
  obtain ⟨k0, k1, k2, k3, k4, k5, k6, k7, k8, k9, k10⟩ := HM.out.all
  go_wp2_with fail
  refine (svc_need _ m.op _ HQ.out.o).mono ?_; rw [HNB.out]; rintro e wn ⟨rfl, hwn⟩; subst hwn
  obtain ⟨nd, hnd⟩ : ∃ nd, needN m.op = nd := ⟨_, rfl⟩
  have HND := hide hnd
  have HNL : Hid (nd ≤ 255) := by show nd ≤ _; rw [← hnd]; exact needN_le m.op
  rw [hnd]
  clear hnd
  have hli : ¬ (m.op : Int) < 100 := by have := HOP.out; omega
  go_wp2_with fail
  refine (tb_check ⟨m.p, m.o, m.r, m.c⟩ nd _ HX.out HQ.out.c HNL.out (by have := HLI.out.el; omega) K (HND.out ▸ HK.out)).mono ?_; rw [HER.out]; rintro e w3 ⟨rfl, E⟩
  have kh := HX.out.kh E
  have HM3 := hide (HM.out.kh kh)
  have HZ3 := hide (HZ.out.kh kh)
  have HE3 := hide (E.from HBX.out)
  have HB3 := hide (Bts.sv HB.out HQ.out.d HX.out E)
  have HN3 := hide E
  clear kh E k0 k1 k2 k3 k4 k5 k6 k7 k8 k9 k10
  obtain ⟨k0, k1, k2, k3, k4, k5, k6, k7, k8, k9, k10⟩ := HM3.out.all
  obtain rfl : er = .nilIface := by rw [← HER.out, H0.out]; rfl
  obtain ⟨v, dv, nv, S1, on1⟩ := SvEnd.run HN3.out
  have HS1 := hide S1
  have HON := hide on1
  clear S1 on1
  go_wp2_with fail
  refine (tb_value (A := A.upd v dv nv) K.k vl _ HS1.out HH.out HVL.out).mono ?_; rintro e wv ⟨rfl, hwv⟩; subst hwv
  go_wp2_with fail
  refine (svc_do_yes (A := A.upd v dv nv) m.op vl m so sn sc _ HS1.out HLI.out.dl H3.out HQ.out.o).mono ?_; rw [wrap_succ]; rintro e w4 ⟨rfl, E⟩
  have kh := HS1.out.kh E
  have HM4 := hide (HM3.out.kh kh)
  have HZ4 := hide (HZ3.out.kh kh)
  have HE4 := hide ((HON.out _ _ E).from HBX.out)
  have HB4 := hide (Bts.sv HB3.out HQ.out.d HS1.out E)
  clear kh E k0 k1 k2 k3 k4 k5 k6 k7 k8 k9 k10
  obtain ⟨ar, har⟩ : ∃ ar, (m.ar + 1) % 18446744073709551616 = ar := ⟨_, rfl⟩
  obtain rfl : RR = ⟨0, ⟨m.p, m.o, m.r, m.c⟩, ar, true, ⟨K.t, K.es, s.T, s.D ++ [doneF m.op vl], s.G⟩⟩ := by rw [← HRO.out, har, HVL.out]
  rw [har]
  clear har
  obtain ⟨w5, hw5⟩ : ∃ w5, w4.alloc (.cells #[.int .u64 (m.p : Int), .int .u32 (m.o : Int), .int .u8 (m.r : Int), .int .u64 (m.c : Int), .int .u64 (ar : Int), .slice so sn sc] 90) = w5 := ⟨_, rfl⟩
  have b5 : Below w4.heap.size w4 w5 := hw5 ▸ below_alloc _ _
  obtain ⟨gx, hgx⟩ : ∃ gx, w4.heap.size = gx := ⟨_, rfl⟩
  have HR5 : Hid (RB w5 gx ⟨m.p, m.o, m.r, m.c⟩ (ar : Int) (.slice so sn sc)) := by show RB _ _ _ _ _; rw [← hgx, ← hw5]; exact rb_new w4 ⟨m.p, m.o, m.r, m.c⟩ (ar : Int) (.slice so sn sc)
  have HGX : Hid (w.heap.size ≤ gx) := by show _ ≤ _; rw [← hgx]; have := lt_of_heap HM4.out; omega
  have HM5 := hide (HM4.out.grow b5)
  have HZ5 := hide (HZ4.out.grow b5)
  have HE5 := hide (HE4.out.to b5)
  have HB5 := hide (HB4.out.carry b5)
  clear b5
  obtain ⟨k0, k1, k2, k3, k4, k5, k6, k7, k8, k9, k10⟩ := HM5.out.all
  obtain ⟨y0, y1, y2, y3, y4, y5⟩ := HR5.out.all
  
  have HN := hide HQ.out.n
  go_wp2_with fail
  try rw [hgx]
  obtain ⟨m2, h2⟩ : ∃ m2, (⟨m.rp, m.ta, m.id, m.op, 0, m.p, m.o, m.r, m.c, ar⟩ : Msg) = m2 := ⟨_, rfl⟩
  refine (answer_any m (.slice so sn sc) (0) (m.p) (m.o) (m.r) (m.c) (ar) so sn sc l _ (by omega) HB5.out (HN.out) m2 h2).mono ?_; rintro e w6 ⟨co2, cc2, rfl, B6, N6, b6⟩
  have HB6 := hide B6
  have HZ6 := hide (HZ5.out.grow b6)
  have HE6 := hide (HE5.out.to b6)
  have HN6 := hide N6
  have HS6 : Hid (w.heap.size + 1 < w5.heap.size) := lt_of_heap HZ5.out
  have HM2 : Hid (m2 = rplF m ⟨0, ⟨m.p, m.o, m.r, m.c⟩, ar, true, ⟨K.t, K.es, s.T, s.D ++ [doneF m.op vl], s.G⟩⟩) := by show m2 = rplF m _; unfold rplF; rw [if_pos rfl, ← h2]
  have HDT : Hid (datF ⟨0, ⟨m.p, m.o, m.r, m.c⟩, ar, true, ⟨K.t, K.es, s.T, s.D ++ [doneF m.op vl], s.G⟩⟩ l = l) := by show datF _ l = _; unfold datF; rw [if_pos ⟨rfl, rfl⟩]
  clear B6 N6 b6 h2 k0 k1 k2 k3 k4 k5 k6 k7 k8 k9 k10 y0 y1 y2 y3 y4 y5 hw5 hgx
  have HZL := hide (HZ6.out.lay (m := m2) (D := .slice co2 sn cc2))
  have f7 := foot_lay11 w6 (w.heap.size + 1) m2 (.slice co2 sn cc2)
  have HE7 := hide (HE6.out.msg HW0.out HZ6.out (by omega) f7)
  have HB7 := hide (Bts.foot HB6.out f7 (fun ad e _ (h : ad.block = w.heap.size + 1) => by have := HN6.out ad e; have := HS6.out; omega))
  obtain ⟨w7, hw7⟩ : ∃ w7, lay11 w6 (w.heap.size + 1) m2 (.slice co2 sn cc2) = w7 := ⟨_, rfl⟩
  rw [hw7] at HZL HE7 HB7
  unfold lay11 at hw7
  clear f7
  obtain ⟨v0, v1, v2, v3, v4, v5, v6, v7, v8, v9, v10⟩ := HZL.out.all
  obtain ⟨z0, z1, z2, z3, z4, z5, z6, z7, z8, z9, z10⟩ := HZ6.out.all
  have x0 := HZ6.out.z 0
  have x1 := HZ6.out.z 1
  have x2 := HZ6.out.z 2
  have x3 := HZ6.out.z 3
  have x4 := HZ6.out.z 4
  have x5 := HZ6.out.z 5
  have x6 := HZ6.out.z 6
  have x7 := HZ6.out.z 7
  have x8 := HZ6.out.z 8
  have x9 := HZ6.out.z 9
  have x10 := HZ6.out.z 10
  go_wp2
  refine bodyPost_ret (by simp [results, Tryd.results15, go_sem, v0, v1, v2, v3, v4, v5, v6, v7, v8, v9, v10]; rfl) rfl ?_
  refine ⟨m2, co2, sn, cc2, HM2.out, rfl, ?_, .inr (HN6.out.le (by have := HS6.out; omega)), HE7.out⟩
  rw [HDT.out]; exact HB7.out
end
end Go.Proofs.YtjpgfldppepmiaaDoor
namespace Go.Proofs.YtjpgfldppepmiaaDoor
section
open Go.RowKit
variable {w0 w w1 w2 w' : World} {A A' : Ad} {p : Nat} {ws : List Nat} {s s' s1 : Hs} {r g sb : Nat}
set_option maxRecDepth 20000 in
set_option maxHeartbeats 6400000 in
theorem want_no (m : Msg) (so : Option Addr) (sn sc : Nat) (l : List UInt8) (w : World) (x : Sv w0 w A p ws s) (hb : Bts w so sn sc l) (q : Okm w0 m so sn) (li : Lim s) (hg : Glob w0) (hm : mayC ⟨m.p, m.o, m.r, m.c⟩ = true) (hop : 100 ≤ m.op) (hn1 : needB m.op = true) (K : Chk) (hK : chkF ws s.t s.es p s.T ⟨m.p, m.o, m.r, m.c⟩ (needN m.op) = K) (h0 : K.e = 0) (h3 : m.op = 103) :
    Calls Tryd.prog 15 #[.pointer (some ⟨A.g, 0, none⟩), .pointer (some ⟨A.sb, 0, none⟩), .agg #[.int .u64 m.ta, .int .u64 m.rp, .int .u32 m.id, .int .u16 m.op, .int .u16 m.st, .int .u64 m.p, .int .u32 m.o, .int .u8 m.r, .int .u64 m.c, .int .u64 m.ar, .slice so sn sc]] w fun e w' => RplEnd w0 w A p ws m (badF ⟨K.t, K.es, s.T, s.D ++ [doneF m.op (s.T K.k).v], s.G⟩ 13) l e w' := by
  have hmf : ∀ (fn : Fn) (first cap : Array Value) (w : World), (Instr.makeFunc fn first cap).run Tryd.prog w = .ok (.func fn first cap) w := fun _ _ _ _ => rfl
  obtain ⟨X, hX, bm, bz, bX⟩ := rep_vars w m (.slice so sn sc)
  have HX0 := hide (x.grow bX)
  have HB0 := hide (hb.carry bX)
  have HM0 := hide bm
  have HZ0 := hide bz
  have HBX0 := hide bX
  have HW0 : Hid (w0.heap.size ≤ w.heap.size) := x.bel.size
  have HQ := hide q
  have HLI := hide li
  have HG := hide hg
  have HMY : Hid (decide (m.p ≤ 281474976710655 ∧ m.o ≤ 16777215 ∧ m.c ≤ 281474976710655) = true) := hm
  have HK := hide hK
  have n1 : ((m.op : Int) == 1) = false := by rw [beq_eq_false_iff_ne]; omega
  have n2 : ((m.op : Int) == 2) = false := by rw [beq_eq_false_iff_ne]; omega
  have n3 : ((m.op : Int) == 3) = false := by rw [beq_eq_false_iff_ne]; omega
  have n4 : ((m.op : Int) == 4) = false := by rw [beq_eq_false_iff_ne]; omega
  have n5 : ((m.op : Int) == 5) = false := by rw [beq_eq_false_iff_ne]; omega
  have HNB := hide hn1
  have HOP := hide hop
  have H0 := hide h0
  have H3 := hide h3
  have HH : Hid (hasO s.T K.k = true) := by
    have e := chk_has (hK ▸ h0)
    show hasO s.T K.k = true
    rw [← hK, e.2.2]; exact e.1
  obtain ⟨vl, hvl⟩ : ∃ vl, (s.T K.k).v = vl := ⟨_, rfl⟩
  have HVL := hide hvl
  rw [hvl]
  clear hvl
  obtain ⟨er, her⟩ : ∃ er, erN (K.e : Int) = er := ⟨_, rfl⟩
  have HER := hide her
  clear her
  obtain ⟨k0, k1, k2, k3, k4, k5, k6, k7, k8, k9, k10⟩ := bm.all
  clear bm bz bX x hb q li hg hm hK hn1 hop h0 h3
  go_enter Tryd.func15, Tryd.ntmps15
  go_wp2_with fail
  refine (may_any m.p m.o m.r m.c _ HQ.out.c.1 HQ.out.c.2.1 HQ.out.c.2.2.1 HQ.out.c.2.2.2).mono ?_; rw [HMY.out]; rintro e w2 ⟨rfl, hw2⟩
  have b2 : Below X.heap.size X w2 := hw2 ▸ below_alloc _ _
  have HX := hide (HX0.out.grow b2)
  have HB := hide (HB0.out.carry b2)
  have HM := hide (HM0.out.grow b2)
  have HZ := hide (HZ0.out.grow b2)
  have HBX := hide (below_one HBX0.out b2)
  clear b2 hw2 k0 k1 k2 k3 k4 k5 k6 k7 k8 k9 k10 hX HX0 HB0 HM0 HZ0 HBX0
  obtain ⟨k0, k1, k2, k3, k4, k5, k6, k7, k8, k9, k10⟩ := HM.out.all
  go_wp2_with fail
  refine (svc_need _ m.op _ HQ.out.o).mono ?_; rw [HNB.out]; rintro e wn ⟨rfl, hwn⟩; subst hwn
  obtain ⟨nd, hnd⟩ : ∃ nd, needN m.op = nd := ⟨_, rfl⟩
  have HND := hide hnd
  have HNL : Hid (nd ≤ 255) := by show nd ≤ _; rw [← hnd]; exact needN_le m.op
  rw [hnd]
  clear hnd
  have hli : ¬ (m.op : Int) < 100 := by have := HOP.out; omega
  go_wp2_with fail
  refine (tb_check ⟨m.p, m.o, m.r, m.c⟩ nd _ HX.out HQ.out.c HNL.out (by have := HLI.out.el; omega) K (HND.out ▸ HK.out)).mono ?_; rw [HER.out]; rintro e w3 ⟨rfl, E⟩
  have kh := HX.out.kh E
  have HM3 := hide (HM.out.kh kh)
  have HZ3 := hide (HZ.out.kh kh)
  have HE3 := hide (E.from HBX.out)
  have HB3 := hide (Bts.sv HB.out HQ.out.d HX.out E)
  have HN3 := hide E
  clear kh E k0 k1 k2 k3 k4 k5 k6 k7 k8 k9 k10
  obtain ⟨k0, k1, k2, k3, k4, k5, k6, k7, k8, k9, k10⟩ := HM3.out.all
  obtain rfl : er = .nilIface := by rw [← HER.out, H0.out]; rfl
  obtain ⟨v, dv, nv, S1, on1⟩ := SvEnd.run HN3.out
  have HS1 := hide S1
  have HON := hide on1
  clear S1 on1
  go_wp2_with fail
  refine (tb_value (A := A.upd v dv nv) K.k vl _ HS1.out HH.out HVL.out).mono ?_; rintro e wv ⟨rfl, hwv⟩; subst hwv
  go_wp2_with fail
  refine (svc_do_bad (A := A.upd v dv nv) m.op vl m so sn sc _ HS1.out HLI.out.dl H3.out).mono ?_; rintro e w4 ⟨rfl, E⟩
  have kh := HS1.out.kh E
  have HM4 := hide (HM3.out.kh kh)
  have HZ4 := hide (HZ3.out.kh kh)
  have HE4 := hide ((HON.out _ _ E).from HBX.out)
  have HB4 := hide (Bts.sv HB3.out HQ.out.d HS1.out E)
  clear kh E k0 k1 k2 k3 k4 k5 k6 k7 k8 k9 k10
  obtain ⟨w5, hw5⟩ : ∃ w5, w4.alloc (.cells #[.int .u64 0, .int .u32 0, .int .u8 0, .int .u64 0, .int .u64 0, .slice none 0 0] 90) = w5 := ⟨_, rfl⟩
  have b5 : Below w4.heap.size w4 w5 := hw5 ▸ below_alloc _ _
  obtain ⟨gx, hgx⟩ : ∃ gx, w4.heap.size = gx := ⟨_, rfl⟩
  have HR5 : Hid (RB w5 gx Cp.zero 0 (.slice none 0 0)) := by show RB _ _ _ _ _; rw [← hgx, ← hw5]; exact rb_new w4 Cp.zero 0 (.slice none 0 0)
  have HGX : Hid (w.heap.size ≤ gx) := by show _ ≤ _; rw [← hgx]; have := lt_of_heap HM4.out; omega
  have HM5 := hide (HM4.out.grow b5)
  have HZ5 := hide (HZ4.out.grow b5)
  have HE5 := hide (HE4.out.to b5)
  have HB5 := hide (HB4.out.carry b5)
  clear b5
  obtain ⟨k0, k1, k2, k3, k4, k5, k6, k7, k8, k9, k10⟩ := HM5.out.all
  obtain ⟨y0, y1, y2, y3, y4, y5⟩ := HR5.out.all
  simp only [Cp.zero, show (((0 : Nat)) : Int) = 0 from rfl] at y0 y1 y2 y3
  have g0 := HR5.out.z 0
  have g1 := HR5.out.z 1
  have g2 := HR5.out.z 2
  have g3 := HR5.out.z 3
  have g4 := HR5.out.z 4
  have g5 := HR5.out.z 5
  try rw [hgx]
  have f5 := foot_lay6 w5 gx Cp.zero 0 (.slice none 0 0)
  have HR5b := hide (HR5.out.lay Cp.zero 0 (.slice none 0 0))
  have HM5b := hide (HM5.out.foot f5 (fun e => two_types HM5.out HR5.out (by decide) e))
  have HZ5b := hide (HZ5.out.foot f5 (fun e => two_types HZ5.out HR5.out (by decide) e))
  have HE5b := hide (HE5.out.res HW0.out HR5.out HGX.out f5)
  obtain ⟨wb, hwb⟩ : ∃ wb, lay6 w5 gx Cp.zero 0 (.slice none 0 0) = wb := ⟨_, rfl⟩
  rw [hwb] at HR5b HM5b HZ5b HE5b
  unfold lay6 at hwb
  simp only [Cp.zero, show (((0 : Nat)) : Int) = 0 from rfl] at hwb
  clear f5 k0 k1 k2 k3 k4 k5 k6 k7 k8 k9 k10
  obtain ⟨k0, k1, k2, k3, k4, k5, k6, k7, k8, k9, k10⟩ := HM5b.out.all
  have HE0 : Hid ((13 : Nat) ≠ 0) := by show (13 : Nat) ≠ 0; omega
  have HEL : Hid ((13 : Nat) ≤ 65535) := by show (13 : Nat) ≤ 65535; omega
  obtain ⟨m2, h2⟩ : ∃ m2, (⟨m.rp, m.ta, m.id, m.op, 13, 0, 0, 0, 0, 0⟩ : Msg) = m2 := ⟨_, rfl⟩
  have hf := fun W (hM : MB W w.heap.size m (.slice so sn sc)) hW => wfail_any m (.slice so sn sc) (13) W hM (HEL.out) hW m2 h2
  rw [show erN (((13 : Nat)) : Int) = .iface 61 (.int .i64 13) from rfl] at hf
  have HF := hide hf
  clear hf
  go_wp2_with fail
  refine (HF.out _ HM5b.out (HE5b.out.glob HG.out)).mono ?_; rintro e w6 ⟨co2, cc2, rfl, B6, b6⟩
  have HB6 := hide B6
  have HZ6 := hide (HZ5b.out.grow b6)
  have HE6 := hide (HE5b.out.to b6)
  have HM2 : Hid (m2 = rplF m (badF ⟨K.t, K.es, s.T, s.D ++ [doneF m.op vl], s.G⟩ 13)) := by show m2 = rplF m (badF ⟨K.t, K.es, s.T, s.D ++ [doneF m.op vl], s.G⟩ 13); unfold rplF badF; rw [if_neg (by have := HE0.out; exact this), ← h2]
  have HDT : Hid (datF (badF ⟨K.t, K.es, s.T, s.D ++ [doneF m.op vl], s.G⟩ 13) l = []) := by show datF (badF ⟨K.t, K.es, s.T, s.D ++ [doneF m.op vl], s.G⟩ 13) l = _; unfold datF badF; rw [if_neg (fun e => HE0.out e.1)]
  clear B6 b6 h2 k0 k1 k2 k3 k4 k5 k6 k7 k8 k9 k10 y0 y1 y2 y3 y4 y5 hw5 hgx
  have HZL := hide (HZ6.out.lay (m := m2) (D := .slice co2 0 cc2))
  have f7 := foot_lay11 w6 (w.heap.size + 1) m2 (.slice co2 0 cc2)
  have HE7 := hide (HE6.out.msg HW0.out HZ6.out (by omega) f7)
  have HB7 : Hid (Bts (lay11 w6 (w.heap.size + 1) m2 (.slice co2 0 cc2)) co2 0 cc2 []) := bts_none HB6.out
  obtain ⟨w7, hw7⟩ : ∃ w7, lay11 w6 (w.heap.size + 1) m2 (.slice co2 0 cc2) = w7 := ⟨_, rfl⟩
  rw [hw7] at HZL HE7 HB7
  unfold lay11 at hw7
  clear f7
  obtain ⟨v0, v1, v2, v3, v4, v5, v6, v7, v8, v9, v10⟩ := HZL.out.all
  obtain ⟨z0, z1, z2, z3, z4, z5, z6, z7, z8, z9, z10⟩ := HZ6.out.all
  have x0 := HZ6.out.z 0
  have x1 := HZ6.out.z 1
  have x2 := HZ6.out.z 2
  have x3 := HZ6.out.z 3
  have x4 := HZ6.out.z 4
  have x5 := HZ6.out.z 5
  have x6 := HZ6.out.z 6
  have x7 := HZ6.out.z 7
  have x8 := HZ6.out.z 8
  have x9 := HZ6.out.z 9
  have x10 := HZ6.out.z 10
  go_wp2
  refine bodyPost_ret (by simp [results, Tryd.results15, go_sem, v0, v1, v2, v3, v4, v5, v6, v7, v8, v9, v10]; rfl) rfl ?_
  refine ⟨m2, co2, 0, cc2, HM2.out, rfl, ?_, .inl HDT.out, HE7.out⟩
  rw [HDT.out]; exact HB7.out
end
end Go.Proofs.YtjpgfldppepmiaaDoor
namespace Go.Proofs.YtjpgfldppepmiaaDoor
section
open Go.RowKit
variable {w0 w w1 w2 w' : World} {A A' : Ad} {p : Nat} {ws : List Nat} {s s' s1 : Hs} {r g sb : Nat}
theorem want_any (m : Msg) (so : Option Addr) (sn sc : Nat) (l : List UInt8) (w : World) (x : Sv w0 w A p ws s) (hb : Bts w so sn sc l) (q : Okm w0 m so sn) (li : Lim s) (hg : Glob w0) (R : Ro) (hR : outF ws p s m.op ⟨m.p, m.o, m.r, m.c⟩ m.ar = R) :
    Calls Tryd.prog 15 #[.pointer (some ⟨A.g, 0, none⟩), .pointer (some ⟨A.sb, 0, none⟩), .agg #[.int .u64 m.ta, .int .u64 m.rp, .int .u32 m.id, .int .u16 m.op, .int .u16 m.st, .int .u64 m.p, .int .u32 m.o, .int .u8 m.r, .int .u64 m.c, .int .u64 m.ar, .slice so sn sc]] w fun e w' => RplEnd w0 w A p ws m R l e w' := by
  subst hR
  unfold outF
  cases hm : mayC ⟨m.p, m.o, m.r, m.c⟩ with
  | false => rw [if_pos rfl]; exact want_may m so sn sc l w x hb q li hg hm
  | true =>
    rw [if_neg (by simp)]
    by_cases h1 : m.op = 1
    · rw [if_pos h1]; exact want_info m so sn sc l w x hb q li hg hm h1 _ rfl
    rw [if_neg h1]
    by_cases h2 : m.op = 2
    · rw [if_pos h2]; exact want_touch m so sn sc l w x hb q li hg hm h2 _ rfl
    rw [if_neg h2]
    by_cases h3 : m.op = 3
    · rw [if_pos h3]; exact want_restrict m so sn sc l w x hb q li hg hm h3 _ rfl
    rw [if_neg h3]
    by_cases h4 : m.op = 4
    · rw [if_pos h4]; exact want_revoke m so sn sc l w x hb q li hg hm h4 _ rfl
    rw [if_neg h4]
    by_cases h5 : m.op = 5
    · rw [if_pos h5]
      by_cases ho : m.o = 0
      · exact want_root m so sn sc l w x hb q li hg hm h5 ho _ rfl
      · exact want_destroy m so sn sc l w x hb q li hg hm h5 ho _ rfl
    rw [if_neg h5]
    by_cases hn : m.op < 100 ∨ needB m.op = false
    · rw [if_pos hn]; exact want_none m so sn sc l w x hb q li hg hm (by omega) hn
    rw [if_neg hn]
    have hb1 : needB m.op = true := by
      cases e : needB m.op with
      | true => rfl
      | false => exact absurd (.inr e) hn
    have h100 : 100 ≤ m.op := by
      have : ¬ m.op < 100 := fun e => hn (.inl e)
      omega
    unfold ownF
    by_cases h0 : (chkF ws s.t s.es p s.T ⟨m.p, m.o, m.r, m.c⟩ (needN m.op)).e = 0
    · rw [if_pos h0]
      by_cases h3 : m.op = 103
      · rw [if_pos h3]; exact want_no m so sn sc l w x hb q li hg hm h100 hb1 _ rfl h0 h3
      · rw [if_neg h3]; exact want_yes m so sn sc l w x hb q li hg hm h100 hb1 _ rfl h0 h3
    · rw [if_neg h0]; exact want_chk m so sn sc l w x hb q li hg hm h100 hb1 _ rfl h0
end
end Go.Proofs.YtjpgfldppepmiaaDoor
