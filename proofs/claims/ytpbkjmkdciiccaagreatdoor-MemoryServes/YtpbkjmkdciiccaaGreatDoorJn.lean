/-
  What the closure of the statements' own 'want' answers, as a contract.
  What the statements' own 'want' answers, and what it leaves: none, root0, root1, dst0, dst1.
  What the statements' own 'want' answers, and what it leaves: chk100, chk101, chk102, chk103, chk104.
  What the statements' own 'want' answers, and what it leaves: mis100, mis101, mis102.
  What the statements' own 'want' answers, and what it leaves: mis103, mis104, arg100, arg101a.
-/
import Derived.Test.YtpbkjmkdciiccaaGreatDoorJk
namespace Go.Proofs.YtpbkjmkdciiccaaGreatDoor
section
open Go.RowKit
theorem rpl_bad (m : Msg) (s : Hs) (e : Nat) : rplF m (badF s e) = ⟨m.rp, m.ta, m.id, m.op, e, 0, 0, 0, 0, 0⟩ := by
  unfold rplF badF
  split
  · rename_i h; rw [show e = 0 from h]; rfl
  · rfl
theorem dat_bad (s : Hs) (e : Nat) (l : List UInt8) : datF (badF s e) l = [] := by
  unfold datF badF; split <;> rfl
theorem Dat.up {N N' sn : Nat} {w : World} {so : Option Addr} (h : Dat N w sn so) (hN : N ≤ N') : Dat N' w sn so := fun hp ad e => by
  rcases h hp ad e with h | h
  · exact .inl (by omega)
  · exact .inr h
set_option maxHeartbeats 1600000 in
theorem wfail_any (m : Msg) (D : Value) (e : Nat) (w : World) {gm : Nat} (hM : MB w gm m D) (he : e ≤ 65535) (hg : Glob w) (m2 : Msg) (h2 : (⟨m.rp, m.ta, m.id, m.op, e, 0, 0, 0, 0, 0⟩ : Msg) = m2) :
    Calls Tryz.prog 37 #[erN (e : Int), .pointer (some ⟨gm, 0, none⟩)] w fun e w' => ∃ co cc, e = .returned (.agg #[.int .u64 m2.ta, .int .u64 m2.rp, .int .u32 m2.id, .int .u16 m2.op, .int .u16 m2.st, .int .u64 m2.p, .int .u32 m2.o, .int .u8 m2.r, .int .u64 m2.c, .int .u64 m2.ar, .slice co 0 cc]) ∧ Bts w' co 0 cc [] ∧ Below w.heap.size w w' := by
  obtain ⟨er, her⟩ : ∃ er, erN (e : Int) = er := ⟨_, rfl⟩
  have hf := srv_fault m D e
  rw [her] at hf ⊢
  have HF := hide hf
  have HM := hide hM
  have HG := hide hg
  have HEL := hide he
  have H2 := hide h2
  obtain ⟨X, hX⟩ : ∃ X, w.alloc (.cells #[.int .u64 0, .int .u64 0, .int .u32 0, .int .u16 0, .int .u16 0, .int .u64 0, .int .u32 0, .int .u8 0, .int .u64 0, .int .u64 0, .slice none 0 0] 53) = X := ⟨_, rfl⟩
  have bX : Below w.heap.size w X := hX ▸ below_alloc _ _
  have HZ : Hid (MB X w.heap.size Msg.zero (.slice none 0 0)) := hX ▸ mb_new w Msg.zero _
  have HB := hide bX
  have HMX := hide (HM.out.grow bX)
  have HGX := hide (HG.out.carry bX)
  obtain ⟨k0, k1, k2, k3, k4, k5, k6, k7, k8, k9, k10⟩ := HMX.out.all
  clear hf hM hg he h2 bX her
  go_enter Tryz.func37, Tryz.ntmps37
  go_wp2_with fail
  refine (HF.out _ HEL.out HGX.out m2 H2.out).mono ?_; rintro e w6 ⟨co2, cc2, rfl, B6, b6⟩
  have HB6 := hide B6
  have HZ6 := hide (HZ.out.grow b6)
  have HBX6 := hide (below_one HB.out b6)
  clear B6 b6 k0 k1 k2 k3 k4 k5 k6 k7 k8 k9 k10
  have HZL := hide (HZ6.out.lay (m := m2) (D := .slice co2 0 cc2))
  have HB7 : Hid (Below w.heap.size w (lay11 w6 w.heap.size m2 (.slice co2 0 cc2))) := (((below_foot (fun j => w.heap.size ≤ j) HBX6.out).trans (foot_lay11 w6 w.heap.size m2 (.slice co2 0 cc2)) (fun j (e : j = _) => .inl (by show w.heap.size ≤ j; omega))).below (Nat.le_refl _) (fun k e => e))
  have HD7 : Hid (Bts (lay11 w6 w.heap.size m2 (.slice co2 0 cc2)) co2 0 cc2 []) := bts_none HB6.out
  obtain ⟨w7, hw7⟩ : ∃ w7, lay11 w6 w.heap.size m2 (.slice co2 0 cc2) = w7 := ⟨_, rfl⟩
  rw [hw7] at HZL HB7 HD7
  unfold lay11 at hw7
  obtain ⟨v0, v1, v2, v3, v4, v5, v6, v7, v8, v9, v10⟩ := HZL.out.all
  obtain ⟨z0, z1, z2, z3, z4, z5, z6, z7, z8, z9, z10⟩ := HZ6.out.all
  have x0 := HZ6.out.z 0
  have x1 := HZ6.out.z 1
  have x2 := HZ6.out.z 2
  have x3 := HZ6.out.z 3
  have x4 := HZ6.out.z 4
  have x5 := HZ6.out.z 5
  have x6 := HZ6.out.z 6
  have x7 := HZ6.out.z 7
  have x8 := HZ6.out.z 8
  have x9 := HZ6.out.z 9
  have x10 := HZ6.out.z 10
  go_wp2
  refine bodyPost_ret (by simp [results, Tryz.results37, go_sem, v0, v1, v2, v3, v4, v5, v6, v7, v8, v9, v10]; rfl) rfl ?_
  exact ⟨co2, cc2, rfl, HD7.out, HB7.out⟩
end
end Go.Proofs.YtpbkjmkdciiccaaGreatDoor
namespace Go.Proofs.YtpbkjmkdciiccaaGreatDoor
section
open Go.RowKit
variable {w0 w w1 w2 w' : World} {A A' : Ad} {p : Nat} {ws : List Nat} {s s' s1 : Hs} {r g : Nat} {sb : Nat × Nat}
set_option maxRecDepth 20000 in
set_option maxHeartbeats 12800000 in
theorem want_none (m : Msg) (so : Option Addr) (sn sc : Nat) (l : List UInt8) (w : World) (x : Sv w0 w A p ws s) (hb : Bts w so sn sc l) (q : Okm w0 w m so sn) (li : Lim s) (hg : Glob w0) (hop : 104 < m.op) :
    Calls Tryz.prog 19 #[.pointer (some ⟨A.g, 0, none⟩), .pointer (some ⟨A.sb.2, 0, none⟩), .agg #[.int .u64 m.ta, .int .u64 m.rp, .int .u32 m.id, .int .u16 m.op, .int .u16 m.st, .int .u64 m.p, .int .u32 m.o, .int .u8 m.r, .int .u64 m.c, .int .u64 m.ar, .slice so sn sc]] w fun e w' => RplEnd w0 w A p ws m (badF s 3) l e w' := by
  have hmf : ∀ (fn : Fn) (first cap : Array Value) (w : World), (Instr.makeFunc fn first cap).run Tryz.prog w = .ok (.func fn first cap) w := fun _ _ _ _ => rfl
  obtain ⟨X, hX, bm, bz, bX⟩ := rep_vars w m (.slice so sn sc)
  have HX := hide (x.grow bX)
  have HB := hide (hb.carry bX)
  have HM := hide bm
  have HZ := hide bz
  have HBX := hide bX
  have HW0 : Hid (w0.heap.size ≤ w.heap.size) := x.bel.size
  have HQ := hide q
  have HQX := hide (q.grow bX)
  have HLI := hide li
  have HG := hide hg
  have n5 : ((m.op : Int) == 5) = false := by rw [beq_eq_false_iff_ne]; omega
  have n104 : (104 : Int) < (m.op : Int) := by omega
  have HE := hide ((Sv.stay HX.out).from HBX.out)
  obtain ⟨k0, k1, k2, k3, k4, k5, k6, k7, k8, k9, k10⟩ := HM.out.all
  clear bm bz bX x hb q li hg hop
  go_enter Tryz.func19, Tryz.ntmps19
  obtain ⟨m2, h2⟩ : ∃ m2, (⟨m.rp, m.ta, m.id, m.op, 3, 0, 0, 0, 0, 0⟩ : Msg) = m2 := ⟨_, rfl⟩
  have hf := fun W (hM : MB W w.heap.size m (.slice so sn sc)) hW => wfail_any m (.slice so sn sc) (3) W hM (by omega) hW m2 h2
  rw [show erN (((3 : Nat)) : Int) = .iface 43 (.int .i64 3) from rfl] at hf
  have HF := hide hf
  clear hf
  go_wp2_with fail
  refine (HF.out _ HM.out (HE.out.glob HG.out)).mono ?_; rintro e w6 ⟨co2, cc2, rfl, B6, b6⟩
  have HB6 := hide B6
  have HZ6 := hide (HZ.out.grow b6)
  have HE6 := hide (HE.out.to b6)
  have HM2 : Hid (m2 = rplF m (badF s (3))) := by show _ = _; rw [rpl_bad, ← h2]
  clear B6 b6 h2 k0 k1 k2 k3 k4 k5 k6 k7 k8 k9 k10
  have HZL := hide (HZ6.out.lay (m := m2) (D := .slice co2 0 cc2))
  have f7 := foot_lay11 w6 (w.heap.size + 1) m2 (.slice co2 0 cc2)
  have HE7 := hide (HE6.out.msg HW0.out HZ6.out (by omega) f7)
  have HB7 : Hid (Bts (lay11 w6 (w.heap.size + 1) m2 (.slice co2 0 cc2)) co2 0 cc2 []) := bts_none HB6.out
  obtain ⟨w7, hw7⟩ : ∃ w7, lay11 w6 (w.heap.size + 1) m2 (.slice co2 0 cc2) = w7 := ⟨_, rfl⟩
  rw [hw7] at HZL HE7 HB7
  unfold lay11 at hw7
  clear f7
  obtain ⟨v0, v1, v2, v3, v4, v5, v6, v7, v8, v9, v10⟩ := HZL.out.all
  obtain ⟨z0, z1, z2, z3, z4, z5, z6, z7, z8, z9, z10⟩ := HZ6.out.all
  have x0 := HZ6.out.z 0
  have x1 := HZ6.out.z 1
  have x2 := HZ6.out.z 2
  have x3 := HZ6.out.z 3
  have x4 := HZ6.out.z 4
  have x5 := HZ6.out.z 5
  have x6 := HZ6.out.z 6
  have x7 := HZ6.out.z 7
  have x8 := HZ6.out.z 8
  have x9 := HZ6.out.z 9
  have x10 := HZ6.out.z 10
  go_wp2
  refine bodyPost_ret (by simp [results, Tryz.results19, go_sem, v0, v1, v2, v3, v4, v5, v6, v7, v8, v9, v10]; rfl) rfl ?_
  exact ⟨m2, co2, 0, cc2, HM2.out, rfl, by rw [dat_bad]; exact HB7.out, .inl (dat_bad _ _ _), HE7.out⟩
set_option maxRecDepth 20000 in
set_option maxHeartbeats 12800000 in
theorem want_root0 (m : Msg) (so : Option Addr) (sn sc : Nat) (l : List UInt8) (w : World) (x : Sv w0 w A p ws s) (hb : Bts w so sn sc l) (q : Okm w0 w m so sn) (li : Lim s) (hg : Glob w0) (hop : m.op = 5) (ho : m.o = 0) (K : Chk) (hK : chkF ws s.t s.es p s.T ⟨m.p, m.o, m.r, m.c⟩ 8 = K) (h0 : K.e ≠ 0) :
    Calls Tryz.prog 19 #[.pointer (some ⟨A.g, 0, none⟩), .pointer (some ⟨A.sb.2, 0, none⟩), .agg #[.int .u64 m.ta, .int .u64 m.rp, .int .u32 m.id, .int .u16 m.op, .int .u16 m.st, .int .u64 m.p, .int .u32 m.o, .int .u8 m.r, .int .u64 m.c, .int .u64 m.ar, .slice so sn sc]] w fun e w' => RplEnd w0 w A p ws m (badF (s.tab K.t K.es s.T) K.e) l e w' := by
  have hmf : ∀ (fn : Fn) (first cap : Array Value) (w : World), (Instr.makeFunc fn first cap).run Tryz.prog w = .ok (.func fn first cap) w := fun _ _ _ _ => rfl
  obtain ⟨X, hX, bm, bz, bX⟩ := rep_vars w m (.slice so sn sc)
  have HX := hide (x.grow bX)
  have HB := hide (hb.carry bX)
  have HM := hide bm
  have HZ := hide bz
  have HBX := hide bX
  have HW0 : Hid (w0.heap.size ≤ w.heap.size) := x.bel.size
  have HQ := hide q
  have HQX := hide (q.grow bX)
  have HLI := hide li
  have HG := hide hg
  have hopi : (m.op : Int) = 5 := by omega
  have hoi : (m.o : Int) = 0 := by omega
  have HK := hide hK
  have H0 := hide h0
  have HEL : Hid (K.e ≤ 65535) := by show _ ≤ _; have := chk_err ws s.t s.es p s.T ⟨m.p, m.o, m.r, m.c⟩ 8; rw [hK] at this; omega
  obtain ⟨er, her⟩ : ∃ er, erN (K.e : Int) = er := ⟨_, rfl⟩
  have HER := hide her
  obtain ⟨k0, k1, k2, k3, k4, k5, k6, k7, k8, k9, k10⟩ := HM.out.all
  rw [hopi] at k3 hX
  rw [hoi] at k6 hX
  clear bm bz bX x hb q li hg hop ho hK h0 her
  go_enter Tryz.func19, Tryz.ntmps19
  go_wp2_with fail
  have hc := tb_check ⟨m.p, m.o, m.r, m.c⟩ 8 _ HX.out HQ.out.c (by omega) (by have := HLI.out.el; omega) K HK.out
  rw [show Cp.val ⟨m.p, m.o, m.r, m.c⟩ = .agg #[.int .u64 (m.p : Int), .int .u32 (m.o : Int), .int .u8 (m.r : Int), .int .u64 (m.c : Int)] from rfl, hoi, HER.out] at hc
  refine hc.mono ?_; clear hc; rintro e w2 ⟨rfl, E⟩
  have kh := HX.out.kh E
  have HM := hide (HM.out.kh kh)
  have HZ := hide (HZ.out.kh kh)
  have HE := hide (E.from HBX.out)
  clear kh E k0 k1 k2 k3 k4 k5 k6 k7 k8 k9 k10 hX
  obtain ⟨k0, k1, k2, k3, k4, k5, k6, k7, k8, k9, k10⟩ := HM.out.all
  obtain ⟨tE, hE⟩ : ∃ v, er = .iface 43 v := ⟨_, by rw [← HER.out]; exact erN_not (by have := H0.out; omega)⟩
  subst hE
  obtain ⟨m2, h2⟩ : ∃ m2, (⟨m.rp, m.ta, m.id, m.op, K.e, 0, 0, 0, 0, 0⟩ : Msg) = m2 := ⟨_, rfl⟩
  have hf := fun W (hM : MB W w.heap.size m (.slice so sn sc)) hW => wfail_any m (.slice so sn sc) (K.e) W hM (HEL.out) hW m2 h2
  rw [HER.out] at hf
  have HF := hide hf
  clear hf
  go_wp2_with fail
  refine (HF.out _ HM.out (HE.out.glob HG.out)).mono ?_; rintro e w6 ⟨co2, cc2, rfl, B6, b6⟩
  have HB6 := hide B6
  have HZ6 := hide (HZ.out.grow b6)
  have HE6 := hide (HE.out.to b6)
  have HM2 : Hid (m2 = rplF m (badF (s.tab K.t K.es s.T) (K.e))) := by show _ = _; rw [rpl_bad, ← h2]
  clear B6 b6 h2 k0 k1 k2 k3 k4 k5 k6 k7 k8 k9 k10
  have HZL := hide (HZ6.out.lay (m := m2) (D := .slice co2 0 cc2))
  have f7 := foot_lay11 w6 (w.heap.size + 1) m2 (.slice co2 0 cc2)
  have HE7 := hide (HE6.out.msg HW0.out HZ6.out (by omega) f7)
  have HB7 : Hid (Bts (lay11 w6 (w.heap.size + 1) m2 (.slice co2 0 cc2)) co2 0 cc2 []) := bts_none HB6.out
  obtain ⟨w7, hw7⟩ : ∃ w7, lay11 w6 (w.heap.size + 1) m2 (.slice co2 0 cc2) = w7 := ⟨_, rfl⟩
  rw [hw7] at HZL HE7 HB7
  unfold lay11 at hw7
  clear f7
  obtain ⟨v0, v1, v2, v3, v4, v5, v6, v7, v8, v9, v10⟩ := HZL.out.all
  obtain ⟨z0, z1, z2, z3, z4, z5, z6, z7, z8, z9, z10⟩ := HZ6.out.all
  have x0 := HZ6.out.z 0
  have x1 := HZ6.out.z 1
  have x2 := HZ6.out.z 2
  have x3 := HZ6.out.z 3
  have x4 := HZ6.out.z 4
  have x5 := HZ6.out.z 5
  have x6 := HZ6.out.z 6
  have x7 := HZ6.out.z 7
  have x8 := HZ6.out.z 8
  have x9 := HZ6.out.z 9
  have x10 := HZ6.out.z 10
  go_wp2
  refine bodyPost_ret (by simp [results, Tryz.results19, go_sem, v0, v1, v2, v3, v4, v5, v6, v7, v8, v9, v10]; rfl) rfl ?_
  exact ⟨m2, co2, 0, cc2, HM2.out, rfl, by rw [dat_bad]; exact HB7.out, .inl (dat_bad _ _ _), HE7.out⟩
set_option maxRecDepth 20000 in
set_option maxHeartbeats 12800000 in
theorem want_root1 (m : Msg) (so : Option Addr) (sn sc : Nat) (l : List UInt8) (w : World) (x : Sv w0 w A p ws s) (hb : Bts w so sn sc l) (q : Okm w0 w m so sn) (li : Lim s) (hg : Glob w0) (hop : m.op = 5) (ho : m.o = 0) (K : Chk) (hK : chkF ws s.t s.es p s.T ⟨m.p, m.o, m.r, m.c⟩ 8 = K) (h0 : K.e = 0) :
    Calls Tryz.prog 19 #[.pointer (some ⟨A.g, 0, none⟩), .pointer (some ⟨A.sb.2, 0, none⟩), .agg #[.int .u64 m.ta, .int .u64 m.rp, .int .u32 m.id, .int .u16 m.op, .int .u16 m.st, .int .u64 m.p, .int .u32 m.o, .int .u8 m.r, .int .u64 m.c, .int .u64 m.ar, .slice so sn sc]] w fun e w' => RplEnd w0 w A p ws m (badF (s.tab K.t K.es s.T) 15) l e w' := by
  have hmf : ∀ (fn : Fn) (first cap : Array Value) (w : World), (Instr.makeFunc fn first cap).run Tryz.prog w = .ok (.func fn first cap) w := fun _ _ _ _ => rfl
  obtain ⟨X, hX, bm, bz, bX⟩ := rep_vars w m (.slice so sn sc)
  have HX := hide (x.grow bX)
  have HB := hide (hb.carry bX)
  have HM := hide bm
  have HZ := hide bz
  have HBX := hide bX
  have HW0 : Hid (w0.heap.size ≤ w.heap.size) := x.bel.size
  have HQ := hide q
  have HQX := hide (q.grow bX)
  have HLI := hide li
  have HG := hide hg
  have hopi : (m.op : Int) = 5 := by omega
  have hoi : (m.o : Int) = 0 := by omega
  have HK := hide hK
  have H0 := hide h0
  have HEL : Hid (K.e ≤ 65535) := by show _ ≤ _; have := chk_err ws s.t s.es p s.T ⟨m.p, m.o, m.r, m.c⟩ 8; rw [hK] at this; omega
  obtain ⟨er, her⟩ : ∃ er, erN (K.e : Int) = er := ⟨_, rfl⟩
  have HER := hide her
  obtain ⟨k0, k1, k2, k3, k4, k5, k6, k7, k8, k9, k10⟩ := HM.out.all
  rw [hopi] at k3 hX
  rw [hoi] at k6 hX
  clear bm bz bX x hb q li hg hop ho hK h0 her
  go_enter Tryz.func19, Tryz.ntmps19
  go_wp2_with fail
  have hc := tb_check ⟨m.p, m.o, m.r, m.c⟩ 8 _ HX.out HQ.out.c (by omega) (by have := HLI.out.el; omega) K HK.out
  rw [show Cp.val ⟨m.p, m.o, m.r, m.c⟩ = .agg #[.int .u64 (m.p : Int), .int .u32 (m.o : Int), .int .u8 (m.r : Int), .int .u64 (m.c : Int)] from rfl, hoi, HER.out] at hc
  refine hc.mono ?_; clear hc; rintro e w2 ⟨rfl, E⟩
  have kh := HX.out.kh E
  have HM := hide (HM.out.kh kh)
  have HZ := hide (HZ.out.kh kh)
  have HE := hide (E.from HBX.out)
  clear kh E k0 k1 k2 k3 k4 k5 k6 k7 k8 k9 k10 hX
  obtain ⟨k0, k1, k2, k3, k4, k5, k6, k7, k8, k9, k10⟩ := HM.out.all
  obtain rfl : er = .nilIface := by rw [← HER.out, H0.out]; rfl
  obtain ⟨m2, h2⟩ : ∃ m2, (⟨m.rp, m.ta, m.id, m.op, 15, 0, 0, 0, 0, 0⟩ : Msg) = m2 := ⟨_, rfl⟩
  have hf := fun W (hM : MB W w.heap.size m (.slice so sn sc)) hW => wfail_any m (.slice so sn sc) (15) W hM (by omega) hW m2 h2
  rw [show erN (((15 : Nat)) : Int) = .iface 43 (.int .i64 15) from rfl] at hf
  have HF := hide hf
  clear hf
  go_wp2_with fail
  refine (HF.out _ HM.out (HE.out.glob HG.out)).mono ?_; rintro e w6 ⟨co2, cc2, rfl, B6, b6⟩
  have HB6 := hide B6
  have HZ6 := hide (HZ.out.grow b6)
  have HE6 := hide (HE.out.to b6)
  have HM2 : Hid (m2 = rplF m (badF (s.tab K.t K.es s.T) (15))) := by show _ = _; rw [rpl_bad, ← h2]
  clear B6 b6 h2 k0 k1 k2 k3 k4 k5 k6 k7 k8 k9 k10
  have HZL := hide (HZ6.out.lay (m := m2) (D := .slice co2 0 cc2))
  have f7 := foot_lay11 w6 (w.heap.size + 1) m2 (.slice co2 0 cc2)
  have HE7 := hide (HE6.out.msg HW0.out HZ6.out (by omega) f7)
  have HB7 : Hid (Bts (lay11 w6 (w.heap.size + 1) m2 (.slice co2 0 cc2)) co2 0 cc2 []) := bts_none HB6.out
  obtain ⟨w7, hw7⟩ : ∃ w7, lay11 w6 (w.heap.size + 1) m2 (.slice co2 0 cc2) = w7 := ⟨_, rfl⟩
  rw [hw7] at HZL HE7 HB7
  unfold lay11 at hw7
  clear f7
  obtain ⟨v0, v1, v2, v3, v4, v5, v6, v7, v8, v9, v10⟩ := HZL.out.all
  obtain ⟨z0, z1, z2, z3, z4, z5, z6, z7, z8, z9, z10⟩ := HZ6.out.all
  have x0 := HZ6.out.z 0
  have x1 := HZ6.out.z 1
  have x2 := HZ6.out.z 2
  have x3 := HZ6.out.z 3
  have x4 := HZ6.out.z 4
  have x5 := HZ6.out.z 5
  have x6 := HZ6.out.z 6
  have x7 := HZ6.out.z 7
  have x8 := HZ6.out.z 8
  have x9 := HZ6.out.z 9
  have x10 := HZ6.out.z 10
  go_wp2
  refine bodyPost_ret (by simp [results, Tryz.results19, go_sem, v0, v1, v2, v3, v4, v5, v6, v7, v8, v9, v10]; rfl) rfl ?_
  exact ⟨m2, co2, 0, cc2, HM2.out, rfl, by rw [dat_bad]; exact HB7.out, .inl (dat_bad _ _ _), HE7.out⟩
set_option maxRecDepth 20000 in
set_option maxHeartbeats 12800000 in
theorem want_dst0 (m : Msg) (so : Option Addr) (sn sc : Nat) (l : List UInt8) (w : World) (x : Sv w0 w A p ws s) (hb : Bts w so sn sc l) (q : Okm w0 w m so sn) (li : Lim s) (hg : Glob w0) (hop : m.op = 5) (ho : m.o ≠ 0) (K : Chk) (hK : chkF ws s.t s.es p s.T ⟨m.p, m.o, m.r, m.c⟩ 8 = K) (h0 : K.e ≠ 0) :
    Calls Tryz.prog 19 #[.pointer (some ⟨A.g, 0, none⟩), .pointer (some ⟨A.sb.2, 0, none⟩), .agg #[.int .u64 m.ta, .int .u64 m.rp, .int .u32 m.id, .int .u16 m.op, .int .u16 m.st, .int .u64 m.p, .int .u32 m.o, .int .u8 m.r, .int .u64 m.c, .int .u64 m.ar, .slice so sn sc]] w fun e w' => RplEnd w0 w A p ws m (badF (s.tab K.t K.es (desT s.T K)) K.e) l e w' := by
  have hmf : ∀ (fn : Fn) (first cap : Array Value) (w : World), (Instr.makeFunc fn first cap).run Tryz.prog w = .ok (.func fn first cap) w := fun _ _ _ _ => rfl
  obtain ⟨X, hX, bm, bz, bX⟩ := rep_vars w m (.slice so sn sc)
  have HX := hide (x.grow bX)
  have HB := hide (hb.carry bX)
  have HM := hide bm
  have HZ := hide bz
  have HBX := hide bX
  have HW0 : Hid (w0.heap.size ≤ w.heap.size) := x.bel.size
  have HQ := hide q
  have HQX := hide (q.grow bX)
  have HLI := hide li
  have HG := hide hg
  have hopi : (m.op : Int) = 5 := by omega
  have hoi : ((m.o : Int) == 0) = false := by rw [beq_eq_false_iff_ne]; omega
  have HK := hide hK
  have H0 := hide h0
  have HEL : Hid (K.e ≤ 65535) := by show _ ≤ _; have := chk_err ws s.t s.es p s.T ⟨m.p, m.o, m.r, m.c⟩ 8; rw [hK] at this; omega
  obtain ⟨er, her⟩ : ∃ er, erN (K.e : Int) = er := ⟨_, rfl⟩
  have HER := hide her
  obtain ⟨vl, hvl⟩ : ∃ vl : Int, (if K.e = 0 then (s.T K.k).v else 0) = vl := ⟨_, rfl⟩
  have HVL := hide hvl
  obtain ⟨k0, k1, k2, k3, k4, k5, k6, k7, k8, k9, k10⟩ := HM.out.all
  rw [hopi] at k3 hX
  clear bm bz bX x hb q li hg hop ho hK h0 her hvl
  go_enter Tryz.func19, Tryz.ntmps19
  go_wp2_with fail
  refine (tb_destroy ⟨m.p, m.o, m.r, m.c⟩ _ HX.out HQ.out.c (by have := HLI.out.el; omega) K HK.out).mono ?_; rw [HER.out, HVL.out]; rintro e w2 ⟨rfl, E⟩
  have kh := HX.out.kh E
  have HM := hide (HM.out.kh kh)
  have HZ := hide (HZ.out.kh kh)
  have HE := hide (E.from HBX.out)
  clear kh k0 k1 k2 k3 k4 k5 k6 k7 k8 k9 k10 hX
  obtain ⟨k0, k1, k2, k3, k4, k5, k6, k7, k8, k9, k10⟩ := HM.out.all
  obtain ⟨tE, hE⟩ : ∃ v, er = .iface 43 v := ⟨_, by rw [← HER.out]; exact erN_not (by have := H0.out; omega)⟩
  subst hE
  clear E
  obtain ⟨m2, h2⟩ : ∃ m2, (⟨m.rp, m.ta, m.id, m.op, K.e, 0, 0, 0, 0, 0⟩ : Msg) = m2 := ⟨_, rfl⟩
  have hf := fun W (hM : MB W w.heap.size m (.slice so sn sc)) hW => wfail_any m (.slice so sn sc) (K.e) W hM (HEL.out) hW m2 h2
  rw [HER.out] at hf
  have HF := hide hf
  clear hf
  go_wp2_with fail
  refine (HF.out _ HM.out (HE.out.glob HG.out)).mono ?_; rintro e w6 ⟨co2, cc2, rfl, B6, b6⟩
  have HB6 := hide B6
  have HZ6 := hide (HZ.out.grow b6)
  have HE6 := hide (HE.out.to b6)
  have HM2 : Hid (m2 = rplF m (badF (s.tab K.t K.es (desT s.T K)) (K.e))) := by show _ = _; rw [rpl_bad, ← h2]
  clear B6 b6 h2 k0 k1 k2 k3 k4 k5 k6 k7 k8 k9 k10
  have HZL := hide (HZ6.out.lay (m := m2) (D := .slice co2 0 cc2))
  have f7 := foot_lay11 w6 (w.heap.size + 1) m2 (.slice co2 0 cc2)
  have HE7 := hide (HE6.out.msg HW0.out HZ6.out (by omega) f7)
  have HB7 : Hid (Bts (lay11 w6 (w.heap.size + 1) m2 (.slice co2 0 cc2)) co2 0 cc2 []) := bts_none HB6.out
  obtain ⟨w7, hw7⟩ : ∃ w7, lay11 w6 (w.heap.size + 1) m2 (.slice co2 0 cc2) = w7 := ⟨_, rfl⟩
  rw [hw7] at HZL HE7 HB7
  unfold lay11 at hw7
  clear f7
  obtain ⟨v0, v1, v2, v3, v4, v5, v6, v7, v8, v9, v10⟩ := HZL.out.all
  obtain ⟨z0, z1, z2, z3, z4, z5, z6, z7, z8, z9, z10⟩ := HZ6.out.all
  have x0 := HZ6.out.z 0
  have x1 := HZ6.out.z 1
  have x2 := HZ6.out.z 2
  have x3 := HZ6.out.z 3
  have x4 := HZ6.out.z 4
  have x5 := HZ6.out.z 5
  have x6 := HZ6.out.z 6
  have x7 := HZ6.out.z 7
  have x8 := HZ6.out.z 8
  have x9 := HZ6.out.z 9
  have x10 := HZ6.out.z 10
  go_wp2
  refine bodyPost_ret (by simp [results, Tryz.results19, go_sem, v0, v1, v2, v3, v4, v5, v6, v7, v8, v9, v10]; rfl) rfl ?_
  exact ⟨m2, co2, 0, cc2, HM2.out, rfl, by rw [dat_bad]; exact HB7.out, .inl (dat_bad _ _ _), HE7.out⟩
set_option maxRecDepth 20000 in
set_option maxHeartbeats 12800000 in
theorem want_dst1 (m : Msg) (so : Option Addr) (sn sc : Nat) (l : List UInt8) (w : World) (x : Sv w0 w A p ws s) (hb : Bts w so sn sc l) (q : Okm w0 w m so sn) (li : Lim s) (hg : Glob w0) (hop : m.op = 5) (ho : m.o ≠ 0) (K : Chk) (hK : chkF ws s.t s.es p s.T ⟨m.p, m.o, m.r, m.c⟩ 8 = K) (h0 : K.e = 0) :
    Calls Tryz.prog 19 #[.pointer (some ⟨A.g, 0, none⟩), .pointer (some ⟨A.sb.2, 0, none⟩), .agg #[.int .u64 m.ta, .int .u64 m.rp, .int .u32 m.id, .int .u16 m.op, .int .u16 m.st, .int .u64 m.p, .int .u32 m.o, .int .u8 m.r, .int .u64 m.c, .int .u64 m.ar, .slice so sn sc]] w fun e w' => RplEnd w0 w A p ws m (badF ⟨K.t, K.es, desT s.T K, s.n, delL s.L (s.T K.k).v⟩ 0) l e w' := by
  have hmf : ∀ (fn : Fn) (first cap : Array Value) (w : World), (Instr.makeFunc fn first cap).run Tryz.prog w = .ok (.func fn first cap) w := fun _ _ _ _ => rfl
  obtain ⟨X, hX, bm, bz, bX⟩ := rep_vars w m (.slice so sn sc)
  have HX := hide (x.grow bX)
  have HB := hide (hb.carry bX)
  have HM := hide bm
  have HZ := hide bz
  have HBX := hide bX
  have HW0 : Hid (w0.heap.size ≤ w.heap.size) := x.bel.size
  have HQ := hide q
  have HQX := hide (q.grow bX)
  have HLI := hide li
  have HG := hide hg
  have hopi : (m.op : Int) = 5 := by omega
  have hoi : ((m.o : Int) == 0) = false := by rw [beq_eq_false_iff_ne]; omega
  have HK := hide hK
  have H0 := hide h0
  have HEL : Hid (K.e ≤ 65535) := by show _ ≤ _; have := chk_err ws s.t s.es p s.T ⟨m.p, m.o, m.r, m.c⟩ 8; rw [hK] at this; omega
  obtain ⟨er, her⟩ : ∃ er, erN (K.e : Int) = er := ⟨_, rfl⟩
  have HER := hide her
  obtain ⟨vl, hvl⟩ : ∃ vl : Int, (if K.e = 0 then (s.T K.k).v else 0) = vl := ⟨_, rfl⟩
  have HVL := hide hvl
  rw [show (s.T K.k).v = vl from by rw [if_pos h0] at hvl; exact hvl]
  obtain ⟨k0, k1, k2, k3, k4, k5, k6, k7, k8, k9, k10⟩ := HM.out.all
  rw [hopi] at k3 hX
  clear bm bz bX x hb q li hg hop ho hK h0 her hvl
  go_enter Tryz.func19, Tryz.ntmps19
  go_wp2_with fail
  refine (tb_destroy ⟨m.p, m.o, m.r, m.c⟩ _ HX.out HQ.out.c (by have := HLI.out.el; omega) K HK.out).mono ?_; rw [HER.out, HVL.out]; rintro e w2 ⟨rfl, E⟩
  have kh := HX.out.kh E
  have HM := hide (HM.out.kh kh)
  have HZ := hide (HZ.out.kh kh)
  have HE := hide (E.from HBX.out)
  clear kh k0 k1 k2 k3 k4 k5 k6 k7 k8 k9 k10 hX
  obtain ⟨k0, k1, k2, k3, k4, k5, k6, k7, k8, k9, k10⟩ := HM.out.all
  obtain rfl : er = .nilIface := by rw [← HER.out, H0.out]; rfl
  obtain ⟨v, dv, nv, S1, on1⟩ := SvEnd.run E
  have HS1 := hide S1
  have HON := hide on1
  clear E S1 on1
  go_wp2_with fail
  refine (sto_delete vl _ HS1.out.st).mono ?_; rintro e w3 ⟨rfl, E3⟩
  have E3 := HS1.out.store E3
  have kh := HS1.out.kh E3
  have HM := hide (HM.out.kh kh)
  have HZ := hide (HZ.out.kh kh)
  have HE := hide ((HON.out _ _ E3).from HBX.out)
  clear kh E3 k0 k1 k2 k3 k4 k5 k6 k7 k8 k9 k10
  obtain ⟨k0, k1, k2, k3, k4, k5, k6, k7, k8, k9, k10⟩ := HM.out.all
  obtain ⟨m2, h2⟩ : ∃ m2, (⟨m.rp, m.ta, m.id, m.op, 0, 0, 0, 0, 0, 0⟩ : Msg) = m2 := ⟨_, rfl⟩
  have hf := fun W hW => srv_fault m (.slice so sn sc) 0 W (by omega) hW m2 h2
  rw [show erN (((0 : Nat)) : Int) = .nilIface from rfl] at hf
  have HF := hide hf
  clear hf hopi
  go_wp2_with fail
  refine (HF.out _ (HE.out.glob HG.out)).mono ?_; rintro e w6 ⟨co2, cc2, rfl, B6, b6⟩
  have HB6 := hide B6
  have HZ6 := hide (HZ.out.grow b6)
  have HE6 := hide (HE.out.to b6)
  have HM2 : Hid (m2 = rplF m (badF ⟨K.t, K.es, desT s.T K, s.n, delL s.L vl⟩ 0)) := by show _ = _; rw [rpl_bad, ← h2]
  clear B6 b6 h2 k0 k1 k2 k3 k4 k5 k6 k7 k8 k9 k10
  have HZL := hide (HZ6.out.lay (m := m2) (D := .slice co2 0 cc2))
  have f7 := foot_lay11 w6 (w.heap.size + 1) m2 (.slice co2 0 cc2)
  have HE7 := hide (HE6.out.msg HW0.out HZ6.out (by omega) f7)
  have HB7 : Hid (Bts (lay11 w6 (w.heap.size + 1) m2 (.slice co2 0 cc2)) co2 0 cc2 []) := bts_none HB6.out
  obtain ⟨w7, hw7⟩ : ∃ w7, lay11 w6 (w.heap.size + 1) m2 (.slice co2 0 cc2) = w7 := ⟨_, rfl⟩
  rw [hw7] at HZL HE7 HB7
  unfold lay11 at hw7
  clear f7
  obtain ⟨v0, v1, v2, v3, v4, v5, v6, v7, v8, v9, v10⟩ := HZL.out.all
  obtain ⟨z0, z1, z2, z3, z4, z5, z6, z7, z8, z9, z10⟩ := HZ6.out.all
  have x0 := HZ6.out.z 0
  have x1 := HZ6.out.z 1
  have x2 := HZ6.out.z 2
  have x3 := HZ6.out.z 3
  have x4 := HZ6.out.z 4
  have x5 := HZ6.out.z 5
  have x6 := HZ6.out.z 6
  have x7 := HZ6.out.z 7
  have x8 := HZ6.out.z 8
  have x9 := HZ6.out.z 9
  have x10 := HZ6.out.z 10
  go_wp2
  refine bodyPost_ret (by simp [results, Tryz.results19, go_sem, v0, v1, v2, v3, v4, v5, v6, v7, v8, v9, v10]; rfl) rfl ?_
  exact ⟨m2, co2, 0, cc2, HM2.out, rfl, by rw [dat_bad]; exact HB7.out, .inl (dat_bad _ _ _), HE7.out⟩
end
end Go.Proofs.YtpbkjmkdciiccaaGreatDoor
namespace Go.Proofs.YtpbkjmkdciiccaaGreatDoor
section
open Go.RowKit
variable {w0 w w1 w2 w' : World} {A A' : Ad} {p : Nat} {ws : List Nat} {s s' s1 : Hs} {r g : Nat} {sb : Nat × Nat}
set_option maxRecDepth 20000 in
set_option maxHeartbeats 12800000 in
theorem want_chk100 (m : Msg) (so : Option Addr) (sn sc : Nat) (l : List UInt8) (w : World) (x : Sv w0 w A p ws s) (hb : Bts w so sn sc l) (q : Okm w0 w m so sn) (li : Lim s) (hg : Glob w0) (hop : m.op = 100) (K : Chk) (hK : chkF ws s.t s.es p s.T ⟨m.p, m.o, m.r, m.c⟩ 4 = K) (h0 : K.e ≠ 0) :
    Calls Tryz.prog 19 #[.pointer (some ⟨A.g, 0, none⟩), .pointer (some ⟨A.sb.2, 0, none⟩), .agg #[.int .u64 m.ta, .int .u64 m.rp, .int .u32 m.id, .int .u16 m.op, .int .u16 m.st, .int .u64 m.p, .int .u32 m.o, .int .u8 m.r, .int .u64 m.c, .int .u64 m.ar, .slice so sn sc]] w fun e w' => RplEnd w0 w A p ws m (badF (s.tab K.t K.es s.T) K.e) l e w' := by
  have hmf : ∀ (fn : Fn) (first cap : Array Value) (w : World), (Instr.makeFunc fn first cap).run Tryz.prog w = .ok (.func fn first cap) w := fun _ _ _ _ => rfl
  obtain ⟨X, hX, bm, bz, bX⟩ := rep_vars w m (.slice so sn sc)
  have HX := hide (x.grow bX)
  have HB := hide (hb.carry bX)
  have HM := hide bm
  have HZ := hide bz
  have HBX := hide bX
  have HW0 : Hid (w0.heap.size ≤ w.heap.size) := x.bel.size
  have HQ := hide q
  have HQX := hide (q.grow bX)
  have HLI := hide li
  have HG := hide hg
  have hopi : (m.op : Int) = 100 := by omega
  have HK := hide hK
  have H0 := hide h0
  have HEL : Hid (K.e ≤ 65535) := by show _ ≤ _; have := chk_err ws s.t s.es p s.T ⟨m.p, m.o, m.r, m.c⟩ 4; rw [hK] at this; omega
  obtain ⟨er, her⟩ : ∃ er, erN (K.e : Int) = er := ⟨_, rfl⟩
  have HER := hide her
  obtain ⟨k0, k1, k2, k3, k4, k5, k6, k7, k8, k9, k10⟩ := HM.out.all
  have hwk : IntKind.u16.wrap 0 = 0 := by rw [IntKind.wrap_u16]; rfl
  rw [hopi] at k3 hX
  have HK3 := hide k3
  clear bm bz bX x hb q li hg hop hK h0 her
  go_enter Tryz.func19, Tryz.ntmps19
  go_wp2_with fail
  have hS : Hid (X.drew.cell? ⟨w.heap.size, 3, none⟩ = some (.int .u16 100) ∧ X.drew.cell? ⟨w.heap.size, 5, none⟩ = some (.int .u64 (m.p : Int)) ∧ X.drew.cell? ⟨w.heap.size, 6, none⟩ = some (.int .u32 (m.o : Int)) ∧ X.drew.cell? ⟨w.heap.size, 7, none⟩ = some (.int .u8 (m.r : Int)) ∧ X.drew.cell? ⟨w.heap.size, 8, none⟩ = some (.int .u64 (m.c : Int))) := ⟨k3, HM.out.all.2.2.2.2.2.1, HM.out.all.2.2.2.2.2.2.1, HM.out.all.2.2.2.2.2.2.2.1, HM.out.all.2.2.2.2.2.2.2.2.1⟩
  refine wp_region_held_drew (S := fun U => U.cell? ⟨w.heap.size, 3, none⟩ = some (.int .u16 100) ∧ U.cell? ⟨w.heap.size, 5, none⟩ = some (.int .u64 (m.p : Int)) ∧ U.cell? ⟨w.heap.size, 6, none⟩ = some (.int .u32 (m.o : Int)) ∧ U.cell? ⟨w.heap.size, 7, none⟩ = some (.int .u8 (m.r : Int)) ∧ U.cell? ⟨w.heap.size, 8, none⟩ = some (.int .u64 (m.c : Int))) (by kernel_rfl) hS.out (fun _ => ?_)
  refine wpAnyH_take (i := 0) (oi := { dst := some 72, op := Go.Op.move (Go.Operand.tmp 0), type := 26, pos := "law.go:72", after := #[], guard := none }) (v := (.pointer (some ⟨A.g, 0, none⟩))) rfl (by kernel_rfl) (by kernel_rfl) (by kernel_rfl) (fun _ _ _ h => h) (Or.inl ⟨by kernel_rfl, fun w hC => by go_simp⟩) hS.out ?_
  simp only [Act.put, List.setIfInBounds_toArray, List.set_cons_zero, List.set_cons_succ]
  refine wpAnyH_take (i := 1) (oi := { dst := some 73, op := Go.Op.fieldAddr 53 (Go.Operand.tmp 5) 5, type := 0, pos := "law.go:72", after := #[], guard := none }) (v := (.pointer (some ⟨w.heap.size, 5, none⟩))) rfl (by kernel_rfl) (by kernel_rfl) (by kernel_rfl) (fun _ _ _ h => h) (Or.inl ⟨by kernel_rfl, fun w hC => by go_simp⟩) hS.out ?_
  simp only [Act.put, List.setIfInBounds_toArray, List.set_cons_zero, List.set_cons_succ]
  refine wpAnyH_take (i := 2) (oi := { dst := some 74, op := Go.Op.load 36 (Go.Operand.tmp 73), type := 36, pos := "law.go:72", after := #[{ on := 1, ground := Go.Ground.data }], guard := none }) (v := (.agg #[.int .u64 (m.p : Int), .int .u32 (m.o : Int), .int .u8 (m.r : Int), .int .u64 (m.c : Int)])) rfl (by kernel_rfl) (by kernel_rfl) (by kernel_rfl) (fun _ _ _ h => h) (Or.inl ⟨by kernel_rfl, fun w hC => by (obtain ⟨e3, e5, e6, e7, e8⟩ := hC; go_simp)⟩) hS.out ?_
  simp only [Act.put, List.setIfInBounds_toArray, List.set_cons_zero, List.set_cons_succ]
  refine wpAnyH_take (i := 4) (oi := { dst := some 76, op := Go.Op.fieldAddr 53 (Go.Operand.tmp 5) 3, type := 0, pos := "law.go:72", after := #[], guard := none }) (v := (.pointer (some ⟨w.heap.size, 3, none⟩))) rfl (by kernel_rfl) (by kernel_rfl) (by kernel_rfl) (fun _ _ _ h => h) (Or.inl ⟨by kernel_rfl, fun w hC => by go_simp⟩) hS.out ?_
  simp only [Act.put, List.setIfInBounds_toArray, List.set_cons_zero, List.set_cons_succ]
  refine wpAnyH_take (i := 5) (oi := { dst := some 77, op := Go.Op.load 49 (Go.Operand.tmp 76), type := 49, pos := "law.go:72", after := #[{ on := 4, ground := Go.Ground.data }], guard := none }) (v := (.int .u16 100)) rfl (by kernel_rfl) (by kernel_rfl) (by kernel_rfl) (fun _ _ _ h => h) (Or.inl ⟨by kernel_rfl, fun w hC => by (obtain ⟨e3, e5, e6, e7, e8⟩ := hC; go_simp)⟩) hS.out ?_
  simp only [Act.put, List.setIfInBounds_toArray, List.set_cons_zero, List.set_cons_succ]
  refine wpAnyH_take (i := 6) (oi := { dst := some 78, op := Go.Op.binOp Go.BinOp.sub 49 (Go.Operand.tmp 77) (Go.Operand.const (Go.Value.int Go.IntKind.u16 100)) 49, type := 49, pos := "law.go:72", after := #[{ on := 5, ground := Go.Ground.data }], guard := none }) (v := (.int .u16 0)) rfl (by kernel_rfl) (by kernel_rfl) (by kernel_rfl) (fun _ _ _ h => h) (Or.inl ⟨by kernel_rfl, fun w hC => by go_simp⟩) hS.out ?_
  simp only [Act.put, List.setIfInBounds_toArray, List.set_cons_zero, List.set_cons_succ]
  refine wpAnyH_ready (rs := [3]) (by kernel_rfl) (by simp) ?_
  refine AllReadyH.cons (o := { dst := some 75, op := Go.Op.buildSlice 23 5 #[(0, Go.Operand.const (Go.Value.int Go.IntKind.u8 4)), (1, Go.Operand.const (Go.Value.int Go.IntKind.u8 1)), (2, Go.Operand.const (Go.Value.int Go.IntKind.u8 2)), (3, Go.Operand.const (Go.Value.int Go.IntKind.u8 1)), (4, Go.Operand.const (Go.Value.int Go.IntKind.u8 2))], type := 23, pos := "law.go:72", after := #[], guard := none }) rfl (fun KK hKK => ?_) AllReadyH.nil
  go_simp
  obtain ⟨Y, hY⟩ : ∃ Y, (X.alloc (.cells #[.int .u8 4, .int .u8 1, .int .u8 2, .int .u8 1, .int .u8 2] 5)).drew = Y := ⟨_, rfl⟩
  have bY : Below X.heap.size X Y := hY ▸ (below_alloc X _).drew
  have cY : Y.cell? ⟨X.heap.size, 0, none⟩ = some (.int .u8 4) := by subst hY; show (X.alloc _).cell? _ = _; rw [cell_of_row _ _ _ _ _ _ (heap_alloc_new _ _)]; rfl
  try rw [hY]
  have HM := hide (HM.out.grow bY)
  have HZ := hide (HZ.out.grow bY)
  have HX := hide (HX.out.grow bY)
  have HB := hide (HB.out.carry bY)
  have HQX := hide (HQX.out.grow bY)
  have HBX := hide (below_one HBX.out bY)
  clear bY
  have hS : Hid (Y.cell? ⟨w.heap.size, 3, none⟩ = some (.int .u16 100) ∧ Y.cell? ⟨w.heap.size, 5, none⟩ = some (.int .u64 (m.p : Int)) ∧ Y.cell? ⟨w.heap.size, 6, none⟩ = some (.int .u32 (m.o : Int)) ∧ Y.cell? ⟨w.heap.size, 7, none⟩ = some (.int .u8 (m.r : Int)) ∧ Y.cell? ⟨w.heap.size, 8, none⟩ = some (.int .u64 (m.c : Int))) := ⟨by rw [HM.out.all.2.2.2.1, hopi], HM.out.all.2.2.2.2.2.1, HM.out.all.2.2.2.2.2.2.1, HM.out.all.2.2.2.2.2.2.2.1, HM.out.all.2.2.2.2.2.2.2.2.1⟩
  refine hKK.out _ _ hS.out (fun _ => ?_)
  clear hKK
  refine wpAnyH_take (i := 7) (oi := { dst := some 79, op := Go.Op.indexAddr 23 (Go.Operand.tmp 75) (Go.Operand.tmp 78), type := 0, pos := "law.go:72", after := #[{ on := 3, ground := Go.Ground.data }, { on := 6, ground := Go.Ground.data }], guard := none }) (v := (.pointer (some ⟨X.heap.size, 0, none⟩))) rfl (by kernel_rfl) (by kernel_rfl) (by kernel_rfl) (fun _ _ _ h => h) (Or.inl ⟨by kernel_rfl, fun w hC => by go_simp⟩) hS.out ?_
  simp only [Act.put, List.setIfInBounds_toArray, List.set_cons_zero, List.set_cons_succ]
  refine wpAnyH_ready (rs := [8]) (by kernel_rfl) (by simp) ?_
  refine AllReadyH.cons (o := { dst := some 80, op := Go.Op.load 5 (Go.Operand.tmp 79), type := 5, pos := "law.go:72", after := #[{ on := 7, ground := Go.Ground.data }], guard := none }) rfl (fun KK hKK => ?_) AllReadyH.nil
  go_simp
  have hS : Hid (Y.cell? ⟨w.heap.size, 3, none⟩ = some (.int .u16 100) ∧ Y.cell? ⟨w.heap.size, 5, none⟩ = some (.int .u64 (m.p : Int)) ∧ Y.cell? ⟨w.heap.size, 6, none⟩ = some (.int .u32 (m.o : Int)) ∧ Y.cell? ⟨w.heap.size, 7, none⟩ = some (.int .u8 (m.r : Int)) ∧ Y.cell? ⟨w.heap.size, 8, none⟩ = some (.int .u64 (m.c : Int))) := ⟨by rw [HM.out.all.2.2.2.1, hopi], HM.out.all.2.2.2.2.2.1, HM.out.all.2.2.2.2.2.2.1, HM.out.all.2.2.2.2.2.2.2.1, HM.out.all.2.2.2.2.2.2.2.2.1⟩
  refine hKK.out _ _ hS.out (fun _ => ?_)
  clear hKK
  refine wpAnyH_ready (rs := [9]) (by kernel_rfl) (by simp) ?_
  refine AllReadyH.cons (o := { dst := some 81, op := Go.Op.call { callee := Go.Callee.value (Go.Operand.func 33), args := #[Go.Operand.tmp 72, Go.Operand.tmp 74, Go.Operand.tmp 80], argTypes := #[26, 36, 5] }, type := 99, pos := "law.go:72", after := #[{ on := 0, ground := Go.Ground.data }, { on := 2, ground := Go.Ground.data }, { on := 8, ground := Go.Ground.data }], guard := none }) rfl (fun KK hKK => ?_) AllReadyH.nil
  go_simp
  refine (tb_check ⟨m.p, m.o, m.r, m.c⟩ 4 _ HX.out HQ.out.c (by omega) (by have := HLI.out.el; omega) K HK.out).mono ?_; rw [HER.out]; rintro e w2 ⟨rfl, E⟩
  have kh := HX.out.kh E
  have HM := hide (HM.out.kh kh)
  have HZ := hide (HZ.out.kh kh)
  have HB := hide (Bts.sv HB.out HQX.out.d HX.out E)
  have HQX : Hid (Okm w0 w2 m so sn) := ⟨HQX.out.c, HQX.out.o, HQX.out.a, HQX.out.n, HQX.out.d.kh kh⟩
  have HE := hide (E.from HBX.out)
  clear kh E
  have hS : Hid (w2.cell? ⟨w.heap.size, 3, none⟩ = some (.int .u16 100) ∧ w2.cell? ⟨w.heap.size, 5, none⟩ = some (.int .u64 (m.p : Int)) ∧ w2.cell? ⟨w.heap.size, 6, none⟩ = some (.int .u32 (m.o : Int)) ∧ w2.cell? ⟨w.heap.size, 7, none⟩ = some (.int .u8 (m.r : Int)) ∧ w2.cell? ⟨w.heap.size, 8, none⟩ = some (.int .u64 (m.c : Int))) := ⟨by rw [HM.out.all.2.2.2.1, hopi], HM.out.all.2.2.2.2.2.1, HM.out.all.2.2.2.2.2.2.1, HM.out.all.2.2.2.2.2.2.2.1, HM.out.all.2.2.2.2.2.2.2.2.1⟩
  refine hKK.out _ _ hS.out (fun _ => ?_)
  clear hKK
  refine wpAnyH_take (i := 10) (oi := { dst := some 71, op := Go.Op.move (Go.Operand.tmp 81), type := 99, pos := "law.go:72", after := #[{ on := 9, ground := Go.Ground.data }], guard := none }) (v := (.tuple #[.int .i64 (K.k : Int), er])) rfl (by kernel_rfl) (by kernel_rfl) (by kernel_rfl) (fun _ _ _ h => h) (Or.inl ⟨by kernel_rfl, fun w hC => by go_simp⟩) hS.out ?_
  simp only [Act.put, List.setIfInBounds_toArray, List.set_cons_zero, List.set_cons_succ]
  refine wpAnyH_take (i := 11) (oi := { dst := some 82, op := Go.Op.extract (Go.Operand.tmp 71) 0, type := 3, pos := "law.go:72", after := #[{ on := 10, ground := Go.Ground.data }], guard := none }) (v := (.int .i64 (K.k : Int))) rfl (by kernel_rfl) (by kernel_rfl) (by kernel_rfl) (fun _ _ _ h => h) (Or.inl ⟨by kernel_rfl, fun w hC => by go_simp⟩) hS.out ?_
  simp only [Act.put, List.setIfInBounds_toArray, List.set_cons_zero, List.set_cons_succ]
  refine wpAnyH_take (i := 12) (oi := { dst := some 83, op := Go.Op.extract (Go.Operand.tmp 71) 1, type := 38, pos := "law.go:72", after := #[{ on := 10, ground := Go.Ground.data }, { on := 13, ground := Go.Ground.gcOnly Go.Departure.lateStores }], guard := none }) (v := er) rfl (by kernel_rfl) (by kernel_rfl) (by kernel_rfl) (fun _ _ _ h => h) (Or.inl ⟨by kernel_rfl, fun w hC => by go_simp⟩) hS.out ?_
  simp only [Act.put, List.setIfInBounds_toArray, List.set_cons_zero, List.set_cons_succ]
  refine wpAnyH_take (i := 13) (oi := { dst := some 13, op := Go.Op.assign (Go.Operand.tmp 82), type := 3, pos := "law.go:72", after := #[{ on := 11, ground := Go.Ground.data }, { on := 9, ground := Go.Ground.chain }, { on := 0, ground := Go.Ground.phase }, { on := 1, ground := Go.Ground.phase }, { on := 2, ground := Go.Ground.phase }, { on := 3, ground := Go.Ground.phase }, { on := 4, ground := Go.Ground.phase }, { on := 5, ground := Go.Ground.phase }, { on := 6, ground := Go.Ground.phase }, { on := 7, ground := Go.Ground.phase }, { on := 8, ground := Go.Ground.phase }, { on := 9, ground := Go.Ground.phase }, { on := 10, ground := Go.Ground.phase }, { on := 11, ground := Go.Ground.phase }, { on := 12, ground := Go.Ground.textOnly Go.Departure.lateStores }], guard := none }) (v := (.int .i64 (K.k : Int))) rfl (by kernel_rfl) (by kernel_rfl) (by kernel_rfl) (fun _ _ _ h => h) (Or.inl ⟨by kernel_rfl, fun w hC => by go_simp⟩) hS.out ?_
  simp only [Act.put, List.setIfInBounds_toArray, List.set_cons_zero, List.set_cons_succ]
  refine wpAnyH_take (i := 14) (oi := { dst := some 14, op := Go.Op.assign (Go.Operand.tmp 83), type := 38, pos := "law.go:72", after := #[{ on := 12, ground := Go.Ground.data }, { on := 13, ground := Go.Ground.chain }, { on := 0, ground := Go.Ground.phase }, { on := 1, ground := Go.Ground.phase }, { on := 2, ground := Go.Ground.phase }, { on := 3, ground := Go.Ground.phase }, { on := 4, ground := Go.Ground.phase }, { on := 5, ground := Go.Ground.phase }, { on := 6, ground := Go.Ground.phase }, { on := 7, ground := Go.Ground.phase }, { on := 8, ground := Go.Ground.phase }, { on := 9, ground := Go.Ground.phase }, { on := 10, ground := Go.Ground.phase }, { on := 11, ground := Go.Ground.phase }, { on := 12, ground := Go.Ground.phase }, { on := 13, ground := Go.Ground.phase }], guard := none }) (v := er) rfl (by kernel_rfl) (by kernel_rfl) (by kernel_rfl) (fun _ _ _ h => h) (Or.inl ⟨by kernel_rfl, fun w hC => by go_simp⟩) hS.out ?_
  simp only [Act.put, List.setIfInBounds_toArray, List.set_cons_zero, List.set_cons_succ]
  refine wpAnyH_done (by kernel_rfl) ?_ _
  obtain ⟨k0, k1, k2, k3, k4, k5, k6, k7, k8, k9, k10⟩ := HM.out.all
  rw [hopi] at k3
  obtain ⟨tE, hE⟩ : ∃ v, er = .iface 43 v := ⟨_, by rw [← HER.out]; exact erN_not (by have := H0.out; omega)⟩
  subst hE
  obtain ⟨m2, h2⟩ : ∃ m2, (⟨m.rp, m.ta, m.id, m.op, K.e, 0, 0, 0, 0, 0⟩ : Msg) = m2 := ⟨_, rfl⟩
  have hf := fun W (hM : MB W w.heap.size m (.slice so sn sc)) hW => wfail_any m (.slice so sn sc) (K.e) W hM (HEL.out) hW m2 h2
  rw [HER.out] at hf
  have HF := hide hf
  clear hf
  go_wp2_with fail
  refine (HF.out _ HM.out (HE.out.glob HG.out)).mono ?_; rintro e w6 ⟨co2, cc2, rfl, B6, b6⟩
  have HB6 := hide B6
  have HZ6 := hide (HZ.out.grow b6)
  have HE6 := hide (HE.out.to b6)
  have HM2 : Hid (m2 = rplF m (badF (s.tab K.t K.es s.T) (K.e))) := by show _ = _; rw [rpl_bad, ← h2]
  clear B6 b6 h2 k0 k1 k2 k3 k4 k5 k6 k7 k8 k9 k10
  have HZL := hide (HZ6.out.lay (m := m2) (D := .slice co2 0 cc2))
  have f7 := foot_lay11 w6 (w.heap.size + 1) m2 (.slice co2 0 cc2)
  have HE7 := hide (HE6.out.msg HW0.out HZ6.out (by omega) f7)
  have HB7 : Hid (Bts (lay11 w6 (w.heap.size + 1) m2 (.slice co2 0 cc2)) co2 0 cc2 []) := bts_none HB6.out
  obtain ⟨w7, hw7⟩ : ∃ w7, lay11 w6 (w.heap.size + 1) m2 (.slice co2 0 cc2) = w7 := ⟨_, rfl⟩
  rw [hw7] at HZL HE7 HB7
  unfold lay11 at hw7
  clear f7
  obtain ⟨v0, v1, v2, v3, v4, v5, v6, v7, v8, v9, v10⟩ := HZL.out.all
  obtain ⟨z0, z1, z2, z3, z4, z5, z6, z7, z8, z9, z10⟩ := HZ6.out.all
  have x0 := HZ6.out.z 0
  have x1 := HZ6.out.z 1
  have x2 := HZ6.out.z 2
  have x3 := HZ6.out.z 3
  have x4 := HZ6.out.z 4
  have x5 := HZ6.out.z 5
  have x6 := HZ6.out.z 6
  have x7 := HZ6.out.z 7
  have x8 := HZ6.out.z 8
  have x9 := HZ6.out.z 9
  have x10 := HZ6.out.z 10
  go_wp2
  refine bodyPost_ret (by simp [results, Tryz.results19, go_sem, v0, v1, v2, v3, v4, v5, v6, v7, v8, v9, v10]; rfl) rfl ?_
  exact ⟨m2, co2, 0, cc2, HM2.out, rfl, by rw [dat_bad]; exact HB7.out, .inl (dat_bad _ _ _), HE7.out⟩
set_option maxRecDepth 20000 in
set_option maxHeartbeats 12800000 in
theorem want_chk101 (m : Msg) (so : Option Addr) (sn sc : Nat) (l : List UInt8) (w : World) (x : Sv w0 w A p ws s) (hb : Bts w so sn sc l) (q : Okm w0 w m so sn) (li : Lim s) (hg : Glob w0) (hop : m.op = 101) (K : Chk) (hK : chkF ws s.t s.es p s.T ⟨m.p, m.o, m.r, m.c⟩ 1 = K) (h0 : K.e ≠ 0) :
    Calls Tryz.prog 19 #[.pointer (some ⟨A.g, 0, none⟩), .pointer (some ⟨A.sb.2, 0, none⟩), .agg #[.int .u64 m.ta, .int .u64 m.rp, .int .u32 m.id, .int .u16 m.op, .int .u16 m.st, .int .u64 m.p, .int .u32 m.o, .int .u8 m.r, .int .u64 m.c, .int .u64 m.ar, .slice so sn sc]] w fun e w' => RplEnd w0 w A p ws m (badF (s.tab K.t K.es s.T) K.e) l e w' := by
  have hmf : ∀ (fn : Fn) (first cap : Array Value) (w : World), (Instr.makeFunc fn first cap).run Tryz.prog w = .ok (.func fn first cap) w := fun _ _ _ _ => rfl
  obtain ⟨X, hX, bm, bz, bX⟩ := rep_vars w m (.slice so sn sc)
  have HX := hide (x.grow bX)
  have HB := hide (hb.carry bX)
  have HM := hide bm
  have HZ := hide bz
  have HBX := hide bX
  have HW0 : Hid (w0.heap.size ≤ w.heap.size) := x.bel.size
  have HQ := hide q
  have HQX := hide (q.grow bX)
  have HLI := hide li
  have HG := hide hg
  have hopi : (m.op : Int) = 101 := by omega
  have HK := hide hK
  have H0 := hide h0
  have HEL : Hid (K.e ≤ 65535) := by show _ ≤ _; have := chk_err ws s.t s.es p s.T ⟨m.p, m.o, m.r, m.c⟩ 1; rw [hK] at this; omega
  obtain ⟨er, her⟩ : ∃ er, erN (K.e : Int) = er := ⟨_, rfl⟩
  have HER := hide her
  obtain ⟨k0, k1, k2, k3, k4, k5, k6, k7, k8, k9, k10⟩ := HM.out.all
  have hwk : IntKind.u16.wrap 1 = 1 := by rw [IntKind.wrap_u16]; rfl
  rw [hopi] at k3 hX
  have HK3 := hide k3
  clear bm bz bX x hb q li hg hop hK h0 her
  go_enter Tryz.func19, Tryz.ntmps19
  go_wp2_with fail
  have hS : Hid (X.drew.cell? ⟨w.heap.size, 3, none⟩ = some (.int .u16 101) ∧ X.drew.cell? ⟨w.heap.size, 5, none⟩ = some (.int .u64 (m.p : Int)) ∧ X.drew.cell? ⟨w.heap.size, 6, none⟩ = some (.int .u32 (m.o : Int)) ∧ X.drew.cell? ⟨w.heap.size, 7, none⟩ = some (.int .u8 (m.r : Int)) ∧ X.drew.cell? ⟨w.heap.size, 8, none⟩ = some (.int .u64 (m.c : Int))) := ⟨k3, HM.out.all.2.2.2.2.2.1, HM.out.all.2.2.2.2.2.2.1, HM.out.all.2.2.2.2.2.2.2.1, HM.out.all.2.2.2.2.2.2.2.2.1⟩
  refine wp_region_held_drew (S := fun U => U.cell? ⟨w.heap.size, 3, none⟩ = some (.int .u16 101) ∧ U.cell? ⟨w.heap.size, 5, none⟩ = some (.int .u64 (m.p : Int)) ∧ U.cell? ⟨w.heap.size, 6, none⟩ = some (.int .u32 (m.o : Int)) ∧ U.cell? ⟨w.heap.size, 7, none⟩ = some (.int .u8 (m.r : Int)) ∧ U.cell? ⟨w.heap.size, 8, none⟩ = some (.int .u64 (m.c : Int))) (by kernel_rfl) hS.out (fun _ => ?_)
  refine wpAnyH_take (i := 0) (oi := { dst := some 72, op := Go.Op.move (Go.Operand.tmp 0), type := 26, pos := "law.go:72", after := #[], guard := none }) (v := (.pointer (some ⟨A.g, 0, none⟩))) rfl (by kernel_rfl) (by kernel_rfl) (by kernel_rfl) (fun _ _ _ h => h) (Or.inl ⟨by kernel_rfl, fun w hC => by go_simp⟩) hS.out ?_
  simp only [Act.put, List.setIfInBounds_toArray, List.set_cons_zero, List.set_cons_succ]
  refine wpAnyH_take (i := 1) (oi := { dst := some 73, op := Go.Op.fieldAddr 53 (Go.Operand.tmp 5) 5, type := 0, pos := "law.go:72", after := #[], guard := none }) (v := (.pointer (some ⟨w.heap.size, 5, none⟩))) rfl (by kernel_rfl) (by kernel_rfl) (by kernel_rfl) (fun _ _ _ h => h) (Or.inl ⟨by kernel_rfl, fun w hC => by go_simp⟩) hS.out ?_
  simp only [Act.put, List.setIfInBounds_toArray, List.set_cons_zero, List.set_cons_succ]
  refine wpAnyH_take (i := 2) (oi := { dst := some 74, op := Go.Op.load 36 (Go.Operand.tmp 73), type := 36, pos := "law.go:72", after := #[{ on := 1, ground := Go.Ground.data }], guard := none }) (v := (.agg #[.int .u64 (m.p : Int), .int .u32 (m.o : Int), .int .u8 (m.r : Int), .int .u64 (m.c : Int)])) rfl (by kernel_rfl) (by kernel_rfl) (by kernel_rfl) (fun _ _ _ h => h) (Or.inl ⟨by kernel_rfl, fun w hC => by (obtain ⟨e3, e5, e6, e7, e8⟩ := hC; go_simp)⟩) hS.out ?_
  simp only [Act.put, List.setIfInBounds_toArray, List.set_cons_zero, List.set_cons_succ]
  refine wpAnyH_take (i := 4) (oi := { dst := some 76, op := Go.Op.fieldAddr 53 (Go.Operand.tmp 5) 3, type := 0, pos := "law.go:72", after := #[], guard := none }) (v := (.pointer (some ⟨w.heap.size, 3, none⟩))) rfl (by kernel_rfl) (by kernel_rfl) (by kernel_rfl) (fun _ _ _ h => h) (Or.inl ⟨by kernel_rfl, fun w hC => by go_simp⟩) hS.out ?_
  simp only [Act.put, List.setIfInBounds_toArray, List.set_cons_zero, List.set_cons_succ]
  refine wpAnyH_take (i := 5) (oi := { dst := some 77, op := Go.Op.load 49 (Go.Operand.tmp 76), type := 49, pos := "law.go:72", after := #[{ on := 4, ground := Go.Ground.data }], guard := none }) (v := (.int .u16 101)) rfl (by kernel_rfl) (by kernel_rfl) (by kernel_rfl) (fun _ _ _ h => h) (Or.inl ⟨by kernel_rfl, fun w hC => by (obtain ⟨e3, e5, e6, e7, e8⟩ := hC; go_simp)⟩) hS.out ?_
  simp only [Act.put, List.setIfInBounds_toArray, List.set_cons_zero, List.set_cons_succ]
  refine wpAnyH_take (i := 6) (oi := { dst := some 78, op := Go.Op.binOp Go.BinOp.sub 49 (Go.Operand.tmp 77) (Go.Operand.const (Go.Value.int Go.IntKind.u16 100)) 49, type := 49, pos := "law.go:72", after := #[{ on := 5, ground := Go.Ground.data }], guard := none }) (v := (.int .u16 1)) rfl (by kernel_rfl) (by kernel_rfl) (by kernel_rfl) (fun _ _ _ h => h) (Or.inl ⟨by kernel_rfl, fun w hC => by go_simp⟩) hS.out ?_
  simp only [Act.put, List.setIfInBounds_toArray, List.set_cons_zero, List.set_cons_succ]
  refine wpAnyH_ready (rs := [3]) (by kernel_rfl) (by simp) ?_
  refine AllReadyH.cons (o := { dst := some 75, op := Go.Op.buildSlice 23 5 #[(0, Go.Operand.const (Go.Value.int Go.IntKind.u8 4)), (1, Go.Operand.const (Go.Value.int Go.IntKind.u8 1)), (2, Go.Operand.const (Go.Value.int Go.IntKind.u8 2)), (3, Go.Operand.const (Go.Value.int Go.IntKind.u8 1)), (4, Go.Operand.const (Go.Value.int Go.IntKind.u8 2))], type := 23, pos := "law.go:72", after := #[], guard := none }) rfl (fun KK hKK => ?_) AllReadyH.nil
  go_simp
  obtain ⟨Y, hY⟩ : ∃ Y, (X.alloc (.cells #[.int .u8 4, .int .u8 1, .int .u8 2, .int .u8 1, .int .u8 2] 5)).drew = Y := ⟨_, rfl⟩
  have bY : Below X.heap.size X Y := hY ▸ (below_alloc X _).drew
  have cY : Y.cell? ⟨X.heap.size, 1, none⟩ = some (.int .u8 1) := by subst hY; show (X.alloc _).cell? _ = _; rw [cell_of_row _ _ _ _ _ _ (heap_alloc_new _ _)]; rfl
  try rw [hY]
  have HM := hide (HM.out.grow bY)
  have HZ := hide (HZ.out.grow bY)
  have HX := hide (HX.out.grow bY)
  have HB := hide (HB.out.carry bY)
  have HQX := hide (HQX.out.grow bY)
  have HBX := hide (below_one HBX.out bY)
  clear bY
  have hS : Hid (Y.cell? ⟨w.heap.size, 3, none⟩ = some (.int .u16 101) ∧ Y.cell? ⟨w.heap.size, 5, none⟩ = some (.int .u64 (m.p : Int)) ∧ Y.cell? ⟨w.heap.size, 6, none⟩ = some (.int .u32 (m.o : Int)) ∧ Y.cell? ⟨w.heap.size, 7, none⟩ = some (.int .u8 (m.r : Int)) ∧ Y.cell? ⟨w.heap.size, 8, none⟩ = some (.int .u64 (m.c : Int))) := ⟨by rw [HM.out.all.2.2.2.1, hopi], HM.out.all.2.2.2.2.2.1, HM.out.all.2.2.2.2.2.2.1, HM.out.all.2.2.2.2.2.2.2.1, HM.out.all.2.2.2.2.2.2.2.2.1⟩
  refine hKK.out _ _ hS.out (fun _ => ?_)
  clear hKK
  refine wpAnyH_take (i := 7) (oi := { dst := some 79, op := Go.Op.indexAddr 23 (Go.Operand.tmp 75) (Go.Operand.tmp 78), type := 0, pos := "law.go:72", after := #[{ on := 3, ground := Go.Ground.data }, { on := 6, ground := Go.Ground.data }], guard := none }) (v := (.pointer (some ⟨X.heap.size, 1, none⟩))) rfl (by kernel_rfl) (by kernel_rfl) (by kernel_rfl) (fun _ _ _ h => h) (Or.inl ⟨by kernel_rfl, fun w hC => by go_simp⟩) hS.out ?_
  simp only [Act.put, List.setIfInBounds_toArray, List.set_cons_zero, List.set_cons_succ]
  refine wpAnyH_ready (rs := [8]) (by kernel_rfl) (by simp) ?_
  refine AllReadyH.cons (o := { dst := some 80, op := Go.Op.load 5 (Go.Operand.tmp 79), type := 5, pos := "law.go:72", after := #[{ on := 7, ground := Go.Ground.data }], guard := none }) rfl (fun KK hKK => ?_) AllReadyH.nil
  go_simp
  have hS : Hid (Y.cell? ⟨w.heap.size, 3, none⟩ = some (.int .u16 101) ∧ Y.cell? ⟨w.heap.size, 5, none⟩ = some (.int .u64 (m.p : Int)) ∧ Y.cell? ⟨w.heap.size, 6, none⟩ = some (.int .u32 (m.o : Int)) ∧ Y.cell? ⟨w.heap.size, 7, none⟩ = some (.int .u8 (m.r : Int)) ∧ Y.cell? ⟨w.heap.size, 8, none⟩ = some (.int .u64 (m.c : Int))) := ⟨by rw [HM.out.all.2.2.2.1, hopi], HM.out.all.2.2.2.2.2.1, HM.out.all.2.2.2.2.2.2.1, HM.out.all.2.2.2.2.2.2.2.1, HM.out.all.2.2.2.2.2.2.2.2.1⟩
  refine hKK.out _ _ hS.out (fun _ => ?_)
  clear hKK
  refine wpAnyH_ready (rs := [9]) (by kernel_rfl) (by simp) ?_
  refine AllReadyH.cons (o := { dst := some 81, op := Go.Op.call { callee := Go.Callee.value (Go.Operand.func 33), args := #[Go.Operand.tmp 72, Go.Operand.tmp 74, Go.Operand.tmp 80], argTypes := #[26, 36, 5] }, type := 99, pos := "law.go:72", after := #[{ on := 0, ground := Go.Ground.data }, { on := 2, ground := Go.Ground.data }, { on := 8, ground := Go.Ground.data }], guard := none }) rfl (fun KK hKK => ?_) AllReadyH.nil
  go_simp
  refine (tb_check ⟨m.p, m.o, m.r, m.c⟩ 1 _ HX.out HQ.out.c (by omega) (by have := HLI.out.el; omega) K HK.out).mono ?_; rw [HER.out]; rintro e w2 ⟨rfl, E⟩
  have kh := HX.out.kh E
  have HM := hide (HM.out.kh kh)
  have HZ := hide (HZ.out.kh kh)
  have HB := hide (Bts.sv HB.out HQX.out.d HX.out E)
  have HQX : Hid (Okm w0 w2 m so sn) := ⟨HQX.out.c, HQX.out.o, HQX.out.a, HQX.out.n, HQX.out.d.kh kh⟩
  have HE := hide (E.from HBX.out)
  clear kh E
  have hS : Hid (w2.cell? ⟨w.heap.size, 3, none⟩ = some (.int .u16 101) ∧ w2.cell? ⟨w.heap.size, 5, none⟩ = some (.int .u64 (m.p : Int)) ∧ w2.cell? ⟨w.heap.size, 6, none⟩ = some (.int .u32 (m.o : Int)) ∧ w2.cell? ⟨w.heap.size, 7, none⟩ = some (.int .u8 (m.r : Int)) ∧ w2.cell? ⟨w.heap.size, 8, none⟩ = some (.int .u64 (m.c : Int))) := ⟨by rw [HM.out.all.2.2.2.1, hopi], HM.out.all.2.2.2.2.2.1, HM.out.all.2.2.2.2.2.2.1, HM.out.all.2.2.2.2.2.2.2.1, HM.out.all.2.2.2.2.2.2.2.2.1⟩
  refine hKK.out _ _ hS.out (fun _ => ?_)
  clear hKK
  refine wpAnyH_take (i := 10) (oi := { dst := some 71, op := Go.Op.move (Go.Operand.tmp 81), type := 99, pos := "law.go:72", after := #[{ on := 9, ground := Go.Ground.data }], guard := none }) (v := (.tuple #[.int .i64 (K.k : Int), er])) rfl (by kernel_rfl) (by kernel_rfl) (by kernel_rfl) (fun _ _ _ h => h) (Or.inl ⟨by kernel_rfl, fun w hC => by go_simp⟩) hS.out ?_
  simp only [Act.put, List.setIfInBounds_toArray, List.set_cons_zero, List.set_cons_succ]
  refine wpAnyH_take (i := 11) (oi := { dst := some 82, op := Go.Op.extract (Go.Operand.tmp 71) 0, type := 3, pos := "law.go:72", after := #[{ on := 10, ground := Go.Ground.data }], guard := none }) (v := (.int .i64 (K.k : Int))) rfl (by kernel_rfl) (by kernel_rfl) (by kernel_rfl) (fun _ _ _ h => h) (Or.inl ⟨by kernel_rfl, fun w hC => by go_simp⟩) hS.out ?_
  simp only [Act.put, List.setIfInBounds_toArray, List.set_cons_zero, List.set_cons_succ]
  refine wpAnyH_take (i := 12) (oi := { dst := some 83, op := Go.Op.extract (Go.Operand.tmp 71) 1, type := 38, pos := "law.go:72", after := #[{ on := 10, ground := Go.Ground.data }, { on := 13, ground := Go.Ground.gcOnly Go.Departure.lateStores }], guard := none }) (v := er) rfl (by kernel_rfl) (by kernel_rfl) (by kernel_rfl) (fun _ _ _ h => h) (Or.inl ⟨by kernel_rfl, fun w hC => by go_simp⟩) hS.out ?_
  simp only [Act.put, List.setIfInBounds_toArray, List.set_cons_zero, List.set_cons_succ]
  refine wpAnyH_take (i := 13) (oi := { dst := some 13, op := Go.Op.assign (Go.Operand.tmp 82), type := 3, pos := "law.go:72", after := #[{ on := 11, ground := Go.Ground.data }, { on := 9, ground := Go.Ground.chain }, { on := 0, ground := Go.Ground.phase }, { on := 1, ground := Go.Ground.phase }, { on := 2, ground := Go.Ground.phase }, { on := 3, ground := Go.Ground.phase }, { on := 4, ground := Go.Ground.phase }, { on := 5, ground := Go.Ground.phase }, { on := 6, ground := Go.Ground.phase }, { on := 7, ground := Go.Ground.phase }, { on := 8, ground := Go.Ground.phase }, { on := 9, ground := Go.Ground.phase }, { on := 10, ground := Go.Ground.phase }, { on := 11, ground := Go.Ground.phase }, { on := 12, ground := Go.Ground.textOnly Go.Departure.lateStores }], guard := none }) (v := (.int .i64 (K.k : Int))) rfl (by kernel_rfl) (by kernel_rfl) (by kernel_rfl) (fun _ _ _ h => h) (Or.inl ⟨by kernel_rfl, fun w hC => by go_simp⟩) hS.out ?_
  simp only [Act.put, List.setIfInBounds_toArray, List.set_cons_zero, List.set_cons_succ]
  refine wpAnyH_take (i := 14) (oi := { dst := some 14, op := Go.Op.assign (Go.Operand.tmp 83), type := 38, pos := "law.go:72", after := #[{ on := 12, ground := Go.Ground.data }, { on := 13, ground := Go.Ground.chain }, { on := 0, ground := Go.Ground.phase }, { on := 1, ground := Go.Ground.phase }, { on := 2, ground := Go.Ground.phase }, { on := 3, ground := Go.Ground.phase }, { on := 4, ground := Go.Ground.phase }, { on := 5, ground := Go.Ground.phase }, { on := 6, ground := Go.Ground.phase }, { on := 7, ground := Go.Ground.phase }, { on := 8, ground := Go.Ground.phase }, { on := 9, ground := Go.Ground.phase }, { on := 10, ground := Go.Ground.phase }, { on := 11, ground := Go.Ground.phase }, { on := 12, ground := Go.Ground.phase }, { on := 13, ground := Go.Ground.phase }], guard := none }) (v := er) rfl (by kernel_rfl) (by kernel_rfl) (by kernel_rfl) (fun _ _ _ h => h) (Or.inl ⟨by kernel_rfl, fun w hC => by go_simp⟩) hS.out ?_
  simp only [Act.put, List.setIfInBounds_toArray, List.set_cons_zero, List.set_cons_succ]
  refine wpAnyH_done (by kernel_rfl) ?_ _
  obtain ⟨k0, k1, k2, k3, k4, k5, k6, k7, k8, k9, k10⟩ := HM.out.all
  rw [hopi] at k3
  obtain ⟨tE, hE⟩ : ∃ v, er = .iface 43 v := ⟨_, by rw [← HER.out]; exact erN_not (by have := H0.out; omega)⟩
  subst hE
  obtain ⟨m2, h2⟩ : ∃ m2, (⟨m.rp, m.ta, m.id, m.op, K.e, 0, 0, 0, 0, 0⟩ : Msg) = m2 := ⟨_, rfl⟩
  have hf := fun W (hM : MB W w.heap.size m (.slice so sn sc)) hW => wfail_any m (.slice so sn sc) (K.e) W hM (HEL.out) hW m2 h2
  rw [HER.out] at hf
  have HF := hide hf
  clear hf
  go_wp2_with fail
  refine (HF.out _ HM.out (HE.out.glob HG.out)).mono ?_; rintro e w6 ⟨co2, cc2, rfl, B6, b6⟩
  have HB6 := hide B6
  have HZ6 := hide (HZ.out.grow b6)
  have HE6 := hide (HE.out.to b6)
  have HM2 : Hid (m2 = rplF m (badF (s.tab K.t K.es s.T) (K.e))) := by show _ = _; rw [rpl_bad, ← h2]
  clear B6 b6 h2 k0 k1 k2 k3 k4 k5 k6 k7 k8 k9 k10
  have HZL := hide (HZ6.out.lay (m := m2) (D := .slice co2 0 cc2))
  have f7 := foot_lay11 w6 (w.heap.size + 1) m2 (.slice co2 0 cc2)
  have HE7 := hide (HE6.out.msg HW0.out HZ6.out (by omega) f7)
  have HB7 : Hid (Bts (lay11 w6 (w.heap.size + 1) m2 (.slice co2 0 cc2)) co2 0 cc2 []) := bts_none HB6.out
  obtain ⟨w7, hw7⟩ : ∃ w7, lay11 w6 (w.heap.size + 1) m2 (.slice co2 0 cc2) = w7 := ⟨_, rfl⟩
  rw [hw7] at HZL HE7 HB7
  unfold lay11 at hw7
  clear f7
  obtain ⟨v0, v1, v2, v3, v4, v5, v6, v7, v8, v9, v10⟩ := HZL.out.all
  obtain ⟨z0, z1, z2, z3, z4, z5, z6, z7, z8, z9, z10⟩ := HZ6.out.all
  have x0 := HZ6.out.z 0
  have x1 := HZ6.out.z 1
  have x2 := HZ6.out.z 2
  have x3 := HZ6.out.z 3
  have x4 := HZ6.out.z 4
  have x5 := HZ6.out.z 5
  have x6 := HZ6.out.z 6
  have x7 := HZ6.out.z 7
  have x8 := HZ6.out.z 8
  have x9 := HZ6.out.z 9
  have x10 := HZ6.out.z 10
  go_wp2
  refine bodyPost_ret (by simp [results, Tryz.results19, go_sem, v0, v1, v2, v3, v4, v5, v6, v7, v8, v9, v10]; rfl) rfl ?_
  exact ⟨m2, co2, 0, cc2, HM2.out, rfl, by rw [dat_bad]; exact HB7.out, .inl (dat_bad _ _ _), HE7.out⟩
set_option maxRecDepth 20000 in
set_option maxHeartbeats 12800000 in
theorem want_chk102 (m : Msg) (so : Option Addr) (sn sc : Nat) (l : List UInt8) (w : World) (x : Sv w0 w A p ws s) (hb : Bts w so sn sc l) (q : Okm w0 w m so sn) (li : Lim s) (hg : Glob w0) (hop : m.op = 102) (K : Chk) (hK : chkF ws s.t s.es p s.T ⟨m.p, m.o, m.r, m.c⟩ 2 = K) (h0 : K.e ≠ 0) :
    Calls Tryz.prog 19 #[.pointer (some ⟨A.g, 0, none⟩), .pointer (some ⟨A.sb.2, 0, none⟩), .agg #[.int .u64 m.ta, .int .u64 m.rp, .int .u32 m.id, .int .u16 m.op, .int .u16 m.st, .int .u64 m.p, .int .u32 m.o, .int .u8 m.r, .int .u64 m.c, .int .u64 m.ar, .slice so sn sc]] w fun e w' => RplEnd w0 w A p ws m (badF (s.tab K.t K.es s.T) K.e) l e w' := by
  have hmf : ∀ (fn : Fn) (first cap : Array Value) (w : World), (Instr.makeFunc fn first cap).run Tryz.prog w = .ok (.func fn first cap) w := fun _ _ _ _ => rfl
  obtain ⟨X, hX, bm, bz, bX⟩ := rep_vars w m (.slice so sn sc)
  have HX := hide (x.grow bX)
  have HB := hide (hb.carry bX)
  have HM := hide bm
  have HZ := hide bz
  have HBX := hide bX
  have HW0 : Hid (w0.heap.size ≤ w.heap.size) := x.bel.size
  have HQ := hide q
  have HQX := hide (q.grow bX)
  have HLI := hide li
  have HG := hide hg
  have hopi : (m.op : Int) = 102 := by omega
  have HK := hide hK
  have H0 := hide h0
  have HEL : Hid (K.e ≤ 65535) := by show _ ≤ _; have := chk_err ws s.t s.es p s.T ⟨m.p, m.o, m.r, m.c⟩ 2; rw [hK] at this; omega
  obtain ⟨er, her⟩ : ∃ er, erN (K.e : Int) = er := ⟨_, rfl⟩
  have HER := hide her
  obtain ⟨k0, k1, k2, k3, k4, k5, k6, k7, k8, k9, k10⟩ := HM.out.all
  have hwk : IntKind.u16.wrap 2 = 2 := by rw [IntKind.wrap_u16]; rfl
  rw [hopi] at k3 hX
  have HK3 := hide k3
  clear bm bz bX x hb q li hg hop hK h0 her
  go_enter Tryz.func19, Tryz.ntmps19
  go_wp2_with fail
  have hS : Hid (X.drew.cell? ⟨w.heap.size, 3, none⟩ = some (.int .u16 102) ∧ X.drew.cell? ⟨w.heap.size, 5, none⟩ = some (.int .u64 (m.p : Int)) ∧ X.drew.cell? ⟨w.heap.size, 6, none⟩ = some (.int .u32 (m.o : Int)) ∧ X.drew.cell? ⟨w.heap.size, 7, none⟩ = some (.int .u8 (m.r : Int)) ∧ X.drew.cell? ⟨w.heap.size, 8, none⟩ = some (.int .u64 (m.c : Int))) := ⟨k3, HM.out.all.2.2.2.2.2.1, HM.out.all.2.2.2.2.2.2.1, HM.out.all.2.2.2.2.2.2.2.1, HM.out.all.2.2.2.2.2.2.2.2.1⟩
  refine wp_region_held_drew (S := fun U => U.cell? ⟨w.heap.size, 3, none⟩ = some (.int .u16 102) ∧ U.cell? ⟨w.heap.size, 5, none⟩ = some (.int .u64 (m.p : Int)) ∧ U.cell? ⟨w.heap.size, 6, none⟩ = some (.int .u32 (m.o : Int)) ∧ U.cell? ⟨w.heap.size, 7, none⟩ = some (.int .u8 (m.r : Int)) ∧ U.cell? ⟨w.heap.size, 8, none⟩ = some (.int .u64 (m.c : Int))) (by kernel_rfl) hS.out (fun _ => ?_)
  refine wpAnyH_take (i := 0) (oi := { dst := some 72, op := Go.Op.move (Go.Operand.tmp 0), type := 26, pos := "law.go:72", after := #[], guard := none }) (v := (.pointer (some ⟨A.g, 0, none⟩))) rfl (by kernel_rfl) (by kernel_rfl) (by kernel_rfl) (fun _ _ _ h => h) (Or.inl ⟨by kernel_rfl, fun w hC => by go_simp⟩) hS.out ?_
  simp only [Act.put, List.setIfInBounds_toArray, List.set_cons_zero, List.set_cons_succ]
  refine wpAnyH_take (i := 1) (oi := { dst := some 73, op := Go.Op.fieldAddr 53 (Go.Operand.tmp 5) 5, type := 0, pos := "law.go:72", after := #[], guard := none }) (v := (.pointer (some ⟨w.heap.size, 5, none⟩))) rfl (by kernel_rfl) (by kernel_rfl) (by kernel_rfl) (fun _ _ _ h => h) (Or.inl ⟨by kernel_rfl, fun w hC => by go_simp⟩) hS.out ?_
  simp only [Act.put, List.setIfInBounds_toArray, List.set_cons_zero, List.set_cons_succ]
  refine wpAnyH_take (i := 2) (oi := { dst := some 74, op := Go.Op.load 36 (Go.Operand.tmp 73), type := 36, pos := "law.go:72", after := #[{ on := 1, ground := Go.Ground.data }], guard := none }) (v := (.agg #[.int .u64 (m.p : Int), .int .u32 (m.o : Int), .int .u8 (m.r : Int), .int .u64 (m.c : Int)])) rfl (by kernel_rfl) (by kernel_rfl) (by kernel_rfl) (fun _ _ _ h => h) (Or.inl ⟨by kernel_rfl, fun w hC => by (obtain ⟨e3, e5, e6, e7, e8⟩ := hC; go_simp)⟩) hS.out ?_
  simp only [Act.put, List.setIfInBounds_toArray, List.set_cons_zero, List.set_cons_succ]
  refine wpAnyH_take (i := 4) (oi := { dst := some 76, op := Go.Op.fieldAddr 53 (Go.Operand.tmp 5) 3, type := 0, pos := "law.go:72", after := #[], guard := none }) (v := (.pointer (some ⟨w.heap.size, 3, none⟩))) rfl (by kernel_rfl) (by kernel_rfl) (by kernel_rfl) (fun _ _ _ h => h) (Or.inl ⟨by kernel_rfl, fun w hC => by go_simp⟩) hS.out ?_
  simp only [Act.put, List.setIfInBounds_toArray, List.set_cons_zero, List.set_cons_succ]
  refine wpAnyH_take (i := 5) (oi := { dst := some 77, op := Go.Op.load 49 (Go.Operand.tmp 76), type := 49, pos := "law.go:72", after := #[{ on := 4, ground := Go.Ground.data }], guard := none }) (v := (.int .u16 102)) rfl (by kernel_rfl) (by kernel_rfl) (by kernel_rfl) (fun _ _ _ h => h) (Or.inl ⟨by kernel_rfl, fun w hC => by (obtain ⟨e3, e5, e6, e7, e8⟩ := hC; go_simp)⟩) hS.out ?_
  simp only [Act.put, List.setIfInBounds_toArray, List.set_cons_zero, List.set_cons_succ]
  refine wpAnyH_take (i := 6) (oi := { dst := some 78, op := Go.Op.binOp Go.BinOp.sub 49 (Go.Operand.tmp 77) (Go.Operand.const (Go.Value.int Go.IntKind.u16 100)) 49, type := 49, pos := "law.go:72", after := #[{ on := 5, ground := Go.Ground.data }], guard := none }) (v := (.int .u16 2)) rfl (by kernel_rfl) (by kernel_rfl) (by kernel_rfl) (fun _ _ _ h => h) (Or.inl ⟨by kernel_rfl, fun w hC => by go_simp⟩) hS.out ?_
  simp only [Act.put, List.setIfInBounds_toArray, List.set_cons_zero, List.set_cons_succ]
  refine wpAnyH_ready (rs := [3]) (by kernel_rfl) (by simp) ?_
  refine AllReadyH.cons (o := { dst := some 75, op := Go.Op.buildSlice 23 5 #[(0, Go.Operand.const (Go.Value.int Go.IntKind.u8 4)), (1, Go.Operand.const (Go.Value.int Go.IntKind.u8 1)), (2, Go.Operand.const (Go.Value.int Go.IntKind.u8 2)), (3, Go.Operand.const (Go.Value.int Go.IntKind.u8 1)), (4, Go.Operand.const (Go.Value.int Go.IntKind.u8 2))], type := 23, pos := "law.go:72", after := #[], guard := none }) rfl (fun KK hKK => ?_) AllReadyH.nil
  go_simp
  obtain ⟨Y, hY⟩ : ∃ Y, (X.alloc (.cells #[.int .u8 4, .int .u8 1, .int .u8 2, .int .u8 1, .int .u8 2] 5)).drew = Y := ⟨_, rfl⟩
  have bY : Below X.heap.size X Y := hY ▸ (below_alloc X _).drew
  have cY : Y.cell? ⟨X.heap.size, 2, none⟩ = some (.int .u8 2) := by subst hY; show (X.alloc _).cell? _ = _; rw [cell_of_row _ _ _ _ _ _ (heap_alloc_new _ _)]; rfl
  try rw [hY]
  have HM := hide (HM.out.grow bY)
  have HZ := hide (HZ.out.grow bY)
  have HX := hide (HX.out.grow bY)
  have HB := hide (HB.out.carry bY)
  have HQX := hide (HQX.out.grow bY)
  have HBX := hide (below_one HBX.out bY)
  clear bY
  have hS : Hid (Y.cell? ⟨w.heap.size, 3, none⟩ = some (.int .u16 102) ∧ Y.cell? ⟨w.heap.size, 5, none⟩ = some (.int .u64 (m.p : Int)) ∧ Y.cell? ⟨w.heap.size, 6, none⟩ = some (.int .u32 (m.o : Int)) ∧ Y.cell? ⟨w.heap.size, 7, none⟩ = some (.int .u8 (m.r : Int)) ∧ Y.cell? ⟨w.heap.size, 8, none⟩ = some (.int .u64 (m.c : Int))) := ⟨by rw [HM.out.all.2.2.2.1, hopi], HM.out.all.2.2.2.2.2.1, HM.out.all.2.2.2.2.2.2.1, HM.out.all.2.2.2.2.2.2.2.1, HM.out.all.2.2.2.2.2.2.2.2.1⟩
  refine hKK.out _ _ hS.out (fun _ => ?_)
  clear hKK
  refine wpAnyH_take (i := 7) (oi := { dst := some 79, op := Go.Op.indexAddr 23 (Go.Operand.tmp 75) (Go.Operand.tmp 78), type := 0, pos := "law.go:72", after := #[{ on := 3, ground := Go.Ground.data }, { on := 6, ground := Go.Ground.data }], guard := none }) (v := (.pointer (some ⟨X.heap.size, 2, none⟩))) rfl (by kernel_rfl) (by kernel_rfl) (by kernel_rfl) (fun _ _ _ h => h) (Or.inl ⟨by kernel_rfl, fun w hC => by go_simp⟩) hS.out ?_
  simp only [Act.put, List.setIfInBounds_toArray, List.set_cons_zero, List.set_cons_succ]
  refine wpAnyH_ready (rs := [8]) (by kernel_rfl) (by simp) ?_
  refine AllReadyH.cons (o := { dst := some 80, op := Go.Op.load 5 (Go.Operand.tmp 79), type := 5, pos := "law.go:72", after := #[{ on := 7, ground := Go.Ground.data }], guard := none }) rfl (fun KK hKK => ?_) AllReadyH.nil
  go_simp
  have hS : Hid (Y.cell? ⟨w.heap.size, 3, none⟩ = some (.int .u16 102) ∧ Y.cell? ⟨w.heap.size, 5, none⟩ = some (.int .u64 (m.p : Int)) ∧ Y.cell? ⟨w.heap.size, 6, none⟩ = some (.int .u32 (m.o : Int)) ∧ Y.cell? ⟨w.heap.size, 7, none⟩ = some (.int .u8 (m.r : Int)) ∧ Y.cell? ⟨w.heap.size, 8, none⟩ = some (.int .u64 (m.c : Int))) := ⟨by rw [HM.out.all.2.2.2.1, hopi], HM.out.all.2.2.2.2.2.1, HM.out.all.2.2.2.2.2.2.1, HM.out.all.2.2.2.2.2.2.2.1, HM.out.all.2.2.2.2.2.2.2.2.1⟩
  refine hKK.out _ _ hS.out (fun _ => ?_)
  clear hKK
  refine wpAnyH_ready (rs := [9]) (by kernel_rfl) (by simp) ?_
  refine AllReadyH.cons (o := { dst := some 81, op := Go.Op.call { callee := Go.Callee.value (Go.Operand.func 33), args := #[Go.Operand.tmp 72, Go.Operand.tmp 74, Go.Operand.tmp 80], argTypes := #[26, 36, 5] }, type := 99, pos := "law.go:72", after := #[{ on := 0, ground := Go.Ground.data }, { on := 2, ground := Go.Ground.data }, { on := 8, ground := Go.Ground.data }], guard := none }) rfl (fun KK hKK => ?_) AllReadyH.nil
  go_simp
  refine (tb_check ⟨m.p, m.o, m.r, m.c⟩ 2 _ HX.out HQ.out.c (by omega) (by have := HLI.out.el; omega) K HK.out).mono ?_; rw [HER.out]; rintro e w2 ⟨rfl, E⟩
  have kh := HX.out.kh E
  have HM := hide (HM.out.kh kh)
  have HZ := hide (HZ.out.kh kh)
  have HB := hide (Bts.sv HB.out HQX.out.d HX.out E)
  have HQX : Hid (Okm w0 w2 m so sn) := ⟨HQX.out.c, HQX.out.o, HQX.out.a, HQX.out.n, HQX.out.d.kh kh⟩
  have HE := hide (E.from HBX.out)
  clear kh E
  have hS : Hid (w2.cell? ⟨w.heap.size, 3, none⟩ = some (.int .u16 102) ∧ w2.cell? ⟨w.heap.size, 5, none⟩ = some (.int .u64 (m.p : Int)) ∧ w2.cell? ⟨w.heap.size, 6, none⟩ = some (.int .u32 (m.o : Int)) ∧ w2.cell? ⟨w.heap.size, 7, none⟩ = some (.int .u8 (m.r : Int)) ∧ w2.cell? ⟨w.heap.size, 8, none⟩ = some (.int .u64 (m.c : Int))) := ⟨by rw [HM.out.all.2.2.2.1, hopi], HM.out.all.2.2.2.2.2.1, HM.out.all.2.2.2.2.2.2.1, HM.out.all.2.2.2.2.2.2.2.1, HM.out.all.2.2.2.2.2.2.2.2.1⟩
  refine hKK.out _ _ hS.out (fun _ => ?_)
  clear hKK
  refine wpAnyH_take (i := 10) (oi := { dst := some 71, op := Go.Op.move (Go.Operand.tmp 81), type := 99, pos := "law.go:72", after := #[{ on := 9, ground := Go.Ground.data }], guard := none }) (v := (.tuple #[.int .i64 (K.k : Int), er])) rfl (by kernel_rfl) (by kernel_rfl) (by kernel_rfl) (fun _ _ _ h => h) (Or.inl ⟨by kernel_rfl, fun w hC => by go_simp⟩) hS.out ?_
  simp only [Act.put, List.setIfInBounds_toArray, List.set_cons_zero, List.set_cons_succ]
  refine wpAnyH_take (i := 11) (oi := { dst := some 82, op := Go.Op.extract (Go.Operand.tmp 71) 0, type := 3, pos := "law.go:72", after := #[{ on := 10, ground := Go.Ground.data }], guard := none }) (v := (.int .i64 (K.k : Int))) rfl (by kernel_rfl) (by kernel_rfl) (by kernel_rfl) (fun _ _ _ h => h) (Or.inl ⟨by kernel_rfl, fun w hC => by go_simp⟩) hS.out ?_
  simp only [Act.put, List.setIfInBounds_toArray, List.set_cons_zero, List.set_cons_succ]
  refine wpAnyH_take (i := 12) (oi := { dst := some 83, op := Go.Op.extract (Go.Operand.tmp 71) 1, type := 38, pos := "law.go:72", after := #[{ on := 10, ground := Go.Ground.data }, { on := 13, ground := Go.Ground.gcOnly Go.Departure.lateStores }], guard := none }) (v := er) rfl (by kernel_rfl) (by kernel_rfl) (by kernel_rfl) (fun _ _ _ h => h) (Or.inl ⟨by kernel_rfl, fun w hC => by go_simp⟩) hS.out ?_
  simp only [Act.put, List.setIfInBounds_toArray, List.set_cons_zero, List.set_cons_succ]
  refine wpAnyH_take (i := 13) (oi := { dst := some 13, op := Go.Op.assign (Go.Operand.tmp 82), type := 3, pos := "law.go:72", after := #[{ on := 11, ground := Go.Ground.data }, { on := 9, ground := Go.Ground.chain }, { on := 0, ground := Go.Ground.phase }, { on := 1, ground := Go.Ground.phase }, { on := 2, ground := Go.Ground.phase }, { on := 3, ground := Go.Ground.phase }, { on := 4, ground := Go.Ground.phase }, { on := 5, ground := Go.Ground.phase }, { on := 6, ground := Go.Ground.phase }, { on := 7, ground := Go.Ground.phase }, { on := 8, ground := Go.Ground.phase }, { on := 9, ground := Go.Ground.phase }, { on := 10, ground := Go.Ground.phase }, { on := 11, ground := Go.Ground.phase }, { on := 12, ground := Go.Ground.textOnly Go.Departure.lateStores }], guard := none }) (v := (.int .i64 (K.k : Int))) rfl (by kernel_rfl) (by kernel_rfl) (by kernel_rfl) (fun _ _ _ h => h) (Or.inl ⟨by kernel_rfl, fun w hC => by go_simp⟩) hS.out ?_
  simp only [Act.put, List.setIfInBounds_toArray, List.set_cons_zero, List.set_cons_succ]
  refine wpAnyH_take (i := 14) (oi := { dst := some 14, op := Go.Op.assign (Go.Operand.tmp 83), type := 38, pos := "law.go:72", after := #[{ on := 12, ground := Go.Ground.data }, { on := 13, ground := Go.Ground.chain }, { on := 0, ground := Go.Ground.phase }, { on := 1, ground := Go.Ground.phase }, { on := 2, ground := Go.Ground.phase }, { on := 3, ground := Go.Ground.phase }, { on := 4, ground := Go.Ground.phase }, { on := 5, ground := Go.Ground.phase }, { on := 6, ground := Go.Ground.phase }, { on := 7, ground := Go.Ground.phase }, { on := 8, ground := Go.Ground.phase }, { on := 9, ground := Go.Ground.phase }, { on := 10, ground := Go.Ground.phase }, { on := 11, ground := Go.Ground.phase }, { on := 12, ground := Go.Ground.phase }, { on := 13, ground := Go.Ground.phase }], guard := none }) (v := er) rfl (by kernel_rfl) (by kernel_rfl) (by kernel_rfl) (fun _ _ _ h => h) (Or.inl ⟨by kernel_rfl, fun w hC => by go_simp⟩) hS.out ?_
  simp only [Act.put, List.setIfInBounds_toArray, List.set_cons_zero, List.set_cons_succ]
  refine wpAnyH_done (by kernel_rfl) ?_ _
  obtain ⟨k0, k1, k2, k3, k4, k5, k6, k7, k8, k9, k10⟩ := HM.out.all
  rw [hopi] at k3
  obtain ⟨tE, hE⟩ : ∃ v, er = .iface 43 v := ⟨_, by rw [← HER.out]; exact erN_not (by have := H0.out; omega)⟩
  subst hE
  obtain ⟨m2, h2⟩ : ∃ m2, (⟨m.rp, m.ta, m.id, m.op, K.e, 0, 0, 0, 0, 0⟩ : Msg) = m2 := ⟨_, rfl⟩
  have hf := fun W (hM : MB W w.heap.size m (.slice so sn sc)) hW => wfail_any m (.slice so sn sc) (K.e) W hM (HEL.out) hW m2 h2
  rw [HER.out] at hf
  have HF := hide hf
  clear hf
  go_wp2_with fail
  refine (HF.out _ HM.out (HE.out.glob HG.out)).mono ?_; rintro e w6 ⟨co2, cc2, rfl, B6, b6⟩
  have HB6 := hide B6
  have HZ6 := hide (HZ.out.grow b6)
  have HE6 := hide (HE.out.to b6)
  have HM2 : Hid (m2 = rplF m (badF (s.tab K.t K.es s.T) (K.e))) := by show _ = _; rw [rpl_bad, ← h2]
  clear B6 b6 h2 k0 k1 k2 k3 k4 k5 k6 k7 k8 k9 k10
  have HZL := hide (HZ6.out.lay (m := m2) (D := .slice co2 0 cc2))
  have f7 := foot_lay11 w6 (w.heap.size + 1) m2 (.slice co2 0 cc2)
  have HE7 := hide (HE6.out.msg HW0.out HZ6.out (by omega) f7)
  have HB7 : Hid (Bts (lay11 w6 (w.heap.size + 1) m2 (.slice co2 0 cc2)) co2 0 cc2 []) := bts_none HB6.out
  obtain ⟨w7, hw7⟩ : ∃ w7, lay11 w6 (w.heap.size + 1) m2 (.slice co2 0 cc2) = w7 := ⟨_, rfl⟩
  rw [hw7] at HZL HE7 HB7
  unfold lay11 at hw7
  clear f7
  obtain ⟨v0, v1, v2, v3, v4, v5, v6, v7, v8, v9, v10⟩ := HZL.out.all
  obtain ⟨z0, z1, z2, z3, z4, z5, z6, z7, z8, z9, z10⟩ := HZ6.out.all
  have x0 := HZ6.out.z 0
  have x1 := HZ6.out.z 1
  have x2 := HZ6.out.z 2
  have x3 := HZ6.out.z 3
  have x4 := HZ6.out.z 4
  have x5 := HZ6.out.z 5
  have x6 := HZ6.out.z 6
  have x7 := HZ6.out.z 7
  have x8 := HZ6.out.z 8
  have x9 := HZ6.out.z 9
  have x10 := HZ6.out.z 10
  go_wp2
  refine bodyPost_ret (by simp [results, Tryz.results19, go_sem, v0, v1, v2, v3, v4, v5, v6, v7, v8, v9, v10]; rfl) rfl ?_
  exact ⟨m2, co2, 0, cc2, HM2.out, rfl, by rw [dat_bad]; exact HB7.out, .inl (dat_bad _ _ _), HE7.out⟩
set_option maxRecDepth 20000 in
set_option maxHeartbeats 12800000 in
theorem want_chk103 (m : Msg) (so : Option Addr) (sn sc : Nat) (l : List UInt8) (w : World) (x : Sv w0 w A p ws s) (hb : Bts w so sn sc l) (q : Okm w0 w m so sn) (li : Lim s) (hg : Glob w0) (hop : m.op = 103) (K : Chk) (hK : chkF ws s.t s.es p s.T ⟨m.p, m.o, m.r, m.c⟩ 1 = K) (h0 : K.e ≠ 0) :
    Calls Tryz.prog 19 #[.pointer (some ⟨A.g, 0, none⟩), .pointer (some ⟨A.sb.2, 0, none⟩), .agg #[.int .u64 m.ta, .int .u64 m.rp, .int .u32 m.id, .int .u16 m.op, .int .u16 m.st, .int .u64 m.p, .int .u32 m.o, .int .u8 m.r, .int .u64 m.c, .int .u64 m.ar, .slice so sn sc]] w fun e w' => RplEnd w0 w A p ws m (badF (s.tab K.t K.es s.T) K.e) l e w' := by
  have hmf : ∀ (fn : Fn) (first cap : Array Value) (w : World), (Instr.makeFunc fn first cap).run Tryz.prog w = .ok (.func fn first cap) w := fun _ _ _ _ => rfl
  obtain ⟨X, hX, bm, bz, bX⟩ := rep_vars w m (.slice so sn sc)
  have HX := hide (x.grow bX)
  have HB := hide (hb.carry bX)
  have HM := hide bm
  have HZ := hide bz
  have HBX := hide bX
  have HW0 : Hid (w0.heap.size ≤ w.heap.size) := x.bel.size
  have HQ := hide q
  have HQX := hide (q.grow bX)
  have HLI := hide li
  have HG := hide hg
  have hopi : (m.op : Int) = 103 := by omega
  have HK := hide hK
  have H0 := hide h0
  have HEL : Hid (K.e ≤ 65535) := by show _ ≤ _; have := chk_err ws s.t s.es p s.T ⟨m.p, m.o, m.r, m.c⟩ 1; rw [hK] at this; omega
  obtain ⟨er, her⟩ : ∃ er, erN (K.e : Int) = er := ⟨_, rfl⟩
  have HER := hide her
  obtain ⟨k0, k1, k2, k3, k4, k5, k6, k7, k8, k9, k10⟩ := HM.out.all
  have hwk : IntKind.u16.wrap 3 = 3 := by rw [IntKind.wrap_u16]; rfl
  rw [hopi] at k3 hX
  have HK3 := hide k3
  clear bm bz bX x hb q li hg hop hK h0 her
  go_enter Tryz.func19, Tryz.ntmps19
  go_wp2_with fail
  have hS : Hid (X.drew.cell? ⟨w.heap.size, 3, none⟩ = some (.int .u16 103) ∧ X.drew.cell? ⟨w.heap.size, 5, none⟩ = some (.int .u64 (m.p : Int)) ∧ X.drew.cell? ⟨w.heap.size, 6, none⟩ = some (.int .u32 (m.o : Int)) ∧ X.drew.cell? ⟨w.heap.size, 7, none⟩ = some (.int .u8 (m.r : Int)) ∧ X.drew.cell? ⟨w.heap.size, 8, none⟩ = some (.int .u64 (m.c : Int))) := ⟨k3, HM.out.all.2.2.2.2.2.1, HM.out.all.2.2.2.2.2.2.1, HM.out.all.2.2.2.2.2.2.2.1, HM.out.all.2.2.2.2.2.2.2.2.1⟩
  refine wp_region_held_drew (S := fun U => U.cell? ⟨w.heap.size, 3, none⟩ = some (.int .u16 103) ∧ U.cell? ⟨w.heap.size, 5, none⟩ = some (.int .u64 (m.p : Int)) ∧ U.cell? ⟨w.heap.size, 6, none⟩ = some (.int .u32 (m.o : Int)) ∧ U.cell? ⟨w.heap.size, 7, none⟩ = some (.int .u8 (m.r : Int)) ∧ U.cell? ⟨w.heap.size, 8, none⟩ = some (.int .u64 (m.c : Int))) (by kernel_rfl) hS.out (fun _ => ?_)
  refine wpAnyH_take (i := 0) (oi := { dst := some 72, op := Go.Op.move (Go.Operand.tmp 0), type := 26, pos := "law.go:72", after := #[], guard := none }) (v := (.pointer (some ⟨A.g, 0, none⟩))) rfl (by kernel_rfl) (by kernel_rfl) (by kernel_rfl) (fun _ _ _ h => h) (Or.inl ⟨by kernel_rfl, fun w hC => by go_simp⟩) hS.out ?_
  simp only [Act.put, List.setIfInBounds_toArray, List.set_cons_zero, List.set_cons_succ]
  refine wpAnyH_take (i := 1) (oi := { dst := some 73, op := Go.Op.fieldAddr 53 (Go.Operand.tmp 5) 5, type := 0, pos := "law.go:72", after := #[], guard := none }) (v := (.pointer (some ⟨w.heap.size, 5, none⟩))) rfl (by kernel_rfl) (by kernel_rfl) (by kernel_rfl) (fun _ _ _ h => h) (Or.inl ⟨by kernel_rfl, fun w hC => by go_simp⟩) hS.out ?_
  simp only [Act.put, List.setIfInBounds_toArray, List.set_cons_zero, List.set_cons_succ]
  refine wpAnyH_take (i := 2) (oi := { dst := some 74, op := Go.Op.load 36 (Go.Operand.tmp 73), type := 36, pos := "law.go:72", after := #[{ on := 1, ground := Go.Ground.data }], guard := none }) (v := (.agg #[.int .u64 (m.p : Int), .int .u32 (m.o : Int), .int .u8 (m.r : Int), .int .u64 (m.c : Int)])) rfl (by kernel_rfl) (by kernel_rfl) (by kernel_rfl) (fun _ _ _ h => h) (Or.inl ⟨by kernel_rfl, fun w hC => by (obtain ⟨e3, e5, e6, e7, e8⟩ := hC; go_simp)⟩) hS.out ?_
  simp only [Act.put, List.setIfInBounds_toArray, List.set_cons_zero, List.set_cons_succ]
  refine wpAnyH_take (i := 4) (oi := { dst := some 76, op := Go.Op.fieldAddr 53 (Go.Operand.tmp 5) 3, type := 0, pos := "law.go:72", after := #[], guard := none }) (v := (.pointer (some ⟨w.heap.size, 3, none⟩))) rfl (by kernel_rfl) (by kernel_rfl) (by kernel_rfl) (fun _ _ _ h => h) (Or.inl ⟨by kernel_rfl, fun w hC => by go_simp⟩) hS.out ?_
  simp only [Act.put, List.setIfInBounds_toArray, List.set_cons_zero, List.set_cons_succ]
  refine wpAnyH_take (i := 5) (oi := { dst := some 77, op := Go.Op.load 49 (Go.Operand.tmp 76), type := 49, pos := "law.go:72", after := #[{ on := 4, ground := Go.Ground.data }], guard := none }) (v := (.int .u16 103)) rfl (by kernel_rfl) (by kernel_rfl) (by kernel_rfl) (fun _ _ _ h => h) (Or.inl ⟨by kernel_rfl, fun w hC => by (obtain ⟨e3, e5, e6, e7, e8⟩ := hC; go_simp)⟩) hS.out ?_
  simp only [Act.put, List.setIfInBounds_toArray, List.set_cons_zero, List.set_cons_succ]
  refine wpAnyH_take (i := 6) (oi := { dst := some 78, op := Go.Op.binOp Go.BinOp.sub 49 (Go.Operand.tmp 77) (Go.Operand.const (Go.Value.int Go.IntKind.u16 100)) 49, type := 49, pos := "law.go:72", after := #[{ on := 5, ground := Go.Ground.data }], guard := none }) (v := (.int .u16 3)) rfl (by kernel_rfl) (by kernel_rfl) (by kernel_rfl) (fun _ _ _ h => h) (Or.inl ⟨by kernel_rfl, fun w hC => by go_simp⟩) hS.out ?_
  simp only [Act.put, List.setIfInBounds_toArray, List.set_cons_zero, List.set_cons_succ]
  refine wpAnyH_ready (rs := [3]) (by kernel_rfl) (by simp) ?_
  refine AllReadyH.cons (o := { dst := some 75, op := Go.Op.buildSlice 23 5 #[(0, Go.Operand.const (Go.Value.int Go.IntKind.u8 4)), (1, Go.Operand.const (Go.Value.int Go.IntKind.u8 1)), (2, Go.Operand.const (Go.Value.int Go.IntKind.u8 2)), (3, Go.Operand.const (Go.Value.int Go.IntKind.u8 1)), (4, Go.Operand.const (Go.Value.int Go.IntKind.u8 2))], type := 23, pos := "law.go:72", after := #[], guard := none }) rfl (fun KK hKK => ?_) AllReadyH.nil
  go_simp
  obtain ⟨Y, hY⟩ : ∃ Y, (X.alloc (.cells #[.int .u8 4, .int .u8 1, .int .u8 2, .int .u8 1, .int .u8 2] 5)).drew = Y := ⟨_, rfl⟩
  have bY : Below X.heap.size X Y := hY ▸ (below_alloc X _).drew
  have cY : Y.cell? ⟨X.heap.size, 3, none⟩ = some (.int .u8 1) := by subst hY; show (X.alloc _).cell? _ = _; rw [cell_of_row _ _ _ _ _ _ (heap_alloc_new _ _)]; rfl
  try rw [hY]
  have HM := hide (HM.out.grow bY)
  have HZ := hide (HZ.out.grow bY)
  have HX := hide (HX.out.grow bY)
  have HB := hide (HB.out.carry bY)
  have HQX := hide (HQX.out.grow bY)
  have HBX := hide (below_one HBX.out bY)
  clear bY
  have hS : Hid (Y.cell? ⟨w.heap.size, 3, none⟩ = some (.int .u16 103) ∧ Y.cell? ⟨w.heap.size, 5, none⟩ = some (.int .u64 (m.p : Int)) ∧ Y.cell? ⟨w.heap.size, 6, none⟩ = some (.int .u32 (m.o : Int)) ∧ Y.cell? ⟨w.heap.size, 7, none⟩ = some (.int .u8 (m.r : Int)) ∧ Y.cell? ⟨w.heap.size, 8, none⟩ = some (.int .u64 (m.c : Int))) := ⟨by rw [HM.out.all.2.2.2.1, hopi], HM.out.all.2.2.2.2.2.1, HM.out.all.2.2.2.2.2.2.1, HM.out.all.2.2.2.2.2.2.2.1, HM.out.all.2.2.2.2.2.2.2.2.1⟩
  refine hKK.out _ _ hS.out (fun _ => ?_)
  clear hKK
  refine wpAnyH_take (i := 7) (oi := { dst := some 79, op := Go.Op.indexAddr 23 (Go.Operand.tmp 75) (Go.Operand.tmp 78), type := 0, pos := "law.go:72", after := #[{ on := 3, ground := Go.Ground.data }, { on := 6, ground := Go.Ground.data }], guard := none }) (v := (.pointer (some ⟨X.heap.size, 3, none⟩))) rfl (by kernel_rfl) (by kernel_rfl) (by kernel_rfl) (fun _ _ _ h => h) (Or.inl ⟨by kernel_rfl, fun w hC => by go_simp⟩) hS.out ?_
  simp only [Act.put, List.setIfInBounds_toArray, List.set_cons_zero, List.set_cons_succ]
  refine wpAnyH_ready (rs := [8]) (by kernel_rfl) (by simp) ?_
  refine AllReadyH.cons (o := { dst := some 80, op := Go.Op.load 5 (Go.Operand.tmp 79), type := 5, pos := "law.go:72", after := #[{ on := 7, ground := Go.Ground.data }], guard := none }) rfl (fun KK hKK => ?_) AllReadyH.nil
  go_simp
  have hS : Hid (Y.cell? ⟨w.heap.size, 3, none⟩ = some (.int .u16 103) ∧ Y.cell? ⟨w.heap.size, 5, none⟩ = some (.int .u64 (m.p : Int)) ∧ Y.cell? ⟨w.heap.size, 6, none⟩ = some (.int .u32 (m.o : Int)) ∧ Y.cell? ⟨w.heap.size, 7, none⟩ = some (.int .u8 (m.r : Int)) ∧ Y.cell? ⟨w.heap.size, 8, none⟩ = some (.int .u64 (m.c : Int))) := ⟨by rw [HM.out.all.2.2.2.1, hopi], HM.out.all.2.2.2.2.2.1, HM.out.all.2.2.2.2.2.2.1, HM.out.all.2.2.2.2.2.2.2.1, HM.out.all.2.2.2.2.2.2.2.2.1⟩
  refine hKK.out _ _ hS.out (fun _ => ?_)
  clear hKK
  refine wpAnyH_ready (rs := [9]) (by kernel_rfl) (by simp) ?_
  refine AllReadyH.cons (o := { dst := some 81, op := Go.Op.call { callee := Go.Callee.value (Go.Operand.func 33), args := #[Go.Operand.tmp 72, Go.Operand.tmp 74, Go.Operand.tmp 80], argTypes := #[26, 36, 5] }, type := 99, pos := "law.go:72", after := #[{ on := 0, ground := Go.Ground.data }, { on := 2, ground := Go.Ground.data }, { on := 8, ground := Go.Ground.data }], guard := none }) rfl (fun KK hKK => ?_) AllReadyH.nil
  go_simp
  refine (tb_check ⟨m.p, m.o, m.r, m.c⟩ 1 _ HX.out HQ.out.c (by omega) (by have := HLI.out.el; omega) K HK.out).mono ?_; rw [HER.out]; rintro e w2 ⟨rfl, E⟩
  have kh := HX.out.kh E
  have HM := hide (HM.out.kh kh)
  have HZ := hide (HZ.out.kh kh)
  have HB := hide (Bts.sv HB.out HQX.out.d HX.out E)
  have HQX : Hid (Okm w0 w2 m so sn) := ⟨HQX.out.c, HQX.out.o, HQX.out.a, HQX.out.n, HQX.out.d.kh kh⟩
  have HE := hide (E.from HBX.out)
  clear kh E
  have hS : Hid (w2.cell? ⟨w.heap.size, 3, none⟩ = some (.int .u16 103) ∧ w2.cell? ⟨w.heap.size, 5, none⟩ = some (.int .u64 (m.p : Int)) ∧ w2.cell? ⟨w.heap.size, 6, none⟩ = some (.int .u32 (m.o : Int)) ∧ w2.cell? ⟨w.heap.size, 7, none⟩ = some (.int .u8 (m.r : Int)) ∧ w2.cell? ⟨w.heap.size, 8, none⟩ = some (.int .u64 (m.c : Int))) := ⟨by rw [HM.out.all.2.2.2.1, hopi], HM.out.all.2.2.2.2.2.1, HM.out.all.2.2.2.2.2.2.1, HM.out.all.2.2.2.2.2.2.2.1, HM.out.all.2.2.2.2.2.2.2.2.1⟩
  refine hKK.out _ _ hS.out (fun _ => ?_)
  clear hKK
  refine wpAnyH_take (i := 10) (oi := { dst := some 71, op := Go.Op.move (Go.Operand.tmp 81), type := 99, pos := "law.go:72", after := #[{ on := 9, ground := Go.Ground.data }], guard := none }) (v := (.tuple #[.int .i64 (K.k : Int), er])) rfl (by kernel_rfl) (by kernel_rfl) (by kernel_rfl) (fun _ _ _ h => h) (Or.inl ⟨by kernel_rfl, fun w hC => by go_simp⟩) hS.out ?_
  simp only [Act.put, List.setIfInBounds_toArray, List.set_cons_zero, List.set_cons_succ]
  refine wpAnyH_take (i := 11) (oi := { dst := some 82, op := Go.Op.extract (Go.Operand.tmp 71) 0, type := 3, pos := "law.go:72", after := #[{ on := 10, ground := Go.Ground.data }], guard := none }) (v := (.int .i64 (K.k : Int))) rfl (by kernel_rfl) (by kernel_rfl) (by kernel_rfl) (fun _ _ _ h => h) (Or.inl ⟨by kernel_rfl, fun w hC => by go_simp⟩) hS.out ?_
  simp only [Act.put, List.setIfInBounds_toArray, List.set_cons_zero, List.set_cons_succ]
  refine wpAnyH_take (i := 12) (oi := { dst := some 83, op := Go.Op.extract (Go.Operand.tmp 71) 1, type := 38, pos := "law.go:72", after := #[{ on := 10, ground := Go.Ground.data }, { on := 13, ground := Go.Ground.gcOnly Go.Departure.lateStores }], guard := none }) (v := er) rfl (by kernel_rfl) (by kernel_rfl) (by kernel_rfl) (fun _ _ _ h => h) (Or.inl ⟨by kernel_rfl, fun w hC => by go_simp⟩) hS.out ?_
  simp only [Act.put, List.setIfInBounds_toArray, List.set_cons_zero, List.set_cons_succ]
  refine wpAnyH_take (i := 13) (oi := { dst := some 13, op := Go.Op.assign (Go.Operand.tmp 82), type := 3, pos := "law.go:72", after := #[{ on := 11, ground := Go.Ground.data }, { on := 9, ground := Go.Ground.chain }, { on := 0, ground := Go.Ground.phase }, { on := 1, ground := Go.Ground.phase }, { on := 2, ground := Go.Ground.phase }, { on := 3, ground := Go.Ground.phase }, { on := 4, ground := Go.Ground.phase }, { on := 5, ground := Go.Ground.phase }, { on := 6, ground := Go.Ground.phase }, { on := 7, ground := Go.Ground.phase }, { on := 8, ground := Go.Ground.phase }, { on := 9, ground := Go.Ground.phase }, { on := 10, ground := Go.Ground.phase }, { on := 11, ground := Go.Ground.phase }, { on := 12, ground := Go.Ground.textOnly Go.Departure.lateStores }], guard := none }) (v := (.int .i64 (K.k : Int))) rfl (by kernel_rfl) (by kernel_rfl) (by kernel_rfl) (fun _ _ _ h => h) (Or.inl ⟨by kernel_rfl, fun w hC => by go_simp⟩) hS.out ?_
  simp only [Act.put, List.setIfInBounds_toArray, List.set_cons_zero, List.set_cons_succ]
  refine wpAnyH_take (i := 14) (oi := { dst := some 14, op := Go.Op.assign (Go.Operand.tmp 83), type := 38, pos := "law.go:72", after := #[{ on := 12, ground := Go.Ground.data }, { on := 13, ground := Go.Ground.chain }, { on := 0, ground := Go.Ground.phase }, { on := 1, ground := Go.Ground.phase }, { on := 2, ground := Go.Ground.phase }, { on := 3, ground := Go.Ground.phase }, { on := 4, ground := Go.Ground.phase }, { on := 5, ground := Go.Ground.phase }, { on := 6, ground := Go.Ground.phase }, { on := 7, ground := Go.Ground.phase }, { on := 8, ground := Go.Ground.phase }, { on := 9, ground := Go.Ground.phase }, { on := 10, ground := Go.Ground.phase }, { on := 11, ground := Go.Ground.phase }, { on := 12, ground := Go.Ground.phase }, { on := 13, ground := Go.Ground.phase }], guard := none }) (v := er) rfl (by kernel_rfl) (by kernel_rfl) (by kernel_rfl) (fun _ _ _ h => h) (Or.inl ⟨by kernel_rfl, fun w hC => by go_simp⟩) hS.out ?_
  simp only [Act.put, List.setIfInBounds_toArray, List.set_cons_zero, List.set_cons_succ]
  refine wpAnyH_done (by kernel_rfl) ?_ _
  obtain ⟨k0, k1, k2, k3, k4, k5, k6, k7, k8, k9, k10⟩ := HM.out.all
  rw [hopi] at k3
  obtain ⟨tE, hE⟩ : ∃ v, er = .iface 43 v := ⟨_, by rw [← HER.out]; exact erN_not (by have := H0.out; omega)⟩
  subst hE
  obtain ⟨m2, h2⟩ : ∃ m2, (⟨m.rp, m.ta, m.id, m.op, K.e, 0, 0, 0, 0, 0⟩ : Msg) = m2 := ⟨_, rfl⟩
  have hf := fun W (hM : MB W w.heap.size m (.slice so sn sc)) hW => wfail_any m (.slice so sn sc) (K.e) W hM (HEL.out) hW m2 h2
  rw [HER.out] at hf
  have HF := hide hf
  clear hf
  go_wp2_with fail
  refine (HF.out _ HM.out (HE.out.glob HG.out)).mono ?_; rintro e w6 ⟨co2, cc2, rfl, B6, b6⟩
  have HB6 := hide B6
  have HZ6 := hide (HZ.out.grow b6)
  have HE6 := hide (HE.out.to b6)
  have HM2 : Hid (m2 = rplF m (badF (s.tab K.t K.es s.T) (K.e))) := by show _ = _; rw [rpl_bad, ← h2]
  clear B6 b6 h2 k0 k1 k2 k3 k4 k5 k6 k7 k8 k9 k10
  have HZL := hide (HZ6.out.lay (m := m2) (D := .slice co2 0 cc2))
  have f7 := foot_lay11 w6 (w.heap.size + 1) m2 (.slice co2 0 cc2)
  have HE7 := hide (HE6.out.msg HW0.out HZ6.out (by omega) f7)
  have HB7 : Hid (Bts (lay11 w6 (w.heap.size + 1) m2 (.slice co2 0 cc2)) co2 0 cc2 []) := bts_none HB6.out
  obtain ⟨w7, hw7⟩ : ∃ w7, lay11 w6 (w.heap.size + 1) m2 (.slice co2 0 cc2) = w7 := ⟨_, rfl⟩
  rw [hw7] at HZL HE7 HB7
  unfold lay11 at hw7
  clear f7
  obtain ⟨v0, v1, v2, v3, v4, v5, v6, v7, v8, v9, v10⟩ := HZL.out.all
  obtain ⟨z0, z1, z2, z3, z4, z5, z6, z7, z8, z9, z10⟩ := HZ6.out.all
  have x0 := HZ6.out.z 0
  have x1 := HZ6.out.z 1
  have x2 := HZ6.out.z 2
  have x3 := HZ6.out.z 3
  have x4 := HZ6.out.z 4
  have x5 := HZ6.out.z 5
  have x6 := HZ6.out.z 6
  have x7 := HZ6.out.z 7
  have x8 := HZ6.out.z 8
  have x9 := HZ6.out.z 9
  have x10 := HZ6.out.z 10
  go_wp2
  refine bodyPost_ret (by simp [results, Tryz.results19, go_sem, v0, v1, v2, v3, v4, v5, v6, v7, v8, v9, v10]; rfl) rfl ?_
  exact ⟨m2, co2, 0, cc2, HM2.out, rfl, by rw [dat_bad]; exact HB7.out, .inl (dat_bad _ _ _), HE7.out⟩
set_option maxRecDepth 20000 in
set_option maxHeartbeats 12800000 in
theorem want_chk104 (m : Msg) (so : Option Addr) (sn sc : Nat) (l : List UInt8) (w : World) (x : Sv w0 w A p ws s) (hb : Bts w so sn sc l) (q : Okm w0 w m so sn) (li : Lim s) (hg : Glob w0) (hop : m.op = 104) (K : Chk) (hK : chkF ws s.t s.es p s.T ⟨m.p, m.o, m.r, m.c⟩ 2 = K) (h0 : K.e ≠ 0) :
    Calls Tryz.prog 19 #[.pointer (some ⟨A.g, 0, none⟩), .pointer (some ⟨A.sb.2, 0, none⟩), .agg #[.int .u64 m.ta, .int .u64 m.rp, .int .u32 m.id, .int .u16 m.op, .int .u16 m.st, .int .u64 m.p, .int .u32 m.o, .int .u8 m.r, .int .u64 m.c, .int .u64 m.ar, .slice so sn sc]] w fun e w' => RplEnd w0 w A p ws m (badF (s.tab K.t K.es s.T) K.e) l e w' := by
  have hmf : ∀ (fn : Fn) (first cap : Array Value) (w : World), (Instr.makeFunc fn first cap).run Tryz.prog w = .ok (.func fn first cap) w := fun _ _ _ _ => rfl
  obtain ⟨X, hX, bm, bz, bX⟩ := rep_vars w m (.slice so sn sc)
  have HX := hide (x.grow bX)
  have HB := hide (hb.carry bX)
  have HM := hide bm
  have HZ := hide bz
  have HBX := hide bX
  have HW0 : Hid (w0.heap.size ≤ w.heap.size) := x.bel.size
  have HQ := hide q
  have HQX := hide (q.grow bX)
  have HLI := hide li
  have HG := hide hg
  have hopi : (m.op : Int) = 104 := by omega
  have HK := hide hK
  have H0 := hide h0
  have HEL : Hid (K.e ≤ 65535) := by show _ ≤ _; have := chk_err ws s.t s.es p s.T ⟨m.p, m.o, m.r, m.c⟩ 2; rw [hK] at this; omega
  obtain ⟨er, her⟩ : ∃ er, erN (K.e : Int) = er := ⟨_, rfl⟩
  have HER := hide her
  obtain ⟨k0, k1, k2, k3, k4, k5, k6, k7, k8, k9, k10⟩ := HM.out.all
  have hwk : IntKind.u16.wrap 4 = 4 := by rw [IntKind.wrap_u16]; rfl
  rw [hopi] at k3 hX
  have HK3 := hide k3
  clear bm bz bX x hb q li hg hop hK h0 her
  go_enter Tryz.func19, Tryz.ntmps19
  go_wp2_with fail
  have hS : Hid (X.drew.cell? ⟨w.heap.size, 3, none⟩ = some (.int .u16 104) ∧ X.drew.cell? ⟨w.heap.size, 5, none⟩ = some (.int .u64 (m.p : Int)) ∧ X.drew.cell? ⟨w.heap.size, 6, none⟩ = some (.int .u32 (m.o : Int)) ∧ X.drew.cell? ⟨w.heap.size, 7, none⟩ = some (.int .u8 (m.r : Int)) ∧ X.drew.cell? ⟨w.heap.size, 8, none⟩ = some (.int .u64 (m.c : Int))) := ⟨k3, HM.out.all.2.2.2.2.2.1, HM.out.all.2.2.2.2.2.2.1, HM.out.all.2.2.2.2.2.2.2.1, HM.out.all.2.2.2.2.2.2.2.2.1⟩
  refine wp_region_held_drew (S := fun U => U.cell? ⟨w.heap.size, 3, none⟩ = some (.int .u16 104) ∧ U.cell? ⟨w.heap.size, 5, none⟩ = some (.int .u64 (m.p : Int)) ∧ U.cell? ⟨w.heap.size, 6, none⟩ = some (.int .u32 (m.o : Int)) ∧ U.cell? ⟨w.heap.size, 7, none⟩ = some (.int .u8 (m.r : Int)) ∧ U.cell? ⟨w.heap.size, 8, none⟩ = some (.int .u64 (m.c : Int))) (by kernel_rfl) hS.out (fun _ => ?_)
  refine wpAnyH_take (i := 0) (oi := { dst := some 72, op := Go.Op.move (Go.Operand.tmp 0), type := 26, pos := "law.go:72", after := #[], guard := none }) (v := (.pointer (some ⟨A.g, 0, none⟩))) rfl (by kernel_rfl) (by kernel_rfl) (by kernel_rfl) (fun _ _ _ h => h) (Or.inl ⟨by kernel_rfl, fun w hC => by go_simp⟩) hS.out ?_
  simp only [Act.put, List.setIfInBounds_toArray, List.set_cons_zero, List.set_cons_succ]
  refine wpAnyH_take (i := 1) (oi := { dst := some 73, op := Go.Op.fieldAddr 53 (Go.Operand.tmp 5) 5, type := 0, pos := "law.go:72", after := #[], guard := none }) (v := (.pointer (some ⟨w.heap.size, 5, none⟩))) rfl (by kernel_rfl) (by kernel_rfl) (by kernel_rfl) (fun _ _ _ h => h) (Or.inl ⟨by kernel_rfl, fun w hC => by go_simp⟩) hS.out ?_
  simp only [Act.put, List.setIfInBounds_toArray, List.set_cons_zero, List.set_cons_succ]
  refine wpAnyH_take (i := 2) (oi := { dst := some 74, op := Go.Op.load 36 (Go.Operand.tmp 73), type := 36, pos := "law.go:72", after := #[{ on := 1, ground := Go.Ground.data }], guard := none }) (v := (.agg #[.int .u64 (m.p : Int), .int .u32 (m.o : Int), .int .u8 (m.r : Int), .int .u64 (m.c : Int)])) rfl (by kernel_rfl) (by kernel_rfl) (by kernel_rfl) (fun _ _ _ h => h) (Or.inl ⟨by kernel_rfl, fun w hC => by (obtain ⟨e3, e5, e6, e7, e8⟩ := hC; go_simp)⟩) hS.out ?_
  simp only [Act.put, List.setIfInBounds_toArray, List.set_cons_zero, List.set_cons_succ]
  refine wpAnyH_take (i := 4) (oi := { dst := some 76, op := Go.Op.fieldAddr 53 (Go.Operand.tmp 5) 3, type := 0, pos := "law.go:72", after := #[], guard := none }) (v := (.pointer (some ⟨w.heap.size, 3, none⟩))) rfl (by kernel_rfl) (by kernel_rfl) (by kernel_rfl) (fun _ _ _ h => h) (Or.inl ⟨by kernel_rfl, fun w hC => by go_simp⟩) hS.out ?_
  simp only [Act.put, List.setIfInBounds_toArray, List.set_cons_zero, List.set_cons_succ]
  refine wpAnyH_take (i := 5) (oi := { dst := some 77, op := Go.Op.load 49 (Go.Operand.tmp 76), type := 49, pos := "law.go:72", after := #[{ on := 4, ground := Go.Ground.data }], guard := none }) (v := (.int .u16 104)) rfl (by kernel_rfl) (by kernel_rfl) (by kernel_rfl) (fun _ _ _ h => h) (Or.inl ⟨by kernel_rfl, fun w hC => by (obtain ⟨e3, e5, e6, e7, e8⟩ := hC; go_simp)⟩) hS.out ?_
  simp only [Act.put, List.setIfInBounds_toArray, List.set_cons_zero, List.set_cons_succ]
  refine wpAnyH_take (i := 6) (oi := { dst := some 78, op := Go.Op.binOp Go.BinOp.sub 49 (Go.Operand.tmp 77) (Go.Operand.const (Go.Value.int Go.IntKind.u16 100)) 49, type := 49, pos := "law.go:72", after := #[{ on := 5, ground := Go.Ground.data }], guard := none }) (v := (.int .u16 4)) rfl (by kernel_rfl) (by kernel_rfl) (by kernel_rfl) (fun _ _ _ h => h) (Or.inl ⟨by kernel_rfl, fun w hC => by go_simp⟩) hS.out ?_
  simp only [Act.put, List.setIfInBounds_toArray, List.set_cons_zero, List.set_cons_succ]
  refine wpAnyH_ready (rs := [3]) (by kernel_rfl) (by simp) ?_
  refine AllReadyH.cons (o := { dst := some 75, op := Go.Op.buildSlice 23 5 #[(0, Go.Operand.const (Go.Value.int Go.IntKind.u8 4)), (1, Go.Operand.const (Go.Value.int Go.IntKind.u8 1)), (2, Go.Operand.const (Go.Value.int Go.IntKind.u8 2)), (3, Go.Operand.const (Go.Value.int Go.IntKind.u8 1)), (4, Go.Operand.const (Go.Value.int Go.IntKind.u8 2))], type := 23, pos := "law.go:72", after := #[], guard := none }) rfl (fun KK hKK => ?_) AllReadyH.nil
  go_simp
  obtain ⟨Y, hY⟩ : ∃ Y, (X.alloc (.cells #[.int .u8 4, .int .u8 1, .int .u8 2, .int .u8 1, .int .u8 2] 5)).drew = Y := ⟨_, rfl⟩
  have bY : Below X.heap.size X Y := hY ▸ (below_alloc X _).drew
  have cY : Y.cell? ⟨X.heap.size, 4, none⟩ = some (.int .u8 2) := by subst hY; show (X.alloc _).cell? _ = _; rw [cell_of_row _ _ _ _ _ _ (heap_alloc_new _ _)]; rfl
  try rw [hY]
  have HM := hide (HM.out.grow bY)
  have HZ := hide (HZ.out.grow bY)
  have HX := hide (HX.out.grow bY)
  have HB := hide (HB.out.carry bY)
  have HQX := hide (HQX.out.grow bY)
  have HBX := hide (below_one HBX.out bY)
  clear bY
  have hS : Hid (Y.cell? ⟨w.heap.size, 3, none⟩ = some (.int .u16 104) ∧ Y.cell? ⟨w.heap.size, 5, none⟩ = some (.int .u64 (m.p : Int)) ∧ Y.cell? ⟨w.heap.size, 6, none⟩ = some (.int .u32 (m.o : Int)) ∧ Y.cell? ⟨w.heap.size, 7, none⟩ = some (.int .u8 (m.r : Int)) ∧ Y.cell? ⟨w.heap.size, 8, none⟩ = some (.int .u64 (m.c : Int))) := ⟨by rw [HM.out.all.2.2.2.1, hopi], HM.out.all.2.2.2.2.2.1, HM.out.all.2.2.2.2.2.2.1, HM.out.all.2.2.2.2.2.2.2.1, HM.out.all.2.2.2.2.2.2.2.2.1⟩
  refine hKK.out _ _ hS.out (fun _ => ?_)
  clear hKK
  refine wpAnyH_take (i := 7) (oi := { dst := some 79, op := Go.Op.indexAddr 23 (Go.Operand.tmp 75) (Go.Operand.tmp 78), type := 0, pos := "law.go:72", after := #[{ on := 3, ground := Go.Ground.data }, { on := 6, ground := Go.Ground.data }], guard := none }) (v := (.pointer (some ⟨X.heap.size, 4, none⟩))) rfl (by kernel_rfl) (by kernel_rfl) (by kernel_rfl) (fun _ _ _ h => h) (Or.inl ⟨by kernel_rfl, fun w hC => by go_simp⟩) hS.out ?_
  simp only [Act.put, List.setIfInBounds_toArray, List.set_cons_zero, List.set_cons_succ]
  refine wpAnyH_ready (rs := [8]) (by kernel_rfl) (by simp) ?_
  refine AllReadyH.cons (o := { dst := some 80, op := Go.Op.load 5 (Go.Operand.tmp 79), type := 5, pos := "law.go:72", after := #[{ on := 7, ground := Go.Ground.data }], guard := none }) rfl (fun KK hKK => ?_) AllReadyH.nil
  go_simp
  have hS : Hid (Y.cell? ⟨w.heap.size, 3, none⟩ = some (.int .u16 104) ∧ Y.cell? ⟨w.heap.size, 5, none⟩ = some (.int .u64 (m.p : Int)) ∧ Y.cell? ⟨w.heap.size, 6, none⟩ = some (.int .u32 (m.o : Int)) ∧ Y.cell? ⟨w.heap.size, 7, none⟩ = some (.int .u8 (m.r : Int)) ∧ Y.cell? ⟨w.heap.size, 8, none⟩ = some (.int .u64 (m.c : Int))) := ⟨by rw [HM.out.all.2.2.2.1, hopi], HM.out.all.2.2.2.2.2.1, HM.out.all.2.2.2.2.2.2.1, HM.out.all.2.2.2.2.2.2.2.1, HM.out.all.2.2.2.2.2.2.2.2.1⟩
  refine hKK.out _ _ hS.out (fun _ => ?_)
  clear hKK
  refine wpAnyH_ready (rs := [9]) (by kernel_rfl) (by simp) ?_
  refine AllReadyH.cons (o := { dst := some 81, op := Go.Op.call { callee := Go.Callee.value (Go.Operand.func 33), args := #[Go.Operand.tmp 72, Go.Operand.tmp 74, Go.Operand.tmp 80], argTypes := #[26, 36, 5] }, type := 99, pos := "law.go:72", after := #[{ on := 0, ground := Go.Ground.data }, { on := 2, ground := Go.Ground.data }, { on := 8, ground := Go.Ground.data }], guard := none }) rfl (fun KK hKK => ?_) AllReadyH.nil
  go_simp
  refine (tb_check ⟨m.p, m.o, m.r, m.c⟩ 2 _ HX.out HQ.out.c (by omega) (by have := HLI.out.el; omega) K HK.out).mono ?_; rw [HER.out]; rintro e w2 ⟨rfl, E⟩
  have kh := HX.out.kh E
  have HM := hide (HM.out.kh kh)
  have HZ := hide (HZ.out.kh kh)
  have HB := hide (Bts.sv HB.out HQX.out.d HX.out E)
  have HQX : Hid (Okm w0 w2 m so sn) := ⟨HQX.out.c, HQX.out.o, HQX.out.a, HQX.out.n, HQX.out.d.kh kh⟩
  have HE := hide (E.from HBX.out)
  clear kh E
  have hS : Hid (w2.cell? ⟨w.heap.size, 3, none⟩ = some (.int .u16 104) ∧ w2.cell? ⟨w.heap.size, 5, none⟩ = some (.int .u64 (m.p : Int)) ∧ w2.cell? ⟨w.heap.size, 6, none⟩ = some (.int .u32 (m.o : Int)) ∧ w2.cell? ⟨w.heap.size, 7, none⟩ = some (.int .u8 (m.r : Int)) ∧ w2.cell? ⟨w.heap.size, 8, none⟩ = some (.int .u64 (m.c : Int))) := ⟨by rw [HM.out.all.2.2.2.1, hopi], HM.out.all.2.2.2.2.2.1, HM.out.all.2.2.2.2.2.2.1, HM.out.all.2.2.2.2.2.2.2.1, HM.out.all.2.2.2.2.2.2.2.2.1⟩
  refine hKK.out _ _ hS.out (fun _ => ?_)
  clear hKK
  refine wpAnyH_take (i := 10) (oi := { dst := some 71, op := Go.Op.move (Go.Operand.tmp 81), type := 99, pos := "law.go:72", after := #[{ on := 9, ground := Go.Ground.data }], guard := none }) (v := (.tuple #[.int .i64 (K.k : Int), er])) rfl (by kernel_rfl) (by kernel_rfl) (by kernel_rfl) (fun _ _ _ h => h) (Or.inl ⟨by kernel_rfl, fun w hC => by go_simp⟩) hS.out ?_
  simp only [Act.put, List.setIfInBounds_toArray, List.set_cons_zero, List.set_cons_succ]
  refine wpAnyH_take (i := 11) (oi := { dst := some 82, op := Go.Op.extract (Go.Operand.tmp 71) 0, type := 3, pos := "law.go:72", after := #[{ on := 10, ground := Go.Ground.data }], guard := none }) (v := (.int .i64 (K.k : Int))) rfl (by kernel_rfl) (by kernel_rfl) (by kernel_rfl) (fun _ _ _ h => h) (Or.inl ⟨by kernel_rfl, fun w hC => by go_simp⟩) hS.out ?_
  simp only [Act.put, List.setIfInBounds_toArray, List.set_cons_zero, List.set_cons_succ]
  refine wpAnyH_take (i := 12) (oi := { dst := some 83, op := Go.Op.extract (Go.Operand.tmp 71) 1, type := 38, pos := "law.go:72", after := #[{ on := 10, ground := Go.Ground.data }, { on := 13, ground := Go.Ground.gcOnly Go.Departure.lateStores }], guard := none }) (v := er) rfl (by kernel_rfl) (by kernel_rfl) (by kernel_rfl) (fun _ _ _ h => h) (Or.inl ⟨by kernel_rfl, fun w hC => by go_simp⟩) hS.out ?_
  simp only [Act.put, List.setIfInBounds_toArray, List.set_cons_zero, List.set_cons_succ]
  refine wpAnyH_take (i := 13) (oi := { dst := some 13, op := Go.Op.assign (Go.Operand.tmp 82), type := 3, pos := "law.go:72", after := #[{ on := 11, ground := Go.Ground.data }, { on := 9, ground := Go.Ground.chain }, { on := 0, ground := Go.Ground.phase }, { on := 1, ground := Go.Ground.phase }, { on := 2, ground := Go.Ground.phase }, { on := 3, ground := Go.Ground.phase }, { on := 4, ground := Go.Ground.phase }, { on := 5, ground := Go.Ground.phase }, { on := 6, ground := Go.Ground.phase }, { on := 7, ground := Go.Ground.phase }, { on := 8, ground := Go.Ground.phase }, { on := 9, ground := Go.Ground.phase }, { on := 10, ground := Go.Ground.phase }, { on := 11, ground := Go.Ground.phase }, { on := 12, ground := Go.Ground.textOnly Go.Departure.lateStores }], guard := none }) (v := (.int .i64 (K.k : Int))) rfl (by kernel_rfl) (by kernel_rfl) (by kernel_rfl) (fun _ _ _ h => h) (Or.inl ⟨by kernel_rfl, fun w hC => by go_simp⟩) hS.out ?_
  simp only [Act.put, List.setIfInBounds_toArray, List.set_cons_zero, List.set_cons_succ]
  refine wpAnyH_take (i := 14) (oi := { dst := some 14, op := Go.Op.assign (Go.Operand.tmp 83), type := 38, pos := "law.go:72", after := #[{ on := 12, ground := Go.Ground.data }, { on := 13, ground := Go.Ground.chain }, { on := 0, ground := Go.Ground.phase }, { on := 1, ground := Go.Ground.phase }, { on := 2, ground := Go.Ground.phase }, { on := 3, ground := Go.Ground.phase }, { on := 4, ground := Go.Ground.phase }, { on := 5, ground := Go.Ground.phase }, { on := 6, ground := Go.Ground.phase }, { on := 7, ground := Go.Ground.phase }, { on := 8, ground := Go.Ground.phase }, { on := 9, ground := Go.Ground.phase }, { on := 10, ground := Go.Ground.phase }, { on := 11, ground := Go.Ground.phase }, { on := 12, ground := Go.Ground.phase }, { on := 13, ground := Go.Ground.phase }], guard := none }) (v := er) rfl (by kernel_rfl) (by kernel_rfl) (by kernel_rfl) (fun _ _ _ h => h) (Or.inl ⟨by kernel_rfl, fun w hC => by go_simp⟩) hS.out ?_
  simp only [Act.put, List.setIfInBounds_toArray, List.set_cons_zero, List.set_cons_succ]
  refine wpAnyH_done (by kernel_rfl) ?_ _
  obtain ⟨k0, k1, k2, k3, k4, k5, k6, k7, k8, k9, k10⟩ := HM.out.all
  rw [hopi] at k3
  obtain ⟨tE, hE⟩ : ∃ v, er = .iface 43 v := ⟨_, by rw [← HER.out]; exact erN_not (by have := H0.out; omega)⟩
  subst hE
  obtain ⟨m2, h2⟩ : ∃ m2, (⟨m.rp, m.ta, m.id, m.op, K.e, 0, 0, 0, 0, 0⟩ : Msg) = m2 := ⟨_, rfl⟩
  have hf := fun W (hM : MB W w.heap.size m (.slice so sn sc)) hW => wfail_any m (.slice so sn sc) (K.e) W hM (HEL.out) hW m2 h2
  rw [HER.out] at hf
  have HF := hide hf
  clear hf
  go_wp2_with fail
  refine (HF.out _ HM.out (HE.out.glob HG.out)).mono ?_; rintro e w6 ⟨co2, cc2, rfl, B6, b6⟩
  have HB6 := hide B6
  have HZ6 := hide (HZ.out.grow b6)
  have HE6 := hide (HE.out.to b6)
  have HM2 : Hid (m2 = rplF m (badF (s.tab K.t K.es s.T) (K.e))) := by show _ = _; rw [rpl_bad, ← h2]
  clear B6 b6 h2 k0 k1 k2 k3 k4 k5 k6 k7 k8 k9 k10
  have HZL := hide (HZ6.out.lay (m := m2) (D := .slice co2 0 cc2))
  have f7 := foot_lay11 w6 (w.heap.size + 1) m2 (.slice co2 0 cc2)
  have HE7 := hide (HE6.out.msg HW0.out HZ6.out (by omega) f7)
  have HB7 : Hid (Bts (lay11 w6 (w.heap.size + 1) m2 (.slice co2 0 cc2)) co2 0 cc2 []) := bts_none HB6.out
  obtain ⟨w7, hw7⟩ : ∃ w7, lay11 w6 (w.heap.size + 1) m2 (.slice co2 0 cc2) = w7 := ⟨_, rfl⟩
  rw [hw7] at HZL HE7 HB7
  unfold lay11 at hw7
  clear f7
  obtain ⟨v0, v1, v2, v3, v4, v5, v6, v7, v8, v9, v10⟩ := HZL.out.all
  obtain ⟨z0, z1, z2, z3, z4, z5, z6, z7, z8, z9, z10⟩ := HZ6.out.all
  have x0 := HZ6.out.z 0
  have x1 := HZ6.out.z 1
  have x2 := HZ6.out.z 2
  have x3 := HZ6.out.z 3
  have x4 := HZ6.out.z 4
  have x5 := HZ6.out.z 5
  have x6 := HZ6.out.z 6
  have x7 := HZ6.out.z 7
  have x8 := HZ6.out.z 8
  have x9 := HZ6.out.z 9
  have x10 := HZ6.out.z 10
  go_wp2
  refine bodyPost_ret (by simp [results, Tryz.results19, go_sem, v0, v1, v2, v3, v4, v5, v6, v7, v8, v9, v10]; rfl) rfl ?_
  exact ⟨m2, co2, 0, cc2, HM2.out, rfl, by rw [dat_bad]; exact HB7.out, .inl (dat_bad _ _ _), HE7.out⟩
end
end Go.Proofs.YtpbkjmkdciiccaaGreatDoor
namespace Go.Proofs.YtpbkjmkdciiccaaGreatDoor
section
open Go.RowKit
variable {w0 w w1 w2 w' : World} {A A' : Ad} {p : Nat} {ws : List Nat} {s s' s1 : Hs} {r g : Nat} {sb : Nat × Nat}
set_option maxRecDepth 20000 in
set_option maxHeartbeats 12800000 in
theorem want_mis100 (m : Msg) (so : Option Addr) (sn sc : Nat) (l : List UInt8) (w : World) (x : Sv w0 w A p ws s) (hb : Bts w so sn sc l) (q : Okm w0 w m so sn) (li : Lim s) (hg : Glob w0) (hop : m.op = 100) (K : Chk) (hK : chkF ws s.t s.es p s.T ⟨m.p, m.o, m.r, m.c⟩ 4 = K) (h0 : K.e = 0) (vl : Int) (hvl : (s.T K.k).v = vl) (hz : vl ≠ -1) :
    Calls Tryz.prog 19 #[.pointer (some ⟨A.g, 0, none⟩), .pointer (some ⟨A.sb.2, 0, none⟩), .agg #[.int .u64 m.ta, .int .u64 m.rp, .int .u32 m.id, .int .u16 m.op, .int .u16 m.st, .int .u64 m.p, .int .u32 m.o, .int .u8 m.r, .int .u64 m.c, .int .u64 m.ar, .slice so sn sc]] w fun e w' => RplEnd w0 w A p ws m (badF (s.tab K.t K.es s.T) 3) l e w' := by
  have hmf : ∀ (fn : Fn) (first cap : Array Value) (w : World), (Instr.makeFunc fn first cap).run Tryz.prog w = .ok (.func fn first cap) w := fun _ _ _ _ => rfl
  obtain ⟨X, hX, bm, bz, bX⟩ := rep_vars w m (.slice so sn sc)
  have HX := hide (x.grow bX)
  have HB := hide (hb.carry bX)
  have HM := hide bm
  have HZ := hide bz
  have HBX := hide bX
  have HW0 : Hid (w0.heap.size ≤ w.heap.size) := x.bel.size
  have HQ := hide q
  have HQX := hide (q.grow bX)
  have HLI := hide li
  have HG := hide hg
  have hopi : (m.op : Int) = 100 := by omega
  have HK := hide hK
  have H0 := hide h0
  have HEL : Hid (K.e ≤ 65535) := by show _ ≤ _; have := chk_err ws s.t s.es p s.T ⟨m.p, m.o, m.r, m.c⟩ 4; rw [hK] at this; omega
  obtain ⟨er, her⟩ : ∃ er, erN (K.e : Int) = er := ⟨_, rfl⟩
  have HER := hide her
  have HH : Hid (hasO s.T K.k = true) := by
    have e := chk_has (hK ▸ h0)
    show hasO s.T K.k = true
    rw [← hK, e.2.2]; exact e.1
  obtain ⟨k0, k1, k2, k3, k4, k5, k6, k7, k8, k9, k10⟩ := HM.out.all
  have hwk : IntKind.u16.wrap 0 = 0 := by rw [IntKind.wrap_u16]; rfl
  rw [hopi] at k3 hX
  have HK3 := hide k3
  clear bm bz bX x hb q li hg hop hK h0 her
  have HVL := hide hvl
  clear hvl
  have hz0 : (vl == -1) = false := by simpa using hz
  clear hz
  go_enter Tryz.func19, Tryz.ntmps19
  go_wp2_with fail
  have hS : Hid (X.drew.cell? ⟨w.heap.size, 3, none⟩ = some (.int .u16 100) ∧ X.drew.cell? ⟨w.heap.size, 5, none⟩ = some (.int .u64 (m.p : Int)) ∧ X.drew.cell? ⟨w.heap.size, 6, none⟩ = some (.int .u32 (m.o : Int)) ∧ X.drew.cell? ⟨w.heap.size, 7, none⟩ = some (.int .u8 (m.r : Int)) ∧ X.drew.cell? ⟨w.heap.size, 8, none⟩ = some (.int .u64 (m.c : Int))) := ⟨k3, HM.out.all.2.2.2.2.2.1, HM.out.all.2.2.2.2.2.2.1, HM.out.all.2.2.2.2.2.2.2.1, HM.out.all.2.2.2.2.2.2.2.2.1⟩
  refine wp_region_held_drew (S := fun U => U.cell? ⟨w.heap.size, 3, none⟩ = some (.int .u16 100) ∧ U.cell? ⟨w.heap.size, 5, none⟩ = some (.int .u64 (m.p : Int)) ∧ U.cell? ⟨w.heap.size, 6, none⟩ = some (.int .u32 (m.o : Int)) ∧ U.cell? ⟨w.heap.size, 7, none⟩ = some (.int .u8 (m.r : Int)) ∧ U.cell? ⟨w.heap.size, 8, none⟩ = some (.int .u64 (m.c : Int))) (by kernel_rfl) hS.out (fun _ => ?_)
  refine wpAnyH_take (i := 0) (oi := { dst := some 72, op := Go.Op.move (Go.Operand.tmp 0), type := 26, pos := "law.go:72", after := #[], guard := none }) (v := (.pointer (some ⟨A.g, 0, none⟩))) rfl (by kernel_rfl) (by kernel_rfl) (by kernel_rfl) (fun _ _ _ h => h) (Or.inl ⟨by kernel_rfl, fun w hC => by go_simp⟩) hS.out ?_
  simp only [Act.put, List.setIfInBounds_toArray, List.set_cons_zero, List.set_cons_succ]
  refine wpAnyH_take (i := 1) (oi := { dst := some 73, op := Go.Op.fieldAddr 53 (Go.Operand.tmp 5) 5, type := 0, pos := "law.go:72", after := #[], guard := none }) (v := (.pointer (some ⟨w.heap.size, 5, none⟩))) rfl (by kernel_rfl) (by kernel_rfl) (by kernel_rfl) (fun _ _ _ h => h) (Or.inl ⟨by kernel_rfl, fun w hC => by go_simp⟩) hS.out ?_
  simp only [Act.put, List.setIfInBounds_toArray, List.set_cons_zero, List.set_cons_succ]
  refine wpAnyH_take (i := 2) (oi := { dst := some 74, op := Go.Op.load 36 (Go.Operand.tmp 73), type := 36, pos := "law.go:72", after := #[{ on := 1, ground := Go.Ground.data }], guard := none }) (v := (.agg #[.int .u64 (m.p : Int), .int .u32 (m.o : Int), .int .u8 (m.r : Int), .int .u64 (m.c : Int)])) rfl (by kernel_rfl) (by kernel_rfl) (by kernel_rfl) (fun _ _ _ h => h) (Or.inl ⟨by kernel_rfl, fun w hC => by (obtain ⟨e3, e5, e6, e7, e8⟩ := hC; go_simp)⟩) hS.out ?_
  simp only [Act.put, List.setIfInBounds_toArray, List.set_cons_zero, List.set_cons_succ]
  refine wpAnyH_take (i := 4) (oi := { dst := some 76, op := Go.Op.fieldAddr 53 (Go.Operand.tmp 5) 3, type := 0, pos := "law.go:72", after := #[], guard := none }) (v := (.pointer (some ⟨w.heap.size, 3, none⟩))) rfl (by kernel_rfl) (by kernel_rfl) (by kernel_rfl) (fun _ _ _ h => h) (Or.inl ⟨by kernel_rfl, fun w hC => by go_simp⟩) hS.out ?_
  simp only [Act.put, List.setIfInBounds_toArray, List.set_cons_zero, List.set_cons_succ]
  refine wpAnyH_take (i := 5) (oi := { dst := some 77, op := Go.Op.load 49 (Go.Operand.tmp 76), type := 49, pos := "law.go:72", after := #[{ on := 4, ground := Go.Ground.data }], guard := none }) (v := (.int .u16 100)) rfl (by kernel_rfl) (by kernel_rfl) (by kernel_rfl) (fun _ _ _ h => h) (Or.inl ⟨by kernel_rfl, fun w hC => by (obtain ⟨e3, e5, e6, e7, e8⟩ := hC; go_simp)⟩) hS.out ?_
  simp only [Act.put, List.setIfInBounds_toArray, List.set_cons_zero, List.set_cons_succ]
  refine wpAnyH_take (i := 6) (oi := { dst := some 78, op := Go.Op.binOp Go.BinOp.sub 49 (Go.Operand.tmp 77) (Go.Operand.const (Go.Value.int Go.IntKind.u16 100)) 49, type := 49, pos := "law.go:72", after := #[{ on := 5, ground := Go.Ground.data }], guard := none }) (v := (.int .u16 0)) rfl (by kernel_rfl) (by kernel_rfl) (by kernel_rfl) (fun _ _ _ h => h) (Or.inl ⟨by kernel_rfl, fun w hC => by go_simp⟩) hS.out ?_
  simp only [Act.put, List.setIfInBounds_toArray, List.set_cons_zero, List.set_cons_succ]
  refine wpAnyH_ready (rs := [3]) (by kernel_rfl) (by simp) ?_
  refine AllReadyH.cons (o := { dst := some 75, op := Go.Op.buildSlice 23 5 #[(0, Go.Operand.const (Go.Value.int Go.IntKind.u8 4)), (1, Go.Operand.const (Go.Value.int Go.IntKind.u8 1)), (2, Go.Operand.const (Go.Value.int Go.IntKind.u8 2)), (3, Go.Operand.const (Go.Value.int Go.IntKind.u8 1)), (4, Go.Operand.const (Go.Value.int Go.IntKind.u8 2))], type := 23, pos := "law.go:72", after := #[], guard := none }) rfl (fun KK hKK => ?_) AllReadyH.nil
  go_simp
  obtain ⟨Y, hY⟩ : ∃ Y, (X.alloc (.cells #[.int .u8 4, .int .u8 1, .int .u8 2, .int .u8 1, .int .u8 2] 5)).drew = Y := ⟨_, rfl⟩
  have bY : Below X.heap.size X Y := hY ▸ (below_alloc X _).drew
  have cY : Y.cell? ⟨X.heap.size, 0, none⟩ = some (.int .u8 4) := by subst hY; show (X.alloc _).cell? _ = _; rw [cell_of_row _ _ _ _ _ _ (heap_alloc_new _ _)]; rfl
  try rw [hY]
  have HM := hide (HM.out.grow bY)
  have HZ := hide (HZ.out.grow bY)
  have HX := hide (HX.out.grow bY)
  have HB := hide (HB.out.carry bY)
  have HQX := hide (HQX.out.grow bY)
  have HBX := hide (below_one HBX.out bY)
  clear bY
  have hS : Hid (Y.cell? ⟨w.heap.size, 3, none⟩ = some (.int .u16 100) ∧ Y.cell? ⟨w.heap.size, 5, none⟩ = some (.int .u64 (m.p : Int)) ∧ Y.cell? ⟨w.heap.size, 6, none⟩ = some (.int .u32 (m.o : Int)) ∧ Y.cell? ⟨w.heap.size, 7, none⟩ = some (.int .u8 (m.r : Int)) ∧ Y.cell? ⟨w.heap.size, 8, none⟩ = some (.int .u64 (m.c : Int))) := ⟨by rw [HM.out.all.2.2.2.1, hopi], HM.out.all.2.2.2.2.2.1, HM.out.all.2.2.2.2.2.2.1, HM.out.all.2.2.2.2.2.2.2.1, HM.out.all.2.2.2.2.2.2.2.2.1⟩
  refine hKK.out _ _ hS.out (fun _ => ?_)
  clear hKK
  refine wpAnyH_take (i := 7) (oi := { dst := some 79, op := Go.Op.indexAddr 23 (Go.Operand.tmp 75) (Go.Operand.tmp 78), type := 0, pos := "law.go:72", after := #[{ on := 3, ground := Go.Ground.data }, { on := 6, ground := Go.Ground.data }], guard := none }) (v := (.pointer (some ⟨X.heap.size, 0, none⟩))) rfl (by kernel_rfl) (by kernel_rfl) (by kernel_rfl) (fun _ _ _ h => h) (Or.inl ⟨by kernel_rfl, fun w hC => by go_simp⟩) hS.out ?_
  simp only [Act.put, List.setIfInBounds_toArray, List.set_cons_zero, List.set_cons_succ]
  refine wpAnyH_ready (rs := [8]) (by kernel_rfl) (by simp) ?_
  refine AllReadyH.cons (o := { dst := some 80, op := Go.Op.load 5 (Go.Operand.tmp 79), type := 5, pos := "law.go:72", after := #[{ on := 7, ground := Go.Ground.data }], guard := none }) rfl (fun KK hKK => ?_) AllReadyH.nil
  go_simp
  have hS : Hid (Y.cell? ⟨w.heap.size, 3, none⟩ = some (.int .u16 100) ∧ Y.cell? ⟨w.heap.size, 5, none⟩ = some (.int .u64 (m.p : Int)) ∧ Y.cell? ⟨w.heap.size, 6, none⟩ = some (.int .u32 (m.o : Int)) ∧ Y.cell? ⟨w.heap.size, 7, none⟩ = some (.int .u8 (m.r : Int)) ∧ Y.cell? ⟨w.heap.size, 8, none⟩ = some (.int .u64 (m.c : Int))) := ⟨by rw [HM.out.all.2.2.2.1, hopi], HM.out.all.2.2.2.2.2.1, HM.out.all.2.2.2.2.2.2.1, HM.out.all.2.2.2.2.2.2.2.1, HM.out.all.2.2.2.2.2.2.2.2.1⟩
  refine hKK.out _ _ hS.out (fun _ => ?_)
  clear hKK
  refine wpAnyH_ready (rs := [9]) (by kernel_rfl) (by simp) ?_
  refine AllReadyH.cons (o := { dst := some 81, op := Go.Op.call { callee := Go.Callee.value (Go.Operand.func 33), args := #[Go.Operand.tmp 72, Go.Operand.tmp 74, Go.Operand.tmp 80], argTypes := #[26, 36, 5] }, type := 99, pos := "law.go:72", after := #[{ on := 0, ground := Go.Ground.data }, { on := 2, ground := Go.Ground.data }, { on := 8, ground := Go.Ground.data }], guard := none }) rfl (fun KK hKK => ?_) AllReadyH.nil
  go_simp
  refine (tb_check ⟨m.p, m.o, m.r, m.c⟩ 4 _ HX.out HQ.out.c (by omega) (by have := HLI.out.el; omega) K HK.out).mono ?_; rw [HER.out]; rintro e w2 ⟨rfl, E⟩
  have kh := HX.out.kh E
  have HM := hide (HM.out.kh kh)
  have HZ := hide (HZ.out.kh kh)
  have HB := hide (Bts.sv HB.out HQX.out.d HX.out E)
  have HQX : Hid (Okm w0 w2 m so sn) := ⟨HQX.out.c, HQX.out.o, HQX.out.a, HQX.out.n, HQX.out.d.kh kh⟩
  have HE := hide (E.from HBX.out)
  clear kh E
  have hS : Hid (w2.cell? ⟨w.heap.size, 3, none⟩ = some (.int .u16 100) ∧ w2.cell? ⟨w.heap.size, 5, none⟩ = some (.int .u64 (m.p : Int)) ∧ w2.cell? ⟨w.heap.size, 6, none⟩ = some (.int .u32 (m.o : Int)) ∧ w2.cell? ⟨w.heap.size, 7, none⟩ = some (.int .u8 (m.r : Int)) ∧ w2.cell? ⟨w.heap.size, 8, none⟩ = some (.int .u64 (m.c : Int))) := ⟨by rw [HM.out.all.2.2.2.1, hopi], HM.out.all.2.2.2.2.2.1, HM.out.all.2.2.2.2.2.2.1, HM.out.all.2.2.2.2.2.2.2.1, HM.out.all.2.2.2.2.2.2.2.2.1⟩
  refine hKK.out _ _ hS.out (fun _ => ?_)
  clear hKK
  refine wpAnyH_take (i := 10) (oi := { dst := some 71, op := Go.Op.move (Go.Operand.tmp 81), type := 99, pos := "law.go:72", after := #[{ on := 9, ground := Go.Ground.data }], guard := none }) (v := (.tuple #[.int .i64 (K.k : Int), er])) rfl (by kernel_rfl) (by kernel_rfl) (by kernel_rfl) (fun _ _ _ h => h) (Or.inl ⟨by kernel_rfl, fun w hC => by go_simp⟩) hS.out ?_
  simp only [Act.put, List.setIfInBounds_toArray, List.set_cons_zero, List.set_cons_succ]
  refine wpAnyH_take (i := 11) (oi := { dst := some 82, op := Go.Op.extract (Go.Operand.tmp 71) 0, type := 3, pos := "law.go:72", after := #[{ on := 10, ground := Go.Ground.data }], guard := none }) (v := (.int .i64 (K.k : Int))) rfl (by kernel_rfl) (by kernel_rfl) (by kernel_rfl) (fun _ _ _ h => h) (Or.inl ⟨by kernel_rfl, fun w hC => by go_simp⟩) hS.out ?_
  simp only [Act.put, List.setIfInBounds_toArray, List.set_cons_zero, List.set_cons_succ]
  refine wpAnyH_take (i := 12) (oi := { dst := some 83, op := Go.Op.extract (Go.Operand.tmp 71) 1, type := 38, pos := "law.go:72", after := #[{ on := 10, ground := Go.Ground.data }, { on := 13, ground := Go.Ground.gcOnly Go.Departure.lateStores }], guard := none }) (v := er) rfl (by kernel_rfl) (by kernel_rfl) (by kernel_rfl) (fun _ _ _ h => h) (Or.inl ⟨by kernel_rfl, fun w hC => by go_simp⟩) hS.out ?_
  simp only [Act.put, List.setIfInBounds_toArray, List.set_cons_zero, List.set_cons_succ]
  refine wpAnyH_take (i := 13) (oi := { dst := some 13, op := Go.Op.assign (Go.Operand.tmp 82), type := 3, pos := "law.go:72", after := #[{ on := 11, ground := Go.Ground.data }, { on := 9, ground := Go.Ground.chain }, { on := 0, ground := Go.Ground.phase }, { on := 1, ground := Go.Ground.phase }, { on := 2, ground := Go.Ground.phase }, { on := 3, ground := Go.Ground.phase }, { on := 4, ground := Go.Ground.phase }, { on := 5, ground := Go.Ground.phase }, { on := 6, ground := Go.Ground.phase }, { on := 7, ground := Go.Ground.phase }, { on := 8, ground := Go.Ground.phase }, { on := 9, ground := Go.Ground.phase }, { on := 10, ground := Go.Ground.phase }, { on := 11, ground := Go.Ground.phase }, { on := 12, ground := Go.Ground.textOnly Go.Departure.lateStores }], guard := none }) (v := (.int .i64 (K.k : Int))) rfl (by kernel_rfl) (by kernel_rfl) (by kernel_rfl) (fun _ _ _ h => h) (Or.inl ⟨by kernel_rfl, fun w hC => by go_simp⟩) hS.out ?_
  simp only [Act.put, List.setIfInBounds_toArray, List.set_cons_zero, List.set_cons_succ]
  refine wpAnyH_take (i := 14) (oi := { dst := some 14, op := Go.Op.assign (Go.Operand.tmp 83), type := 38, pos := "law.go:72", after := #[{ on := 12, ground := Go.Ground.data }, { on := 13, ground := Go.Ground.chain }, { on := 0, ground := Go.Ground.phase }, { on := 1, ground := Go.Ground.phase }, { on := 2, ground := Go.Ground.phase }, { on := 3, ground := Go.Ground.phase }, { on := 4, ground := Go.Ground.phase }, { on := 5, ground := Go.Ground.phase }, { on := 6, ground := Go.Ground.phase }, { on := 7, ground := Go.Ground.phase }, { on := 8, ground := Go.Ground.phase }, { on := 9, ground := Go.Ground.phase }, { on := 10, ground := Go.Ground.phase }, { on := 11, ground := Go.Ground.phase }, { on := 12, ground := Go.Ground.phase }, { on := 13, ground := Go.Ground.phase }], guard := none }) (v := er) rfl (by kernel_rfl) (by kernel_rfl) (by kernel_rfl) (fun _ _ _ h => h) (Or.inl ⟨by kernel_rfl, fun w hC => by go_simp⟩) hS.out ?_
  simp only [Act.put, List.setIfInBounds_toArray, List.set_cons_zero, List.set_cons_succ]
  refine wpAnyH_done (by kernel_rfl) ?_ _
  obtain rfl : er = .nilIface := by rw [← HER.out, H0.out]; rfl
  obtain ⟨v, dv, nv, S1, on1⟩ := SvEnd.run HE.out
  have HS1 := hide S1
  have HON := hide on1
  clear S1 on1
  obtain ⟨k0, k1, k2, k3, k4, k5, k6, k7, k8, k9, k10⟩ := HM.out.all
  rw [hopi] at k3
  go_wp2_with fail
  refine (tb_value (A := A.upd v dv nv) K.k vl _ HS1.out HH.out HVL.out).mono ?_; rintro e w3 ⟨rfl, hw3⟩; subst hw3
  obtain ⟨m2, h2⟩ : ∃ m2, (⟨m.rp, m.ta, m.id, m.op, 3, 0, 0, 0, 0, 0⟩ : Msg) = m2 := ⟨_, rfl⟩
  have hf := fun W (hM : MB W w.heap.size m (.slice so sn sc)) hW => wfail_any m (.slice so sn sc) (3) W hM (by omega) hW m2 h2
  rw [show erN (((3 : Nat)) : Int) = .iface 43 (.int .i64 3) from rfl] at hf
  have HF := hide hf
  clear hf
  go_wp2_with fail
  refine (HF.out _ HM.out (HE.out.glob HG.out)).mono ?_; rintro e w6 ⟨co2, cc2, rfl, B6, b6⟩
  have HB6 := hide B6
  have HZ6 := hide (HZ.out.grow b6)
  have HE6 := hide (HE.out.to b6)
  have HM2 : Hid (m2 = rplF m (badF (s.tab K.t K.es s.T) (3))) := by show _ = _; rw [rpl_bad, ← h2]
  clear B6 b6 h2 k0 k1 k2 k3 k4 k5 k6 k7 k8 k9 k10
  have HZL := hide (HZ6.out.lay (m := m2) (D := .slice co2 0 cc2))
  have f7 := foot_lay11 w6 (w.heap.size + 1) m2 (.slice co2 0 cc2)
  have HE7 := hide (HE6.out.msg HW0.out HZ6.out (by omega) f7)
  have HB7 : Hid (Bts (lay11 w6 (w.heap.size + 1) m2 (.slice co2 0 cc2)) co2 0 cc2 []) := bts_none HB6.out
  obtain ⟨w7, hw7⟩ : ∃ w7, lay11 w6 (w.heap.size + 1) m2 (.slice co2 0 cc2) = w7 := ⟨_, rfl⟩
  rw [hw7] at HZL HE7 HB7
  unfold lay11 at hw7
  clear f7
  obtain ⟨v0, v1, v2, v3, v4, v5, v6, v7, v8, v9, v10⟩ := HZL.out.all
  obtain ⟨z0, z1, z2, z3, z4, z5, z6, z7, z8, z9, z10⟩ := HZ6.out.all
  have x0 := HZ6.out.z 0
  have x1 := HZ6.out.z 1
  have x2 := HZ6.out.z 2
  have x3 := HZ6.out.z 3
  have x4 := HZ6.out.z 4
  have x5 := HZ6.out.z 5
  have x6 := HZ6.out.z 6
  have x7 := HZ6.out.z 7
  have x8 := HZ6.out.z 8
  have x9 := HZ6.out.z 9
  have x10 := HZ6.out.z 10
  go_wp2
  refine bodyPost_ret (by simp [results, Tryz.results19, go_sem, v0, v1, v2, v3, v4, v5, v6, v7, v8, v9, v10]; rfl) rfl ?_
  exact ⟨m2, co2, 0, cc2, HM2.out, rfl, by rw [dat_bad]; exact HB7.out, .inl (dat_bad _ _ _), HE7.out⟩
set_option maxRecDepth 20000 in
set_option maxHeartbeats 12800000 in
theorem want_mis101 (m : Msg) (so : Option Addr) (sn sc : Nat) (l : List UInt8) (w : World) (x : Sv w0 w A p ws s) (hb : Bts w so sn sc l) (q : Okm w0 w m so sn) (li : Lim s) (hg : Glob w0) (hop : m.op = 101) (K : Chk) (hK : chkF ws s.t s.es p s.T ⟨m.p, m.o, m.r, m.c⟩ 1 = K) (h0 : K.e = 0) (vl : Int) (hvl : (s.T K.k).v = vl) (hz : vl = -1) :
    Calls Tryz.prog 19 #[.pointer (some ⟨A.g, 0, none⟩), .pointer (some ⟨A.sb.2, 0, none⟩), .agg #[.int .u64 m.ta, .int .u64 m.rp, .int .u32 m.id, .int .u16 m.op, .int .u16 m.st, .int .u64 m.p, .int .u32 m.o, .int .u8 m.r, .int .u64 m.c, .int .u64 m.ar, .slice so sn sc]] w fun e w' => RplEnd w0 w A p ws m (badF (s.tab K.t K.es s.T) 3) l e w' := by
  have hmf : ∀ (fn : Fn) (first cap : Array Value) (w : World), (Instr.makeFunc fn first cap).run Tryz.prog w = .ok (.func fn first cap) w := fun _ _ _ _ => rfl
  obtain ⟨X, hX, bm, bz, bX⟩ := rep_vars w m (.slice so sn sc)
  have HX := hide (x.grow bX)
  have HB := hide (hb.carry bX)
  have HM := hide bm
  have HZ := hide bz
  have HBX := hide bX
  have HW0 : Hid (w0.heap.size ≤ w.heap.size) := x.bel.size
  have HQ := hide q
  have HQX := hide (q.grow bX)
  have HLI := hide li
  have HG := hide hg
  have hopi : (m.op : Int) = 101 := by omega
  have HK := hide hK
  have H0 := hide h0
  have HEL : Hid (K.e ≤ 65535) := by show _ ≤ _; have := chk_err ws s.t s.es p s.T ⟨m.p, m.o, m.r, m.c⟩ 1; rw [hK] at this; omega
  obtain ⟨er, her⟩ : ∃ er, erN (K.e : Int) = er := ⟨_, rfl⟩
  have HER := hide her
  have HH : Hid (hasO s.T K.k = true) := by
    have e := chk_has (hK ▸ h0)
    show hasO s.T K.k = true
    rw [← hK, e.2.2]; exact e.1
  obtain ⟨k0, k1, k2, k3, k4, k5, k6, k7, k8, k9, k10⟩ := HM.out.all
  have hwk : IntKind.u16.wrap 1 = 1 := by rw [IntKind.wrap_u16]; rfl
  rw [hopi] at k3 hX
  have HK3 := hide k3
  clear bm bz bX x hb q li hg hop hK h0 her
  have HVL := hide hvl
  clear hvl
  have hz0 : (vl == -1) = true := by rw [hz]; rfl
  clear hz
  go_enter Tryz.func19, Tryz.ntmps19
  go_wp2_with fail
  have hS : Hid (X.drew.cell? ⟨w.heap.size, 3, none⟩ = some (.int .u16 101) ∧ X.drew.cell? ⟨w.heap.size, 5, none⟩ = some (.int .u64 (m.p : Int)) ∧ X.drew.cell? ⟨w.heap.size, 6, none⟩ = some (.int .u32 (m.o : Int)) ∧ X.drew.cell? ⟨w.heap.size, 7, none⟩ = some (.int .u8 (m.r : Int)) ∧ X.drew.cell? ⟨w.heap.size, 8, none⟩ = some (.int .u64 (m.c : Int))) := ⟨k3, HM.out.all.2.2.2.2.2.1, HM.out.all.2.2.2.2.2.2.1, HM.out.all.2.2.2.2.2.2.2.1, HM.out.all.2.2.2.2.2.2.2.2.1⟩
  refine wp_region_held_drew (S := fun U => U.cell? ⟨w.heap.size, 3, none⟩ = some (.int .u16 101) ∧ U.cell? ⟨w.heap.size, 5, none⟩ = some (.int .u64 (m.p : Int)) ∧ U.cell? ⟨w.heap.size, 6, none⟩ = some (.int .u32 (m.o : Int)) ∧ U.cell? ⟨w.heap.size, 7, none⟩ = some (.int .u8 (m.r : Int)) ∧ U.cell? ⟨w.heap.size, 8, none⟩ = some (.int .u64 (m.c : Int))) (by kernel_rfl) hS.out (fun _ => ?_)
  refine wpAnyH_take (i := 0) (oi := { dst := some 72, op := Go.Op.move (Go.Operand.tmp 0), type := 26, pos := "law.go:72", after := #[], guard := none }) (v := (.pointer (some ⟨A.g, 0, none⟩))) rfl (by kernel_rfl) (by kernel_rfl) (by kernel_rfl) (fun _ _ _ h => h) (Or.inl ⟨by kernel_rfl, fun w hC => by go_simp⟩) hS.out ?_
  simp only [Act.put, List.setIfInBounds_toArray, List.set_cons_zero, List.set_cons_succ]
  refine wpAnyH_take (i := 1) (oi := { dst := some 73, op := Go.Op.fieldAddr 53 (Go.Operand.tmp 5) 5, type := 0, pos := "law.go:72", after := #[], guard := none }) (v := (.pointer (some ⟨w.heap.size, 5, none⟩))) rfl (by kernel_rfl) (by kernel_rfl) (by kernel_rfl) (fun _ _ _ h => h) (Or.inl ⟨by kernel_rfl, fun w hC => by go_simp⟩) hS.out ?_
  simp only [Act.put, List.setIfInBounds_toArray, List.set_cons_zero, List.set_cons_succ]
  refine wpAnyH_take (i := 2) (oi := { dst := some 74, op := Go.Op.load 36 (Go.Operand.tmp 73), type := 36, pos := "law.go:72", after := #[{ on := 1, ground := Go.Ground.data }], guard := none }) (v := (.agg #[.int .u64 (m.p : Int), .int .u32 (m.o : Int), .int .u8 (m.r : Int), .int .u64 (m.c : Int)])) rfl (by kernel_rfl) (by kernel_rfl) (by kernel_rfl) (fun _ _ _ h => h) (Or.inl ⟨by kernel_rfl, fun w hC => by (obtain ⟨e3, e5, e6, e7, e8⟩ := hC; go_simp)⟩) hS.out ?_
  simp only [Act.put, List.setIfInBounds_toArray, List.set_cons_zero, List.set_cons_succ]
  refine wpAnyH_take (i := 4) (oi := { dst := some 76, op := Go.Op.fieldAddr 53 (Go.Operand.tmp 5) 3, type := 0, pos := "law.go:72", after := #[], guard := none }) (v := (.pointer (some ⟨w.heap.size, 3, none⟩))) rfl (by kernel_rfl) (by kernel_rfl) (by kernel_rfl) (fun _ _ _ h => h) (Or.inl ⟨by kernel_rfl, fun w hC => by go_simp⟩) hS.out ?_
  simp only [Act.put, List.setIfInBounds_toArray, List.set_cons_zero, List.set_cons_succ]
  refine wpAnyH_take (i := 5) (oi := { dst := some 77, op := Go.Op.load 49 (Go.Operand.tmp 76), type := 49, pos := "law.go:72", after := #[{ on := 4, ground := Go.Ground.data }], guard := none }) (v := (.int .u16 101)) rfl (by kernel_rfl) (by kernel_rfl) (by kernel_rfl) (fun _ _ _ h => h) (Or.inl ⟨by kernel_rfl, fun w hC => by (obtain ⟨e3, e5, e6, e7, e8⟩ := hC; go_simp)⟩) hS.out ?_
  simp only [Act.put, List.setIfInBounds_toArray, List.set_cons_zero, List.set_cons_succ]
  refine wpAnyH_take (i := 6) (oi := { dst := some 78, op := Go.Op.binOp Go.BinOp.sub 49 (Go.Operand.tmp 77) (Go.Operand.const (Go.Value.int Go.IntKind.u16 100)) 49, type := 49, pos := "law.go:72", after := #[{ on := 5, ground := Go.Ground.data }], guard := none }) (v := (.int .u16 1)) rfl (by kernel_rfl) (by kernel_rfl) (by kernel_rfl) (fun _ _ _ h => h) (Or.inl ⟨by kernel_rfl, fun w hC => by go_simp⟩) hS.out ?_
  simp only [Act.put, List.setIfInBounds_toArray, List.set_cons_zero, List.set_cons_succ]
  refine wpAnyH_ready (rs := [3]) (by kernel_rfl) (by simp) ?_
  refine AllReadyH.cons (o := { dst := some 75, op := Go.Op.buildSlice 23 5 #[(0, Go.Operand.const (Go.Value.int Go.IntKind.u8 4)), (1, Go.Operand.const (Go.Value.int Go.IntKind.u8 1)), (2, Go.Operand.const (Go.Value.int Go.IntKind.u8 2)), (3, Go.Operand.const (Go.Value.int Go.IntKind.u8 1)), (4, Go.Operand.const (Go.Value.int Go.IntKind.u8 2))], type := 23, pos := "law.go:72", after := #[], guard := none }) rfl (fun KK hKK => ?_) AllReadyH.nil
  go_simp
  obtain ⟨Y, hY⟩ : ∃ Y, (X.alloc (.cells #[.int .u8 4, .int .u8 1, .int .u8 2, .int .u8 1, .int .u8 2] 5)).drew = Y := ⟨_, rfl⟩
  have bY : Below X.heap.size X Y := hY ▸ (below_alloc X _).drew
  have cY : Y.cell? ⟨X.heap.size, 1, none⟩ = some (.int .u8 1) := by subst hY; show (X.alloc _).cell? _ = _; rw [cell_of_row _ _ _ _ _ _ (heap_alloc_new _ _)]; rfl
  try rw [hY]
  have HM := hide (HM.out.grow bY)
  have HZ := hide (HZ.out.grow bY)
  have HX := hide (HX.out.grow bY)
  have HB := hide (HB.out.carry bY)
  have HQX := hide (HQX.out.grow bY)
  have HBX := hide (below_one HBX.out bY)
  clear bY
  have hS : Hid (Y.cell? ⟨w.heap.size, 3, none⟩ = some (.int .u16 101) ∧ Y.cell? ⟨w.heap.size, 5, none⟩ = some (.int .u64 (m.p : Int)) ∧ Y.cell? ⟨w.heap.size, 6, none⟩ = some (.int .u32 (m.o : Int)) ∧ Y.cell? ⟨w.heap.size, 7, none⟩ = some (.int .u8 (m.r : Int)) ∧ Y.cell? ⟨w.heap.size, 8, none⟩ = some (.int .u64 (m.c : Int))) := ⟨by rw [HM.out.all.2.2.2.1, hopi], HM.out.all.2.2.2.2.2.1, HM.out.all.2.2.2.2.2.2.1, HM.out.all.2.2.2.2.2.2.2.1, HM.out.all.2.2.2.2.2.2.2.2.1⟩
  refine hKK.out _ _ hS.out (fun _ => ?_)
  clear hKK
  refine wpAnyH_take (i := 7) (oi := { dst := some 79, op := Go.Op.indexAddr 23 (Go.Operand.tmp 75) (Go.Operand.tmp 78), type := 0, pos := "law.go:72", after := #[{ on := 3, ground := Go.Ground.data }, { on := 6, ground := Go.Ground.data }], guard := none }) (v := (.pointer (some ⟨X.heap.size, 1, none⟩))) rfl (by kernel_rfl) (by kernel_rfl) (by kernel_rfl) (fun _ _ _ h => h) (Or.inl ⟨by kernel_rfl, fun w hC => by go_simp⟩) hS.out ?_
  simp only [Act.put, List.setIfInBounds_toArray, List.set_cons_zero, List.set_cons_succ]
  refine wpAnyH_ready (rs := [8]) (by kernel_rfl) (by simp) ?_
  refine AllReadyH.cons (o := { dst := some 80, op := Go.Op.load 5 (Go.Operand.tmp 79), type := 5, pos := "law.go:72", after := #[{ on := 7, ground := Go.Ground.data }], guard := none }) rfl (fun KK hKK => ?_) AllReadyH.nil
  go_simp
  have hS : Hid (Y.cell? ⟨w.heap.size, 3, none⟩ = some (.int .u16 101) ∧ Y.cell? ⟨w.heap.size, 5, none⟩ = some (.int .u64 (m.p : Int)) ∧ Y.cell? ⟨w.heap.size, 6, none⟩ = some (.int .u32 (m.o : Int)) ∧ Y.cell? ⟨w.heap.size, 7, none⟩ = some (.int .u8 (m.r : Int)) ∧ Y.cell? ⟨w.heap.size, 8, none⟩ = some (.int .u64 (m.c : Int))) := ⟨by rw [HM.out.all.2.2.2.1, hopi], HM.out.all.2.2.2.2.2.1, HM.out.all.2.2.2.2.2.2.1, HM.out.all.2.2.2.2.2.2.2.1, HM.out.all.2.2.2.2.2.2.2.2.1⟩
  refine hKK.out _ _ hS.out (fun _ => ?_)
  clear hKK
  refine wpAnyH_ready (rs := [9]) (by kernel_rfl) (by simp) ?_
  refine AllReadyH.cons (o := { dst := some 81, op := Go.Op.call { callee := Go.Callee.value (Go.Operand.func 33), args := #[Go.Operand.tmp 72, Go.Operand.tmp 74, Go.Operand.tmp 80], argTypes := #[26, 36, 5] }, type := 99, pos := "law.go:72", after := #[{ on := 0, ground := Go.Ground.data }, { on := 2, ground := Go.Ground.data }, { on := 8, ground := Go.Ground.data }], guard := none }) rfl (fun KK hKK => ?_) AllReadyH.nil
  go_simp
  refine (tb_check ⟨m.p, m.o, m.r, m.c⟩ 1 _ HX.out HQ.out.c (by omega) (by have := HLI.out.el; omega) K HK.out).mono ?_; rw [HER.out]; rintro e w2 ⟨rfl, E⟩
  have kh := HX.out.kh E
  have HM := hide (HM.out.kh kh)
  have HZ := hide (HZ.out.kh kh)
  have HB := hide (Bts.sv HB.out HQX.out.d HX.out E)
  have HQX : Hid (Okm w0 w2 m so sn) := ⟨HQX.out.c, HQX.out.o, HQX.out.a, HQX.out.n, HQX.out.d.kh kh⟩
  have HE := hide (E.from HBX.out)
  clear kh E
  have hS : Hid (w2.cell? ⟨w.heap.size, 3, none⟩ = some (.int .u16 101) ∧ w2.cell? ⟨w.heap.size, 5, none⟩ = some (.int .u64 (m.p : Int)) ∧ w2.cell? ⟨w.heap.size, 6, none⟩ = some (.int .u32 (m.o : Int)) ∧ w2.cell? ⟨w.heap.size, 7, none⟩ = some (.int .u8 (m.r : Int)) ∧ w2.cell? ⟨w.heap.size, 8, none⟩ = some (.int .u64 (m.c : Int))) := ⟨by rw [HM.out.all.2.2.2.1, hopi], HM.out.all.2.2.2.2.2.1, HM.out.all.2.2.2.2.2.2.1, HM.out.all.2.2.2.2.2.2.2.1, HM.out.all.2.2.2.2.2.2.2.2.1⟩
  refine hKK.out _ _ hS.out (fun _ => ?_)
  clear hKK
  refine wpAnyH_take (i := 10) (oi := { dst := some 71, op := Go.Op.move (Go.Operand.tmp 81), type := 99, pos := "law.go:72", after := #[{ on := 9, ground := Go.Ground.data }], guard := none }) (v := (.tuple #[.int .i64 (K.k : Int), er])) rfl (by kernel_rfl) (by kernel_rfl) (by kernel_rfl) (fun _ _ _ h => h) (Or.inl ⟨by kernel_rfl, fun w hC => by go_simp⟩) hS.out ?_
  simp only [Act.put, List.setIfInBounds_toArray, List.set_cons_zero, List.set_cons_succ]
  refine wpAnyH_take (i := 11) (oi := { dst := some 82, op := Go.Op.extract (Go.Operand.tmp 71) 0, type := 3, pos := "law.go:72", after := #[{ on := 10, ground := Go.Ground.data }], guard := none }) (v := (.int .i64 (K.k : Int))) rfl (by kernel_rfl) (by kernel_rfl) (by kernel_rfl) (fun _ _ _ h => h) (Or.inl ⟨by kernel_rfl, fun w hC => by go_simp⟩) hS.out ?_
  simp only [Act.put, List.setIfInBounds_toArray, List.set_cons_zero, List.set_cons_succ]
  refine wpAnyH_take (i := 12) (oi := { dst := some 83, op := Go.Op.extract (Go.Operand.tmp 71) 1, type := 38, pos := "law.go:72", after := #[{ on := 10, ground := Go.Ground.data }, { on := 13, ground := Go.Ground.gcOnly Go.Departure.lateStores }], guard := none }) (v := er) rfl (by kernel_rfl) (by kernel_rfl) (by kernel_rfl) (fun _ _ _ h => h) (Or.inl ⟨by kernel_rfl, fun w hC => by go_simp⟩) hS.out ?_
  simp only [Act.put, List.setIfInBounds_toArray, List.set_cons_zero, List.set_cons_succ]
  refine wpAnyH_take (i := 13) (oi := { dst := some 13, op := Go.Op.assign (Go.Operand.tmp 82), type := 3, pos := "law.go:72", after := #[{ on := 11, ground := Go.Ground.data }, { on := 9, ground := Go.Ground.chain }, { on := 0, ground := Go.Ground.phase }, { on := 1, ground := Go.Ground.phase }, { on := 2, ground := Go.Ground.phase }, { on := 3, ground := Go.Ground.phase }, { on := 4, ground := Go.Ground.phase }, { on := 5, ground := Go.Ground.phase }, { on := 6, ground := Go.Ground.phase }, { on := 7, ground := Go.Ground.phase }, { on := 8, ground := Go.Ground.phase }, { on := 9, ground := Go.Ground.phase }, { on := 10, ground := Go.Ground.phase }, { on := 11, ground := Go.Ground.phase }, { on := 12, ground := Go.Ground.textOnly Go.Departure.lateStores }], guard := none }) (v := (.int .i64 (K.k : Int))) rfl (by kernel_rfl) (by kernel_rfl) (by kernel_rfl) (fun _ _ _ h => h) (Or.inl ⟨by kernel_rfl, fun w hC => by go_simp⟩) hS.out ?_
  simp only [Act.put, List.setIfInBounds_toArray, List.set_cons_zero, List.set_cons_succ]
  refine wpAnyH_take (i := 14) (oi := { dst := some 14, op := Go.Op.assign (Go.Operand.tmp 83), type := 38, pos := "law.go:72", after := #[{ on := 12, ground := Go.Ground.data }, { on := 13, ground := Go.Ground.chain }, { on := 0, ground := Go.Ground.phase }, { on := 1, ground := Go.Ground.phase }, { on := 2, ground := Go.Ground.phase }, { on := 3, ground := Go.Ground.phase }, { on := 4, ground := Go.Ground.phase }, { on := 5, ground := Go.Ground.phase }, { on := 6, ground := Go.Ground.phase }, { on := 7, ground := Go.Ground.phase }, { on := 8, ground := Go.Ground.phase }, { on := 9, ground := Go.Ground.phase }, { on := 10, ground := Go.Ground.phase }, { on := 11, ground := Go.Ground.phase }, { on := 12, ground := Go.Ground.phase }, { on := 13, ground := Go.Ground.phase }], guard := none }) (v := er) rfl (by kernel_rfl) (by kernel_rfl) (by kernel_rfl) (fun _ _ _ h => h) (Or.inl ⟨by kernel_rfl, fun w hC => by go_simp⟩) hS.out ?_
  simp only [Act.put, List.setIfInBounds_toArray, List.set_cons_zero, List.set_cons_succ]
  refine wpAnyH_done (by kernel_rfl) ?_ _
  obtain rfl : er = .nilIface := by rw [← HER.out, H0.out]; rfl
  obtain ⟨v, dv, nv, S1, on1⟩ := SvEnd.run HE.out
  have HS1 := hide S1
  have HON := hide on1
  clear S1 on1
  obtain ⟨k0, k1, k2, k3, k4, k5, k6, k7, k8, k9, k10⟩ := HM.out.all
  rw [hopi] at k3
  go_wp2_with fail
  refine (tb_value (A := A.upd v dv nv) K.k vl _ HS1.out HH.out HVL.out).mono ?_; rintro e w3 ⟨rfl, hw3⟩; subst hw3
  obtain ⟨m2, h2⟩ : ∃ m2, (⟨m.rp, m.ta, m.id, m.op, 3, 0, 0, 0, 0, 0⟩ : Msg) = m2 := ⟨_, rfl⟩
  have hf := fun W (hM : MB W w.heap.size m (.slice so sn sc)) hW => wfail_any m (.slice so sn sc) (3) W hM (by omega) hW m2 h2
  rw [show erN (((3 : Nat)) : Int) = .iface 43 (.int .i64 3) from rfl] at hf
  have HF := hide hf
  clear hf
  go_wp2_with fail
  refine (HF.out _ HM.out (HE.out.glob HG.out)).mono ?_; rintro e w6 ⟨co2, cc2, rfl, B6, b6⟩
  have HB6 := hide B6
  have HZ6 := hide (HZ.out.grow b6)
  have HE6 := hide (HE.out.to b6)
  have HM2 : Hid (m2 = rplF m (badF (s.tab K.t K.es s.T) (3))) := by show _ = _; rw [rpl_bad, ← h2]
  clear B6 b6 h2 k0 k1 k2 k3 k4 k5 k6 k7 k8 k9 k10
  have HZL := hide (HZ6.out.lay (m := m2) (D := .slice co2 0 cc2))
  have f7 := foot_lay11 w6 (w.heap.size + 1) m2 (.slice co2 0 cc2)
  have HE7 := hide (HE6.out.msg HW0.out HZ6.out (by omega) f7)
  have HB7 : Hid (Bts (lay11 w6 (w.heap.size + 1) m2 (.slice co2 0 cc2)) co2 0 cc2 []) := bts_none HB6.out
  obtain ⟨w7, hw7⟩ : ∃ w7, lay11 w6 (w.heap.size + 1) m2 (.slice co2 0 cc2) = w7 := ⟨_, rfl⟩
  rw [hw7] at HZL HE7 HB7
  unfold lay11 at hw7
  clear f7
  obtain ⟨v0, v1, v2, v3, v4, v5, v6, v7, v8, v9, v10⟩ := HZL.out.all
  obtain ⟨z0, z1, z2, z3, z4, z5, z6, z7, z8, z9, z10⟩ := HZ6.out.all
  have x0 := HZ6.out.z 0
  have x1 := HZ6.out.z 1
  have x2 := HZ6.out.z 2
  have x3 := HZ6.out.z 3
  have x4 := HZ6.out.z 4
  have x5 := HZ6.out.z 5
  have x6 := HZ6.out.z 6
  have x7 := HZ6.out.z 7
  have x8 := HZ6.out.z 8
  have x9 := HZ6.out.z 9
  have x10 := HZ6.out.z 10
  go_wp2
  refine bodyPost_ret (by simp [results, Tryz.results19, go_sem, v0, v1, v2, v3, v4, v5, v6, v7, v8, v9, v10]; rfl) rfl ?_
  exact ⟨m2, co2, 0, cc2, HM2.out, rfl, by rw [dat_bad]; exact HB7.out, .inl (dat_bad _ _ _), HE7.out⟩
set_option maxRecDepth 20000 in
set_option maxHeartbeats 12800000 in
theorem want_mis102 (m : Msg) (so : Option Addr) (sn sc : Nat) (l : List UInt8) (w : World) (x : Sv w0 w A p ws s) (hb : Bts w so sn sc l) (q : Okm w0 w m so sn) (li : Lim s) (hg : Glob w0) (hop : m.op = 102) (K : Chk) (hK : chkF ws s.t s.es p s.T ⟨m.p, m.o, m.r, m.c⟩ 2 = K) (h0 : K.e = 0) (vl : Int) (hvl : (s.T K.k).v = vl) (hz : vl = -1) :
    Calls Tryz.prog 19 #[.pointer (some ⟨A.g, 0, none⟩), .pointer (some ⟨A.sb.2, 0, none⟩), .agg #[.int .u64 m.ta, .int .u64 m.rp, .int .u32 m.id, .int .u16 m.op, .int .u16 m.st, .int .u64 m.p, .int .u32 m.o, .int .u8 m.r, .int .u64 m.c, .int .u64 m.ar, .slice so sn sc]] w fun e w' => RplEnd w0 w A p ws m (badF (s.tab K.t K.es s.T) 3) l e w' := by
  have hmf : ∀ (fn : Fn) (first cap : Array Value) (w : World), (Instr.makeFunc fn first cap).run Tryz.prog w = .ok (.func fn first cap) w := fun _ _ _ _ => rfl
  obtain ⟨X, hX, bm, bz, bX⟩ := rep_vars w m (.slice so sn sc)
  have HX := hide (x.grow bX)
  have HB := hide (hb.carry bX)
  have HM := hide bm
  have HZ := hide bz
  have HBX := hide bX
  have HW0 : Hid (w0.heap.size ≤ w.heap.size) := x.bel.size
  have HQ := hide q
  have HQX := hide (q.grow bX)
  have HLI := hide li
  have HG := hide hg
  have hopi : (m.op : Int) = 102 := by omega
  have HK := hide hK
  have H0 := hide h0
  have HEL : Hid (K.e ≤ 65535) := by show _ ≤ _; have := chk_err ws s.t s.es p s.T ⟨m.p, m.o, m.r, m.c⟩ 2; rw [hK] at this; omega
  obtain ⟨er, her⟩ : ∃ er, erN (K.e : Int) = er := ⟨_, rfl⟩
  have HER := hide her
  have HH : Hid (hasO s.T K.k = true) := by
    have e := chk_has (hK ▸ h0)
    show hasO s.T K.k = true
    rw [← hK, e.2.2]; exact e.1
  obtain ⟨k0, k1, k2, k3, k4, k5, k6, k7, k8, k9, k10⟩ := HM.out.all
  have hwk : IntKind.u16.wrap 2 = 2 := by rw [IntKind.wrap_u16]; rfl
  rw [hopi] at k3 hX
  have HK3 := hide k3
  clear bm bz bX x hb q li hg hop hK h0 her
  have HVL := hide hvl
  clear hvl
  have hz0 : (vl == -1) = true := by rw [hz]; rfl
  clear hz
  go_enter Tryz.func19, Tryz.ntmps19
  go_wp2_with fail
  have hS : Hid (X.drew.cell? ⟨w.heap.size, 3, none⟩ = some (.int .u16 102) ∧ X.drew.cell? ⟨w.heap.size, 5, none⟩ = some (.int .u64 (m.p : Int)) ∧ X.drew.cell? ⟨w.heap.size, 6, none⟩ = some (.int .u32 (m.o : Int)) ∧ X.drew.cell? ⟨w.heap.size, 7, none⟩ = some (.int .u8 (m.r : Int)) ∧ X.drew.cell? ⟨w.heap.size, 8, none⟩ = some (.int .u64 (m.c : Int))) := ⟨k3, HM.out.all.2.2.2.2.2.1, HM.out.all.2.2.2.2.2.2.1, HM.out.all.2.2.2.2.2.2.2.1, HM.out.all.2.2.2.2.2.2.2.2.1⟩
  refine wp_region_held_drew (S := fun U => U.cell? ⟨w.heap.size, 3, none⟩ = some (.int .u16 102) ∧ U.cell? ⟨w.heap.size, 5, none⟩ = some (.int .u64 (m.p : Int)) ∧ U.cell? ⟨w.heap.size, 6, none⟩ = some (.int .u32 (m.o : Int)) ∧ U.cell? ⟨w.heap.size, 7, none⟩ = some (.int .u8 (m.r : Int)) ∧ U.cell? ⟨w.heap.size, 8, none⟩ = some (.int .u64 (m.c : Int))) (by kernel_rfl) hS.out (fun _ => ?_)
  refine wpAnyH_take (i := 0) (oi := { dst := some 72, op := Go.Op.move (Go.Operand.tmp 0), type := 26, pos := "law.go:72", after := #[], guard := none }) (v := (.pointer (some ⟨A.g, 0, none⟩))) rfl (by kernel_rfl) (by kernel_rfl) (by kernel_rfl) (fun _ _ _ h => h) (Or.inl ⟨by kernel_rfl, fun w hC => by go_simp⟩) hS.out ?_
  simp only [Act.put, List.setIfInBounds_toArray, List.set_cons_zero, List.set_cons_succ]
  refine wpAnyH_take (i := 1) (oi := { dst := some 73, op := Go.Op.fieldAddr 53 (Go.Operand.tmp 5) 5, type := 0, pos := "law.go:72", after := #[], guard := none }) (v := (.pointer (some ⟨w.heap.size, 5, none⟩))) rfl (by kernel_rfl) (by kernel_rfl) (by kernel_rfl) (fun _ _ _ h => h) (Or.inl ⟨by kernel_rfl, fun w hC => by go_simp⟩) hS.out ?_
  simp only [Act.put, List.setIfInBounds_toArray, List.set_cons_zero, List.set_cons_succ]
  refine wpAnyH_take (i := 2) (oi := { dst := some 74, op := Go.Op.load 36 (Go.Operand.tmp 73), type := 36, pos := "law.go:72", after := #[{ on := 1, ground := Go.Ground.data }], guard := none }) (v := (.agg #[.int .u64 (m.p : Int), .int .u32 (m.o : Int), .int .u8 (m.r : Int), .int .u64 (m.c : Int)])) rfl (by kernel_rfl) (by kernel_rfl) (by kernel_rfl) (fun _ _ _ h => h) (Or.inl ⟨by kernel_rfl, fun w hC => by (obtain ⟨e3, e5, e6, e7, e8⟩ := hC; go_simp)⟩) hS.out ?_
  simp only [Act.put, List.setIfInBounds_toArray, List.set_cons_zero, List.set_cons_succ]
  refine wpAnyH_take (i := 4) (oi := { dst := some 76, op := Go.Op.fieldAddr 53 (Go.Operand.tmp 5) 3, type := 0, pos := "law.go:72", after := #[], guard := none }) (v := (.pointer (some ⟨w.heap.size, 3, none⟩))) rfl (by kernel_rfl) (by kernel_rfl) (by kernel_rfl) (fun _ _ _ h => h) (Or.inl ⟨by kernel_rfl, fun w hC => by go_simp⟩) hS.out ?_
  simp only [Act.put, List.setIfInBounds_toArray, List.set_cons_zero, List.set_cons_succ]
  refine wpAnyH_take (i := 5) (oi := { dst := some 77, op := Go.Op.load 49 (Go.Operand.tmp 76), type := 49, pos := "law.go:72", after := #[{ on := 4, ground := Go.Ground.data }], guard := none }) (v := (.int .u16 102)) rfl (by kernel_rfl) (by kernel_rfl) (by kernel_rfl) (fun _ _ _ h => h) (Or.inl ⟨by kernel_rfl, fun w hC => by (obtain ⟨e3, e5, e6, e7, e8⟩ := hC; go_simp)⟩) hS.out ?_
  simp only [Act.put, List.setIfInBounds_toArray, List.set_cons_zero, List.set_cons_succ]
  refine wpAnyH_take (i := 6) (oi := { dst := some 78, op := Go.Op.binOp Go.BinOp.sub 49 (Go.Operand.tmp 77) (Go.Operand.const (Go.Value.int Go.IntKind.u16 100)) 49, type := 49, pos := "law.go:72", after := #[{ on := 5, ground := Go.Ground.data }], guard := none }) (v := (.int .u16 2)) rfl (by kernel_rfl) (by kernel_rfl) (by kernel_rfl) (fun _ _ _ h => h) (Or.inl ⟨by kernel_rfl, fun w hC => by go_simp⟩) hS.out ?_
  simp only [Act.put, List.setIfInBounds_toArray, List.set_cons_zero, List.set_cons_succ]
  refine wpAnyH_ready (rs := [3]) (by kernel_rfl) (by simp) ?_
  refine AllReadyH.cons (o := { dst := some 75, op := Go.Op.buildSlice 23 5 #[(0, Go.Operand.const (Go.Value.int Go.IntKind.u8 4)), (1, Go.Operand.const (Go.Value.int Go.IntKind.u8 1)), (2, Go.Operand.const (Go.Value.int Go.IntKind.u8 2)), (3, Go.Operand.const (Go.Value.int Go.IntKind.u8 1)), (4, Go.Operand.const (Go.Value.int Go.IntKind.u8 2))], type := 23, pos := "law.go:72", after := #[], guard := none }) rfl (fun KK hKK => ?_) AllReadyH.nil
  go_simp
  obtain ⟨Y, hY⟩ : ∃ Y, (X.alloc (.cells #[.int .u8 4, .int .u8 1, .int .u8 2, .int .u8 1, .int .u8 2] 5)).drew = Y := ⟨_, rfl⟩
  have bY : Below X.heap.size X Y := hY ▸ (below_alloc X _).drew
  have cY : Y.cell? ⟨X.heap.size, 2, none⟩ = some (.int .u8 2) := by subst hY; show (X.alloc _).cell? _ = _; rw [cell_of_row _ _ _ _ _ _ (heap_alloc_new _ _)]; rfl
  try rw [hY]
  have HM := hide (HM.out.grow bY)
  have HZ := hide (HZ.out.grow bY)
  have HX := hide (HX.out.grow bY)
  have HB := hide (HB.out.carry bY)
  have HQX := hide (HQX.out.grow bY)
  have HBX := hide (below_one HBX.out bY)
  clear bY
  have hS : Hid (Y.cell? ⟨w.heap.size, 3, none⟩ = some (.int .u16 102) ∧ Y.cell? ⟨w.heap.size, 5, none⟩ = some (.int .u64 (m.p : Int)) ∧ Y.cell? ⟨w.heap.size, 6, none⟩ = some (.int .u32 (m.o : Int)) ∧ Y.cell? ⟨w.heap.size, 7, none⟩ = some (.int .u8 (m.r : Int)) ∧ Y.cell? ⟨w.heap.size, 8, none⟩ = some (.int .u64 (m.c : Int))) := ⟨by rw [HM.out.all.2.2.2.1, hopi], HM.out.all.2.2.2.2.2.1, HM.out.all.2.2.2.2.2.2.1, HM.out.all.2.2.2.2.2.2.2.1, HM.out.all.2.2.2.2.2.2.2.2.1⟩
  refine hKK.out _ _ hS.out (fun _ => ?_)
  clear hKK
  refine wpAnyH_take (i := 7) (oi := { dst := some 79, op := Go.Op.indexAddr 23 (Go.Operand.tmp 75) (Go.Operand.tmp 78), type := 0, pos := "law.go:72", after := #[{ on := 3, ground := Go.Ground.data }, { on := 6, ground := Go.Ground.data }], guard := none }) (v := (.pointer (some ⟨X.heap.size, 2, none⟩))) rfl (by kernel_rfl) (by kernel_rfl) (by kernel_rfl) (fun _ _ _ h => h) (Or.inl ⟨by kernel_rfl, fun w hC => by go_simp⟩) hS.out ?_
  simp only [Act.put, List.setIfInBounds_toArray, List.set_cons_zero, List.set_cons_succ]
  refine wpAnyH_ready (rs := [8]) (by kernel_rfl) (by simp) ?_
  refine AllReadyH.cons (o := { dst := some 80, op := Go.Op.load 5 (Go.Operand.tmp 79), type := 5, pos := "law.go:72", after := #[{ on := 7, ground := Go.Ground.data }], guard := none }) rfl (fun KK hKK => ?_) AllReadyH.nil
  go_simp
  have hS : Hid (Y.cell? ⟨w.heap.size, 3, none⟩ = some (.int .u16 102) ∧ Y.cell? ⟨w.heap.size, 5, none⟩ = some (.int .u64 (m.p : Int)) ∧ Y.cell? ⟨w.heap.size, 6, none⟩ = some (.int .u32 (m.o : Int)) ∧ Y.cell? ⟨w.heap.size, 7, none⟩ = some (.int .u8 (m.r : Int)) ∧ Y.cell? ⟨w.heap.size, 8, none⟩ = some (.int .u64 (m.c : Int))) := ⟨by rw [HM.out.all.2.2.2.1, hopi], HM.out.all.2.2.2.2.2.1, HM.out.all.2.2.2.2.2.2.1, HM.out.all.2.2.2.2.2.2.2.1, HM.out.all.2.2.2.2.2.2.2.2.1⟩
  refine hKK.out _ _ hS.out (fun _ => ?_)
  clear hKK
  refine wpAnyH_ready (rs := [9]) (by kernel_rfl) (by simp) ?_
  refine AllReadyH.cons (o := { dst := some 81, op := Go.Op.call { callee := Go.Callee.value (Go.Operand.func 33), args := #[Go.Operand.tmp 72, Go.Operand.tmp 74, Go.Operand.tmp 80], argTypes := #[26, 36, 5] }, type := 99, pos := "law.go:72", after := #[{ on := 0, ground := Go.Ground.data }, { on := 2, ground := Go.Ground.data }, { on := 8, ground := Go.Ground.data }], guard := none }) rfl (fun KK hKK => ?_) AllReadyH.nil
  go_simp
  refine (tb_check ⟨m.p, m.o, m.r, m.c⟩ 2 _ HX.out HQ.out.c (by omega) (by have := HLI.out.el; omega) K HK.out).mono ?_; rw [HER.out]; rintro e w2 ⟨rfl, E⟩
  have kh := HX.out.kh E
  have HM := hide (HM.out.kh kh)
  have HZ := hide (HZ.out.kh kh)
  have HB := hide (Bts.sv HB.out HQX.out.d HX.out E)
  have HQX : Hid (Okm w0 w2 m so sn) := ⟨HQX.out.c, HQX.out.o, HQX.out.a, HQX.out.n, HQX.out.d.kh kh⟩
  have HE := hide (E.from HBX.out)
  clear kh E
  have hS : Hid (w2.cell? ⟨w.heap.size, 3, none⟩ = some (.int .u16 102) ∧ w2.cell? ⟨w.heap.size, 5, none⟩ = some (.int .u64 (m.p : Int)) ∧ w2.cell? ⟨w.heap.size, 6, none⟩ = some (.int .u32 (m.o : Int)) ∧ w2.cell? ⟨w.heap.size, 7, none⟩ = some (.int .u8 (m.r : Int)) ∧ w2.cell? ⟨w.heap.size, 8, none⟩ = some (.int .u64 (m.c : Int))) := ⟨by rw [HM.out.all.2.2.2.1, hopi], HM.out.all.2.2.2.2.2.1, HM.out.all.2.2.2.2.2.2.1, HM.out.all.2.2.2.2.2.2.2.1, HM.out.all.2.2.2.2.2.2.2.2.1⟩
  refine hKK.out _ _ hS.out (fun _ => ?_)
  clear hKK
  refine wpAnyH_take (i := 10) (oi := { dst := some 71, op := Go.Op.move (Go.Operand.tmp 81), type := 99, pos := "law.go:72", after := #[{ on := 9, ground := Go.Ground.data }], guard := none }) (v := (.tuple #[.int .i64 (K.k : Int), er])) rfl (by kernel_rfl) (by kernel_rfl) (by kernel_rfl) (fun _ _ _ h => h) (Or.inl ⟨by kernel_rfl, fun w hC => by go_simp⟩) hS.out ?_
  simp only [Act.put, List.setIfInBounds_toArray, List.set_cons_zero, List.set_cons_succ]
  refine wpAnyH_take (i := 11) (oi := { dst := some 82, op := Go.Op.extract (Go.Operand.tmp 71) 0, type := 3, pos := "law.go:72", after := #[{ on := 10, ground := Go.Ground.data }], guard := none }) (v := (.int .i64 (K.k : Int))) rfl (by kernel_rfl) (by kernel_rfl) (by kernel_rfl) (fun _ _ _ h => h) (Or.inl ⟨by kernel_rfl, fun w hC => by go_simp⟩) hS.out ?_
  simp only [Act.put, List.setIfInBounds_toArray, List.set_cons_zero, List.set_cons_succ]
  refine wpAnyH_take (i := 12) (oi := { dst := some 83, op := Go.Op.extract (Go.Operand.tmp 71) 1, type := 38, pos := "law.go:72", after := #[{ on := 10, ground := Go.Ground.data }, { on := 13, ground := Go.Ground.gcOnly Go.Departure.lateStores }], guard := none }) (v := er) rfl (by kernel_rfl) (by kernel_rfl) (by kernel_rfl) (fun _ _ _ h => h) (Or.inl ⟨by kernel_rfl, fun w hC => by go_simp⟩) hS.out ?_
  simp only [Act.put, List.setIfInBounds_toArray, List.set_cons_zero, List.set_cons_succ]
  refine wpAnyH_take (i := 13) (oi := { dst := some 13, op := Go.Op.assign (Go.Operand.tmp 82), type := 3, pos := "law.go:72", after := #[{ on := 11, ground := Go.Ground.data }, { on := 9, ground := Go.Ground.chain }, { on := 0, ground := Go.Ground.phase }, { on := 1, ground := Go.Ground.phase }, { on := 2, ground := Go.Ground.phase }, { on := 3, ground := Go.Ground.phase }, { on := 4, ground := Go.Ground.phase }, { on := 5, ground := Go.Ground.phase }, { on := 6, ground := Go.Ground.phase }, { on := 7, ground := Go.Ground.phase }, { on := 8, ground := Go.Ground.phase }, { on := 9, ground := Go.Ground.phase }, { on := 10, ground := Go.Ground.phase }, { on := 11, ground := Go.Ground.phase }, { on := 12, ground := Go.Ground.textOnly Go.Departure.lateStores }], guard := none }) (v := (.int .i64 (K.k : Int))) rfl (by kernel_rfl) (by kernel_rfl) (by kernel_rfl) (fun _ _ _ h => h) (Or.inl ⟨by kernel_rfl, fun w hC => by go_simp⟩) hS.out ?_
  simp only [Act.put, List.setIfInBounds_toArray, List.set_cons_zero, List.set_cons_succ]
  refine wpAnyH_take (i := 14) (oi := { dst := some 14, op := Go.Op.assign (Go.Operand.tmp 83), type := 38, pos := "law.go:72", after := #[{ on := 12, ground := Go.Ground.data }, { on := 13, ground := Go.Ground.chain }, { on := 0, ground := Go.Ground.phase }, { on := 1, ground := Go.Ground.phase }, { on := 2, ground := Go.Ground.phase }, { on := 3, ground := Go.Ground.phase }, { on := 4, ground := Go.Ground.phase }, { on := 5, ground := Go.Ground.phase }, { on := 6, ground := Go.Ground.phase }, { on := 7, ground := Go.Ground.phase }, { on := 8, ground := Go.Ground.phase }, { on := 9, ground := Go.Ground.phase }, { on := 10, ground := Go.Ground.phase }, { on := 11, ground := Go.Ground.phase }, { on := 12, ground := Go.Ground.phase }, { on := 13, ground := Go.Ground.phase }], guard := none }) (v := er) rfl (by kernel_rfl) (by kernel_rfl) (by kernel_rfl) (fun _ _ _ h => h) (Or.inl ⟨by kernel_rfl, fun w hC => by go_simp⟩) hS.out ?_
  simp only [Act.put, List.setIfInBounds_toArray, List.set_cons_zero, List.set_cons_succ]
  refine wpAnyH_done (by kernel_rfl) ?_ _
  obtain rfl : er = .nilIface := by rw [← HER.out, H0.out]; rfl
  obtain ⟨v, dv, nv, S1, on1⟩ := SvEnd.run HE.out
  have HS1 := hide S1
  have HON := hide on1
  clear S1 on1
  obtain ⟨k0, k1, k2, k3, k4, k5, k6, k7, k8, k9, k10⟩ := HM.out.all
  rw [hopi] at k3
  go_wp2_with fail
  refine (tb_value (A := A.upd v dv nv) K.k vl _ HS1.out HH.out HVL.out).mono ?_; rintro e w3 ⟨rfl, hw3⟩; subst hw3
  obtain ⟨m2, h2⟩ : ∃ m2, (⟨m.rp, m.ta, m.id, m.op, 3, 0, 0, 0, 0, 0⟩ : Msg) = m2 := ⟨_, rfl⟩
  have hf := fun W (hM : MB W w.heap.size m (.slice so sn sc)) hW => wfail_any m (.slice so sn sc) (3) W hM (by omega) hW m2 h2
  rw [show erN (((3 : Nat)) : Int) = .iface 43 (.int .i64 3) from rfl] at hf
  have HF := hide hf
  clear hf
  go_wp2_with fail
  refine (HF.out _ HM.out (HE.out.glob HG.out)).mono ?_; rintro e w6 ⟨co2, cc2, rfl, B6, b6⟩
  have HB6 := hide B6
  have HZ6 := hide (HZ.out.grow b6)
  have HE6 := hide (HE.out.to b6)
  have HM2 : Hid (m2 = rplF m (badF (s.tab K.t K.es s.T) (3))) := by show _ = _; rw [rpl_bad, ← h2]
  clear B6 b6 h2 k0 k1 k2 k3 k4 k5 k6 k7 k8 k9 k10
  have HZL := hide (HZ6.out.lay (m := m2) (D := .slice co2 0 cc2))
  have f7 := foot_lay11 w6 (w.heap.size + 1) m2 (.slice co2 0 cc2)
  have HE7 := hide (HE6.out.msg HW0.out HZ6.out (by omega) f7)
  have HB7 : Hid (Bts (lay11 w6 (w.heap.size + 1) m2 (.slice co2 0 cc2)) co2 0 cc2 []) := bts_none HB6.out
  obtain ⟨w7, hw7⟩ : ∃ w7, lay11 w6 (w.heap.size + 1) m2 (.slice co2 0 cc2) = w7 := ⟨_, rfl⟩
  rw [hw7] at HZL HE7 HB7
  unfold lay11 at hw7
  clear f7
  obtain ⟨v0, v1, v2, v3, v4, v5, v6, v7, v8, v9, v10⟩ := HZL.out.all
  obtain ⟨z0, z1, z2, z3, z4, z5, z6, z7, z8, z9, z10⟩ := HZ6.out.all
  have x0 := HZ6.out.z 0
  have x1 := HZ6.out.z 1
  have x2 := HZ6.out.z 2
  have x3 := HZ6.out.z 3
  have x4 := HZ6.out.z 4
  have x5 := HZ6.out.z 5
  have x6 := HZ6.out.z 6
  have x7 := HZ6.out.z 7
  have x8 := HZ6.out.z 8
  have x9 := HZ6.out.z 9
  have x10 := HZ6.out.z 10
  go_wp2
  refine bodyPost_ret (by simp [results, Tryz.results19, go_sem, v0, v1, v2, v3, v4, v5, v6, v7, v8, v9, v10]; rfl) rfl ?_
  exact ⟨m2, co2, 0, cc2, HM2.out, rfl, by rw [dat_bad]; exact HB7.out, .inl (dat_bad _ _ _), HE7.out⟩
end
end Go.Proofs.YtpbkjmkdciiccaaGreatDoor
namespace Go.Proofs.YtpbkjmkdciiccaaGreatDoor
section
open Go.RowKit
variable {w0 w w1 w2 w' : World} {A A' : Ad} {p : Nat} {ws : List Nat} {s s' s1 : Hs} {r g : Nat} {sb : Nat × Nat}
set_option maxRecDepth 20000 in
set_option maxHeartbeats 12800000 in
theorem want_mis103 (m : Msg) (so : Option Addr) (sn sc : Nat) (l : List UInt8) (w : World) (x : Sv w0 w A p ws s) (hb : Bts w so sn sc l) (q : Okm w0 w m so sn) (li : Lim s) (hg : Glob w0) (hop : m.op = 103) (K : Chk) (hK : chkF ws s.t s.es p s.T ⟨m.p, m.o, m.r, m.c⟩ 1 = K) (h0 : K.e = 0) (vl : Int) (hvl : (s.T K.k).v = vl) (hz : vl = -1) :
    Calls Tryz.prog 19 #[.pointer (some ⟨A.g, 0, none⟩), .pointer (some ⟨A.sb.2, 0, none⟩), .agg #[.int .u64 m.ta, .int .u64 m.rp, .int .u32 m.id, .int .u16 m.op, .int .u16 m.st, .int .u64 m.p, .int .u32 m.o, .int .u8 m.r, .int .u64 m.c, .int .u64 m.ar, .slice so sn sc]] w fun e w' => RplEnd w0 w A p ws m (badF (s.tab K.t K.es s.T) 3) l e w' := by
  have hmf : ∀ (fn : Fn) (first cap : Array Value) (w : World), (Instr.makeFunc fn first cap).run Tryz.prog w = .ok (.func fn first cap) w := fun _ _ _ _ => rfl
  obtain ⟨X, hX, bm, bz, bX⟩ := rep_vars w m (.slice so sn sc)
  have HX := hide (x.grow bX)
  have HB := hide (hb.carry bX)
  have HM := hide bm
  have HZ := hide bz
  have HBX := hide bX
  have HW0 : Hid (w0.heap.size ≤ w.heap.size) := x.bel.size
  have HQ := hide q
  have HQX := hide (q.grow bX)
  have HLI := hide li
  have HG := hide hg
  have hopi : (m.op : Int) = 103 := by omega
  have HK := hide hK
  have H0 := hide h0
  have HEL : Hid (K.e ≤ 65535) := by show _ ≤ _; have := chk_err ws s.t s.es p s.T ⟨m.p, m.o, m.r, m.c⟩ 1; rw [hK] at this; omega
  obtain ⟨er, her⟩ : ∃ er, erN (K.e : Int) = er := ⟨_, rfl⟩
  have HER := hide her
  have HH : Hid (hasO s.T K.k = true) := by
    have e := chk_has (hK ▸ h0)
    show hasO s.T K.k = true
    rw [← hK, e.2.2]; exact e.1
  obtain ⟨k0, k1, k2, k3, k4, k5, k6, k7, k8, k9, k10⟩ := HM.out.all
  have hwk : IntKind.u16.wrap 3 = 3 := by rw [IntKind.wrap_u16]; rfl
  rw [hopi] at k3 hX
  have HK3 := hide k3
  clear bm bz bX x hb q li hg hop hK h0 her
  have HVL := hide hvl
  clear hvl
  have hz0 : (vl == -1) = true := by rw [hz]; rfl
  clear hz
  go_enter Tryz.func19, Tryz.ntmps19
  go_wp2_with fail
  have hS : Hid (X.drew.cell? ⟨w.heap.size, 3, none⟩ = some (.int .u16 103) ∧ X.drew.cell? ⟨w.heap.size, 5, none⟩ = some (.int .u64 (m.p : Int)) ∧ X.drew.cell? ⟨w.heap.size, 6, none⟩ = some (.int .u32 (m.o : Int)) ∧ X.drew.cell? ⟨w.heap.size, 7, none⟩ = some (.int .u8 (m.r : Int)) ∧ X.drew.cell? ⟨w.heap.size, 8, none⟩ = some (.int .u64 (m.c : Int))) := ⟨k3, HM.out.all.2.2.2.2.2.1, HM.out.all.2.2.2.2.2.2.1, HM.out.all.2.2.2.2.2.2.2.1, HM.out.all.2.2.2.2.2.2.2.2.1⟩
  refine wp_region_held_drew (S := fun U => U.cell? ⟨w.heap.size, 3, none⟩ = some (.int .u16 103) ∧ U.cell? ⟨w.heap.size, 5, none⟩ = some (.int .u64 (m.p : Int)) ∧ U.cell? ⟨w.heap.size, 6, none⟩ = some (.int .u32 (m.o : Int)) ∧ U.cell? ⟨w.heap.size, 7, none⟩ = some (.int .u8 (m.r : Int)) ∧ U.cell? ⟨w.heap.size, 8, none⟩ = some (.int .u64 (m.c : Int))) (by kernel_rfl) hS.out (fun _ => ?_)
  refine wpAnyH_take (i := 0) (oi := { dst := some 72, op := Go.Op.move (Go.Operand.tmp 0), type := 26, pos := "law.go:72", after := #[], guard := none }) (v := (.pointer (some ⟨A.g, 0, none⟩))) rfl (by kernel_rfl) (by kernel_rfl) (by kernel_rfl) (fun _ _ _ h => h) (Or.inl ⟨by kernel_rfl, fun w hC => by go_simp⟩) hS.out ?_
  simp only [Act.put, List.setIfInBounds_toArray, List.set_cons_zero, List.set_cons_succ]
  refine wpAnyH_take (i := 1) (oi := { dst := some 73, op := Go.Op.fieldAddr 53 (Go.Operand.tmp 5) 5, type := 0, pos := "law.go:72", after := #[], guard := none }) (v := (.pointer (some ⟨w.heap.size, 5, none⟩))) rfl (by kernel_rfl) (by kernel_rfl) (by kernel_rfl) (fun _ _ _ h => h) (Or.inl ⟨by kernel_rfl, fun w hC => by go_simp⟩) hS.out ?_
  simp only [Act.put, List.setIfInBounds_toArray, List.set_cons_zero, List.set_cons_succ]
  refine wpAnyH_take (i := 2) (oi := { dst := some 74, op := Go.Op.load 36 (Go.Operand.tmp 73), type := 36, pos := "law.go:72", after := #[{ on := 1, ground := Go.Ground.data }], guard := none }) (v := (.agg #[.int .u64 (m.p : Int), .int .u32 (m.o : Int), .int .u8 (m.r : Int), .int .u64 (m.c : Int)])) rfl (by kernel_rfl) (by kernel_rfl) (by kernel_rfl) (fun _ _ _ h => h) (Or.inl ⟨by kernel_rfl, fun w hC => by (obtain ⟨e3, e5, e6, e7, e8⟩ := hC; go_simp)⟩) hS.out ?_
  simp only [Act.put, List.setIfInBounds_toArray, List.set_cons_zero, List.set_cons_succ]
  refine wpAnyH_take (i := 4) (oi := { dst := some 76, op := Go.Op.fieldAddr 53 (Go.Operand.tmp 5) 3, type := 0, pos := "law.go:72", after := #[], guard := none }) (v := (.pointer (some ⟨w.heap.size, 3, none⟩))) rfl (by kernel_rfl) (by kernel_rfl) (by kernel_rfl) (fun _ _ _ h => h) (Or.inl ⟨by kernel_rfl, fun w hC => by go_simp⟩) hS.out ?_
  simp only [Act.put, List.setIfInBounds_toArray, List.set_cons_zero, List.set_cons_succ]
  refine wpAnyH_take (i := 5) (oi := { dst := some 77, op := Go.Op.load 49 (Go.Operand.tmp 76), type := 49, pos := "law.go:72", after := #[{ on := 4, ground := Go.Ground.data }], guard := none }) (v := (.int .u16 103)) rfl (by kernel_rfl) (by kernel_rfl) (by kernel_rfl) (fun _ _ _ h => h) (Or.inl ⟨by kernel_rfl, fun w hC => by (obtain ⟨e3, e5, e6, e7, e8⟩ := hC; go_simp)⟩) hS.out ?_
  simp only [Act.put, List.setIfInBounds_toArray, List.set_cons_zero, List.set_cons_succ]
  refine wpAnyH_take (i := 6) (oi := { dst := some 78, op := Go.Op.binOp Go.BinOp.sub 49 (Go.Operand.tmp 77) (Go.Operand.const (Go.Value.int Go.IntKind.u16 100)) 49, type := 49, pos := "law.go:72", after := #[{ on := 5, ground := Go.Ground.data }], guard := none }) (v := (.int .u16 3)) rfl (by kernel_rfl) (by kernel_rfl) (by kernel_rfl) (fun _ _ _ h => h) (Or.inl ⟨by kernel_rfl, fun w hC => by go_simp⟩) hS.out ?_
  simp only [Act.put, List.setIfInBounds_toArray, List.set_cons_zero, List.set_cons_succ]
  refine wpAnyH_ready (rs := [3]) (by kernel_rfl) (by simp) ?_
  refine AllReadyH.cons (o := { dst := some 75, op := Go.Op.buildSlice 23 5 #[(0, Go.Operand.const (Go.Value.int Go.IntKind.u8 4)), (1, Go.Operand.const (Go.Value.int Go.IntKind.u8 1)), (2, Go.Operand.const (Go.Value.int Go.IntKind.u8 2)), (3, Go.Operand.const (Go.Value.int Go.IntKind.u8 1)), (4, Go.Operand.const (Go.Value.int Go.IntKind.u8 2))], type := 23, pos := "law.go:72", after := #[], guard := none }) rfl (fun KK hKK => ?_) AllReadyH.nil
  go_simp
  obtain ⟨Y, hY⟩ : ∃ Y, (X.alloc (.cells #[.int .u8 4, .int .u8 1, .int .u8 2, .int .u8 1, .int .u8 2] 5)).drew = Y := ⟨_, rfl⟩
  have bY : Below X.heap.size X Y := hY ▸ (below_alloc X _).drew
  have cY : Y.cell? ⟨X.heap.size, 3, none⟩ = some (.int .u8 1) := by subst hY; show (X.alloc _).cell? _ = _; rw [cell_of_row _ _ _ _ _ _ (heap_alloc_new _ _)]; rfl
  try rw [hY]
  have HM := hide (HM.out.grow bY)
  have HZ := hide (HZ.out.grow bY)
  have HX := hide (HX.out.grow bY)
  have HB := hide (HB.out.carry bY)
  have HQX := hide (HQX.out.grow bY)
  have HBX := hide (below_one HBX.out bY)
  clear bY
  have hS : Hid (Y.cell? ⟨w.heap.size, 3, none⟩ = some (.int .u16 103) ∧ Y.cell? ⟨w.heap.size, 5, none⟩ = some (.int .u64 (m.p : Int)) ∧ Y.cell? ⟨w.heap.size, 6, none⟩ = some (.int .u32 (m.o : Int)) ∧ Y.cell? ⟨w.heap.size, 7, none⟩ = some (.int .u8 (m.r : Int)) ∧ Y.cell? ⟨w.heap.size, 8, none⟩ = some (.int .u64 (m.c : Int))) := ⟨by rw [HM.out.all.2.2.2.1, hopi], HM.out.all.2.2.2.2.2.1, HM.out.all.2.2.2.2.2.2.1, HM.out.all.2.2.2.2.2.2.2.1, HM.out.all.2.2.2.2.2.2.2.2.1⟩
  refine hKK.out _ _ hS.out (fun _ => ?_)
  clear hKK
  refine wpAnyH_take (i := 7) (oi := { dst := some 79, op := Go.Op.indexAddr 23 (Go.Operand.tmp 75) (Go.Operand.tmp 78), type := 0, pos := "law.go:72", after := #[{ on := 3, ground := Go.Ground.data }, { on := 6, ground := Go.Ground.data }], guard := none }) (v := (.pointer (some ⟨X.heap.size, 3, none⟩))) rfl (by kernel_rfl) (by kernel_rfl) (by kernel_rfl) (fun _ _ _ h => h) (Or.inl ⟨by kernel_rfl, fun w hC => by go_simp⟩) hS.out ?_
  simp only [Act.put, List.setIfInBounds_toArray, List.set_cons_zero, List.set_cons_succ]
  refine wpAnyH_ready (rs := [8]) (by kernel_rfl) (by simp) ?_
  refine AllReadyH.cons (o := { dst := some 80, op := Go.Op.load 5 (Go.Operand.tmp 79), type := 5, pos := "law.go:72", after := #[{ on := 7, ground := Go.Ground.data }], guard := none }) rfl (fun KK hKK => ?_) AllReadyH.nil
  go_simp
  have hS : Hid (Y.cell? ⟨w.heap.size, 3, none⟩ = some (.int .u16 103) ∧ Y.cell? ⟨w.heap.size, 5, none⟩ = some (.int .u64 (m.p : Int)) ∧ Y.cell? ⟨w.heap.size, 6, none⟩ = some (.int .u32 (m.o : Int)) ∧ Y.cell? ⟨w.heap.size, 7, none⟩ = some (.int .u8 (m.r : Int)) ∧ Y.cell? ⟨w.heap.size, 8, none⟩ = some (.int .u64 (m.c : Int))) := ⟨by rw [HM.out.all.2.2.2.1, hopi], HM.out.all.2.2.2.2.2.1, HM.out.all.2.2.2.2.2.2.1, HM.out.all.2.2.2.2.2.2.2.1, HM.out.all.2.2.2.2.2.2.2.2.1⟩
  refine hKK.out _ _ hS.out (fun _ => ?_)
  clear hKK
  refine wpAnyH_ready (rs := [9]) (by kernel_rfl) (by simp) ?_
  refine AllReadyH.cons (o := { dst := some 81, op := Go.Op.call { callee := Go.Callee.value (Go.Operand.func 33), args := #[Go.Operand.tmp 72, Go.Operand.tmp 74, Go.Operand.tmp 80], argTypes := #[26, 36, 5] }, type := 99, pos := "law.go:72", after := #[{ on := 0, ground := Go.Ground.data }, { on := 2, ground := Go.Ground.data }, { on := 8, ground := Go.Ground.data }], guard := none }) rfl (fun KK hKK => ?_) AllReadyH.nil
  go_simp
  refine (tb_check ⟨m.p, m.o, m.r, m.c⟩ 1 _ HX.out HQ.out.c (by omega) (by have := HLI.out.el; omega) K HK.out).mono ?_; rw [HER.out]; rintro e w2 ⟨rfl, E⟩
  have kh := HX.out.kh E
  have HM := hide (HM.out.kh kh)
  have HZ := hide (HZ.out.kh kh)
  have HB := hide (Bts.sv HB.out HQX.out.d HX.out E)
  have HQX : Hid (Okm w0 w2 m so sn) := ⟨HQX.out.c, HQX.out.o, HQX.out.a, HQX.out.n, HQX.out.d.kh kh⟩
  have HE := hide (E.from HBX.out)
  clear kh E
  have hS : Hid (w2.cell? ⟨w.heap.size, 3, none⟩ = some (.int .u16 103) ∧ w2.cell? ⟨w.heap.size, 5, none⟩ = some (.int .u64 (m.p : Int)) ∧ w2.cell? ⟨w.heap.size, 6, none⟩ = some (.int .u32 (m.o : Int)) ∧ w2.cell? ⟨w.heap.size, 7, none⟩ = some (.int .u8 (m.r : Int)) ∧ w2.cell? ⟨w.heap.size, 8, none⟩ = some (.int .u64 (m.c : Int))) := ⟨by rw [HM.out.all.2.2.2.1, hopi], HM.out.all.2.2.2.2.2.1, HM.out.all.2.2.2.2.2.2.1, HM.out.all.2.2.2.2.2.2.2.1, HM.out.all.2.2.2.2.2.2.2.2.1⟩
  refine hKK.out _ _ hS.out (fun _ => ?_)
  clear hKK
  refine wpAnyH_take (i := 10) (oi := { dst := some 71, op := Go.Op.move (Go.Operand.tmp 81), type := 99, pos := "law.go:72", after := #[{ on := 9, ground := Go.Ground.data }], guard := none }) (v := (.tuple #[.int .i64 (K.k : Int), er])) rfl (by kernel_rfl) (by kernel_rfl) (by kernel_rfl) (fun _ _ _ h => h) (Or.inl ⟨by kernel_rfl, fun w hC => by go_simp⟩) hS.out ?_
  simp only [Act.put, List.setIfInBounds_toArray, List.set_cons_zero, List.set_cons_succ]
  refine wpAnyH_take (i := 11) (oi := { dst := some 82, op := Go.Op.extract (Go.Operand.tmp 71) 0, type := 3, pos := "law.go:72", after := #[{ on := 10, ground := Go.Ground.data }], guard := none }) (v := (.int .i64 (K.k : Int))) rfl (by kernel_rfl) (by kernel_rfl) (by kernel_rfl) (fun _ _ _ h => h) (Or.inl ⟨by kernel_rfl, fun w hC => by go_simp⟩) hS.out ?_
  simp only [Act.put, List.setIfInBounds_toArray, List.set_cons_zero, List.set_cons_succ]
  refine wpAnyH_take (i := 12) (oi := { dst := some 83, op := Go.Op.extract (Go.Operand.tmp 71) 1, type := 38, pos := "law.go:72", after := #[{ on := 10, ground := Go.Ground.data }, { on := 13, ground := Go.Ground.gcOnly Go.Departure.lateStores }], guard := none }) (v := er) rfl (by kernel_rfl) (by kernel_rfl) (by kernel_rfl) (fun _ _ _ h => h) (Or.inl ⟨by kernel_rfl, fun w hC => by go_simp⟩) hS.out ?_
  simp only [Act.put, List.setIfInBounds_toArray, List.set_cons_zero, List.set_cons_succ]
  refine wpAnyH_take (i := 13) (oi := { dst := some 13, op := Go.Op.assign (Go.Operand.tmp 82), type := 3, pos := "law.go:72", after := #[{ on := 11, ground := Go.Ground.data }, { on := 9, ground := Go.Ground.chain }, { on := 0, ground := Go.Ground.phase }, { on := 1, ground := Go.Ground.phase }, { on := 2, ground := Go.Ground.phase }, { on := 3, ground := Go.Ground.phase }, { on := 4, ground := Go.Ground.phase }, { on := 5, ground := Go.Ground.phase }, { on := 6, ground := Go.Ground.phase }, { on := 7, ground := Go.Ground.phase }, { on := 8, ground := Go.Ground.phase }, { on := 9, ground := Go.Ground.phase }, { on := 10, ground := Go.Ground.phase }, { on := 11, ground := Go.Ground.phase }, { on := 12, ground := Go.Ground.textOnly Go.Departure.lateStores }], guard := none }) (v := (.int .i64 (K.k : Int))) rfl (by kernel_rfl) (by kernel_rfl) (by kernel_rfl) (fun _ _ _ h => h) (Or.inl ⟨by kernel_rfl, fun w hC => by go_simp⟩) hS.out ?_
  simp only [Act.put, List.setIfInBounds_toArray, List.set_cons_zero, List.set_cons_succ]
  refine wpAnyH_take (i := 14) (oi := { dst := some 14, op := Go.Op.assign (Go.Operand.tmp 83), type := 38, pos := "law.go:72", after := #[{ on := 12, ground := Go.Ground.data }, { on := 13, ground := Go.Ground.chain }, { on := 0, ground := Go.Ground.phase }, { on := 1, ground := Go.Ground.phase }, { on := 2, ground := Go.Ground.phase }, { on := 3, ground := Go.Ground.phase }, { on := 4, ground := Go.Ground.phase }, { on := 5, ground := Go.Ground.phase }, { on := 6, ground := Go.Ground.phase }, { on := 7, ground := Go.Ground.phase }, { on := 8, ground := Go.Ground.phase }, { on := 9, ground := Go.Ground.phase }, { on := 10, ground := Go.Ground.phase }, { on := 11, ground := Go.Ground.phase }, { on := 12, ground := Go.Ground.phase }, { on := 13, ground := Go.Ground.phase }], guard := none }) (v := er) rfl (by kernel_rfl) (by kernel_rfl) (by kernel_rfl) (fun _ _ _ h => h) (Or.inl ⟨by kernel_rfl, fun w hC => by go_simp⟩) hS.out ?_
  simp only [Act.put, List.setIfInBounds_toArray, List.set_cons_zero, List.set_cons_succ]
  refine wpAnyH_done (by kernel_rfl) ?_ _
  obtain rfl : er = .nilIface := by rw [← HER.out, H0.out]; rfl
  obtain ⟨v, dv, nv, S1, on1⟩ := SvEnd.run HE.out
  have HS1 := hide S1
  have HON := hide on1
  clear S1 on1
  obtain ⟨k0, k1, k2, k3, k4, k5, k6, k7, k8, k9, k10⟩ := HM.out.all
  rw [hopi] at k3
  go_wp2_with fail
  refine (tb_value (A := A.upd v dv nv) K.k vl _ HS1.out HH.out HVL.out).mono ?_; rintro e w3 ⟨rfl, hw3⟩; subst hw3
  obtain ⟨m2, h2⟩ : ∃ m2, (⟨m.rp, m.ta, m.id, m.op, 3, 0, 0, 0, 0, 0⟩ : Msg) = m2 := ⟨_, rfl⟩
  have hf := fun W (hM : MB W w.heap.size m (.slice so sn sc)) hW => wfail_any m (.slice so sn sc) (3) W hM (by omega) hW m2 h2
  rw [show erN (((3 : Nat)) : Int) = .iface 43 (.int .i64 3) from rfl] at hf
  have HF := hide hf
  clear hf
  go_wp2_with fail
  refine (HF.out _ HM.out (HE.out.glob HG.out)).mono ?_; rintro e w6 ⟨co2, cc2, rfl, B6, b6⟩
  have HB6 := hide B6
  have HZ6 := hide (HZ.out.grow b6)
  have HE6 := hide (HE.out.to b6)
  have HM2 : Hid (m2 = rplF m (badF (s.tab K.t K.es s.T) (3))) := by show _ = _; rw [rpl_bad, ← h2]
  clear B6 b6 h2 k0 k1 k2 k3 k4 k5 k6 k7 k8 k9 k10
  have HZL := hide (HZ6.out.lay (m := m2) (D := .slice co2 0 cc2))
  have f7 := foot_lay11 w6 (w.heap.size + 1) m2 (.slice co2 0 cc2)
  have HE7 := hide (HE6.out.msg HW0.out HZ6.out (by omega) f7)
  have HB7 : Hid (Bts (lay11 w6 (w.heap.size + 1) m2 (.slice co2 0 cc2)) co2 0 cc2 []) := bts_none HB6.out
  obtain ⟨w7, hw7⟩ : ∃ w7, lay11 w6 (w.heap.size + 1) m2 (.slice co2 0 cc2) = w7 := ⟨_, rfl⟩
  rw [hw7] at HZL HE7 HB7
  unfold lay11 at hw7
  clear f7
  obtain ⟨v0, v1, v2, v3, v4, v5, v6, v7, v8, v9, v10⟩ := HZL.out.all
  obtain ⟨z0, z1, z2, z3, z4, z5, z6, z7, z8, z9, z10⟩ := HZ6.out.all
  have x0 := HZ6.out.z 0
  have x1 := HZ6.out.z 1
  have x2 := HZ6.out.z 2
  have x3 := HZ6.out.z 3
  have x4 := HZ6.out.z 4
  have x5 := HZ6.out.z 5
  have x6 := HZ6.out.z 6
  have x7 := HZ6.out.z 7
  have x8 := HZ6.out.z 8
  have x9 := HZ6.out.z 9
  have x10 := HZ6.out.z 10
  go_wp2
  refine bodyPost_ret (by simp [results, Tryz.results19, go_sem, v0, v1, v2, v3, v4, v5, v6, v7, v8, v9, v10]; rfl) rfl ?_
  exact ⟨m2, co2, 0, cc2, HM2.out, rfl, by rw [dat_bad]; exact HB7.out, .inl (dat_bad _ _ _), HE7.out⟩
set_option maxRecDepth 20000 in
set_option maxHeartbeats 12800000 in
theorem want_mis104 (m : Msg) (so : Option Addr) (sn sc : Nat) (l : List UInt8) (w : World) (x : Sv w0 w A p ws s) (hb : Bts w so sn sc l) (q : Okm w0 w m so sn) (li : Lim s) (hg : Glob w0) (hop : m.op = 104) (K : Chk) (hK : chkF ws s.t s.es p s.T ⟨m.p, m.o, m.r, m.c⟩ 2 = K) (h0 : K.e = 0) (vl : Int) (hvl : (s.T K.k).v = vl) (hz : vl = -1) :
    Calls Tryz.prog 19 #[.pointer (some ⟨A.g, 0, none⟩), .pointer (some ⟨A.sb.2, 0, none⟩), .agg #[.int .u64 m.ta, .int .u64 m.rp, .int .u32 m.id, .int .u16 m.op, .int .u16 m.st, .int .u64 m.p, .int .u32 m.o, .int .u8 m.r, .int .u64 m.c, .int .u64 m.ar, .slice so sn sc]] w fun e w' => RplEnd w0 w A p ws m (badF (s.tab K.t K.es s.T) 3) l e w' := by
  have hmf : ∀ (fn : Fn) (first cap : Array Value) (w : World), (Instr.makeFunc fn first cap).run Tryz.prog w = .ok (.func fn first cap) w := fun _ _ _ _ => rfl
  obtain ⟨X, hX, bm, bz, bX⟩ := rep_vars w m (.slice so sn sc)
  have HX := hide (x.grow bX)
  have HB := hide (hb.carry bX)
  have HM := hide bm
  have HZ := hide bz
  have HBX := hide bX
  have HW0 : Hid (w0.heap.size ≤ w.heap.size) := x.bel.size
  have HQ := hide q
  have HQX := hide (q.grow bX)
  have HLI := hide li
  have HG := hide hg
  have hopi : (m.op : Int) = 104 := by omega
  have HK := hide hK
  have H0 := hide h0
  have HEL : Hid (K.e ≤ 65535) := by show _ ≤ _; have := chk_err ws s.t s.es p s.T ⟨m.p, m.o, m.r, m.c⟩ 2; rw [hK] at this; omega
  obtain ⟨er, her⟩ : ∃ er, erN (K.e : Int) = er := ⟨_, rfl⟩
  have HER := hide her
  have HH : Hid (hasO s.T K.k = true) := by
    have e := chk_has (hK ▸ h0)
    show hasO s.T K.k = true
    rw [← hK, e.2.2]; exact e.1
  obtain ⟨k0, k1, k2, k3, k4, k5, k6, k7, k8, k9, k10⟩ := HM.out.all
  have hwk : IntKind.u16.wrap 4 = 4 := by rw [IntKind.wrap_u16]; rfl
  rw [hopi] at k3 hX
  have HK3 := hide k3
  clear bm bz bX x hb q li hg hop hK h0 her
  have HVL := hide hvl
  clear hvl
  have hz0 : (vl == -1) = true := by rw [hz]; rfl
  clear hz
  go_enter Tryz.func19, Tryz.ntmps19
  go_wp2_with fail
  have hS : Hid (X.drew.cell? ⟨w.heap.size, 3, none⟩ = some (.int .u16 104) ∧ X.drew.cell? ⟨w.heap.size, 5, none⟩ = some (.int .u64 (m.p : Int)) ∧ X.drew.cell? ⟨w.heap.size, 6, none⟩ = some (.int .u32 (m.o : Int)) ∧ X.drew.cell? ⟨w.heap.size, 7, none⟩ = some (.int .u8 (m.r : Int)) ∧ X.drew.cell? ⟨w.heap.size, 8, none⟩ = some (.int .u64 (m.c : Int))) := ⟨k3, HM.out.all.2.2.2.2.2.1, HM.out.all.2.2.2.2.2.2.1, HM.out.all.2.2.2.2.2.2.2.1, HM.out.all.2.2.2.2.2.2.2.2.1⟩
  refine wp_region_held_drew (S := fun U => U.cell? ⟨w.heap.size, 3, none⟩ = some (.int .u16 104) ∧ U.cell? ⟨w.heap.size, 5, none⟩ = some (.int .u64 (m.p : Int)) ∧ U.cell? ⟨w.heap.size, 6, none⟩ = some (.int .u32 (m.o : Int)) ∧ U.cell? ⟨w.heap.size, 7, none⟩ = some (.int .u8 (m.r : Int)) ∧ U.cell? ⟨w.heap.size, 8, none⟩ = some (.int .u64 (m.c : Int))) (by kernel_rfl) hS.out (fun _ => ?_)
  refine wpAnyH_take (i := 0) (oi := { dst := some 72, op := Go.Op.move (Go.Operand.tmp 0), type := 26, pos := "law.go:72", after := #[], guard := none }) (v := (.pointer (some ⟨A.g, 0, none⟩))) rfl (by kernel_rfl) (by kernel_rfl) (by kernel_rfl) (fun _ _ _ h => h) (Or.inl ⟨by kernel_rfl, fun w hC => by go_simp⟩) hS.out ?_
  simp only [Act.put, List.setIfInBounds_toArray, List.set_cons_zero, List.set_cons_succ]
  refine wpAnyH_take (i := 1) (oi := { dst := some 73, op := Go.Op.fieldAddr 53 (Go.Operand.tmp 5) 5, type := 0, pos := "law.go:72", after := #[], guard := none }) (v := (.pointer (some ⟨w.heap.size, 5, none⟩))) rfl (by kernel_rfl) (by kernel_rfl) (by kernel_rfl) (fun _ _ _ h => h) (Or.inl ⟨by kernel_rfl, fun w hC => by go_simp⟩) hS.out ?_
  simp only [Act.put, List.setIfInBounds_toArray, List.set_cons_zero, List.set_cons_succ]
  refine wpAnyH_take (i := 2) (oi := { dst := some 74, op := Go.Op.load 36 (Go.Operand.tmp 73), type := 36, pos := "law.go:72", after := #[{ on := 1, ground := Go.Ground.data }], guard := none }) (v := (.agg #[.int .u64 (m.p : Int), .int .u32 (m.o : Int), .int .u8 (m.r : Int), .int .u64 (m.c : Int)])) rfl (by kernel_rfl) (by kernel_rfl) (by kernel_rfl) (fun _ _ _ h => h) (Or.inl ⟨by kernel_rfl, fun w hC => by (obtain ⟨e3, e5, e6, e7, e8⟩ := hC; go_simp)⟩) hS.out ?_
  simp only [Act.put, List.setIfInBounds_toArray, List.set_cons_zero, List.set_cons_succ]
  refine wpAnyH_take (i := 4) (oi := { dst := some 76, op := Go.Op.fieldAddr 53 (Go.Operand.tmp 5) 3, type := 0, pos := "law.go:72", after := #[], guard := none }) (v := (.pointer (some ⟨w.heap.size, 3, none⟩))) rfl (by kernel_rfl) (by kernel_rfl) (by kernel_rfl) (fun _ _ _ h => h) (Or.inl ⟨by kernel_rfl, fun w hC => by go_simp⟩) hS.out ?_
  simp only [Act.put, List.setIfInBounds_toArray, List.set_cons_zero, List.set_cons_succ]
  refine wpAnyH_take (i := 5) (oi := { dst := some 77, op := Go.Op.load 49 (Go.Operand.tmp 76), type := 49, pos := "law.go:72", after := #[{ on := 4, ground := Go.Ground.data }], guard := none }) (v := (.int .u16 104)) rfl (by kernel_rfl) (by kernel_rfl) (by kernel_rfl) (fun _ _ _ h => h) (Or.inl ⟨by kernel_rfl, fun w hC => by (obtain ⟨e3, e5, e6, e7, e8⟩ := hC; go_simp)⟩) hS.out ?_
  simp only [Act.put, List.setIfInBounds_toArray, List.set_cons_zero, List.set_cons_succ]
  refine wpAnyH_take (i := 6) (oi := { dst := some 78, op := Go.Op.binOp Go.BinOp.sub 49 (Go.Operand.tmp 77) (Go.Operand.const (Go.Value.int Go.IntKind.u16 100)) 49, type := 49, pos := "law.go:72", after := #[{ on := 5, ground := Go.Ground.data }], guard := none }) (v := (.int .u16 4)) rfl (by kernel_rfl) (by kernel_rfl) (by kernel_rfl) (fun _ _ _ h => h) (Or.inl ⟨by kernel_rfl, fun w hC => by go_simp⟩) hS.out ?_
  simp only [Act.put, List.setIfInBounds_toArray, List.set_cons_zero, List.set_cons_succ]
  refine wpAnyH_ready (rs := [3]) (by kernel_rfl) (by simp) ?_
  refine AllReadyH.cons (o := { dst := some 75, op := Go.Op.buildSlice 23 5 #[(0, Go.Operand.const (Go.Value.int Go.IntKind.u8 4)), (1, Go.Operand.const (Go.Value.int Go.IntKind.u8 1)), (2, Go.Operand.const (Go.Value.int Go.IntKind.u8 2)), (3, Go.Operand.const (Go.Value.int Go.IntKind.u8 1)), (4, Go.Operand.const (Go.Value.int Go.IntKind.u8 2))], type := 23, pos := "law.go:72", after := #[], guard := none }) rfl (fun KK hKK => ?_) AllReadyH.nil
  go_simp
  obtain ⟨Y, hY⟩ : ∃ Y, (X.alloc (.cells #[.int .u8 4, .int .u8 1, .int .u8 2, .int .u8 1, .int .u8 2] 5)).drew = Y := ⟨_, rfl⟩
  have bY : Below X.heap.size X Y := hY ▸ (below_alloc X _).drew
  have cY : Y.cell? ⟨X.heap.size, 4, none⟩ = some (.int .u8 2) := by subst hY; show (X.alloc _).cell? _ = _; rw [cell_of_row _ _ _ _ _ _ (heap_alloc_new _ _)]; rfl
  try rw [hY]
  have HM := hide (HM.out.grow bY)
  have HZ := hide (HZ.out.grow bY)
  have HX := hide (HX.out.grow bY)
  have HB := hide (HB.out.carry bY)
  have HQX := hide (HQX.out.grow bY)
  have HBX := hide (below_one HBX.out bY)
  clear bY
  have hS : Hid (Y.cell? ⟨w.heap.size, 3, none⟩ = some (.int .u16 104) ∧ Y.cell? ⟨w.heap.size, 5, none⟩ = some (.int .u64 (m.p : Int)) ∧ Y.cell? ⟨w.heap.size, 6, none⟩ = some (.int .u32 (m.o : Int)) ∧ Y.cell? ⟨w.heap.size, 7, none⟩ = some (.int .u8 (m.r : Int)) ∧ Y.cell? ⟨w.heap.size, 8, none⟩ = some (.int .u64 (m.c : Int))) := ⟨by rw [HM.out.all.2.2.2.1, hopi], HM.out.all.2.2.2.2.2.1, HM.out.all.2.2.2.2.2.2.1, HM.out.all.2.2.2.2.2.2.2.1, HM.out.all.2.2.2.2.2.2.2.2.1⟩
  refine hKK.out _ _ hS.out (fun _ => ?_)
  clear hKK
  refine wpAnyH_take (i := 7) (oi := { dst := some 79, op := Go.Op.indexAddr 23 (Go.Operand.tmp 75) (Go.Operand.tmp 78), type := 0, pos := "law.go:72", after := #[{ on := 3, ground := Go.Ground.data }, { on := 6, ground := Go.Ground.data }], guard := none }) (v := (.pointer (some ⟨X.heap.size, 4, none⟩))) rfl (by kernel_rfl) (by kernel_rfl) (by kernel_rfl) (fun _ _ _ h => h) (Or.inl ⟨by kernel_rfl, fun w hC => by go_simp⟩) hS.out ?_
  simp only [Act.put, List.setIfInBounds_toArray, List.set_cons_zero, List.set_cons_succ]
  refine wpAnyH_ready (rs := [8]) (by kernel_rfl) (by simp) ?_
  refine AllReadyH.cons (o := { dst := some 80, op := Go.Op.load 5 (Go.Operand.tmp 79), type := 5, pos := "law.go:72", after := #[{ on := 7, ground := Go.Ground.data }], guard := none }) rfl (fun KK hKK => ?_) AllReadyH.nil
  go_simp
  have hS : Hid (Y.cell? ⟨w.heap.size, 3, none⟩ = some (.int .u16 104) ∧ Y.cell? ⟨w.heap.size, 5, none⟩ = some (.int .u64 (m.p : Int)) ∧ Y.cell? ⟨w.heap.size, 6, none⟩ = some (.int .u32 (m.o : Int)) ∧ Y.cell? ⟨w.heap.size, 7, none⟩ = some (.int .u8 (m.r : Int)) ∧ Y.cell? ⟨w.heap.size, 8, none⟩ = some (.int .u64 (m.c : Int))) := ⟨by rw [HM.out.all.2.2.2.1, hopi], HM.out.all.2.2.2.2.2.1, HM.out.all.2.2.2.2.2.2.1, HM.out.all.2.2.2.2.2.2.2.1, HM.out.all.2.2.2.2.2.2.2.2.1⟩
  refine hKK.out _ _ hS.out (fun _ => ?_)
  clear hKK
  refine wpAnyH_ready (rs := [9]) (by kernel_rfl) (by simp) ?_
  refine AllReadyH.cons (o := { dst := some 81, op := Go.Op.call { callee := Go.Callee.value (Go.Operand.func 33), args := #[Go.Operand.tmp 72, Go.Operand.tmp 74, Go.Operand.tmp 80], argTypes := #[26, 36, 5] }, type := 99, pos := "law.go:72", after := #[{ on := 0, ground := Go.Ground.data }, { on := 2, ground := Go.Ground.data }, { on := 8, ground := Go.Ground.data }], guard := none }) rfl (fun KK hKK => ?_) AllReadyH.nil
  go_simp
  refine (tb_check ⟨m.p, m.o, m.r, m.c⟩ 2 _ HX.out HQ.out.c (by omega) (by have := HLI.out.el; omega) K HK.out).mono ?_; rw [HER.out]; rintro e w2 ⟨rfl, E⟩
  have kh := HX.out.kh E
  have HM := hide (HM.out.kh kh)
  have HZ := hide (HZ.out.kh kh)
  have HB := hide (Bts.sv HB.out HQX.out.d HX.out E)
  have HQX : Hid (Okm w0 w2 m so sn) := ⟨HQX.out.c, HQX.out.o, HQX.out.a, HQX.out.n, HQX.out.d.kh kh⟩
  have HE := hide (E.from HBX.out)
  clear kh E
  have hS : Hid (w2.cell? ⟨w.heap.size, 3, none⟩ = some (.int .u16 104) ∧ w2.cell? ⟨w.heap.size, 5, none⟩ = some (.int .u64 (m.p : Int)) ∧ w2.cell? ⟨w.heap.size, 6, none⟩ = some (.int .u32 (m.o : Int)) ∧ w2.cell? ⟨w.heap.size, 7, none⟩ = some (.int .u8 (m.r : Int)) ∧ w2.cell? ⟨w.heap.size, 8, none⟩ = some (.int .u64 (m.c : Int))) := ⟨by rw [HM.out.all.2.2.2.1, hopi], HM.out.all.2.2.2.2.2.1, HM.out.all.2.2.2.2.2.2.1, HM.out.all.2.2.2.2.2.2.2.1, HM.out.all.2.2.2.2.2.2.2.2.1⟩
  refine hKK.out _ _ hS.out (fun _ => ?_)
  clear hKK
  refine wpAnyH_take (i := 10) (oi := { dst := some 71, op := Go.Op.move (Go.Operand.tmp 81), type := 99, pos := "law.go:72", after := #[{ on := 9, ground := Go.Ground.data }], guard := none }) (v := (.tuple #[.int .i64 (K.k : Int), er])) rfl (by kernel_rfl) (by kernel_rfl) (by kernel_rfl) (fun _ _ _ h => h) (Or.inl ⟨by kernel_rfl, fun w hC => by go_simp⟩) hS.out ?_
  simp only [Act.put, List.setIfInBounds_toArray, List.set_cons_zero, List.set_cons_succ]
  refine wpAnyH_take (i := 11) (oi := { dst := some 82, op := Go.Op.extract (Go.Operand.tmp 71) 0, type := 3, pos := "law.go:72", after := #[{ on := 10, ground := Go.Ground.data }], guard := none }) (v := (.int .i64 (K.k : Int))) rfl (by kernel_rfl) (by kernel_rfl) (by kernel_rfl) (fun _ _ _ h => h) (Or.inl ⟨by kernel_rfl, fun w hC => by go_simp⟩) hS.out ?_
  simp only [Act.put, List.setIfInBounds_toArray, List.set_cons_zero, List.set_cons_succ]
  refine wpAnyH_take (i := 12) (oi := { dst := some 83, op := Go.Op.extract (Go.Operand.tmp 71) 1, type := 38, pos := "law.go:72", after := #[{ on := 10, ground := Go.Ground.data }, { on := 13, ground := Go.Ground.gcOnly Go.Departure.lateStores }], guard := none }) (v := er) rfl (by kernel_rfl) (by kernel_rfl) (by kernel_rfl) (fun _ _ _ h => h) (Or.inl ⟨by kernel_rfl, fun w hC => by go_simp⟩) hS.out ?_
  simp only [Act.put, List.setIfInBounds_toArray, List.set_cons_zero, List.set_cons_succ]
  refine wpAnyH_take (i := 13) (oi := { dst := some 13, op := Go.Op.assign (Go.Operand.tmp 82), type := 3, pos := "law.go:72", after := #[{ on := 11, ground := Go.Ground.data }, { on := 9, ground := Go.Ground.chain }, { on := 0, ground := Go.Ground.phase }, { on := 1, ground := Go.Ground.phase }, { on := 2, ground := Go.Ground.phase }, { on := 3, ground := Go.Ground.phase }, { on := 4, ground := Go.Ground.phase }, { on := 5, ground := Go.Ground.phase }, { on := 6, ground := Go.Ground.phase }, { on := 7, ground := Go.Ground.phase }, { on := 8, ground := Go.Ground.phase }, { on := 9, ground := Go.Ground.phase }, { on := 10, ground := Go.Ground.phase }, { on := 11, ground := Go.Ground.phase }, { on := 12, ground := Go.Ground.textOnly Go.Departure.lateStores }], guard := none }) (v := (.int .i64 (K.k : Int))) rfl (by kernel_rfl) (by kernel_rfl) (by kernel_rfl) (fun _ _ _ h => h) (Or.inl ⟨by kernel_rfl, fun w hC => by go_simp⟩) hS.out ?_
  simp only [Act.put, List.setIfInBounds_toArray, List.set_cons_zero, List.set_cons_succ]
  refine wpAnyH_take (i := 14) (oi := { dst := some 14, op := Go.Op.assign (Go.Operand.tmp 83), type := 38, pos := "law.go:72", after := #[{ on := 12, ground := Go.Ground.data }, { on := 13, ground := Go.Ground.chain }, { on := 0, ground := Go.Ground.phase }, { on := 1, ground := Go.Ground.phase }, { on := 2, ground := Go.Ground.phase }, { on := 3, ground := Go.Ground.phase }, { on := 4, ground := Go.Ground.phase }, { on := 5, ground := Go.Ground.phase }, { on := 6, ground := Go.Ground.phase }, { on := 7, ground := Go.Ground.phase }, { on := 8, ground := Go.Ground.phase }, { on := 9, ground := Go.Ground.phase }, { on := 10, ground := Go.Ground.phase }, { on := 11, ground := Go.Ground.phase }, { on := 12, ground := Go.Ground.phase }, { on := 13, ground := Go.Ground.phase }], guard := none }) (v := er) rfl (by kernel_rfl) (by kernel_rfl) (by kernel_rfl) (fun _ _ _ h => h) (Or.inl ⟨by kernel_rfl, fun w hC => by go_simp⟩) hS.out ?_
  simp only [Act.put, List.setIfInBounds_toArray, List.set_cons_zero, List.set_cons_succ]
  refine wpAnyH_done (by kernel_rfl) ?_ _
  obtain rfl : er = .nilIface := by rw [← HER.out, H0.out]; rfl
  obtain ⟨v, dv, nv, S1, on1⟩ := SvEnd.run HE.out
  have HS1 := hide S1
  have HON := hide on1
  clear S1 on1
  obtain ⟨k0, k1, k2, k3, k4, k5, k6, k7, k8, k9, k10⟩ := HM.out.all
  rw [hopi] at k3
  go_wp2_with fail
  refine (tb_value (A := A.upd v dv nv) K.k vl _ HS1.out HH.out HVL.out).mono ?_; rintro e w3 ⟨rfl, hw3⟩; subst hw3
  obtain ⟨m2, h2⟩ : ∃ m2, (⟨m.rp, m.ta, m.id, m.op, 3, 0, 0, 0, 0, 0⟩ : Msg) = m2 := ⟨_, rfl⟩
  have hf := fun W (hM : MB W w.heap.size m (.slice so sn sc)) hW => wfail_any m (.slice so sn sc) (3) W hM (by omega) hW m2 h2
  rw [show erN (((3 : Nat)) : Int) = .iface 43 (.int .i64 3) from rfl] at hf
  have HF := hide hf
  clear hf
  go_wp2_with fail
  refine (HF.out _ HM.out (HE.out.glob HG.out)).mono ?_; rintro e w6 ⟨co2, cc2, rfl, B6, b6⟩
  have HB6 := hide B6
  have HZ6 := hide (HZ.out.grow b6)
  have HE6 := hide (HE.out.to b6)
  have HM2 : Hid (m2 = rplF m (badF (s.tab K.t K.es s.T) (3))) := by show _ = _; rw [rpl_bad, ← h2]
  clear B6 b6 h2 k0 k1 k2 k3 k4 k5 k6 k7 k8 k9 k10
  have HZL := hide (HZ6.out.lay (m := m2) (D := .slice co2 0 cc2))
  have f7 := foot_lay11 w6 (w.heap.size + 1) m2 (.slice co2 0 cc2)
  have HE7 := hide (HE6.out.msg HW0.out HZ6.out (by omega) f7)
  have HB7 : Hid (Bts (lay11 w6 (w.heap.size + 1) m2 (.slice co2 0 cc2)) co2 0 cc2 []) := bts_none HB6.out
  obtain ⟨w7, hw7⟩ : ∃ w7, lay11 w6 (w.heap.size + 1) m2 (.slice co2 0 cc2) = w7 := ⟨_, rfl⟩
  rw [hw7] at HZL HE7 HB7
  unfold lay11 at hw7
  clear f7
  obtain ⟨v0, v1, v2, v3, v4, v5, v6, v7, v8, v9, v10⟩ := HZL.out.all
  obtain ⟨z0, z1, z2, z3, z4, z5, z6, z7, z8, z9, z10⟩ := HZ6.out.all
  have x0 := HZ6.out.z 0
  have x1 := HZ6.out.z 1
  have x2 := HZ6.out.z 2
  have x3 := HZ6.out.z 3
  have x4 := HZ6.out.z 4
  have x5 := HZ6.out.z 5
  have x6 := HZ6.out.z 6
  have x7 := HZ6.out.z 7
  have x8 := HZ6.out.z 8
  have x9 := HZ6.out.z 9
  have x10 := HZ6.out.z 10
  go_wp2
  refine bodyPost_ret (by simp [results, Tryz.results19, go_sem, v0, v1, v2, v3, v4, v5, v6, v7, v8, v9, v10]; rfl) rfl ?_
  exact ⟨m2, co2, 0, cc2, HM2.out, rfl, by rw [dat_bad]; exact HB7.out, .inl (dat_bad _ _ _), HE7.out⟩
set_option maxRecDepth 20000 in
set_option maxHeartbeats 12800000 in
theorem want_arg100_0 (m : Msg) (so : Option Addr) (sn sc : Nat) (l : List UInt8) (w : World) (x : Sv w0 w A p ws s) (hb : Bts w so sn sc l) (q : Okm w0 w m so sn) (li : Lim s) (hg : Glob w0) (hop : m.op = 100) (K : Chk) (hK : chkF ws s.t s.es p s.T ⟨m.p, m.o, m.r, m.c⟩ 4 = K) (h0 : K.e = 0) (vl : Int) (hvl : (s.T K.k).v = vl) (hz : vl = -1) (h1 : 2147483647 < m.ar) :
    Calls Tryz.prog 19 #[.pointer (some ⟨A.g, 0, none⟩), .pointer (some ⟨A.sb.2, 0, none⟩), .agg #[.int .u64 m.ta, .int .u64 m.rp, .int .u32 m.id, .int .u16 m.op, .int .u16 m.st, .int .u64 m.p, .int .u32 m.o, .int .u8 m.r, .int .u64 m.c, .int .u64 m.ar, .slice so sn sc]] w fun e w' => RplEnd w0 w A p ws m (badF (s.tab K.t K.es s.T) 4) l e w' := by
  have hmf : ∀ (fn : Fn) (first cap : Array Value) (w : World), (Instr.makeFunc fn first cap).run Tryz.prog w = .ok (.func fn first cap) w := fun _ _ _ _ => rfl
  obtain ⟨X, hX, bm, bz, bX⟩ := rep_vars w m (.slice so sn sc)
  have HX := hide (x.grow bX)
  have HB := hide (hb.carry bX)
  have HM := hide bm
  have HZ := hide bz
  have HBX := hide bX
  have HW0 : Hid (w0.heap.size ≤ w.heap.size) := x.bel.size
  have HQ := hide q
  have HQX := hide (q.grow bX)
  have HLI := hide li
  have HG := hide hg
  have hopi : (m.op : Int) = 100 := by omega
  have HK := hide hK
  have H0 := hide h0
  have HEL : Hid (K.e ≤ 65535) := by show _ ≤ _; have := chk_err ws s.t s.es p s.T ⟨m.p, m.o, m.r, m.c⟩ 4; rw [hK] at this; omega
  obtain ⟨er, her⟩ : ∃ er, erN (K.e : Int) = er := ⟨_, rfl⟩
  have HER := hide her
  have HH : Hid (hasO s.T K.k = true) := by
    have e := chk_has (hK ▸ h0)
    show hasO s.T K.k = true
    rw [← hK, e.2.2]; exact e.1
  obtain ⟨k0, k1, k2, k3, k4, k5, k6, k7, k8, k9, k10⟩ := HM.out.all
  have hwk : IntKind.u16.wrap 0 = 0 := by rw [IntKind.wrap_u16]; rfl
  rw [hopi] at k3 hX
  have HK3 := hide k3
  clear bm bz bX x hb q li hg hop hK h0 her
  have HVL := hide hvl
  clear hvl
  have hz0 : (vl == -1) = true := by rw [hz]; rfl
  clear hz
  have hi1 : (2147483647 : Int) < (m.ar : Int) := by omega
  clear h1
  go_enter Tryz.func19, Tryz.ntmps19
  go_wp2_with fail
  have hS : Hid (X.drew.cell? ⟨w.heap.size, 3, none⟩ = some (.int .u16 100) ∧ X.drew.cell? ⟨w.heap.size, 5, none⟩ = some (.int .u64 (m.p : Int)) ∧ X.drew.cell? ⟨w.heap.size, 6, none⟩ = some (.int .u32 (m.o : Int)) ∧ X.drew.cell? ⟨w.heap.size, 7, none⟩ = some (.int .u8 (m.r : Int)) ∧ X.drew.cell? ⟨w.heap.size, 8, none⟩ = some (.int .u64 (m.c : Int))) := ⟨k3, HM.out.all.2.2.2.2.2.1, HM.out.all.2.2.2.2.2.2.1, HM.out.all.2.2.2.2.2.2.2.1, HM.out.all.2.2.2.2.2.2.2.2.1⟩
  refine wp_region_held_drew (S := fun U => U.cell? ⟨w.heap.size, 3, none⟩ = some (.int .u16 100) ∧ U.cell? ⟨w.heap.size, 5, none⟩ = some (.int .u64 (m.p : Int)) ∧ U.cell? ⟨w.heap.size, 6, none⟩ = some (.int .u32 (m.o : Int)) ∧ U.cell? ⟨w.heap.size, 7, none⟩ = some (.int .u8 (m.r : Int)) ∧ U.cell? ⟨w.heap.size, 8, none⟩ = some (.int .u64 (m.c : Int))) (by kernel_rfl) hS.out (fun _ => ?_)
  refine wpAnyH_take (i := 0) (oi := { dst := some 72, op := Go.Op.move (Go.Operand.tmp 0), type := 26, pos := "law.go:72", after := #[], guard := none }) (v := (.pointer (some ⟨A.g, 0, none⟩))) rfl (by kernel_rfl) (by kernel_rfl) (by kernel_rfl) (fun _ _ _ h => h) (Or.inl ⟨by kernel_rfl, fun w hC => by go_simp⟩) hS.out ?_
  simp only [Act.put, List.setIfInBounds_toArray, List.set_cons_zero, List.set_cons_succ]
  refine wpAnyH_take (i := 1) (oi := { dst := some 73, op := Go.Op.fieldAddr 53 (Go.Operand.tmp 5) 5, type := 0, pos := "law.go:72", after := #[], guard := none }) (v := (.pointer (some ⟨w.heap.size, 5, none⟩))) rfl (by kernel_rfl) (by kernel_rfl) (by kernel_rfl) (fun _ _ _ h => h) (Or.inl ⟨by kernel_rfl, fun w hC => by go_simp⟩) hS.out ?_
  simp only [Act.put, List.setIfInBounds_toArray, List.set_cons_zero, List.set_cons_succ]
  refine wpAnyH_take (i := 2) (oi := { dst := some 74, op := Go.Op.load 36 (Go.Operand.tmp 73), type := 36, pos := "law.go:72", after := #[{ on := 1, ground := Go.Ground.data }], guard := none }) (v := (.agg #[.int .u64 (m.p : Int), .int .u32 (m.o : Int), .int .u8 (m.r : Int), .int .u64 (m.c : Int)])) rfl (by kernel_rfl) (by kernel_rfl) (by kernel_rfl) (fun _ _ _ h => h) (Or.inl ⟨by kernel_rfl, fun w hC => by (obtain ⟨e3, e5, e6, e7, e8⟩ := hC; go_simp)⟩) hS.out ?_
  simp only [Act.put, List.setIfInBounds_toArray, List.set_cons_zero, List.set_cons_succ]
  refine wpAnyH_take (i := 4) (oi := { dst := some 76, op := Go.Op.fieldAddr 53 (Go.Operand.tmp 5) 3, type := 0, pos := "law.go:72", after := #[], guard := none }) (v := (.pointer (some ⟨w.heap.size, 3, none⟩))) rfl (by kernel_rfl) (by kernel_rfl) (by kernel_rfl) (fun _ _ _ h => h) (Or.inl ⟨by kernel_rfl, fun w hC => by go_simp⟩) hS.out ?_
  simp only [Act.put, List.setIfInBounds_toArray, List.set_cons_zero, List.set_cons_succ]
  refine wpAnyH_take (i := 5) (oi := { dst := some 77, op := Go.Op.load 49 (Go.Operand.tmp 76), type := 49, pos := "law.go:72", after := #[{ on := 4, ground := Go.Ground.data }], guard := none }) (v := (.int .u16 100)) rfl (by kernel_rfl) (by kernel_rfl) (by kernel_rfl) (fun _ _ _ h => h) (Or.inl ⟨by kernel_rfl, fun w hC => by (obtain ⟨e3, e5, e6, e7, e8⟩ := hC; go_simp)⟩) hS.out ?_
  simp only [Act.put, List.setIfInBounds_toArray, List.set_cons_zero, List.set_cons_succ]
  refine wpAnyH_take (i := 6) (oi := { dst := some 78, op := Go.Op.binOp Go.BinOp.sub 49 (Go.Operand.tmp 77) (Go.Operand.const (Go.Value.int Go.IntKind.u16 100)) 49, type := 49, pos := "law.go:72", after := #[{ on := 5, ground := Go.Ground.data }], guard := none }) (v := (.int .u16 0)) rfl (by kernel_rfl) (by kernel_rfl) (by kernel_rfl) (fun _ _ _ h => h) (Or.inl ⟨by kernel_rfl, fun w hC => by go_simp⟩) hS.out ?_
  simp only [Act.put, List.setIfInBounds_toArray, List.set_cons_zero, List.set_cons_succ]
  refine wpAnyH_ready (rs := [3]) (by kernel_rfl) (by simp) ?_
  refine AllReadyH.cons (o := { dst := some 75, op := Go.Op.buildSlice 23 5 #[(0, Go.Operand.const (Go.Value.int Go.IntKind.u8 4)), (1, Go.Operand.const (Go.Value.int Go.IntKind.u8 1)), (2, Go.Operand.const (Go.Value.int Go.IntKind.u8 2)), (3, Go.Operand.const (Go.Value.int Go.IntKind.u8 1)), (4, Go.Operand.const (Go.Value.int Go.IntKind.u8 2))], type := 23, pos := "law.go:72", after := #[], guard := none }) rfl (fun KK hKK => ?_) AllReadyH.nil
  go_simp
  obtain ⟨Y, hY⟩ : ∃ Y, (X.alloc (.cells #[.int .u8 4, .int .u8 1, .int .u8 2, .int .u8 1, .int .u8 2] 5)).drew = Y := ⟨_, rfl⟩
  have bY : Below X.heap.size X Y := hY ▸ (below_alloc X _).drew
  have cY : Y.cell? ⟨X.heap.size, 0, none⟩ = some (.int .u8 4) := by subst hY; show (X.alloc _).cell? _ = _; rw [cell_of_row _ _ _ _ _ _ (heap_alloc_new _ _)]; rfl
  try rw [hY]
  have HM := hide (HM.out.grow bY)
  have HZ := hide (HZ.out.grow bY)
  have HX := hide (HX.out.grow bY)
  have HB := hide (HB.out.carry bY)
  have HQX := hide (HQX.out.grow bY)
  have HBX := hide (below_one HBX.out bY)
  clear bY
  have hS : Hid (Y.cell? ⟨w.heap.size, 3, none⟩ = some (.int .u16 100) ∧ Y.cell? ⟨w.heap.size, 5, none⟩ = some (.int .u64 (m.p : Int)) ∧ Y.cell? ⟨w.heap.size, 6, none⟩ = some (.int .u32 (m.o : Int)) ∧ Y.cell? ⟨w.heap.size, 7, none⟩ = some (.int .u8 (m.r : Int)) ∧ Y.cell? ⟨w.heap.size, 8, none⟩ = some (.int .u64 (m.c : Int))) := ⟨by rw [HM.out.all.2.2.2.1, hopi], HM.out.all.2.2.2.2.2.1, HM.out.all.2.2.2.2.2.2.1, HM.out.all.2.2.2.2.2.2.2.1, HM.out.all.2.2.2.2.2.2.2.2.1⟩
  refine hKK.out _ _ hS.out (fun _ => ?_)
  clear hKK
  refine wpAnyH_take (i := 7) (oi := { dst := some 79, op := Go.Op.indexAddr 23 (Go.Operand.tmp 75) (Go.Operand.tmp 78), type := 0, pos := "law.go:72", after := #[{ on := 3, ground := Go.Ground.data }, { on := 6, ground := Go.Ground.data }], guard := none }) (v := (.pointer (some ⟨X.heap.size, 0, none⟩))) rfl (by kernel_rfl) (by kernel_rfl) (by kernel_rfl) (fun _ _ _ h => h) (Or.inl ⟨by kernel_rfl, fun w hC => by go_simp⟩) hS.out ?_
  simp only [Act.put, List.setIfInBounds_toArray, List.set_cons_zero, List.set_cons_succ]
  refine wpAnyH_ready (rs := [8]) (by kernel_rfl) (by simp) ?_
  refine AllReadyH.cons (o := { dst := some 80, op := Go.Op.load 5 (Go.Operand.tmp 79), type := 5, pos := "law.go:72", after := #[{ on := 7, ground := Go.Ground.data }], guard := none }) rfl (fun KK hKK => ?_) AllReadyH.nil
  go_simp
  have hS : Hid (Y.cell? ⟨w.heap.size, 3, none⟩ = some (.int .u16 100) ∧ Y.cell? ⟨w.heap.size, 5, none⟩ = some (.int .u64 (m.p : Int)) ∧ Y.cell? ⟨w.heap.size, 6, none⟩ = some (.int .u32 (m.o : Int)) ∧ Y.cell? ⟨w.heap.size, 7, none⟩ = some (.int .u8 (m.r : Int)) ∧ Y.cell? ⟨w.heap.size, 8, none⟩ = some (.int .u64 (m.c : Int))) := ⟨by rw [HM.out.all.2.2.2.1, hopi], HM.out.all.2.2.2.2.2.1, HM.out.all.2.2.2.2.2.2.1, HM.out.all.2.2.2.2.2.2.2.1, HM.out.all.2.2.2.2.2.2.2.2.1⟩
  refine hKK.out _ _ hS.out (fun _ => ?_)
  clear hKK
  refine wpAnyH_ready (rs := [9]) (by kernel_rfl) (by simp) ?_
  refine AllReadyH.cons (o := { dst := some 81, op := Go.Op.call { callee := Go.Callee.value (Go.Operand.func 33), args := #[Go.Operand.tmp 72, Go.Operand.tmp 74, Go.Operand.tmp 80], argTypes := #[26, 36, 5] }, type := 99, pos := "law.go:72", after := #[{ on := 0, ground := Go.Ground.data }, { on := 2, ground := Go.Ground.data }, { on := 8, ground := Go.Ground.data }], guard := none }) rfl (fun KK hKK => ?_) AllReadyH.nil
  go_simp
  refine (tb_check ⟨m.p, m.o, m.r, m.c⟩ 4 _ HX.out HQ.out.c (by omega) (by have := HLI.out.el; omega) K HK.out).mono ?_; rw [HER.out]; rintro e w2 ⟨rfl, E⟩
  have kh := HX.out.kh E
  have HM := hide (HM.out.kh kh)
  have HZ := hide (HZ.out.kh kh)
  have HB := hide (Bts.sv HB.out HQX.out.d HX.out E)
  have HQX : Hid (Okm w0 w2 m so sn) := ⟨HQX.out.c, HQX.out.o, HQX.out.a, HQX.out.n, HQX.out.d.kh kh⟩
  have HE := hide (E.from HBX.out)
  clear kh E
  have hS : Hid (w2.cell? ⟨w.heap.size, 3, none⟩ = some (.int .u16 100) ∧ w2.cell? ⟨w.heap.size, 5, none⟩ = some (.int .u64 (m.p : Int)) ∧ w2.cell? ⟨w.heap.size, 6, none⟩ = some (.int .u32 (m.o : Int)) ∧ w2.cell? ⟨w.heap.size, 7, none⟩ = some (.int .u8 (m.r : Int)) ∧ w2.cell? ⟨w.heap.size, 8, none⟩ = some (.int .u64 (m.c : Int))) := ⟨by rw [HM.out.all.2.2.2.1, hopi], HM.out.all.2.2.2.2.2.1, HM.out.all.2.2.2.2.2.2.1, HM.out.all.2.2.2.2.2.2.2.1, HM.out.all.2.2.2.2.2.2.2.2.1⟩
  refine hKK.out _ _ hS.out (fun _ => ?_)
  clear hKK
  refine wpAnyH_take (i := 10) (oi := { dst := some 71, op := Go.Op.move (Go.Operand.tmp 81), type := 99, pos := "law.go:72", after := #[{ on := 9, ground := Go.Ground.data }], guard := none }) (v := (.tuple #[.int .i64 (K.k : Int), er])) rfl (by kernel_rfl) (by kernel_rfl) (by kernel_rfl) (fun _ _ _ h => h) (Or.inl ⟨by kernel_rfl, fun w hC => by go_simp⟩) hS.out ?_
  simp only [Act.put, List.setIfInBounds_toArray, List.set_cons_zero, List.set_cons_succ]
  refine wpAnyH_take (i := 11) (oi := { dst := some 82, op := Go.Op.extract (Go.Operand.tmp 71) 0, type := 3, pos := "law.go:72", after := #[{ on := 10, ground := Go.Ground.data }], guard := none }) (v := (.int .i64 (K.k : Int))) rfl (by kernel_rfl) (by kernel_rfl) (by kernel_rfl) (fun _ _ _ h => h) (Or.inl ⟨by kernel_rfl, fun w hC => by go_simp⟩) hS.out ?_
  simp only [Act.put, List.setIfInBounds_toArray, List.set_cons_zero, List.set_cons_succ]
  refine wpAnyH_take (i := 12) (oi := { dst := some 83, op := Go.Op.extract (Go.Operand.tmp 71) 1, type := 38, pos := "law.go:72", after := #[{ on := 10, ground := Go.Ground.data }, { on := 13, ground := Go.Ground.gcOnly Go.Departure.lateStores }], guard := none }) (v := er) rfl (by kernel_rfl) (by kernel_rfl) (by kernel_rfl) (fun _ _ _ h => h) (Or.inl ⟨by kernel_rfl, fun w hC => by go_simp⟩) hS.out ?_
  simp only [Act.put, List.setIfInBounds_toArray, List.set_cons_zero, List.set_cons_succ]
  refine wpAnyH_take (i := 13) (oi := { dst := some 13, op := Go.Op.assign (Go.Operand.tmp 82), type := 3, pos := "law.go:72", after := #[{ on := 11, ground := Go.Ground.data }, { on := 9, ground := Go.Ground.chain }, { on := 0, ground := Go.Ground.phase }, { on := 1, ground := Go.Ground.phase }, { on := 2, ground := Go.Ground.phase }, { on := 3, ground := Go.Ground.phase }, { on := 4, ground := Go.Ground.phase }, { on := 5, ground := Go.Ground.phase }, { on := 6, ground := Go.Ground.phase }, { on := 7, ground := Go.Ground.phase }, { on := 8, ground := Go.Ground.phase }, { on := 9, ground := Go.Ground.phase }, { on := 10, ground := Go.Ground.phase }, { on := 11, ground := Go.Ground.phase }, { on := 12, ground := Go.Ground.textOnly Go.Departure.lateStores }], guard := none }) (v := (.int .i64 (K.k : Int))) rfl (by kernel_rfl) (by kernel_rfl) (by kernel_rfl) (fun _ _ _ h => h) (Or.inl ⟨by kernel_rfl, fun w hC => by go_simp⟩) hS.out ?_
  simp only [Act.put, List.setIfInBounds_toArray, List.set_cons_zero, List.set_cons_succ]
  refine wpAnyH_take (i := 14) (oi := { dst := some 14, op := Go.Op.assign (Go.Operand.tmp 83), type := 38, pos := "law.go:72", after := #[{ on := 12, ground := Go.Ground.data }, { on := 13, ground := Go.Ground.chain }, { on := 0, ground := Go.Ground.phase }, { on := 1, ground := Go.Ground.phase }, { on := 2, ground := Go.Ground.phase }, { on := 3, ground := Go.Ground.phase }, { on := 4, ground := Go.Ground.phase }, { on := 5, ground := Go.Ground.phase }, { on := 6, ground := Go.Ground.phase }, { on := 7, ground := Go.Ground.phase }, { on := 8, ground := Go.Ground.phase }, { on := 9, ground := Go.Ground.phase }, { on := 10, ground := Go.Ground.phase }, { on := 11, ground := Go.Ground.phase }, { on := 12, ground := Go.Ground.phase }, { on := 13, ground := Go.Ground.phase }], guard := none }) (v := er) rfl (by kernel_rfl) (by kernel_rfl) (by kernel_rfl) (fun _ _ _ h => h) (Or.inl ⟨by kernel_rfl, fun w hC => by go_simp⟩) hS.out ?_
  simp only [Act.put, List.setIfInBounds_toArray, List.set_cons_zero, List.set_cons_succ]
  refine wpAnyH_done (by kernel_rfl) ?_ _
  obtain rfl : er = .nilIface := by rw [← HER.out, H0.out]; rfl
  obtain ⟨v, dv, nv, S1, on1⟩ := SvEnd.run HE.out
  have HS1 := hide S1
  have HON := hide on1
  clear S1 on1
  obtain ⟨k0, k1, k2, k3, k4, k5, k6, k7, k8, k9, k10⟩ := HM.out.all
  rw [hopi] at k3
  go_wp2_with fail
  refine (tb_value (A := A.upd v dv nv) K.k vl _ HS1.out HH.out HVL.out).mono ?_; rintro e w3 ⟨rfl, hw3⟩; subst hw3
  obtain ⟨m2, h2⟩ : ∃ m2, (⟨m.rp, m.ta, m.id, m.op, 4, 0, 0, 0, 0, 0⟩ : Msg) = m2 := ⟨_, rfl⟩
  have hf := fun W (hM : MB W w.heap.size m (.slice so sn sc)) hW => wfail_any m (.slice so sn sc) (4) W hM (by omega) hW m2 h2
  rw [show erN (((4 : Nat)) : Int) = .iface 43 (.int .i64 4) from rfl] at hf
  have HF := hide hf
  clear hf
  go_wp2_with fail
  refine (HF.out _ HM.out (HE.out.glob HG.out)).mono ?_; rintro e w6 ⟨co2, cc2, rfl, B6, b6⟩
  have HB6 := hide B6
  have HZ6 := hide (HZ.out.grow b6)
  have HE6 := hide (HE.out.to b6)
  have HM2 : Hid (m2 = rplF m (badF (s.tab K.t K.es s.T) (4))) := by show _ = _; rw [rpl_bad, ← h2]
  clear B6 b6 h2 k0 k1 k2 k3 k4 k5 k6 k7 k8 k9 k10
  have HZL := hide (HZ6.out.lay (m := m2) (D := .slice co2 0 cc2))
  have f7 := foot_lay11 w6 (w.heap.size + 1) m2 (.slice co2 0 cc2)
  have HE7 := hide (HE6.out.msg HW0.out HZ6.out (by omega) f7)
  have HB7 : Hid (Bts (lay11 w6 (w.heap.size + 1) m2 (.slice co2 0 cc2)) co2 0 cc2 []) := bts_none HB6.out
  obtain ⟨w7, hw7⟩ : ∃ w7, lay11 w6 (w.heap.size + 1) m2 (.slice co2 0 cc2) = w7 := ⟨_, rfl⟩
  rw [hw7] at HZL HE7 HB7
  unfold lay11 at hw7
  clear f7
  obtain ⟨v0, v1, v2, v3, v4, v5, v6, v7, v8, v9, v10⟩ := HZL.out.all
  obtain ⟨z0, z1, z2, z3, z4, z5, z6, z7, z8, z9, z10⟩ := HZ6.out.all
  have x0 := HZ6.out.z 0
  have x1 := HZ6.out.z 1
  have x2 := HZ6.out.z 2
  have x3 := HZ6.out.z 3
  have x4 := HZ6.out.z 4
  have x5 := HZ6.out.z 5
  have x6 := HZ6.out.z 6
  have x7 := HZ6.out.z 7
  have x8 := HZ6.out.z 8
  have x9 := HZ6.out.z 9
  have x10 := HZ6.out.z 10
  go_wp2
  refine bodyPost_ret (by simp [results, Tryz.results19, go_sem, v0, v1, v2, v3, v4, v5, v6, v7, v8, v9, v10]; rfl) rfl ?_
  exact ⟨m2, co2, 0, cc2, HM2.out, rfl, by rw [dat_bad]; exact HB7.out, .inl (dat_bad _ _ _), HE7.out⟩
set_option maxRecDepth 20000 in
set_option maxHeartbeats 12800000 in
theorem want_arg101_1 (m : Msg) (so : Option Addr) (sn sc : Nat) (l : List UInt8) (w : World) (x : Sv w0 w A p ws s) (hb : Bts w so sn sc l) (q : Okm w0 w m so sn) (li : Lim s) (hg : Glob w0) (hop : m.op = 101) (K : Chk) (hK : chkF ws s.t s.es p s.T ⟨m.p, m.o, m.r, m.c⟩ 1 = K) (h0 : K.e = 0) (vl : Int) (hvl : (s.T K.k).v = vl) (hz : vl ≠ -1) (h1 : 2147483647 < m.ar / 4294967296) :
    Calls Tryz.prog 19 #[.pointer (some ⟨A.g, 0, none⟩), .pointer (some ⟨A.sb.2, 0, none⟩), .agg #[.int .u64 m.ta, .int .u64 m.rp, .int .u32 m.id, .int .u16 m.op, .int .u16 m.st, .int .u64 m.p, .int .u32 m.o, .int .u8 m.r, .int .u64 m.c, .int .u64 m.ar, .slice so sn sc]] w fun e w' => RplEnd w0 w A p ws m (badF (s.tab K.t K.es s.T) 4) l e w' := by
  have hmf : ∀ (fn : Fn) (first cap : Array Value) (w : World), (Instr.makeFunc fn first cap).run Tryz.prog w = .ok (.func fn first cap) w := fun _ _ _ _ => rfl
  obtain ⟨X, hX, bm, bz, bX⟩ := rep_vars w m (.slice so sn sc)
  have HX := hide (x.grow bX)
  have HB := hide (hb.carry bX)
  have HM := hide bm
  have HZ := hide bz
  have HBX := hide bX
  have HW0 : Hid (w0.heap.size ≤ w.heap.size) := x.bel.size
  have HQ := hide q
  have HQX := hide (q.grow bX)
  have HLI := hide li
  have HG := hide hg
  have hopi : (m.op : Int) = 101 := by omega
  have HK := hide hK
  have H0 := hide h0
  have HEL : Hid (K.e ≤ 65535) := by show _ ≤ _; have := chk_err ws s.t s.es p s.T ⟨m.p, m.o, m.r, m.c⟩ 1; rw [hK] at this; omega
  obtain ⟨er, her⟩ : ∃ er, erN (K.e : Int) = er := ⟨_, rfl⟩
  have HER := hide her
  have HH : Hid (hasO s.T K.k = true) := by
    have e := chk_has (hK ▸ h0)
    show hasO s.T K.k = true
    rw [← hK, e.2.2]; exact e.1
  obtain ⟨k0, k1, k2, k3, k4, k5, k6, k7, k8, k9, k10⟩ := HM.out.all
  have hwk : IntKind.u16.wrap 1 = 1 := by rw [IntKind.wrap_u16]; rfl
  rw [hopi] at k3 hX
  have HK3 := hide k3
  clear bm bz bX x hb q li hg hop hK h0 her
  have HVL := hide hvl
  clear hvl
  have hz0 : (vl == -1) = false := by simpa using hz
  clear hz
  obtain ⟨at1, hat1⟩ : ∃ q, m.ar / 4294967296 = q := ⟨_, rfl⟩
  obtain ⟨mn, hmn⟩ : ∃ q, m.ar % 4294967296 = q := ⟨_, rfl⟩
  have hs1 : (m.ar : Int) / 4294967296 = (at1 : Int) := by omega
  have hs2 : (m.ar : Int).tdiv 4294967296 = (at1 : Int) := by rw [Int.tdiv_eq_ediv_of_nonneg (by omega)]; exact hs1
  have hs3 : (m.ar : Int) % 4294967296 = (mn : Int) := by omega
  have hs4 : (m.ar : Int).tmod 4294967296 = (mn : Int) := by rw [Int.tmod_eq_emod_of_nonneg (by omega)]; exact hs3
  rw [hat1] at h1
  have hi1 : (2147483647 : Int) < (at1 : Int) := by omega
  have hw5 : IntKind.u64.wrap (at1 : Int) = (at1 : Int) := by rw [IntKind.wrap_u64]; have := HQ.out.a; omega
  clear h1 hat1 hmn
  go_enter Tryz.func19, Tryz.ntmps19
  go_wp2_with fail
  have hS : Hid (X.drew.cell? ⟨w.heap.size, 3, none⟩ = some (.int .u16 101) ∧ X.drew.cell? ⟨w.heap.size, 5, none⟩ = some (.int .u64 (m.p : Int)) ∧ X.drew.cell? ⟨w.heap.size, 6, none⟩ = some (.int .u32 (m.o : Int)) ∧ X.drew.cell? ⟨w.heap.size, 7, none⟩ = some (.int .u8 (m.r : Int)) ∧ X.drew.cell? ⟨w.heap.size, 8, none⟩ = some (.int .u64 (m.c : Int))) := ⟨k3, HM.out.all.2.2.2.2.2.1, HM.out.all.2.2.2.2.2.2.1, HM.out.all.2.2.2.2.2.2.2.1, HM.out.all.2.2.2.2.2.2.2.2.1⟩
  refine wp_region_held_drew (S := fun U => U.cell? ⟨w.heap.size, 3, none⟩ = some (.int .u16 101) ∧ U.cell? ⟨w.heap.size, 5, none⟩ = some (.int .u64 (m.p : Int)) ∧ U.cell? ⟨w.heap.size, 6, none⟩ = some (.int .u32 (m.o : Int)) ∧ U.cell? ⟨w.heap.size, 7, none⟩ = some (.int .u8 (m.r : Int)) ∧ U.cell? ⟨w.heap.size, 8, none⟩ = some (.int .u64 (m.c : Int))) (by kernel_rfl) hS.out (fun _ => ?_)
  refine wpAnyH_take (i := 0) (oi := { dst := some 72, op := Go.Op.move (Go.Operand.tmp 0), type := 26, pos := "law.go:72", after := #[], guard := none }) (v := (.pointer (some ⟨A.g, 0, none⟩))) rfl (by kernel_rfl) (by kernel_rfl) (by kernel_rfl) (fun _ _ _ h => h) (Or.inl ⟨by kernel_rfl, fun w hC => by go_simp⟩) hS.out ?_
  simp only [Act.put, List.setIfInBounds_toArray, List.set_cons_zero, List.set_cons_succ]
  refine wpAnyH_take (i := 1) (oi := { dst := some 73, op := Go.Op.fieldAddr 53 (Go.Operand.tmp 5) 5, type := 0, pos := "law.go:72", after := #[], guard := none }) (v := (.pointer (some ⟨w.heap.size, 5, none⟩))) rfl (by kernel_rfl) (by kernel_rfl) (by kernel_rfl) (fun _ _ _ h => h) (Or.inl ⟨by kernel_rfl, fun w hC => by go_simp⟩) hS.out ?_
  simp only [Act.put, List.setIfInBounds_toArray, List.set_cons_zero, List.set_cons_succ]
  refine wpAnyH_take (i := 2) (oi := { dst := some 74, op := Go.Op.load 36 (Go.Operand.tmp 73), type := 36, pos := "law.go:72", after := #[{ on := 1, ground := Go.Ground.data }], guard := none }) (v := (.agg #[.int .u64 (m.p : Int), .int .u32 (m.o : Int), .int .u8 (m.r : Int), .int .u64 (m.c : Int)])) rfl (by kernel_rfl) (by kernel_rfl) (by kernel_rfl) (fun _ _ _ h => h) (Or.inl ⟨by kernel_rfl, fun w hC => by (obtain ⟨e3, e5, e6, e7, e8⟩ := hC; go_simp)⟩) hS.out ?_
  simp only [Act.put, List.setIfInBounds_toArray, List.set_cons_zero, List.set_cons_succ]
  refine wpAnyH_take (i := 4) (oi := { dst := some 76, op := Go.Op.fieldAddr 53 (Go.Operand.tmp 5) 3, type := 0, pos := "law.go:72", after := #[], guard := none }) (v := (.pointer (some ⟨w.heap.size, 3, none⟩))) rfl (by kernel_rfl) (by kernel_rfl) (by kernel_rfl) (fun _ _ _ h => h) (Or.inl ⟨by kernel_rfl, fun w hC => by go_simp⟩) hS.out ?_
  simp only [Act.put, List.setIfInBounds_toArray, List.set_cons_zero, List.set_cons_succ]
  refine wpAnyH_take (i := 5) (oi := { dst := some 77, op := Go.Op.load 49 (Go.Operand.tmp 76), type := 49, pos := "law.go:72", after := #[{ on := 4, ground := Go.Ground.data }], guard := none }) (v := (.int .u16 101)) rfl (by kernel_rfl) (by kernel_rfl) (by kernel_rfl) (fun _ _ _ h => h) (Or.inl ⟨by kernel_rfl, fun w hC => by (obtain ⟨e3, e5, e6, e7, e8⟩ := hC; go_simp)⟩) hS.out ?_
  simp only [Act.put, List.setIfInBounds_toArray, List.set_cons_zero, List.set_cons_succ]
  refine wpAnyH_take (i := 6) (oi := { dst := some 78, op := Go.Op.binOp Go.BinOp.sub 49 (Go.Operand.tmp 77) (Go.Operand.const (Go.Value.int Go.IntKind.u16 100)) 49, type := 49, pos := "law.go:72", after := #[{ on := 5, ground := Go.Ground.data }], guard := none }) (v := (.int .u16 1)) rfl (by kernel_rfl) (by kernel_rfl) (by kernel_rfl) (fun _ _ _ h => h) (Or.inl ⟨by kernel_rfl, fun w hC => by go_simp⟩) hS.out ?_
  simp only [Act.put, List.setIfInBounds_toArray, List.set_cons_zero, List.set_cons_succ]
  refine wpAnyH_ready (rs := [3]) (by kernel_rfl) (by simp) ?_
  refine AllReadyH.cons (o := { dst := some 75, op := Go.Op.buildSlice 23 5 #[(0, Go.Operand.const (Go.Value.int Go.IntKind.u8 4)), (1, Go.Operand.const (Go.Value.int Go.IntKind.u8 1)), (2, Go.Operand.const (Go.Value.int Go.IntKind.u8 2)), (3, Go.Operand.const (Go.Value.int Go.IntKind.u8 1)), (4, Go.Operand.const (Go.Value.int Go.IntKind.u8 2))], type := 23, pos := "law.go:72", after := #[], guard := none }) rfl (fun KK hKK => ?_) AllReadyH.nil
  go_simp
  obtain ⟨Y, hY⟩ : ∃ Y, (X.alloc (.cells #[.int .u8 4, .int .u8 1, .int .u8 2, .int .u8 1, .int .u8 2] 5)).drew = Y := ⟨_, rfl⟩
  have bY : Below X.heap.size X Y := hY ▸ (below_alloc X _).drew
  have cY : Y.cell? ⟨X.heap.size, 1, none⟩ = some (.int .u8 1) := by subst hY; show (X.alloc _).cell? _ = _; rw [cell_of_row _ _ _ _ _ _ (heap_alloc_new _ _)]; rfl
  try rw [hY]
  have HM := hide (HM.out.grow bY)
  have HZ := hide (HZ.out.grow bY)
  have HX := hide (HX.out.grow bY)
  have HB := hide (HB.out.carry bY)
  have HQX := hide (HQX.out.grow bY)
  have HBX := hide (below_one HBX.out bY)
  clear bY
  have hS : Hid (Y.cell? ⟨w.heap.size, 3, none⟩ = some (.int .u16 101) ∧ Y.cell? ⟨w.heap.size, 5, none⟩ = some (.int .u64 (m.p : Int)) ∧ Y.cell? ⟨w.heap.size, 6, none⟩ = some (.int .u32 (m.o : Int)) ∧ Y.cell? ⟨w.heap.size, 7, none⟩ = some (.int .u8 (m.r : Int)) ∧ Y.cell? ⟨w.heap.size, 8, none⟩ = some (.int .u64 (m.c : Int))) := ⟨by rw [HM.out.all.2.2.2.1, hopi], HM.out.all.2.2.2.2.2.1, HM.out.all.2.2.2.2.2.2.1, HM.out.all.2.2.2.2.2.2.2.1, HM.out.all.2.2.2.2.2.2.2.2.1⟩
  refine hKK.out _ _ hS.out (fun _ => ?_)
  clear hKK
  refine wpAnyH_take (i := 7) (oi := { dst := some 79, op := Go.Op.indexAddr 23 (Go.Operand.tmp 75) (Go.Operand.tmp 78), type := 0, pos := "law.go:72", after := #[{ on := 3, ground := Go.Ground.data }, { on := 6, ground := Go.Ground.data }], guard := none }) (v := (.pointer (some ⟨X.heap.size, 1, none⟩))) rfl (by kernel_rfl) (by kernel_rfl) (by kernel_rfl) (fun _ _ _ h => h) (Or.inl ⟨by kernel_rfl, fun w hC => by go_simp⟩) hS.out ?_
  simp only [Act.put, List.setIfInBounds_toArray, List.set_cons_zero, List.set_cons_succ]
  refine wpAnyH_ready (rs := [8]) (by kernel_rfl) (by simp) ?_
  refine AllReadyH.cons (o := { dst := some 80, op := Go.Op.load 5 (Go.Operand.tmp 79), type := 5, pos := "law.go:72", after := #[{ on := 7, ground := Go.Ground.data }], guard := none }) rfl (fun KK hKK => ?_) AllReadyH.nil
  go_simp
  have hS : Hid (Y.cell? ⟨w.heap.size, 3, none⟩ = some (.int .u16 101) ∧ Y.cell? ⟨w.heap.size, 5, none⟩ = some (.int .u64 (m.p : Int)) ∧ Y.cell? ⟨w.heap.size, 6, none⟩ = some (.int .u32 (m.o : Int)) ∧ Y.cell? ⟨w.heap.size, 7, none⟩ = some (.int .u8 (m.r : Int)) ∧ Y.cell? ⟨w.heap.size, 8, none⟩ = some (.int .u64 (m.c : Int))) := ⟨by rw [HM.out.all.2.2.2.1, hopi], HM.out.all.2.2.2.2.2.1, HM.out.all.2.2.2.2.2.2.1, HM.out.all.2.2.2.2.2.2.2.1, HM.out.all.2.2.2.2.2.2.2.2.1⟩
  refine hKK.out _ _ hS.out (fun _ => ?_)
  clear hKK
  refine wpAnyH_ready (rs := [9]) (by kernel_rfl) (by simp) ?_
  refine AllReadyH.cons (o := { dst := some 81, op := Go.Op.call { callee := Go.Callee.value (Go.Operand.func 33), args := #[Go.Operand.tmp 72, Go.Operand.tmp 74, Go.Operand.tmp 80], argTypes := #[26, 36, 5] }, type := 99, pos := "law.go:72", after := #[{ on := 0, ground := Go.Ground.data }, { on := 2, ground := Go.Ground.data }, { on := 8, ground := Go.Ground.data }], guard := none }) rfl (fun KK hKK => ?_) AllReadyH.nil
  go_simp
  refine (tb_check ⟨m.p, m.o, m.r, m.c⟩ 1 _ HX.out HQ.out.c (by omega) (by have := HLI.out.el; omega) K HK.out).mono ?_; rw [HER.out]; rintro e w2 ⟨rfl, E⟩
  have kh := HX.out.kh E
  have HM := hide (HM.out.kh kh)
  have HZ := hide (HZ.out.kh kh)
  have HB := hide (Bts.sv HB.out HQX.out.d HX.out E)
  have HQX : Hid (Okm w0 w2 m so sn) := ⟨HQX.out.c, HQX.out.o, HQX.out.a, HQX.out.n, HQX.out.d.kh kh⟩
  have HE := hide (E.from HBX.out)
  clear kh E
  have hS : Hid (w2.cell? ⟨w.heap.size, 3, none⟩ = some (.int .u16 101) ∧ w2.cell? ⟨w.heap.size, 5, none⟩ = some (.int .u64 (m.p : Int)) ∧ w2.cell? ⟨w.heap.size, 6, none⟩ = some (.int .u32 (m.o : Int)) ∧ w2.cell? ⟨w.heap.size, 7, none⟩ = some (.int .u8 (m.r : Int)) ∧ w2.cell? ⟨w.heap.size, 8, none⟩ = some (.int .u64 (m.c : Int))) := ⟨by rw [HM.out.all.2.2.2.1, hopi], HM.out.all.2.2.2.2.2.1, HM.out.all.2.2.2.2.2.2.1, HM.out.all.2.2.2.2.2.2.2.1, HM.out.all.2.2.2.2.2.2.2.2.1⟩
  refine hKK.out _ _ hS.out (fun _ => ?_)
  clear hKK
  refine wpAnyH_take (i := 10) (oi := { dst := some 71, op := Go.Op.move (Go.Operand.tmp 81), type := 99, pos := "law.go:72", after := #[{ on := 9, ground := Go.Ground.data }], guard := none }) (v := (.tuple #[.int .i64 (K.k : Int), er])) rfl (by kernel_rfl) (by kernel_rfl) (by kernel_rfl) (fun _ _ _ h => h) (Or.inl ⟨by kernel_rfl, fun w hC => by go_simp⟩) hS.out ?_
  simp only [Act.put, List.setIfInBounds_toArray, List.set_cons_zero, List.set_cons_succ]
  refine wpAnyH_take (i := 11) (oi := { dst := some 82, op := Go.Op.extract (Go.Operand.tmp 71) 0, type := 3, pos := "law.go:72", after := #[{ on := 10, ground := Go.Ground.data }], guard := none }) (v := (.int .i64 (K.k : Int))) rfl (by kernel_rfl) (by kernel_rfl) (by kernel_rfl) (fun _ _ _ h => h) (Or.inl ⟨by kernel_rfl, fun w hC => by go_simp⟩) hS.out ?_
  simp only [Act.put, List.setIfInBounds_toArray, List.set_cons_zero, List.set_cons_succ]
  refine wpAnyH_take (i := 12) (oi := { dst := some 83, op := Go.Op.extract (Go.Operand.tmp 71) 1, type := 38, pos := "law.go:72", after := #[{ on := 10, ground := Go.Ground.data }, { on := 13, ground := Go.Ground.gcOnly Go.Departure.lateStores }], guard := none }) (v := er) rfl (by kernel_rfl) (by kernel_rfl) (by kernel_rfl) (fun _ _ _ h => h) (Or.inl ⟨by kernel_rfl, fun w hC => by go_simp⟩) hS.out ?_
  simp only [Act.put, List.setIfInBounds_toArray, List.set_cons_zero, List.set_cons_succ]
  refine wpAnyH_take (i := 13) (oi := { dst := some 13, op := Go.Op.assign (Go.Operand.tmp 82), type := 3, pos := "law.go:72", after := #[{ on := 11, ground := Go.Ground.data }, { on := 9, ground := Go.Ground.chain }, { on := 0, ground := Go.Ground.phase }, { on := 1, ground := Go.Ground.phase }, { on := 2, ground := Go.Ground.phase }, { on := 3, ground := Go.Ground.phase }, { on := 4, ground := Go.Ground.phase }, { on := 5, ground := Go.Ground.phase }, { on := 6, ground := Go.Ground.phase }, { on := 7, ground := Go.Ground.phase }, { on := 8, ground := Go.Ground.phase }, { on := 9, ground := Go.Ground.phase }, { on := 10, ground := Go.Ground.phase }, { on := 11, ground := Go.Ground.phase }, { on := 12, ground := Go.Ground.textOnly Go.Departure.lateStores }], guard := none }) (v := (.int .i64 (K.k : Int))) rfl (by kernel_rfl) (by kernel_rfl) (by kernel_rfl) (fun _ _ _ h => h) (Or.inl ⟨by kernel_rfl, fun w hC => by go_simp⟩) hS.out ?_
  simp only [Act.put, List.setIfInBounds_toArray, List.set_cons_zero, List.set_cons_succ]
  refine wpAnyH_take (i := 14) (oi := { dst := some 14, op := Go.Op.assign (Go.Operand.tmp 83), type := 38, pos := "law.go:72", after := #[{ on := 12, ground := Go.Ground.data }, { on := 13, ground := Go.Ground.chain }, { on := 0, ground := Go.Ground.phase }, { on := 1, ground := Go.Ground.phase }, { on := 2, ground := Go.Ground.phase }, { on := 3, ground := Go.Ground.phase }, { on := 4, ground := Go.Ground.phase }, { on := 5, ground := Go.Ground.phase }, { on := 6, ground := Go.Ground.phase }, { on := 7, ground := Go.Ground.phase }, { on := 8, ground := Go.Ground.phase }, { on := 9, ground := Go.Ground.phase }, { on := 10, ground := Go.Ground.phase }, { on := 11, ground := Go.Ground.phase }, { on := 12, ground := Go.Ground.phase }, { on := 13, ground := Go.Ground.phase }], guard := none }) (v := er) rfl (by kernel_rfl) (by kernel_rfl) (by kernel_rfl) (fun _ _ _ h => h) (Or.inl ⟨by kernel_rfl, fun w hC => by go_simp⟩) hS.out ?_
  simp only [Act.put, List.setIfInBounds_toArray, List.set_cons_zero, List.set_cons_succ]
  refine wpAnyH_done (by kernel_rfl) ?_ _
  obtain rfl : er = .nilIface := by rw [← HER.out, H0.out]; rfl
  obtain ⟨v, dv, nv, S1, on1⟩ := SvEnd.run HE.out
  have HS1 := hide S1
  have HON := hide on1
  clear S1 on1
  obtain ⟨k0, k1, k2, k3, k4, k5, k6, k7, k8, k9, k10⟩ := HM.out.all
  rw [hopi] at k3
  go_wp2_with fail
  refine (tb_value (A := A.upd v dv nv) K.k vl _ HS1.out HH.out HVL.out).mono ?_; rintro e w3 ⟨rfl, hw3⟩; subst hw3
  obtain ⟨m2, h2⟩ : ∃ m2, (⟨m.rp, m.ta, m.id, m.op, 4, 0, 0, 0, 0, 0⟩ : Msg) = m2 := ⟨_, rfl⟩
  have hf := fun W (hM : MB W w.heap.size m (.slice so sn sc)) hW => wfail_any m (.slice so sn sc) (4) W hM (by omega) hW m2 h2
  rw [show erN (((4 : Nat)) : Int) = .iface 43 (.int .i64 4) from rfl] at hf
  have HF := hide hf
  clear hf
  go_wp2_with fail
  refine (HF.out _ HM.out (HE.out.glob HG.out)).mono ?_; rintro e w6 ⟨co2, cc2, rfl, B6, b6⟩
  have HB6 := hide B6
  have HZ6 := hide (HZ.out.grow b6)
  have HE6 := hide (HE.out.to b6)
  have HM2 : Hid (m2 = rplF m (badF (s.tab K.t K.es s.T) (4))) := by show _ = _; rw [rpl_bad, ← h2]
  clear B6 b6 h2 k0 k1 k2 k3 k4 k5 k6 k7 k8 k9 k10
  have HZL := hide (HZ6.out.lay (m := m2) (D := .slice co2 0 cc2))
  have f7 := foot_lay11 w6 (w.heap.size + 1) m2 (.slice co2 0 cc2)
  have HE7 := hide (HE6.out.msg HW0.out HZ6.out (by omega) f7)
  have HB7 : Hid (Bts (lay11 w6 (w.heap.size + 1) m2 (.slice co2 0 cc2)) co2 0 cc2 []) := bts_none HB6.out
  obtain ⟨w7, hw7⟩ : ∃ w7, lay11 w6 (w.heap.size + 1) m2 (.slice co2 0 cc2) = w7 := ⟨_, rfl⟩
  rw [hw7] at HZL HE7 HB7
  unfold lay11 at hw7
  clear f7
  obtain ⟨v0, v1, v2, v3, v4, v5, v6, v7, v8, v9, v10⟩ := HZL.out.all
  obtain ⟨z0, z1, z2, z3, z4, z5, z6, z7, z8, z9, z10⟩ := HZ6.out.all
  have x0 := HZ6.out.z 0
  have x1 := HZ6.out.z 1
  have x2 := HZ6.out.z 2
  have x3 := HZ6.out.z 3
  have x4 := HZ6.out.z 4
  have x5 := HZ6.out.z 5
  have x6 := HZ6.out.z 6
  have x7 := HZ6.out.z 7
  have x8 := HZ6.out.z 8
  have x9 := HZ6.out.z 9
  have x10 := HZ6.out.z 10
  go_wp2
  refine bodyPost_ret (by simp [results, Tryz.results19, go_sem, v0, v1, v2, v3, v4, v5, v6, v7, v8, v9, v10]; rfl) rfl ?_
  exact ⟨m2, co2, 0, cc2, HM2.out, rfl, by rw [dat_bad]; exact HB7.out, .inl (dat_bad _ _ _), HE7.out⟩
end
end Go.Proofs.YtpbkjmkdciiccaaGreatDoor
