/-
  What comes of a request (the server's part outcome), as a contract: a capability that may not be.
  What comes of a request (the server's part outcome), as a contract: Info.
  What comes of a request (the server's part outcome), as a contract: Touch.
  What comes of a request (the server's part outcome), as a contract: Restrict.
  What comes of a request (the server's part outcome), as a contract: Revoke.
  What comes of a request (the server's part outcome), as a contract: Destroy.
  What comes of a request (the server's part outcome), as a contract: the service's own.
  What Serve answers, and what it leaves, as a contract.
-/
import Derived.Test.YtjpgfldppepmiaaDoorJg
namespace Go.Proofs.YtjpgfldppepmiaaDoor
section
open Go.RowKit
variable {w0 w w1 w2 w' : World} {A A' : Ad} {p : Nat} {ws : List Nat} {s s' s1 : Hs} {r g sb : Nat}
set_option maxRecDepth 20000 in
set_option maxHeartbeats 6400000 in
theorem out_may (m : Msg) (so : Option Addr) (sn sc : Nat) (l : List UInt8) (w : World) (h : Sr w r A.g A.sb) (x : Sv w0 w A p ws s) (hc : (Cp.mk m.p m.o m.r m.c).ok) (hm : mayC ⟨m.p, m.o, m.r, m.c⟩ = false) :
    Calls Tryd.prog 28 #[.pointer (some ⟨r, 0, none⟩), .agg #[.int .u64 m.ta, .int .u64 m.rp, .int .u32 m.id, .int .u16 m.op, .int .u16 m.st, .int .u64 m.p, .int .u32 m.o, .int .u8 m.r, .int .u64 m.c, .int .u64 m.ar, .slice so sn sc]] w fun e w' => OutEnd w0 w A p ws (badF s 1) l e w' := by
  obtain ⟨X, hX, bm, br, bX⟩ := own_vars w m (.slice so sn sc)
  unfold resZ at hX
  have HS0 := hide (h.grow bX)
  have HX0 := hide (x.grow bX)
  have HM0 := hide bm
  have HR0 := hide br
  have HBX0 := hide bX
  have HW0 : Hid (w0.heap.size ≤ w.heap.size) := x.bel.size
  have HC := hide hc
  have HMY : Hid (decide (m.p ≤ 281474976710655 ∧ m.o ≤ 16777215 ∧ m.c ≤ 281474976710655) = false) := hm
  have hgm : w.heap.size < X.heap.size := lt_of_heap bm
  have HGR : Hid (w.heap.size + 1 < X.heap.size) := lt_of_heap br
  obtain ⟨k0, k1, k2, k3, k4, k5, k6, k7, k8, k9, k10⟩ := bm.all
  clear bm br bX h x hc hm
  go_enter Tryd.func28, Tryd.ntmps28
  go_wp2_with fail
  refine (whole_any HS0.out).mono ?_; rintro e w1 ⟨rfl, hw1⟩; subst hw1
  go_wp2_with fail
  refine (may_any m.p m.o m.r m.c _ HC.out.1 HC.out.2.1 HC.out.2.2.1 HC.out.2.2.2).mono ?_; rw [HMY.out]; rintro e w2 ⟨rfl, hw2⟩
  have b2 : Below w1.heap.size w1 w2 := hw2 ▸ below_alloc _ _
  have HS := hide (HS0.out.grow b2)
  have HX := hide (HX0.out.grow b2)
  have HM := hide (HM0.out.grow b2)
  have HR := hide (HR0.out.grow b2)
  have HBX := hide (below_one HBX0.out b2)
  have HGT : Hid (w.heap.size + 1 < w2.heap.size) := Nat.lt_of_lt_of_le HGR.out b2.size
  clear b2 hw2 hgm k0 k1 k2 k3 k4 k5 k6 k7 k8 k9 k10 HS0 HX0 HM0 HR0 HBX0 HGR
  have hX : True := trivial
  obtain ⟨y0, y1, y2, y3, y4, y5⟩ := HR.out.all
  have z0 := HR.out.z 0
  have z1 := HR.out.z 1
  have z2 := HR.out.z 2
  have z3 := HR.out.z 3
  have z4 := HR.out.z 4
  have z5 := HR.out.z 5
  simp only [Cp.zero, show (((0 : Nat)) : Int) = 0 from rfl] at y0 y1 y2 y3
  have HEN := hide (Sv.stay HX.out |>.from HBX.out)
  have HRZ := hide (HR.out.lay Cp.zero 0 (.slice none 0 0))
  have HEZ := hide (HEN.out.res HW0.out HR.out (by omega) (foot_lay6 w2 (w.heap.size + 1) Cp.zero 0 (.slice none 0 0)))
  obtain ⟨wz, hwz⟩ : ∃ wz, lay6 w2 (w.heap.size + 1) Cp.zero 0 (.slice none 0 0) = wz := ⟨_, rfl⟩
  rw [hwz] at HRZ HEZ
  unfold lay6 at hwz
  simp only [Cp.zero, show (((0 : Nat)) : Int) = 0 from rfl] at hwz
  obtain ⟨v0, v1, v2, v3, v4, v5⟩ := HRZ.out.all
  simp only [Cp.zero, show (((0 : Nat)) : Int) = 0 from rfl] at v0 v1 v2 v3 v4
  go_wp2
  refine bodyPost_ret (by simp [results, Tryd.results28, go_sem, v0, v1, v2, v3, v4, v5]; rfl) rfl ?_
  exact out_bad rfl HEZ.out
end
end Go.Proofs.YtjpgfldppepmiaaDoor
namespace Go.Proofs.YtjpgfldppepmiaaDoor
section
open Go.RowKit
variable {w0 w w1 w2 w' : World} {A A' : Ad} {p : Nat} {ws : List Nat} {s s' s1 : Hs} {r g sb : Nat}
set_option maxRecDepth 20000 in
set_option maxHeartbeats 6400000 in
theorem out_info (m : Msg) (so : Option Addr) (sn sc : Nat) (l : List UInt8) (w : World) (h : Sr w r A.g A.sb) (x : Sv w0 w A p ws s) (hc : (Cp.mk m.p m.o m.r m.c).ok) (hm : mayC ⟨m.p, m.o, m.r, m.c⟩ = true) (hop : m.op = 1) (hl : s.es.length ≤ 5000000000000) (K : Chk) (hK : chkF ws s.t s.es p s.T ⟨m.p, m.o, m.r, m.c⟩ 0 = K) (he : ∀ j, (s.T j).e ≤ 9223372036854775806) :
    Calls Tryd.prog 28 #[.pointer (some ⟨r, 0, none⟩), .agg #[.int .u64 m.ta, .int .u64 m.rp, .int .u32 m.id, .int .u16 m.op, .int .u16 m.st, .int .u64 m.p, .int .u32 m.o, .int .u8 m.r, .int .u64 m.c, .int .u64 m.ar, .slice so sn sc]] w fun e w' => OutEnd w0 w A p ws (infF s K) l e w' := by
  obtain ⟨X, hX, bm, br, bX⟩ := own_vars w m (.slice so sn sc)
  unfold resZ at hX
  have HS0 := hide (h.grow bX)
  have HX0 := hide (x.grow bX)
  have HM0 := hide bm
  have HR0 := hide br
  have HBX0 := hide bX
  have HW0 : Hid (w0.heap.size ≤ w.heap.size) := x.bel.size
  have HC := hide hc
  have HK := hide hK
  have HL := hide hl
  have HE := hide he
  have HMY : Hid (decide (m.p ≤ 281474976710655 ∧ m.o ≤ 16777215 ∧ m.c ≤ 281474976710655) = true) := hm
  have hgm : w.heap.size < X.heap.size := lt_of_heap bm
  have HGR : Hid (w.heap.size + 1 < X.heap.size) := lt_of_heap br
  have hopi : ((m.op : Int)) = 1 := by omega
  have HOP := hide hopi
  obtain ⟨Q, hQ⟩ : ∃ Q, infF s K = Q := ⟨_, rfl⟩
  have HQ := hide hQ
  have HZ : Hid (Q.c = Cp.zero ∧ Q.dt = false ∧ Q.e = K.e) := by subst hQ; exact ⟨rfl, rfl, rfl⟩
  obtain ⟨qa, hqa⟩ : ∃ qa, Q.ar = qa := ⟨_, rfl⟩
  have HQA := hide hqa
  obtain ⟨er, her⟩ : ∃ er, erN (Q.e : Int) = er := ⟨_, rfl⟩
  have HER := hide her
  rw [hQ]
  clear hQ hqa her
  obtain ⟨k0, k1, k2, k3, k4, k5, k6, k7, k8, k9, k10⟩ := bm.all
  clear bm br bX h x hc hm hK hl he hop hopi
  go_enter Tryd.func28, Tryd.ntmps28
  go_wp2_with fail
  refine (whole_any HS0.out).mono ?_; rintro e w1 ⟨rfl, hw1⟩; subst hw1
  go_wp2_with fail
  refine (may_any m.p m.o m.r m.c _ HC.out.1 HC.out.2.1 HC.out.2.2.1 HC.out.2.2.2).mono ?_; rw [HMY.out]; rintro e w2 ⟨rfl, hw2⟩
  have b2 : Below w1.heap.size w1 w2 := hw2 ▸ below_alloc _ _
  have HS := hide (HS0.out.grow b2)
  have HX := hide (HX0.out.grow b2)
  have HM := hide (HM0.out.grow b2)
  have HR := hide (HR0.out.grow b2)
  have HBX := hide (below_one HBX0.out b2)
  have HGT : Hid (w.heap.size + 1 < w2.heap.size) := Nat.lt_of_lt_of_le HGR.out b2.size
  clear b2 hw2 hgm k0 k1 k2 k3 k4 k5 k6 k7 k8 k9 k10 HS0 HX0 HM0 HR0 HBX0 HGR
  have hX : True := trivial
  obtain ⟨k0, k1, k2, k3, k4, k5, k6, k7, k8, k9, k10⟩ := HM.out.all
  rw [HOP.out] at k3
  go_wp2_with fail
  refine (srv_info ⟨m.p, m.o, m.r, m.c⟩ _ HS.out HX.out HC.out HL.out K HK.out HE.out).mono ?_; rw [HQ.out, HQA.out, HER.out]; rintro e w3 ⟨rfl, E⟩
  have kh := HX.out.kh E
  have HR3 := hide (HR.out.kh kh)
  have HEN := hide (E.from HBX.out)
  clear kh E k0 k1 k2 k3 k4 k5 k6 k7 k8 k9 k10
  obtain ⟨y0, y1, y2, y3, y4, y5⟩ := HR3.out.all
  have z0 := HR3.out.z 0
  have z1 := HR3.out.z 1
  have z2 := HR3.out.z 2
  have z3 := HR3.out.z 3
  have z4 := HR3.out.z 4
  have z5 := HR3.out.z 5
  simp only [Cp.zero, show (((0 : Nat)) : Int) = 0 from rfl] at y0 y1 y2 y3
  have HRZ := hide (HR3.out.lay Cp.zero (qa : Int) (.slice none 0 0))
  have HEZ := hide (HEN.out.res HW0.out HR3.out (by omega) (foot_lay6 w3 (w.heap.size + 1) Cp.zero (qa : Int) (.slice none 0 0)))
  obtain ⟨wz, hwz⟩ : ∃ wz, lay6 w3 (w.heap.size + 1) Cp.zero (qa : Int) (.slice none 0 0) = wz := ⟨_, rfl⟩
  rw [hwz] at HRZ HEZ
  unfold lay6 at hwz
  simp only [Cp.zero, show (((0 : Nat)) : Int) = 0 from rfl] at hwz
  obtain ⟨v0, v1, v2, v3, v4, v5⟩ := HRZ.out.all
  simp only [Cp.zero, show (((0 : Nat)) : Int) = 0 from rfl] at v0 v1 v2 v3
  go_wp2
  refine bodyPost_ret (by simp [results, Tryd.results28, go_sem, v0, v1, v2, v3, v4, v5]; rfl) rfl ?_
  refine ⟨none, 0, 0, ?_, ?_, new_none _, by omega, HEZ.out⟩
  · rw [HZ.out.1, HQA.out, HER.out]; rfl
  · rw [HZ.out.2.1]; exact bts_nil _
end
end Go.Proofs.YtjpgfldppepmiaaDoor
namespace Go.Proofs.YtjpgfldppepmiaaDoor
section
open Go.RowKit
variable {w0 w w1 w2 w' : World} {A A' : Ad} {p : Nat} {ws : List Nat} {s s' s1 : Hs} {r g sb : Nat}
set_option maxRecDepth 20000 in
set_option maxHeartbeats 6400000 in
theorem out_touch (m : Msg) (so : Option Addr) (sn sc : Nat) (l : List UInt8) (w : World) (h : Sr w r A.g A.sb) (x : Sv w0 w A p ws s) (hc : (Cp.mk m.p m.o m.r m.c).ok) (hm : mayC ⟨m.p, m.o, m.r, m.c⟩ = true) (hop : m.op = 2) (hl : s.es.length ≤ 5000000000000) (K : Chk) (hK : chkF ws s.t s.es p s.T ⟨m.p, m.o, m.r, m.c⟩ 0 = K) :
    Calls Tryd.prog 28 #[.pointer (some ⟨r, 0, none⟩), .agg #[.int .u64 m.ta, .int .u64 m.rp, .int .u32 m.id, .int .u16 m.op, .int .u16 m.st, .int .u64 m.p, .int .u32 m.o, .int .u8 m.r, .int .u64 m.c, .int .u64 m.ar, .slice so sn sc]] w fun e w' => OutEnd w0 w A p ws (badF (s.tab K.t K.es (touT s.T K)) K.e) l e w' := by
  obtain ⟨X, hX, bm, br, bX⟩ := own_vars w m (.slice so sn sc)
  unfold resZ at hX
  have HS0 := hide (h.grow bX)
  have HX0 := hide (x.grow bX)
  have HM0 := hide bm
  have HR0 := hide br
  have HBX0 := hide bX
  have HW0 : Hid (w0.heap.size ≤ w.heap.size) := x.bel.size
  have HC := hide hc
  have HK := hide hK
  have HL := hide hl
  have HMY : Hid (decide (m.p ≤ 281474976710655 ∧ m.o ≤ 16777215 ∧ m.c ≤ 281474976710655) = true) := hm
  have hgm : w.heap.size < X.heap.size := lt_of_heap bm
  have HGR : Hid (w.heap.size + 1 < X.heap.size) := lt_of_heap br
  have hopi : ((m.op : Int)) = 2 := by omega
  have HOP := hide hopi
  obtain ⟨k0, k1, k2, k3, k4, k5, k6, k7, k8, k9, k10⟩ := bm.all
  clear bm br bX h x hc hm hK hl hop hopi
  go_enter Tryd.func28, Tryd.ntmps28
  go_wp2_with fail
  refine (whole_any HS0.out).mono ?_; rintro e w1 ⟨rfl, hw1⟩; subst hw1
  go_wp2_with fail
  refine (may_any m.p m.o m.r m.c _ HC.out.1 HC.out.2.1 HC.out.2.2.1 HC.out.2.2.2).mono ?_; rw [HMY.out]; rintro e w2 ⟨rfl, hw2⟩
  have b2 : Below w1.heap.size w1 w2 := hw2 ▸ below_alloc _ _
  have HS := hide (HS0.out.grow b2)
  have HX := hide (HX0.out.grow b2)
  have HM := hide (HM0.out.grow b2)
  have HR := hide (HR0.out.grow b2)
  have HBX := hide (below_one HBX0.out b2)
  have HGT : Hid (w.heap.size + 1 < w2.heap.size) := Nat.lt_of_lt_of_le HGR.out b2.size
  clear b2 hw2 hgm k0 k1 k2 k3 k4 k5 k6 k7 k8 k9 k10 HS0 HX0 HM0 HR0 HBX0 HGR
  have hX : True := trivial
  obtain ⟨k0, k1, k2, k3, k4, k5, k6, k7, k8, k9, k10⟩ := HM.out.all
  rw [HOP.out] at k3
  obtain ⟨er, her⟩ : ∃ er, erN (K.e : Int) = er := ⟨_, rfl⟩
  have HER := hide her
  clear her
  go_wp2_with fail
  clear k0 k1 k2 k3 k4 k5 k6 k7 k8 k9 k10
  have hS : Hid (w2.drew.cell? ⟨r, 0, none⟩ = some (.pointer (some ⟨A.g, 0, none⟩)) ∧ w2.drew.cell? ⟨w.heap.size, 5, none⟩ = some (.int .u64 (m.p : Int)) ∧ w2.drew.cell? ⟨w.heap.size, 6, none⟩ = some (.int .u32 (m.o : Int)) ∧ w2.drew.cell? ⟨w.heap.size, 7, none⟩ = some (.int .u8 (m.r : Int)) ∧ w2.drew.cell? ⟨w.heap.size, 8, none⟩ = some (.int .u64 (m.c : Int)) ∧ w2.drew.cell? ⟨w.heap.size, 9, none⟩ = some (.int .u64 (m.ar : Int))) := ⟨HS.out.c0, HM.out.all.2.2.2.2.2.1, HM.out.all.2.2.2.2.2.2.1, HM.out.all.2.2.2.2.2.2.2.1, HM.out.all.2.2.2.2.2.2.2.2.1, HM.out.all.2.2.2.2.2.2.2.2.2.1⟩
  refine wp_region_held_drew (S := fun U => U.cell? ⟨r, 0, none⟩ = some (.pointer (some ⟨A.g, 0, none⟩)) ∧ U.cell? ⟨w.heap.size, 5, none⟩ = some (.int .u64 (m.p : Int)) ∧ U.cell? ⟨w.heap.size, 6, none⟩ = some (.int .u32 (m.o : Int)) ∧ U.cell? ⟨w.heap.size, 7, none⟩ = some (.int .u8 (m.r : Int)) ∧ U.cell? ⟨w.heap.size, 8, none⟩ = some (.int .u64 (m.c : Int)) ∧ U.cell? ⟨w.heap.size, 9, none⟩ = some (.int .u64 (m.ar : Int))) (by kernel_rfl) hS.out (fun _ => ?_)
  refine wpAnyH_take (i := 0) (oi := { dst := some 33, op := Op.build 90 #[], type := 90, pos := "skeleton.go:84", after := #[], guard := none }) (v := (.agg #[.int .u64 0, .int .u32 0, .int .u8 0, .int .u64 0, .int .u64 0, .slice none 0 0])) rfl (by kernel_rfl) (by kernel_rfl) (by kernel_rfl) (fun _ _ _ h => h) (Or.inl ⟨by kernel_rfl, fun w hC => by go_simp⟩) hS.out ?_
  simp only [Act.put, List.setIfInBounds_toArray, List.set_cons_zero, List.set_cons_succ]
  refine wpAnyH_take (i := 1) (oi := { dst := some 34, op := Op.move (Operand.tmp 0), type := 36, pos := "skeleton.go:84", after := #[], guard := none }) (v := (.pointer (some ⟨r, 0, none⟩))) rfl (by kernel_rfl) (by kernel_rfl) (by kernel_rfl) (fun _ _ _ h => h) (Or.inl ⟨by kernel_rfl, fun w hC => by go_simp⟩) hS.out ?_
  simp only [Act.put, List.setIfInBounds_toArray, List.set_cons_zero, List.set_cons_succ]
  refine wpAnyH_take (i := 2) (oi := { dst := some 35, op := Op.nilCheck (Operand.tmp 34), type := 0, pos := "skeleton.go:84", after := #[{ on := 1, ground := Ground.data }], guard := none }) (v := (.pointer (some ⟨r, 0, none⟩))) rfl (by kernel_rfl) (by kernel_rfl) (by kernel_rfl) (fun _ _ _ h => h) (Or.inl ⟨by kernel_rfl, fun w hC => by go_simp⟩) hS.out ?_
  simp only [Act.put, List.setIfInBounds_toArray, List.set_cons_zero, List.set_cons_succ]
  refine wpAnyH_take (i := 3) (oi := { dst := some 36, op := Op.fieldAddr 81 (Operand.tmp 35) 0, type := 0, pos := "skeleton.go:84", after := #[{ on := 2, ground := Ground.data }], guard := none }) (v := (.pointer (some ⟨r, 0, none⟩))) rfl (by kernel_rfl) (by kernel_rfl) (by kernel_rfl) (fun _ _ _ h => h) (Or.inl ⟨by kernel_rfl, fun w hC => by go_simp⟩) hS.out ?_
  simp only [Act.put, List.setIfInBounds_toArray, List.set_cons_zero, List.set_cons_succ]
  refine wpAnyH_take (i := 4) (oi := { dst := some 37, op := Op.load 25 (Operand.tmp 36), type := 25, pos := "skeleton.go:84", after := #[{ on := 3, ground := Ground.data }], guard := none }) (v := (.pointer (some ⟨A.g, 0, none⟩))) rfl (by kernel_rfl) (by kernel_rfl) (by kernel_rfl) (fun _ _ _ h => h) (Or.inl ⟨by kernel_rfl, fun w hC => by (obtain ⟨j0, j5, j6, j7, j8, j9⟩ := hC; go_simp)⟩) hS.out ?_
  simp only [Act.put, List.setIfInBounds_toArray, List.set_cons_zero, List.set_cons_succ]
  refine wpAnyH_take (i := 5) (oi := { dst := some 38, op := Op.fieldAddr 49 (Operand.tmp 3) 5, type := 0, pos := "skeleton.go:84", after := #[], guard := none }) (v := (.pointer (some ⟨w.heap.size, 5, none⟩))) rfl (by kernel_rfl) (by kernel_rfl) (by kernel_rfl) (fun _ _ _ h => h) (Or.inl ⟨by kernel_rfl, fun w hC => by go_simp⟩) hS.out ?_
  simp only [Act.put, List.setIfInBounds_toArray, List.set_cons_zero, List.set_cons_succ]
  refine wpAnyH_take (i := 6) (oi := { dst := some 39, op := Op.load 41 (Operand.tmp 38), type := 41, pos := "skeleton.go:84", after := #[{ on := 5, ground := Ground.data }], guard := none }) (v := (.agg #[.int .u64 (m.p : Int), .int .u32 (m.o : Int), .int .u8 (m.r : Int), .int .u64 (m.c : Int)])) rfl (by kernel_rfl) (by kernel_rfl) (by kernel_rfl) (fun _ _ _ h => h) (Or.inl ⟨by kernel_rfl, fun w hC => by (obtain ⟨j0, j5, j6, j7, j8, j9⟩ := hC; go_simp)⟩) hS.out ?_
  simp only [Act.put, List.setIfInBounds_toArray, List.set_cons_zero, List.set_cons_succ]
  refine wpAnyH_ready (rs := [7]) (by kernel_rfl) (by simp) ?_
  refine AllReadyH.cons (o := { dst := some 40, op := Op.call { callee := Callee.value (Operand.func 34), args := #[Operand.tmp 37, Operand.tmp 39], argTypes := #[25, 41] }, type := 43, pos := "skeleton.go:84", after := #[{ on := 4, ground := Ground.data }, { on := 6, ground := Ground.data }], guard := none }) rfl (fun KK hKK => ?_) AllReadyH.nil
  go_simp
  refine (tb_touch ⟨m.p, m.o, m.r, m.c⟩ _ (HX.out.drewN 1) HC.out HL.out K HK.out).mono ?_; rw [HER.out]; rintro e w3 ⟨rfl, E⟩
  have kx := (HX.out.drewN 1).kh E
  have HS3 := hide ((show Sr w2.drew r A.g A.sb from HS.out).kh kx)
  have HM3 := hide ((show MB w2.drew _ _ _ from HM.out).kh kx)
  have HR3 := hide ((show RB w2.drew _ _ _ _ from HR.out).kh kx)
  have HE3 := hide E
  clear kx E
  have hS : Hid (w3.cell? ⟨r, 0, none⟩ = some (.pointer (some ⟨A.g, 0, none⟩)) ∧ w3.cell? ⟨w.heap.size, 5, none⟩ = some (.int .u64 (m.p : Int)) ∧ w3.cell? ⟨w.heap.size, 6, none⟩ = some (.int .u32 (m.o : Int)) ∧ w3.cell? ⟨w.heap.size, 7, none⟩ = some (.int .u8 (m.r : Int)) ∧ w3.cell? ⟨w.heap.size, 8, none⟩ = some (.int .u64 (m.c : Int)) ∧ w3.cell? ⟨w.heap.size, 9, none⟩ = some (.int .u64 (m.ar : Int))) := ⟨HS3.out.c0, HM3.out.all.2.2.2.2.2.1, HM3.out.all.2.2.2.2.2.2.1, HM3.out.all.2.2.2.2.2.2.2.1, HM3.out.all.2.2.2.2.2.2.2.2.1, HM3.out.all.2.2.2.2.2.2.2.2.2.1⟩
  refine hKK.out _ _ hS.out (fun _ => ?_)
  clear hKK
  have HEN := hide (HE3.out.from (below_one HBX.out (below_d w2 1)))
  obtain ⟨y0, y1, y2, y3, y4, y5⟩ := HR3.out.all
  have z0 := HR3.out.z 0
  have z1 := HR3.out.z 1
  have z2 := HR3.out.z 2
  have z3 := HR3.out.z 3
  have z4 := HR3.out.z 4
  have z5 := HR3.out.z 5
  simp only [Cp.zero, show (((0 : Nat)) : Int) = 0 from rfl] at y0 y1 y2 y3
  have HRZ := hide (HR3.out.lay Cp.zero 0 (.slice none 0 0))
  have HEZ := hide (HEN.out.res HW0.out HR3.out (by omega) (foot_lay6 w3 (w.heap.size + 1) Cp.zero 0 (.slice none 0 0)))
  have HMZ := hide (HM3.out.foot (foot_lay6 w3 (w.heap.size + 1) Cp.zero 0 (.slice none 0 0)) (by show ¬ w.heap.size = w.heap.size + 1; omega))
  have HSZ := hide (HS3.out.foot (foot_lay6 w3 (w.heap.size + 1) Cp.zero 0 (.slice none 0 0)) (fun e => two_types HS3.out HR3.out (by decide) e))
  obtain ⟨wz, hwz⟩ : ∃ wz, lay6 w3 (w.heap.size + 1) Cp.zero 0 (.slice none 0 0) = wz := ⟨_, rfl⟩
  rw [hwz] at HRZ HEZ HMZ HSZ
  unfold lay6 at hwz
  simp only [Cp.zero, show (((0 : Nat)) : Int) = 0 from rfl] at hwz
  refine wpAnyH_ready (rs := [8]) (by kernel_rfl) (by simp) ?_
  refine AllReadyH.cons (o := { dst := none, op := Op.store 90 (Operand.tmp 4) (Operand.tmp 33), type := 0, pos := "skeleton.go:84", after := #[{ on := 0, ground := Ground.data }, { on := 7, ground := Ground.chain }, { on := 0, ground := Ground.phase }, { on := 1, ground := Ground.textOnly Departure.lateStores }, { on := 2, ground := Ground.textOnly Departure.lateStores }, { on := 3, ground := Ground.textOnly Departure.lateStores }, { on := 4, ground := Ground.textOnly Departure.lateStores }, { on := 5, ground := Ground.textOnly Departure.lateStores }, { on := 6, ground := Ground.textOnly Departure.lateStores }, { on := 7, ground := Ground.textOnly Departure.lateStoresUnsure }], guard := none }) rfl (fun KK hKK => ?_) AllReadyH.nil
  go_simp
  have hS : Hid (wz.cell? ⟨r, 0, none⟩ = some (.pointer (some ⟨A.g, 0, none⟩)) ∧ wz.cell? ⟨w.heap.size, 5, none⟩ = some (.int .u64 (m.p : Int)) ∧ wz.cell? ⟨w.heap.size, 6, none⟩ = some (.int .u32 (m.o : Int)) ∧ wz.cell? ⟨w.heap.size, 7, none⟩ = some (.int .u8 (m.r : Int)) ∧ wz.cell? ⟨w.heap.size, 8, none⟩ = some (.int .u64 (m.c : Int)) ∧ wz.cell? ⟨w.heap.size, 9, none⟩ = some (.int .u64 (m.ar : Int))) := ⟨HSZ.out.c0, HMZ.out.all.2.2.2.2.2.1, HMZ.out.all.2.2.2.2.2.2.1, HMZ.out.all.2.2.2.2.2.2.2.1, HMZ.out.all.2.2.2.2.2.2.2.2.1, HMZ.out.all.2.2.2.2.2.2.2.2.2.1⟩
  refine hKK.out _ _ hS.out (fun _ => ?_)
  clear hKK
  refine wpAnyH_take (i := 9) (oi := { dst := some 5, op := Op.assign (Operand.tmp 40), type := 43, pos := "skeleton.go:84", after := #[{ on := 7, ground := Ground.data }, { on := 8, ground := Ground.chain }, { on := 0, ground := Ground.phase }, { on := 1, ground := Ground.phase }, { on := 2, ground := Ground.phase }, { on := 3, ground := Ground.phase }, { on := 4, ground := Ground.phase }, { on := 5, ground := Ground.phase }, { on := 6, ground := Ground.phase }, { on := 7, ground := Ground.phase }, { on := 8, ground := Ground.phase }], guard := none }) (v := er) rfl (by kernel_rfl) (by kernel_rfl) (by kernel_rfl) (fun _ _ _ h => h) (Or.inl ⟨by kernel_rfl, fun w hC => by go_simp⟩) hS.out ?_
  simp only [Act.put, List.setIfInBounds_toArray, List.set_cons_zero, List.set_cons_succ]
  refine wpAnyH_done (by kernel_rfl) ?_ _
  obtain ⟨v0, v1, v2, v3, v4, v5⟩ := HRZ.out.all
  simp only [Cp.zero, show (((0 : Nat)) : Int) = 0 from rfl] at v0 v1 v2 v3 v4
  go_wp2
  refine bodyPost_ret (by simp [results, Tryd.results28, go_sem, v0, v1, v2, v3, v4, v5]; rfl) rfl ?_
  exact out_bad HER.out HEZ.out
end
end Go.Proofs.YtjpgfldppepmiaaDoor
namespace Go.Proofs.YtjpgfldppepmiaaDoor
section
open Go.RowKit
variable {w0 w w1 w2 w' : World} {A A' : Ad} {p : Nat} {ws : List Nat} {s s' s1 : Hs} {r g sb : Nat}
set_option maxRecDepth 20000 in
set_option maxHeartbeats 6400000 in
theorem out_restrict (m : Msg) (so : Option Addr) (sn sc : Nat) (l : List UInt8) (w : World) (h : Sr w r A.g A.sb) (x : Sv w0 w A p ws s) (hc : (Cp.mk m.p m.o m.r m.c).ok) (hm : mayC ⟨m.p, m.o, m.r, m.c⟩ = true) (hop : m.op = 3) (hl : s.es.length < 5000000000000) (R : Cre) (hR : resF ws s.t s.es p s.T ⟨m.p, m.o, m.r, m.c⟩ (m.ar % 256) = R) (ha : m.ar ≤ 18446744073709551615) :
    Calls Tryd.prog 28 #[.pointer (some ⟨r, 0, none⟩), .agg #[.int .u64 m.ta, .int .u64 m.rp, .int .u32 m.id, .int .u16 m.op, .int .u16 m.st, .int .u64 m.p, .int .u32 m.o, .int .u8 m.r, .int .u64 m.c, .int .u64 m.ar, .slice so sn sc]] w fun e w' => OutEnd w0 w A p ws (⟨R.e, R.c, 0, false, s.tab R.t R.es R.T⟩) l e w' := by
  obtain ⟨X, hX, bm, br, bX⟩ := own_vars w m (.slice so sn sc)
  unfold resZ at hX
  have HS0 := hide (h.grow bX)
  have HX0 := hide (x.grow bX)
  have HM0 := hide bm
  have HR0 := hide br
  have HBX0 := hide bX
  have HW0 : Hid (w0.heap.size ≤ w.heap.size) := x.bel.size
  have HC := hide hc
  have HRR := hide hR
  have HL := hide hl
  have HA := hide ha
  have HMY : Hid (decide (m.p ≤ 281474976710655 ∧ m.o ≤ 16777215 ∧ m.c ≤ 281474976710655) = true) := hm
  have hgm : w.heap.size < X.heap.size := lt_of_heap bm
  have HGR : Hid (w.heap.size + 1 < X.heap.size) := lt_of_heap br
  have hopi : ((m.op : Int)) = 3 := by omega
  have HOP := hide hopi
  obtain ⟨k0, k1, k2, k3, k4, k5, k6, k7, k8, k9, k10⟩ := bm.all
  clear bm br bX h x hc hm hR hl ha hop hopi
  go_enter Tryd.func28, Tryd.ntmps28
  go_wp2_with fail
  refine (whole_any HS0.out).mono ?_; rintro e w1 ⟨rfl, hw1⟩; subst hw1
  go_wp2_with fail
  refine (may_any m.p m.o m.r m.c _ HC.out.1 HC.out.2.1 HC.out.2.2.1 HC.out.2.2.2).mono ?_; rw [HMY.out]; rintro e w2 ⟨rfl, hw2⟩
  have b2 : Below w1.heap.size w1 w2 := hw2 ▸ below_alloc _ _
  have HS := hide (HS0.out.grow b2)
  have HX := hide (HX0.out.grow b2)
  have HM := hide (HM0.out.grow b2)
  have HR := hide (HR0.out.grow b2)
  have HBX := hide (below_one HBX0.out b2)
  have HGT : Hid (w.heap.size + 1 < w2.heap.size) := Nat.lt_of_lt_of_le HGR.out b2.size
  clear b2 hw2 hgm k0 k1 k2 k3 k4 k5 k6 k7 k8 k9 k10 HS0 HX0 HM0 HR0 HBX0 HGR
  have hX : True := trivial
  obtain ⟨k0, k1, k2, k3, k4, k5, k6, k7, k8, k9, k10⟩ := HM.out.all
  rw [HOP.out] at k3
  obtain ⟨er, her⟩ : ∃ er, erN (R.e : Int) = er := ⟨_, rfl⟩
  have HER := hide her
  obtain ⟨q1, q2, q3, q4, hq⟩ : ∃ q1 q2 q3 q4, R.c = ⟨q1, q2, q3, q4⟩ := ⟨_, _, _, _, rfl⟩
  have HQ := hide hq
  have HCV : Hid (R.c.val = .agg #[.int .u64 (q1 : Int), .int .u32 (q2 : Int), .int .u8 (q3 : Int), .int .u64 (q4 : Int)]) := by show R.c.val = _; rw [hq]; rfl
  clear her hq
  go_wp2_with fail
  clear k0 k1 k2 k3 k4 k5 k6 k7 k8 k9 k10
  have hu8 : IntKind.u8.wrap (m.ar : Int) = ((m.ar % 256 : Nat) : Int) := by rw [IntKind.wrap_u8]; omega
  have hS : Hid (w2.drew.cell? ⟨r, 0, none⟩ = some (.pointer (some ⟨A.g, 0, none⟩)) ∧ w2.drew.cell? ⟨w.heap.size, 5, none⟩ = some (.int .u64 (m.p : Int)) ∧ w2.drew.cell? ⟨w.heap.size, 6, none⟩ = some (.int .u32 (m.o : Int)) ∧ w2.drew.cell? ⟨w.heap.size, 7, none⟩ = some (.int .u8 (m.r : Int)) ∧ w2.drew.cell? ⟨w.heap.size, 8, none⟩ = some (.int .u64 (m.c : Int)) ∧ w2.drew.cell? ⟨w.heap.size, 9, none⟩ = some (.int .u64 (m.ar : Int))) := ⟨HS.out.c0, HM.out.all.2.2.2.2.2.1, HM.out.all.2.2.2.2.2.2.1, HM.out.all.2.2.2.2.2.2.2.1, HM.out.all.2.2.2.2.2.2.2.2.1, HM.out.all.2.2.2.2.2.2.2.2.2.1⟩
  refine wp_region_held_drew (S := fun U => U.cell? ⟨r, 0, none⟩ = some (.pointer (some ⟨A.g, 0, none⟩)) ∧ U.cell? ⟨w.heap.size, 5, none⟩ = some (.int .u64 (m.p : Int)) ∧ U.cell? ⟨w.heap.size, 6, none⟩ = some (.int .u32 (m.o : Int)) ∧ U.cell? ⟨w.heap.size, 7, none⟩ = some (.int .u8 (m.r : Int)) ∧ U.cell? ⟨w.heap.size, 8, none⟩ = some (.int .u64 (m.c : Int)) ∧ U.cell? ⟨w.heap.size, 9, none⟩ = some (.int .u64 (m.ar : Int))) (by kernel_rfl) hS.out (fun _ => ?_)
  refine wpAnyH_take (i := 0) (oi := { dst := some 44, op := Op.move (Operand.tmp 0), type := 36, pos := "skeleton.go:86", after := #[], guard := none }) (v := (.pointer (some ⟨r, 0, none⟩))) rfl (by kernel_rfl) (by kernel_rfl) (by kernel_rfl) (fun _ _ _ h => h) (Or.inl ⟨by kernel_rfl, fun w hC => by go_simp⟩) hS.out ?_
  simp only [Act.put, List.setIfInBounds_toArray, List.set_cons_zero, List.set_cons_succ]
  refine wpAnyH_take (i := 1) (oi := { dst := some 45, op := Op.nilCheck (Operand.tmp 44), type := 0, pos := "skeleton.go:86", after := #[{ on := 0, ground := Ground.data }], guard := none }) (v := (.pointer (some ⟨r, 0, none⟩))) rfl (by kernel_rfl) (by kernel_rfl) (by kernel_rfl) (fun _ _ _ h => h) (Or.inl ⟨by kernel_rfl, fun w hC => by go_simp⟩) hS.out ?_
  simp only [Act.put, List.setIfInBounds_toArray, List.set_cons_zero, List.set_cons_succ]
  refine wpAnyH_take (i := 2) (oi := { dst := some 46, op := Op.fieldAddr 81 (Operand.tmp 45) 0, type := 0, pos := "skeleton.go:86", after := #[{ on := 1, ground := Ground.data }], guard := none }) (v := (.pointer (some ⟨r, 0, none⟩))) rfl (by kernel_rfl) (by kernel_rfl) (by kernel_rfl) (fun _ _ _ h => h) (Or.inl ⟨by kernel_rfl, fun w hC => by go_simp⟩) hS.out ?_
  simp only [Act.put, List.setIfInBounds_toArray, List.set_cons_zero, List.set_cons_succ]
  refine wpAnyH_take (i := 3) (oi := { dst := some 47, op := Op.load 25 (Operand.tmp 46), type := 25, pos := "skeleton.go:86", after := #[{ on := 2, ground := Ground.data }], guard := none }) (v := (.pointer (some ⟨A.g, 0, none⟩))) rfl (by kernel_rfl) (by kernel_rfl) (by kernel_rfl) (fun _ _ _ h => h) (Or.inl ⟨by kernel_rfl, fun w hC => by (obtain ⟨j0, j5, j6, j7, j8, j9⟩ := hC; go_simp)⟩) hS.out ?_
  simp only [Act.put, List.setIfInBounds_toArray, List.set_cons_zero, List.set_cons_succ]
  refine wpAnyH_take (i := 4) (oi := { dst := some 48, op := Op.fieldAddr 49 (Operand.tmp 3) 5, type := 0, pos := "skeleton.go:86", after := #[], guard := none }) (v := (.pointer (some ⟨w.heap.size, 5, none⟩))) rfl (by kernel_rfl) (by kernel_rfl) (by kernel_rfl) (fun _ _ _ h => h) (Or.inl ⟨by kernel_rfl, fun w hC => by go_simp⟩) hS.out ?_
  simp only [Act.put, List.setIfInBounds_toArray, List.set_cons_zero, List.set_cons_succ]
  refine wpAnyH_take (i := 5) (oi := { dst := some 49, op := Op.load 41 (Operand.tmp 48), type := 41, pos := "skeleton.go:86", after := #[{ on := 4, ground := Ground.data }], guard := none }) (v := (.agg #[.int .u64 (m.p : Int), .int .u32 (m.o : Int), .int .u8 (m.r : Int), .int .u64 (m.c : Int)])) rfl (by kernel_rfl) (by kernel_rfl) (by kernel_rfl) (fun _ _ _ h => h) (Or.inl ⟨by kernel_rfl, fun w hC => by (obtain ⟨j0, j5, j6, j7, j8, j9⟩ := hC; go_simp)⟩) hS.out ?_
  simp only [Act.put, List.setIfInBounds_toArray, List.set_cons_zero, List.set_cons_succ]
  refine wpAnyH_take (i := 6) (oi := { dst := some 50, op := Op.fieldAddr 49 (Operand.tmp 3) 6, type := 0, pos := "skeleton.go:86", after := #[], guard := none }) (v := (.pointer (some ⟨w.heap.size, 9, none⟩))) rfl (by kernel_rfl) (by kernel_rfl) (by kernel_rfl) (fun _ _ _ h => h) (Or.inl ⟨by kernel_rfl, fun w hC => by go_simp⟩) hS.out ?_
  simp only [Act.put, List.setIfInBounds_toArray, List.set_cons_zero, List.set_cons_succ]
  refine wpAnyH_take (i := 7) (oi := { dst := some 51, op := Op.load 27 (Operand.tmp 50), type := 27, pos := "skeleton.go:86", after := #[{ on := 6, ground := Ground.data }], guard := none }) (v := (.int .u64 (m.ar : Int))) rfl (by kernel_rfl) (by kernel_rfl) (by kernel_rfl) (fun _ _ _ h => h) (Or.inl ⟨by kernel_rfl, fun w hC => by (obtain ⟨j0, j5, j6, j7, j8, j9⟩ := hC; go_simp)⟩) hS.out ?_
  simp only [Act.put, List.setIfInBounds_toArray, List.set_cons_zero, List.set_cons_succ]
  refine wpAnyH_take (i := 8) (oi := { dst := some 52, op := Op.convert 27 5 (Operand.tmp 51), type := 5, pos := "skeleton.go:86", after := #[{ on := 7, ground := Ground.data }], guard := none }) (v := (.int .u8 ((m.ar % 256 : Nat) : Int))) rfl (by kernel_rfl) (by kernel_rfl) (by kernel_rfl) (fun _ _ _ h => h) (Or.inl ⟨by kernel_rfl, fun w hC => by go_simp⟩) hS.out ?_
  simp only [Act.put, List.setIfInBounds_toArray, List.set_cons_zero, List.set_cons_succ]
  refine wpAnyH_ready (rs := [9, 13]) (by kernel_rfl) (by simp) ?_
  refine AllReadyH.cons (o := { dst := some 53, op := Op.call { callee := Callee.value (Operand.func 20), args := #[Operand.tmp 47, Operand.tmp 49, Operand.tmp 52], argTypes := #[25, 41, 5] }, type := 44, pos := "skeleton.go:86", after := #[{ on := 3, ground := Ground.data }, { on := 5, ground := Ground.data }, { on := 8, ground := Ground.data }], guard := none }) rfl (fun KK hKK => ?_) (AllReadyH.cons (o := { dst := some 6, op := Op.alloc 41, type := 0, pos := "skeleton.go:86", after := #[], guard := none }) rfl (fun KK hKK => ?_) AllReadyH.nil)
  · go_simp
    refine (tb_restrict ⟨m.p, m.o, m.r, m.c⟩ (m.ar % 256) _ (HX.out.drewN 1) HC.out (by omega) HL.out R HRR.out).mono ?_; rw [HER.out, HCV.out]; rintro e w3 ⟨rfl, E⟩
    have kx := (HX.out.drewN 1).kh E
    have HS3 := hide ((show Sr w2.drew r A.g A.sb from HS.out).kh kx)
    have HM3 := hide ((show MB w2.drew _ _ _ from HM.out).kh kx)
    have HR3 := hide ((show RB w2.drew _ _ _ _ from HR.out).kh kx)
    have HE3 := hide E
    clear kx E
    have HEN3 := hide (HE3.out.from (below_one HBX.out (below_d w2 1)))
    have hS : Hid (w3.cell? ⟨r, 0, none⟩ = some (.pointer (some ⟨A.g, 0, none⟩)) ∧ w3.cell? ⟨w.heap.size, 5, none⟩ = some (.int .u64 (m.p : Int)) ∧ w3.cell? ⟨w.heap.size, 6, none⟩ = some (.int .u32 (m.o : Int)) ∧ w3.cell? ⟨w.heap.size, 7, none⟩ = some (.int .u8 (m.r : Int)) ∧ w3.cell? ⟨w.heap.size, 8, none⟩ = some (.int .u64 (m.c : Int)) ∧ w3.cell? ⟨w.heap.size, 9, none⟩ = some (.int .u64 (m.ar : Int))) := ⟨HS3.out.c0, HM3.out.all.2.2.2.2.2.1, HM3.out.all.2.2.2.2.2.2.1, HM3.out.all.2.2.2.2.2.2.2.1, HM3.out.all.2.2.2.2.2.2.2.2.1, HM3.out.all.2.2.2.2.2.2.2.2.2.1⟩
    refine hKK.out _ _ hS.out (fun _ => ?_)
    clear hKK
    refine wpAnyH_take (i := 10) (oi := { dst := some 43, op := Op.move (Operand.tmp 53), type := 44, pos := "skeleton.go:86", after := #[{ on := 9, ground := Ground.data }], guard := none }) (v := (.tuple #[.agg #[.int .u64 (q1 : Int), .int .u32 (q2 : Int), .int .u8 (q3 : Int), .int .u64 (q4 : Int)], er])) rfl (by kernel_rfl) (by kernel_rfl) (by kernel_rfl) (fun _ _ _ h => h) (Or.inl ⟨by kernel_rfl, fun w hC => by go_simp⟩) hS.out ?_
    simp only [Act.put, List.setIfInBounds_toArray, List.set_cons_zero, List.set_cons_succ]
    refine wpAnyH_take (i := 11) (oi := { dst := some 54, op := Op.extract (Operand.tmp 43) 0, type := 41, pos := "skeleton.go:86", after := #[{ on := 10, ground := Ground.data }], guard := none }) (v := (.agg #[.int .u64 (q1 : Int), .int .u32 (q2 : Int), .int .u8 (q3 : Int), .int .u64 (q4 : Int)])) rfl (by kernel_rfl) (by kernel_rfl) (by kernel_rfl) (fun _ _ _ h => h) (Or.inl ⟨by kernel_rfl, fun w hC => by go_simp⟩) hS.out ?_
    simp only [Act.put, List.setIfInBounds_toArray, List.set_cons_zero, List.set_cons_succ]
    refine wpAnyH_take (i := 12) (oi := { dst := some 55, op := Op.extract (Operand.tmp 43) 1, type := 43, pos := "skeleton.go:86", after := #[{ on := 10, ground := Ground.data }, { on := 14, ground := Ground.gcOnly Departure.lateStores }], guard := none }) (v := er) rfl (by kernel_rfl) (by kernel_rfl) (by kernel_rfl) (fun _ _ _ h => h) (Or.inl ⟨by kernel_rfl, fun w hC => by go_simp⟩) hS.out ?_
    simp only [Act.put, List.setIfInBounds_toArray, List.set_cons_zero, List.set_cons_succ]
    obtain ⟨w4, hw4⟩ : ∃ w4, w3.alloc (.cells #[.int .u64 0, .int .u32 0, .int .u8 0, .int .u64 0] 41) = w4 := ⟨_, rfl⟩
    have b4 : Below w3.heap.size w3 w4 := hw4 ▸ below_alloc _ _
    have HC4 : Hid (CBox w4 w3.heap.size 0 0 0 0) := hw4 ▸ CBox.new w3 0 0 0 0
    have HS4 := hide (HS3.out.grow b4)
    have HM4 := hide (HM3.out.grow b4)
    have HR4 := hide (HR3.out.grow b4)
    have HEN4 := hide (HEN3.out.to b4)
    have HGC : Hid (w.heap.size ≤ w3.heap.size) := by show w.heap.size ≤ w3.heap.size; have := lt_of_heap HM3.out; omega
    clear b4
    refine wpAnyH_ready (rs := [13]) (by kernel_rfl) (by simp) ?_
    refine AllReadyH.cons (o := { dst := some 6, op := Op.alloc 41, type := 0, pos := "skeleton.go:86", after := #[], guard := none }) rfl (fun KK hKK => ?_) AllReadyH.nil
    go_simp
    have hS : Hid (w4.cell? ⟨r, 0, none⟩ = some (.pointer (some ⟨A.g, 0, none⟩)) ∧ w4.cell? ⟨w.heap.size, 5, none⟩ = some (.int .u64 (m.p : Int)) ∧ w4.cell? ⟨w.heap.size, 6, none⟩ = some (.int .u32 (m.o : Int)) ∧ w4.cell? ⟨w.heap.size, 7, none⟩ = some (.int .u8 (m.r : Int)) ∧ w4.cell? ⟨w.heap.size, 8, none⟩ = some (.int .u64 (m.c : Int)) ∧ w4.cell? ⟨w.heap.size, 9, none⟩ = some (.int .u64 (m.ar : Int))) := ⟨HS4.out.c0, HM4.out.all.2.2.2.2.2.1, HM4.out.all.2.2.2.2.2.2.1, HM4.out.all.2.2.2.2.2.2.2.1, HM4.out.all.2.2.2.2.2.2.2.2.1, HM4.out.all.2.2.2.2.2.2.2.2.2.1⟩
    refine hKK.out _ _ hS.out (fun _ => ?_)
    clear hKK
    clear hw4
    have f9 := foot4 w4 (w3.heap.size) (.int .u64 (q1 : Int)) (.int .u32 (q2 : Int)) (.int .u8 (q3 : Int)) (.int .u64 (q4 : Int))
    have HC9 := hide (put_box HC4.out q1 q2 q3 q4)
    have HR9 := hide (HR4.out.foot f9 (fun e => two_types HR4.out HC4.out (by decide) e))
    have HS9 := hide (HS4.out.foot f9 (fun e => two_types HS4.out HC4.out (by decide) e))
    have HM9 := hide (HM4.out.foot f9 (fun e => two_types HM4.out HC4.out (by decide) e))
    have HEN9 := hide (HEN4.out.cap HW0.out HC4.out HGC.out f9)
    have d0 := HC4.out.c0
    have d1 := HC4.out.c1
    have d2 := HC4.out.c2
    have d3 := HC4.out.c3
    have x0 := HC4.out.z
    clear f9
    obtain ⟨w9, hw9⟩ : ∃ w9, (((w4.setCell ⟨w3.heap.size, 0, none⟩ (.int .u64 (q1 : Int))).setCell ⟨w3.heap.size, 1, none⟩ (.int .u32 (q2 : Int))).setCell ⟨w3.heap.size, 2, none⟩ (.int .u8 (q3 : Int))).setCell ⟨w3.heap.size, 3, none⟩ (.int .u64 (q4 : Int)) = w9 := ⟨_, rfl⟩
    rw [hw9] at HC9 HR9 HS9 HM9 HEN9
    refine wpAnyH_ready (rs := [14]) (by kernel_rfl) (by simp) ?_
    refine AllReadyH.cons (o := { dst := none, op := Op.store 41 (Operand.tmp 6) (Operand.tmp 54), type := 0, pos := "skeleton.go:86", after := #[{ on := 13, ground := Ground.data }, { on := 11, ground := Ground.data }, { on := 9, ground := Ground.chain }, { on := 0, ground := Ground.phase }, { on := 1, ground := Ground.phase }, { on := 2, ground := Ground.phase }, { on := 3, ground := Ground.phase }, { on := 4, ground := Ground.phase }, { on := 5, ground := Ground.phase }, { on := 6, ground := Ground.phase }, { on := 7, ground := Ground.phase }, { on := 8, ground := Ground.phase }, { on := 9, ground := Ground.phase }, { on := 10, ground := Ground.phase }, { on := 11, ground := Ground.phase }, { on := 12, ground := Ground.textOnly Departure.lateStores }, { on := 13, ground := Ground.phase }], guard := none }) rfl (fun KK hKK => ?_) AllReadyH.nil
    go_simp
    have hS : Hid (w9.cell? ⟨r, 0, none⟩ = some (.pointer (some ⟨A.g, 0, none⟩)) ∧ w9.cell? ⟨w.heap.size, 5, none⟩ = some (.int .u64 (m.p : Int)) ∧ w9.cell? ⟨w.heap.size, 6, none⟩ = some (.int .u32 (m.o : Int)) ∧ w9.cell? ⟨w.heap.size, 7, none⟩ = some (.int .u8 (m.r : Int)) ∧ w9.cell? ⟨w.heap.size, 8, none⟩ = some (.int .u64 (m.c : Int)) ∧ w9.cell? ⟨w.heap.size, 9, none⟩ = some (.int .u64 (m.ar : Int))) := ⟨HS9.out.c0, HM9.out.all.2.2.2.2.2.1, HM9.out.all.2.2.2.2.2.2.1, HM9.out.all.2.2.2.2.2.2.2.1, HM9.out.all.2.2.2.2.2.2.2.2.1, HM9.out.all.2.2.2.2.2.2.2.2.2.1⟩
    refine hKK.out _ _ hS.out (fun _ => ?_)
    clear hKK
    clear d0 d1 d2 d3 x0 hw9
    refine wpAnyH_take (i := 15) (oi := { dst := some 7, op := Op.assign (Operand.tmp 55), type := 43, pos := "skeleton.go:86", after := #[{ on := 12, ground := Ground.data }, { on := 14, ground := Ground.chain }, { on := 0, ground := Ground.phase }, { on := 1, ground := Ground.phase }, { on := 2, ground := Ground.phase }, { on := 3, ground := Ground.phase }, { on := 4, ground := Ground.phase }, { on := 5, ground := Ground.phase }, { on := 6, ground := Ground.phase }, { on := 7, ground := Ground.phase }, { on := 8, ground := Ground.phase }, { on := 9, ground := Ground.phase }, { on := 10, ground := Ground.phase }, { on := 11, ground := Ground.phase }, { on := 12, ground := Ground.phase }, { on := 13, ground := Ground.phase }, { on := 14, ground := Ground.phase }], guard := none }) (v := er) rfl (by kernel_rfl) (by kernel_rfl) (by kernel_rfl) (fun _ _ _ h => h) (Or.inl ⟨by kernel_rfl, fun w hC => by go_simp⟩) hS.out ?_
    simp only [Act.put, List.setIfInBounds_toArray, List.set_cons_zero, List.set_cons_succ]
    refine wpAnyH_done (by kernel_rfl) ?_ _
    obtain ⟨c0, c1, c2, c3⟩ : w9.cell? ⟨w3.heap.size, 0, none⟩ = some (.int .u64 (q1 : Int)) ∧ w9.cell? ⟨w3.heap.size, 1, none⟩ = some (.int .u32 (q2 : Int)) ∧ w9.cell? ⟨w3.heap.size, 2, none⟩ = some (.int .u8 (q3 : Int)) ∧ w9.cell? ⟨w3.heap.size, 3, none⟩ = some (.int .u64 (q4 : Int)) := ⟨HC9.out.c0, HC9.out.c1, HC9.out.c2, HC9.out.c3⟩
    obtain ⟨y0, y1, y2, y3, y4, y5⟩ := HR9.out.all
    have z0 := HR9.out.z 0
    have z1 := HR9.out.z 1
    have z2 := HR9.out.z 2
    have z3 := HR9.out.z 3
    have z4 := HR9.out.z 4
    have z5 := HR9.out.z 5
    simp only [Cp.zero, show (((0 : Nat)) : Int) = 0 from rfl] at y0 y1 y2 y3
    have HRZ := hide (HR9.out.lay ⟨q1, q2, q3, q4⟩ 0 (.slice none 0 0))
    have HEZ := hide (HEN9.out.res HW0.out HR9.out (by omega) (foot_lay6 w9 (w.heap.size + 1) ⟨q1, q2, q3, q4⟩ 0 (.slice none 0 0)))
    obtain ⟨wz, hwz⟩ : ∃ wz, lay6 w9 (w.heap.size + 1) ⟨q1, q2, q3, q4⟩ 0 (.slice none 0 0) = wz := ⟨_, rfl⟩
    rw [hwz] at HRZ HEZ
    unfold lay6 at hwz
    obtain ⟨v0, v1, v2, v3, v4, v5⟩ := HRZ.out.all
    go_wp2
    refine bodyPost_ret (by simp [results, Tryd.results28, go_sem, v0, v1, v2, v3, v4, v5]; rfl) rfl ?_
    refine ⟨none, 0, 0, ?_, bts_nil _, new_none _, by omega, HEZ.out⟩
    simp only [HQ.out, HER.out]; rfl
  · obtain ⟨w4, hw4⟩ : ∃ w4, w2.drew.alloc (.cells #[.int .u64 0, .int .u32 0, .int .u8 0, .int .u64 0] 41) = w4 := ⟨_, rfl⟩
    have b4 : Below w2.drew.heap.size w2.drew w4 := hw4 ▸ below_alloc _ _
    have HC4 : Hid (CBox w4 w2.drew.heap.size 0 0 0 0) := hw4 ▸ CBox.new w2.drew 0 0 0 0
    have HS4 := hide ((show Sr w2.drew r A.g A.sb from HS.out).grow b4)
    have HM4 := hide ((show MB w2.drew _ _ _ from HM.out).grow b4)
    have HR4 := hide ((show RB w2.drew _ _ _ _ from HR.out).grow b4)
    have HX4 := hide ((HX.out.drewN 1).grow b4)
    have HB4 := hide (below_one (below_one HBX.out (below_d w2 1)) b4)
    have HGC : Hid (w.heap.size ≤ w2.drew.heap.size) := HBX.out.size
    clear b4
    go_simp
    have hS : Hid (w4.cell? ⟨r, 0, none⟩ = some (.pointer (some ⟨A.g, 0, none⟩)) ∧ w4.cell? ⟨w.heap.size, 5, none⟩ = some (.int .u64 (m.p : Int)) ∧ w4.cell? ⟨w.heap.size, 6, none⟩ = some (.int .u32 (m.o : Int)) ∧ w4.cell? ⟨w.heap.size, 7, none⟩ = some (.int .u8 (m.r : Int)) ∧ w4.cell? ⟨w.heap.size, 8, none⟩ = some (.int .u64 (m.c : Int)) ∧ w4.cell? ⟨w.heap.size, 9, none⟩ = some (.int .u64 (m.ar : Int))) := ⟨HS4.out.c0, HM4.out.all.2.2.2.2.2.1, HM4.out.all.2.2.2.2.2.2.1, HM4.out.all.2.2.2.2.2.2.2.1, HM4.out.all.2.2.2.2.2.2.2.2.1, HM4.out.all.2.2.2.2.2.2.2.2.2.1⟩
    refine hKK.out _ _ hS.out (fun _ => ?_)
    clear hKK hw4
    refine wpAnyH_ready (rs := [9]) (by kernel_rfl) (by simp) ?_
    refine AllReadyH.cons (o := { dst := some 53, op := Op.call { callee := Callee.value (Operand.func 20), args := #[Operand.tmp 47, Operand.tmp 49, Operand.tmp 52], argTypes := #[25, 41, 5] }, type := 44, pos := "skeleton.go:86", after := #[{ on := 3, ground := Ground.data }, { on := 5, ground := Ground.data }, { on := 8, ground := Ground.data }], guard := none }) rfl (fun KK hKK => ?_) AllReadyH.nil
    go_simp
    refine (tb_restrict ⟨m.p, m.o, m.r, m.c⟩ (m.ar % 256) _ HX4.out HC.out (by omega) HL.out R HRR.out).mono ?_; rw [HER.out, HCV.out]; rintro e w3 ⟨rfl, E⟩
    have kx := HX4.out.kh E
    have HC3 := hide (HC4.out.kh kx)
    have HS3 := hide ((show Sr w4 r A.g A.sb from HS4.out).kh kx)
    have HM3 := hide ((show MB w4 _ _ _ from HM4.out).kh kx)
    have HR3 := hide ((show RB w4 _ _ _ _ from HR4.out).kh kx)
    have HE3 := hide E
    clear kx E
    have HEN3 := hide (HE3.out.from HB4.out)
    have hS : Hid (w3.cell? ⟨r, 0, none⟩ = some (.pointer (some ⟨A.g, 0, none⟩)) ∧ w3.cell? ⟨w.heap.size, 5, none⟩ = some (.int .u64 (m.p : Int)) ∧ w3.cell? ⟨w.heap.size, 6, none⟩ = some (.int .u32 (m.o : Int)) ∧ w3.cell? ⟨w.heap.size, 7, none⟩ = some (.int .u8 (m.r : Int)) ∧ w3.cell? ⟨w.heap.size, 8, none⟩ = some (.int .u64 (m.c : Int)) ∧ w3.cell? ⟨w.heap.size, 9, none⟩ = some (.int .u64 (m.ar : Int))) := ⟨HS3.out.c0, HM3.out.all.2.2.2.2.2.1, HM3.out.all.2.2.2.2.2.2.1, HM3.out.all.2.2.2.2.2.2.2.1, HM3.out.all.2.2.2.2.2.2.2.2.1, HM3.out.all.2.2.2.2.2.2.2.2.2.1⟩
    refine hKK.out _ _ hS.out (fun _ => ?_)
    clear hKK
    refine wpAnyH_take (i := 10) (oi := { dst := some 43, op := Op.move (Operand.tmp 53), type := 44, pos := "skeleton.go:86", after := #[{ on := 9, ground := Ground.data }], guard := none }) (v := (.tuple #[.agg #[.int .u64 (q1 : Int), .int .u32 (q2 : Int), .int .u8 (q3 : Int), .int .u64 (q4 : Int)], er])) rfl (by kernel_rfl) (by kernel_rfl) (by kernel_rfl) (fun _ _ _ h => h) (Or.inl ⟨by kernel_rfl, fun w hC => by go_simp⟩) hS.out ?_
    simp only [Act.put, List.setIfInBounds_toArray, List.set_cons_zero, List.set_cons_succ]
    refine wpAnyH_take (i := 11) (oi := { dst := some 54, op := Op.extract (Operand.tmp 43) 0, type := 41, pos := "skeleton.go:86", after := #[{ on := 10, ground := Ground.data }], guard := none }) (v := (.agg #[.int .u64 (q1 : Int), .int .u32 (q2 : Int), .int .u8 (q3 : Int), .int .u64 (q4 : Int)])) rfl (by kernel_rfl) (by kernel_rfl) (by kernel_rfl) (fun _ _ _ h => h) (Or.inl ⟨by kernel_rfl, fun w hC => by go_simp⟩) hS.out ?_
    simp only [Act.put, List.setIfInBounds_toArray, List.set_cons_zero, List.set_cons_succ]
    refine wpAnyH_take (i := 12) (oi := { dst := some 55, op := Op.extract (Operand.tmp 43) 1, type := 43, pos := "skeleton.go:86", after := #[{ on := 10, ground := Ground.data }, { on := 14, ground := Ground.gcOnly Departure.lateStores }], guard := none }) (v := er) rfl (by kernel_rfl) (by kernel_rfl) (by kernel_rfl) (fun _ _ _ h => h) (Or.inl ⟨by kernel_rfl, fun w hC => by go_simp⟩) hS.out ?_
    simp only [Act.put, List.setIfInBounds_toArray, List.set_cons_zero, List.set_cons_succ]
    obtain ⟨gc, hgc⟩ : ∃ gc, w2.drew.heap.size = gc := ⟨_, rfl⟩
    have hgc2 : w2.heap.size = gc := hgc
    rw [hgc] at HC3 HGC
    try rw [hgc2]
    have f9 := foot4 w3 (gc) (.int .u64 (q1 : Int)) (.int .u32 (q2 : Int)) (.int .u8 (q3 : Int)) (.int .u64 (q4 : Int))
    have HC9 := hide (put_box HC3.out q1 q2 q3 q4)
    have HR9 := hide (HR3.out.foot f9 (fun e => two_types HR3.out HC3.out (by decide) e))
    have HS9 := hide (HS3.out.foot f9 (fun e => two_types HS3.out HC3.out (by decide) e))
    have HM9 := hide (HM3.out.foot f9 (fun e => two_types HM3.out HC3.out (by decide) e))
    have HEN9 := hide (HEN3.out.cap HW0.out HC3.out HGC.out f9)
    have d0 := HC3.out.c0
    have d1 := HC3.out.c1
    have d2 := HC3.out.c2
    have d3 := HC3.out.c3
    have x0 := HC3.out.z
    clear f9
    obtain ⟨w9, hw9⟩ : ∃ w9, (((w3.setCell ⟨gc, 0, none⟩ (.int .u64 (q1 : Int))).setCell ⟨gc, 1, none⟩ (.int .u32 (q2 : Int))).setCell ⟨gc, 2, none⟩ (.int .u8 (q3 : Int))).setCell ⟨gc, 3, none⟩ (.int .u64 (q4 : Int)) = w9 := ⟨_, rfl⟩
    rw [hw9] at HC9 HR9 HS9 HM9 HEN9
    refine wpAnyH_ready (rs := [14]) (by kernel_rfl) (by simp) ?_
    refine AllReadyH.cons (o := { dst := none, op := Op.store 41 (Operand.tmp 6) (Operand.tmp 54), type := 0, pos := "skeleton.go:86", after := #[{ on := 13, ground := Ground.data }, { on := 11, ground := Ground.data }, { on := 9, ground := Ground.chain }, { on := 0, ground := Ground.phase }, { on := 1, ground := Ground.phase }, { on := 2, ground := Ground.phase }, { on := 3, ground := Ground.phase }, { on := 4, ground := Ground.phase }, { on := 5, ground := Ground.phase }, { on := 6, ground := Ground.phase }, { on := 7, ground := Ground.phase }, { on := 8, ground := Ground.phase }, { on := 9, ground := Ground.phase }, { on := 10, ground := Ground.phase }, { on := 11, ground := Ground.phase }, { on := 12, ground := Ground.textOnly Departure.lateStores }, { on := 13, ground := Ground.phase }], guard := none }) rfl (fun KK hKK => ?_) AllReadyH.nil
    go_simp
    have hS : Hid (w9.cell? ⟨r, 0, none⟩ = some (.pointer (some ⟨A.g, 0, none⟩)) ∧ w9.cell? ⟨w.heap.size, 5, none⟩ = some (.int .u64 (m.p : Int)) ∧ w9.cell? ⟨w.heap.size, 6, none⟩ = some (.int .u32 (m.o : Int)) ∧ w9.cell? ⟨w.heap.size, 7, none⟩ = some (.int .u8 (m.r : Int)) ∧ w9.cell? ⟨w.heap.size, 8, none⟩ = some (.int .u64 (m.c : Int)) ∧ w9.cell? ⟨w.heap.size, 9, none⟩ = some (.int .u64 (m.ar : Int))) := ⟨HS9.out.c0, HM9.out.all.2.2.2.2.2.1, HM9.out.all.2.2.2.2.2.2.1, HM9.out.all.2.2.2.2.2.2.2.1, HM9.out.all.2.2.2.2.2.2.2.2.1, HM9.out.all.2.2.2.2.2.2.2.2.2.1⟩
    refine hKK.out _ _ hS.out (fun _ => ?_)
    clear hKK
    clear d0 d1 d2 d3 x0 hw9
    refine wpAnyH_take (i := 15) (oi := { dst := some 7, op := Op.assign (Operand.tmp 55), type := 43, pos := "skeleton.go:86", after := #[{ on := 12, ground := Ground.data }, { on := 14, ground := Ground.chain }, { on := 0, ground := Ground.phase }, { on := 1, ground := Ground.phase }, { on := 2, ground := Ground.phase }, { on := 3, ground := Ground.phase }, { on := 4, ground := Ground.phase }, { on := 5, ground := Ground.phase }, { on := 6, ground := Ground.phase }, { on := 7, ground := Ground.phase }, { on := 8, ground := Ground.phase }, { on := 9, ground := Ground.phase }, { on := 10, ground := Ground.phase }, { on := 11, ground := Ground.phase }, { on := 12, ground := Ground.phase }, { on := 13, ground := Ground.phase }, { on := 14, ground := Ground.phase }], guard := none }) (v := er) rfl (by kernel_rfl) (by kernel_rfl) (by kernel_rfl) (fun _ _ _ h => h) (Or.inl ⟨by kernel_rfl, fun w hC => by go_simp⟩) hS.out ?_
    simp only [Act.put, List.setIfInBounds_toArray, List.set_cons_zero, List.set_cons_succ]
    refine wpAnyH_done (by kernel_rfl) ?_ _
    obtain ⟨c0, c1, c2, c3⟩ : w9.cell? ⟨gc, 0, none⟩ = some (.int .u64 (q1 : Int)) ∧ w9.cell? ⟨gc, 1, none⟩ = some (.int .u32 (q2 : Int)) ∧ w9.cell? ⟨gc, 2, none⟩ = some (.int .u8 (q3 : Int)) ∧ w9.cell? ⟨gc, 3, none⟩ = some (.int .u64 (q4 : Int)) := ⟨HC9.out.c0, HC9.out.c1, HC9.out.c2, HC9.out.c3⟩
    obtain ⟨y0, y1, y2, y3, y4, y5⟩ := HR9.out.all
    have z0 := HR9.out.z 0
    have z1 := HR9.out.z 1
    have z2 := HR9.out.z 2
    have z3 := HR9.out.z 3
    have z4 := HR9.out.z 4
    have z5 := HR9.out.z 5
    simp only [Cp.zero, show (((0 : Nat)) : Int) = 0 from rfl] at y0 y1 y2 y3
    have HRZ := hide (HR9.out.lay ⟨q1, q2, q3, q4⟩ 0 (.slice none 0 0))
    have HEZ := hide (HEN9.out.res HW0.out HR9.out (by omega) (foot_lay6 w9 (w.heap.size + 1) ⟨q1, q2, q3, q4⟩ 0 (.slice none 0 0)))
    obtain ⟨wz, hwz⟩ : ∃ wz, lay6 w9 (w.heap.size + 1) ⟨q1, q2, q3, q4⟩ 0 (.slice none 0 0) = wz := ⟨_, rfl⟩
    rw [hwz] at HRZ HEZ
    unfold lay6 at hwz
    obtain ⟨v0, v1, v2, v3, v4, v5⟩ := HRZ.out.all
    go_wp2
    refine bodyPost_ret (by simp [results, Tryd.results28, go_sem, v0, v1, v2, v3, v4, v5]; rfl) rfl ?_
    refine ⟨none, 0, 0, ?_, bts_nil _, new_none _, by omega, HEZ.out⟩
    simp only [HQ.out, HER.out]; rfl
end
end Go.Proofs.YtjpgfldppepmiaaDoor
namespace Go.Proofs.YtjpgfldppepmiaaDoor
section
open Go.RowKit
variable {w0 w w1 w2 w' : World} {A A' : Ad} {p : Nat} {ws : List Nat} {s s' s1 : Hs} {r g sb : Nat}
set_option maxRecDepth 20000 in
set_option maxHeartbeats 6400000 in
theorem out_revoke (m : Msg) (so : Option Addr) (sn sc : Nat) (l : List UInt8) (w : World) (h : Sr w r A.g A.sb) (x : Sv w0 w A p ws s) (hc : (Cp.mk m.p m.o m.r m.c).ok) (hm : mayC ⟨m.p, m.o, m.r, m.c⟩ = true) (hop : m.op = 4) (hl : s.es.length < 5000000000000) (R : Cre) (hR : revF ws s.t s.es p s.T ⟨m.p, m.o, m.r, m.c⟩ = R) (he : ∀ j, (s.T j).e ≤ 9223372036854775806) :
    Calls Tryd.prog 28 #[.pointer (some ⟨r, 0, none⟩), .agg #[.int .u64 m.ta, .int .u64 m.rp, .int .u32 m.id, .int .u16 m.op, .int .u16 m.st, .int .u64 m.p, .int .u32 m.o, .int .u8 m.r, .int .u64 m.c, .int .u64 m.ar, .slice so sn sc]] w fun e w' => OutEnd w0 w A p ws (⟨R.e, R.c, 0, false, s.tab R.t R.es R.T⟩) l e w' := by
  obtain ⟨X, hX, bm, br, bX⟩ := own_vars w m (.slice so sn sc)
  unfold resZ at hX
  have HS0 := hide (h.grow bX)
  have HX0 := hide (x.grow bX)
  have HM0 := hide bm
  have HR0 := hide br
  have HBX0 := hide bX
  have HW0 : Hid (w0.heap.size ≤ w.heap.size) := x.bel.size
  have HC := hide hc
  have HRR := hide hR
  have HL := hide hl
  have HE := hide he
  have HMY : Hid (decide (m.p ≤ 281474976710655 ∧ m.o ≤ 16777215 ∧ m.c ≤ 281474976710655) = true) := hm
  have hgm : w.heap.size < X.heap.size := lt_of_heap bm
  have HGR : Hid (w.heap.size + 1 < X.heap.size) := lt_of_heap br
  have hopi : ((m.op : Int)) = 4 := by omega
  have HOP := hide hopi
  obtain ⟨k0, k1, k2, k3, k4, k5, k6, k7, k8, k9, k10⟩ := bm.all
  clear bm br bX h x hc hm hR hl he hop hopi
  go_enter Tryd.func28, Tryd.ntmps28
  go_wp2_with fail
  refine (whole_any HS0.out).mono ?_; rintro e w1 ⟨rfl, hw1⟩; subst hw1
  go_wp2_with fail
  refine (may_any m.p m.o m.r m.c _ HC.out.1 HC.out.2.1 HC.out.2.2.1 HC.out.2.2.2).mono ?_; rw [HMY.out]; rintro e w2 ⟨rfl, hw2⟩
  have b2 : Below w1.heap.size w1 w2 := hw2 ▸ below_alloc _ _
  have HS := hide (HS0.out.grow b2)
  have HX := hide (HX0.out.grow b2)
  have HM := hide (HM0.out.grow b2)
  have HR := hide (HR0.out.grow b2)
  have HBX := hide (below_one HBX0.out b2)
  have HGT : Hid (w.heap.size + 1 < w2.heap.size) := Nat.lt_of_lt_of_le HGR.out b2.size
  clear b2 hw2 hgm k0 k1 k2 k3 k4 k5 k6 k7 k8 k9 k10 HS0 HX0 HM0 HR0 HBX0 HGR
  have hX : True := trivial
  obtain ⟨k0, k1, k2, k3, k4, k5, k6, k7, k8, k9, k10⟩ := HM.out.all
  rw [HOP.out] at k3
  obtain ⟨er, her⟩ : ∃ er, erN (R.e : Int) = er := ⟨_, rfl⟩
  have HER := hide her
  obtain ⟨q1, q2, q3, q4, hq⟩ : ∃ q1 q2 q3 q4, R.c = ⟨q1, q2, q3, q4⟩ := ⟨_, _, _, _, rfl⟩
  have HQ := hide hq
  have HCV : Hid (R.c.val = .agg #[.int .u64 (q1 : Int), .int .u32 (q2 : Int), .int .u8 (q3 : Int), .int .u64 (q4 : Int)]) := by show R.c.val = _; rw [hq]; rfl
  clear her hq
  go_wp2_with fail
  clear k0 k1 k2 k3 k4 k5 k6 k7 k8 k9 k10
  have hS : Hid (w2.drew.cell? ⟨r, 0, none⟩ = some (.pointer (some ⟨A.g, 0, none⟩)) ∧ w2.drew.cell? ⟨w.heap.size, 5, none⟩ = some (.int .u64 (m.p : Int)) ∧ w2.drew.cell? ⟨w.heap.size, 6, none⟩ = some (.int .u32 (m.o : Int)) ∧ w2.drew.cell? ⟨w.heap.size, 7, none⟩ = some (.int .u8 (m.r : Int)) ∧ w2.drew.cell? ⟨w.heap.size, 8, none⟩ = some (.int .u64 (m.c : Int)) ∧ w2.drew.cell? ⟨w.heap.size, 9, none⟩ = some (.int .u64 (m.ar : Int))) := ⟨HS.out.c0, HM.out.all.2.2.2.2.2.1, HM.out.all.2.2.2.2.2.2.1, HM.out.all.2.2.2.2.2.2.2.1, HM.out.all.2.2.2.2.2.2.2.2.1, HM.out.all.2.2.2.2.2.2.2.2.2.1⟩
  refine wp_region_held_drew (S := fun U => U.cell? ⟨r, 0, none⟩ = some (.pointer (some ⟨A.g, 0, none⟩)) ∧ U.cell? ⟨w.heap.size, 5, none⟩ = some (.int .u64 (m.p : Int)) ∧ U.cell? ⟨w.heap.size, 6, none⟩ = some (.int .u32 (m.o : Int)) ∧ U.cell? ⟨w.heap.size, 7, none⟩ = some (.int .u8 (m.r : Int)) ∧ U.cell? ⟨w.heap.size, 8, none⟩ = some (.int .u64 (m.c : Int)) ∧ U.cell? ⟨w.heap.size, 9, none⟩ = some (.int .u64 (m.ar : Int))) (by kernel_rfl) hS.out (fun _ => ?_)
  refine wpAnyH_take (i := 0) (oi := { dst := some 62, op := Op.move (Operand.tmp 0), type := 36, pos := "skeleton.go:89", after := #[], guard := none }) (v := (.pointer (some ⟨r, 0, none⟩))) rfl (by kernel_rfl) (by kernel_rfl) (by kernel_rfl) (fun _ _ _ h => h) (Or.inl ⟨by kernel_rfl, fun w hC => by go_simp⟩) hS.out ?_
  simp only [Act.put, List.setIfInBounds_toArray, List.set_cons_zero, List.set_cons_succ]
  refine wpAnyH_take (i := 1) (oi := { dst := some 63, op := Op.nilCheck (Operand.tmp 62), type := 0, pos := "skeleton.go:89", after := #[{ on := 0, ground := Ground.data }], guard := none }) (v := (.pointer (some ⟨r, 0, none⟩))) rfl (by kernel_rfl) (by kernel_rfl) (by kernel_rfl) (fun _ _ _ h => h) (Or.inl ⟨by kernel_rfl, fun w hC => by go_simp⟩) hS.out ?_
  simp only [Act.put, List.setIfInBounds_toArray, List.set_cons_zero, List.set_cons_succ]
  refine wpAnyH_take (i := 2) (oi := { dst := some 64, op := Op.fieldAddr 81 (Operand.tmp 63) 0, type := 0, pos := "skeleton.go:89", after := #[{ on := 1, ground := Ground.data }], guard := none }) (v := (.pointer (some ⟨r, 0, none⟩))) rfl (by kernel_rfl) (by kernel_rfl) (by kernel_rfl) (fun _ _ _ h => h) (Or.inl ⟨by kernel_rfl, fun w hC => by go_simp⟩) hS.out ?_
  simp only [Act.put, List.setIfInBounds_toArray, List.set_cons_zero, List.set_cons_succ]
  refine wpAnyH_take (i := 3) (oi := { dst := some 65, op := Op.load 25 (Operand.tmp 64), type := 25, pos := "skeleton.go:89", after := #[{ on := 2, ground := Ground.data }], guard := none }) (v := (.pointer (some ⟨A.g, 0, none⟩))) rfl (by kernel_rfl) (by kernel_rfl) (by kernel_rfl) (fun _ _ _ h => h) (Or.inl ⟨by kernel_rfl, fun w hC => by (obtain ⟨j0, j5, j6, j7, j8, j9⟩ := hC; go_simp)⟩) hS.out ?_
  simp only [Act.put, List.setIfInBounds_toArray, List.set_cons_zero, List.set_cons_succ]
  refine wpAnyH_take (i := 4) (oi := { dst := some 66, op := Op.fieldAddr 49 (Operand.tmp 3) 5, type := 0, pos := "skeleton.go:89", after := #[], guard := none }) (v := (.pointer (some ⟨w.heap.size, 5, none⟩))) rfl (by kernel_rfl) (by kernel_rfl) (by kernel_rfl) (fun _ _ _ h => h) (Or.inl ⟨by kernel_rfl, fun w hC => by go_simp⟩) hS.out ?_
  simp only [Act.put, List.setIfInBounds_toArray, List.set_cons_zero, List.set_cons_succ]
  refine wpAnyH_take (i := 5) (oi := { dst := some 67, op := Op.load 41 (Operand.tmp 66), type := 41, pos := "skeleton.go:89", after := #[{ on := 4, ground := Ground.data }], guard := none }) (v := (.agg #[.int .u64 (m.p : Int), .int .u32 (m.o : Int), .int .u8 (m.r : Int), .int .u64 (m.c : Int)])) rfl (by kernel_rfl) (by kernel_rfl) (by kernel_rfl) (fun _ _ _ h => h) (Or.inl ⟨by kernel_rfl, fun w hC => by (obtain ⟨j0, j5, j6, j7, j8, j9⟩ := hC; go_simp)⟩) hS.out ?_
  simp only [Act.put, List.setIfInBounds_toArray, List.set_cons_zero, List.set_cons_succ]
  refine wpAnyH_ready (rs := [6, 10]) (by kernel_rfl) (by simp) ?_
  refine AllReadyH.cons (o := { dst := some 68, op := Op.call { callee := Callee.value (Operand.func 35), args := #[Operand.tmp 65, Operand.tmp 67], argTypes := #[25, 41] }, type := 44, pos := "skeleton.go:89", after := #[{ on := 3, ground := Ground.data }, { on := 5, ground := Ground.data }], guard := none }) rfl (fun KK hKK => ?_) (AllReadyH.cons (o := { dst := some 8, op := Op.alloc 41, type := 0, pos := "skeleton.go:89", after := #[], guard := none }) rfl (fun KK hKK => ?_) AllReadyH.nil)
  · go_simp
    refine (tb_revoke ⟨m.p, m.o, m.r, m.c⟩ _ (HX.out.drewN 1) HC.out HL.out HE.out R HRR.out).mono ?_; rw [HER.out, HCV.out]; rintro e w3 ⟨rfl, E⟩
    have kx := (HX.out.drewN 1).kh E
    have HS3 := hide ((show Sr w2.drew r A.g A.sb from HS.out).kh kx)
    have HM3 := hide ((show MB w2.drew _ _ _ from HM.out).kh kx)
    have HR3 := hide ((show RB w2.drew _ _ _ _ from HR.out).kh kx)
    have HE3 := hide E
    clear kx E
    have HEN3 := hide (HE3.out.from (below_one HBX.out (below_d w2 1)))
    have hS : Hid (w3.cell? ⟨r, 0, none⟩ = some (.pointer (some ⟨A.g, 0, none⟩)) ∧ w3.cell? ⟨w.heap.size, 5, none⟩ = some (.int .u64 (m.p : Int)) ∧ w3.cell? ⟨w.heap.size, 6, none⟩ = some (.int .u32 (m.o : Int)) ∧ w3.cell? ⟨w.heap.size, 7, none⟩ = some (.int .u8 (m.r : Int)) ∧ w3.cell? ⟨w.heap.size, 8, none⟩ = some (.int .u64 (m.c : Int)) ∧ w3.cell? ⟨w.heap.size, 9, none⟩ = some (.int .u64 (m.ar : Int))) := ⟨HS3.out.c0, HM3.out.all.2.2.2.2.2.1, HM3.out.all.2.2.2.2.2.2.1, HM3.out.all.2.2.2.2.2.2.2.1, HM3.out.all.2.2.2.2.2.2.2.2.1, HM3.out.all.2.2.2.2.2.2.2.2.2.1⟩
    refine hKK.out _ _ hS.out (fun _ => ?_)
    clear hKK
    refine wpAnyH_take (i := 7) (oi := { dst := some 61, op := Op.move (Operand.tmp 68), type := 44, pos := "skeleton.go:89", after := #[{ on := 6, ground := Ground.data }], guard := none }) (v := (.tuple #[.agg #[.int .u64 (q1 : Int), .int .u32 (q2 : Int), .int .u8 (q3 : Int), .int .u64 (q4 : Int)], er])) rfl (by kernel_rfl) (by kernel_rfl) (by kernel_rfl) (fun _ _ _ h => h) (Or.inl ⟨by kernel_rfl, fun w hC => by go_simp⟩) hS.out ?_
    simp only [Act.put, List.setIfInBounds_toArray, List.set_cons_zero, List.set_cons_succ]
    refine wpAnyH_take (i := 8) (oi := { dst := some 69, op := Op.extract (Operand.tmp 61) 0, type := 41, pos := "skeleton.go:89", after := #[{ on := 7, ground := Ground.data }], guard := none }) (v := (.agg #[.int .u64 (q1 : Int), .int .u32 (q2 : Int), .int .u8 (q3 : Int), .int .u64 (q4 : Int)])) rfl (by kernel_rfl) (by kernel_rfl) (by kernel_rfl) (fun _ _ _ h => h) (Or.inl ⟨by kernel_rfl, fun w hC => by go_simp⟩) hS.out ?_
    simp only [Act.put, List.setIfInBounds_toArray, List.set_cons_zero, List.set_cons_succ]
    refine wpAnyH_take (i := 9) (oi := { dst := some 70, op := Op.extract (Operand.tmp 61) 1, type := 43, pos := "skeleton.go:89", after := #[{ on := 7, ground := Ground.data }, { on := 11, ground := Ground.gcOnly Departure.lateStores }], guard := none }) (v := er) rfl (by kernel_rfl) (by kernel_rfl) (by kernel_rfl) (fun _ _ _ h => h) (Or.inl ⟨by kernel_rfl, fun w hC => by go_simp⟩) hS.out ?_
    simp only [Act.put, List.setIfInBounds_toArray, List.set_cons_zero, List.set_cons_succ]
    obtain ⟨w4, hw4⟩ : ∃ w4, w3.alloc (.cells #[.int .u64 0, .int .u32 0, .int .u8 0, .int .u64 0] 41) = w4 := ⟨_, rfl⟩
    have b4 : Below w3.heap.size w3 w4 := hw4 ▸ below_alloc _ _
    have HC4 : Hid (CBox w4 w3.heap.size 0 0 0 0) := hw4 ▸ CBox.new w3 0 0 0 0
    have HS4 := hide (HS3.out.grow b4)
    have HM4 := hide (HM3.out.grow b4)
    have HR4 := hide (HR3.out.grow b4)
    have HEN4 := hide (HEN3.out.to b4)
    have HGC : Hid (w.heap.size ≤ w3.heap.size) := by show w.heap.size ≤ w3.heap.size; have := lt_of_heap HM3.out; omega
    clear b4
    refine wpAnyH_ready (rs := [10]) (by kernel_rfl) (by simp) ?_
    refine AllReadyH.cons (o := { dst := some 8, op := Op.alloc 41, type := 0, pos := "skeleton.go:89", after := #[], guard := none }) rfl (fun KK hKK => ?_) AllReadyH.nil
    go_simp
    have hS : Hid (w4.cell? ⟨r, 0, none⟩ = some (.pointer (some ⟨A.g, 0, none⟩)) ∧ w4.cell? ⟨w.heap.size, 5, none⟩ = some (.int .u64 (m.p : Int)) ∧ w4.cell? ⟨w.heap.size, 6, none⟩ = some (.int .u32 (m.o : Int)) ∧ w4.cell? ⟨w.heap.size, 7, none⟩ = some (.int .u8 (m.r : Int)) ∧ w4.cell? ⟨w.heap.size, 8, none⟩ = some (.int .u64 (m.c : Int)) ∧ w4.cell? ⟨w.heap.size, 9, none⟩ = some (.int .u64 (m.ar : Int))) := ⟨HS4.out.c0, HM4.out.all.2.2.2.2.2.1, HM4.out.all.2.2.2.2.2.2.1, HM4.out.all.2.2.2.2.2.2.2.1, HM4.out.all.2.2.2.2.2.2.2.2.1, HM4.out.all.2.2.2.2.2.2.2.2.2.1⟩
    refine hKK.out _ _ hS.out (fun _ => ?_)
    clear hKK
    clear hw4
    have f9 := foot4 w4 (w3.heap.size) (.int .u64 (q1 : Int)) (.int .u32 (q2 : Int)) (.int .u8 (q3 : Int)) (.int .u64 (q4 : Int))
    have HC9 := hide (put_box HC4.out q1 q2 q3 q4)
    have HR9 := hide (HR4.out.foot f9 (fun e => two_types HR4.out HC4.out (by decide) e))
    have HS9 := hide (HS4.out.foot f9 (fun e => two_types HS4.out HC4.out (by decide) e))
    have HM9 := hide (HM4.out.foot f9 (fun e => two_types HM4.out HC4.out (by decide) e))
    have HEN9 := hide (HEN4.out.cap HW0.out HC4.out HGC.out f9)
    have d0 := HC4.out.c0
    have d1 := HC4.out.c1
    have d2 := HC4.out.c2
    have d3 := HC4.out.c3
    have x0 := HC4.out.z
    clear f9
    obtain ⟨w9, hw9⟩ : ∃ w9, (((w4.setCell ⟨w3.heap.size, 0, none⟩ (.int .u64 (q1 : Int))).setCell ⟨w3.heap.size, 1, none⟩ (.int .u32 (q2 : Int))).setCell ⟨w3.heap.size, 2, none⟩ (.int .u8 (q3 : Int))).setCell ⟨w3.heap.size, 3, none⟩ (.int .u64 (q4 : Int)) = w9 := ⟨_, rfl⟩
    rw [hw9] at HC9 HR9 HS9 HM9 HEN9
    refine wpAnyH_ready (rs := [11]) (by kernel_rfl) (by simp) ?_
    refine AllReadyH.cons (o := { dst := none, op := Op.store 41 (Operand.tmp 8) (Operand.tmp 69), type := 0, pos := "skeleton.go:89", after := #[{ on := 10, ground := Ground.data }, { on := 8, ground := Ground.data }, { on := 6, ground := Ground.chain }, { on := 0, ground := Ground.phase }, { on := 1, ground := Ground.phase }, { on := 2, ground := Ground.phase }, { on := 3, ground := Ground.phase }, { on := 4, ground := Ground.phase }, { on := 5, ground := Ground.phase }, { on := 6, ground := Ground.phase }, { on := 7, ground := Ground.phase }, { on := 8, ground := Ground.phase }, { on := 9, ground := Ground.textOnly Departure.lateStores }, { on := 10, ground := Ground.phase }], guard := none }) rfl (fun KK hKK => ?_) AllReadyH.nil
    go_simp
    have hS : Hid (w9.cell? ⟨r, 0, none⟩ = some (.pointer (some ⟨A.g, 0, none⟩)) ∧ w9.cell? ⟨w.heap.size, 5, none⟩ = some (.int .u64 (m.p : Int)) ∧ w9.cell? ⟨w.heap.size, 6, none⟩ = some (.int .u32 (m.o : Int)) ∧ w9.cell? ⟨w.heap.size, 7, none⟩ = some (.int .u8 (m.r : Int)) ∧ w9.cell? ⟨w.heap.size, 8, none⟩ = some (.int .u64 (m.c : Int)) ∧ w9.cell? ⟨w.heap.size, 9, none⟩ = some (.int .u64 (m.ar : Int))) := ⟨HS9.out.c0, HM9.out.all.2.2.2.2.2.1, HM9.out.all.2.2.2.2.2.2.1, HM9.out.all.2.2.2.2.2.2.2.1, HM9.out.all.2.2.2.2.2.2.2.2.1, HM9.out.all.2.2.2.2.2.2.2.2.2.1⟩
    refine hKK.out _ _ hS.out (fun _ => ?_)
    clear hKK
    clear d0 d1 d2 d3 x0 hw9
    refine wpAnyH_take (i := 12) (oi := { dst := some 9, op := Op.assign (Operand.tmp 70), type := 43, pos := "skeleton.go:89", after := #[{ on := 9, ground := Ground.data }, { on := 11, ground := Ground.chain }, { on := 0, ground := Ground.phase }, { on := 1, ground := Ground.phase }, { on := 2, ground := Ground.phase }, { on := 3, ground := Ground.phase }, { on := 4, ground := Ground.phase }, { on := 5, ground := Ground.phase }, { on := 6, ground := Ground.phase }, { on := 7, ground := Ground.phase }, { on := 8, ground := Ground.phase }, { on := 9, ground := Ground.phase }, { on := 10, ground := Ground.phase }, { on := 11, ground := Ground.phase }], guard := none }) (v := er) rfl (by kernel_rfl) (by kernel_rfl) (by kernel_rfl) (fun _ _ _ h => h) (Or.inl ⟨by kernel_rfl, fun w hC => by go_simp⟩) hS.out ?_
    simp only [Act.put, List.setIfInBounds_toArray, List.set_cons_zero, List.set_cons_succ]
    refine wpAnyH_done (by kernel_rfl) ?_ _
    obtain ⟨c0, c1, c2, c3⟩ : w9.cell? ⟨w3.heap.size, 0, none⟩ = some (.int .u64 (q1 : Int)) ∧ w9.cell? ⟨w3.heap.size, 1, none⟩ = some (.int .u32 (q2 : Int)) ∧ w9.cell? ⟨w3.heap.size, 2, none⟩ = some (.int .u8 (q3 : Int)) ∧ w9.cell? ⟨w3.heap.size, 3, none⟩ = some (.int .u64 (q4 : Int)) := ⟨HC9.out.c0, HC9.out.c1, HC9.out.c2, HC9.out.c3⟩
    obtain ⟨y0, y1, y2, y3, y4, y5⟩ := HR9.out.all
    have z0 := HR9.out.z 0
    have z1 := HR9.out.z 1
    have z2 := HR9.out.z 2
    have z3 := HR9.out.z 3
    have z4 := HR9.out.z 4
    have z5 := HR9.out.z 5
    simp only [Cp.zero, show (((0 : Nat)) : Int) = 0 from rfl] at y0 y1 y2 y3
    have HRZ := hide (HR9.out.lay ⟨q1, q2, q3, q4⟩ 0 (.slice none 0 0))
    have HEZ := hide (HEN9.out.res HW0.out HR9.out (by omega) (foot_lay6 w9 (w.heap.size + 1) ⟨q1, q2, q3, q4⟩ 0 (.slice none 0 0)))
    obtain ⟨wz, hwz⟩ : ∃ wz, lay6 w9 (w.heap.size + 1) ⟨q1, q2, q3, q4⟩ 0 (.slice none 0 0) = wz := ⟨_, rfl⟩
    rw [hwz] at HRZ HEZ
    unfold lay6 at hwz
    obtain ⟨v0, v1, v2, v3, v4, v5⟩ := HRZ.out.all
    go_wp2
    refine bodyPost_ret (by simp [results, Tryd.results28, go_sem, v0, v1, v2, v3, v4, v5]; rfl) rfl ?_
    refine ⟨none, 0, 0, ?_, bts_nil _, new_none _, by omega, HEZ.out⟩
    simp only [HQ.out, HER.out]; rfl
  · obtain ⟨w4, hw4⟩ : ∃ w4, w2.drew.alloc (.cells #[.int .u64 0, .int .u32 0, .int .u8 0, .int .u64 0] 41) = w4 := ⟨_, rfl⟩
    have b4 : Below w2.drew.heap.size w2.drew w4 := hw4 ▸ below_alloc _ _
    have HC4 : Hid (CBox w4 w2.drew.heap.size 0 0 0 0) := hw4 ▸ CBox.new w2.drew 0 0 0 0
    have HS4 := hide ((show Sr w2.drew r A.g A.sb from HS.out).grow b4)
    have HM4 := hide ((show MB w2.drew _ _ _ from HM.out).grow b4)
    have HR4 := hide ((show RB w2.drew _ _ _ _ from HR.out).grow b4)
    have HX4 := hide ((HX.out.drewN 1).grow b4)
    have HB4 := hide (below_one (below_one HBX.out (below_d w2 1)) b4)
    have HGC : Hid (w.heap.size ≤ w2.drew.heap.size) := HBX.out.size
    clear b4
    go_simp
    have hS : Hid (w4.cell? ⟨r, 0, none⟩ = some (.pointer (some ⟨A.g, 0, none⟩)) ∧ w4.cell? ⟨w.heap.size, 5, none⟩ = some (.int .u64 (m.p : Int)) ∧ w4.cell? ⟨w.heap.size, 6, none⟩ = some (.int .u32 (m.o : Int)) ∧ w4.cell? ⟨w.heap.size, 7, none⟩ = some (.int .u8 (m.r : Int)) ∧ w4.cell? ⟨w.heap.size, 8, none⟩ = some (.int .u64 (m.c : Int)) ∧ w4.cell? ⟨w.heap.size, 9, none⟩ = some (.int .u64 (m.ar : Int))) := ⟨HS4.out.c0, HM4.out.all.2.2.2.2.2.1, HM4.out.all.2.2.2.2.2.2.1, HM4.out.all.2.2.2.2.2.2.2.1, HM4.out.all.2.2.2.2.2.2.2.2.1, HM4.out.all.2.2.2.2.2.2.2.2.2.1⟩
    refine hKK.out _ _ hS.out (fun _ => ?_)
    clear hKK hw4
    refine wpAnyH_ready (rs := [6]) (by kernel_rfl) (by simp) ?_
    refine AllReadyH.cons (o := { dst := some 68, op := Op.call { callee := Callee.value (Operand.func 35), args := #[Operand.tmp 65, Operand.tmp 67], argTypes := #[25, 41] }, type := 44, pos := "skeleton.go:89", after := #[{ on := 3, ground := Ground.data }, { on := 5, ground := Ground.data }], guard := none }) rfl (fun KK hKK => ?_) AllReadyH.nil
    go_simp
    refine (tb_revoke ⟨m.p, m.o, m.r, m.c⟩ _ HX4.out HC.out HL.out HE.out R HRR.out).mono ?_; rw [HER.out, HCV.out]; rintro e w3 ⟨rfl, E⟩
    have kx := HX4.out.kh E
    have HC3 := hide (HC4.out.kh kx)
    have HS3 := hide ((show Sr w4 r A.g A.sb from HS4.out).kh kx)
    have HM3 := hide ((show MB w4 _ _ _ from HM4.out).kh kx)
    have HR3 := hide ((show RB w4 _ _ _ _ from HR4.out).kh kx)
    have HE3 := hide E
    clear kx E
    have HEN3 := hide (HE3.out.from HB4.out)
    have hS : Hid (w3.cell? ⟨r, 0, none⟩ = some (.pointer (some ⟨A.g, 0, none⟩)) ∧ w3.cell? ⟨w.heap.size, 5, none⟩ = some (.int .u64 (m.p : Int)) ∧ w3.cell? ⟨w.heap.size, 6, none⟩ = some (.int .u32 (m.o : Int)) ∧ w3.cell? ⟨w.heap.size, 7, none⟩ = some (.int .u8 (m.r : Int)) ∧ w3.cell? ⟨w.heap.size, 8, none⟩ = some (.int .u64 (m.c : Int)) ∧ w3.cell? ⟨w.heap.size, 9, none⟩ = some (.int .u64 (m.ar : Int))) := ⟨HS3.out.c0, HM3.out.all.2.2.2.2.2.1, HM3.out.all.2.2.2.2.2.2.1, HM3.out.all.2.2.2.2.2.2.2.1, HM3.out.all.2.2.2.2.2.2.2.2.1, HM3.out.all.2.2.2.2.2.2.2.2.2.1⟩
    refine hKK.out _ _ hS.out (fun _ => ?_)
    clear hKK
    refine wpAnyH_take (i := 7) (oi := { dst := some 61, op := Op.move (Operand.tmp 68), type := 44, pos := "skeleton.go:89", after := #[{ on := 6, ground := Ground.data }], guard := none }) (v := (.tuple #[.agg #[.int .u64 (q1 : Int), .int .u32 (q2 : Int), .int .u8 (q3 : Int), .int .u64 (q4 : Int)], er])) rfl (by kernel_rfl) (by kernel_rfl) (by kernel_rfl) (fun _ _ _ h => h) (Or.inl ⟨by kernel_rfl, fun w hC => by go_simp⟩) hS.out ?_
    simp only [Act.put, List.setIfInBounds_toArray, List.set_cons_zero, List.set_cons_succ]
    refine wpAnyH_take (i := 8) (oi := { dst := some 69, op := Op.extract (Operand.tmp 61) 0, type := 41, pos := "skeleton.go:89", after := #[{ on := 7, ground := Ground.data }], guard := none }) (v := (.agg #[.int .u64 (q1 : Int), .int .u32 (q2 : Int), .int .u8 (q3 : Int), .int .u64 (q4 : Int)])) rfl (by kernel_rfl) (by kernel_rfl) (by kernel_rfl) (fun _ _ _ h => h) (Or.inl ⟨by kernel_rfl, fun w hC => by go_simp⟩) hS.out ?_
    simp only [Act.put, List.setIfInBounds_toArray, List.set_cons_zero, List.set_cons_succ]
    refine wpAnyH_take (i := 9) (oi := { dst := some 70, op := Op.extract (Operand.tmp 61) 1, type := 43, pos := "skeleton.go:89", after := #[{ on := 7, ground := Ground.data }, { on := 11, ground := Ground.gcOnly Departure.lateStores }], guard := none }) (v := er) rfl (by kernel_rfl) (by kernel_rfl) (by kernel_rfl) (fun _ _ _ h => h) (Or.inl ⟨by kernel_rfl, fun w hC => by go_simp⟩) hS.out ?_
    simp only [Act.put, List.setIfInBounds_toArray, List.set_cons_zero, List.set_cons_succ]
    obtain ⟨gc, hgc⟩ : ∃ gc, w2.drew.heap.size = gc := ⟨_, rfl⟩
    have hgc2 : w2.heap.size = gc := hgc
    rw [hgc] at HC3 HGC
    try rw [hgc2]
    have f9 := foot4 w3 (gc) (.int .u64 (q1 : Int)) (.int .u32 (q2 : Int)) (.int .u8 (q3 : Int)) (.int .u64 (q4 : Int))
    have HC9 := hide (put_box HC3.out q1 q2 q3 q4)
    have HR9 := hide (HR3.out.foot f9 (fun e => two_types HR3.out HC3.out (by decide) e))
    have HS9 := hide (HS3.out.foot f9 (fun e => two_types HS3.out HC3.out (by decide) e))
    have HM9 := hide (HM3.out.foot f9 (fun e => two_types HM3.out HC3.out (by decide) e))
    have HEN9 := hide (HEN3.out.cap HW0.out HC3.out HGC.out f9)
    have d0 := HC3.out.c0
    have d1 := HC3.out.c1
    have d2 := HC3.out.c2
    have d3 := HC3.out.c3
    have x0 := HC3.out.z
    clear f9
    obtain ⟨w9, hw9⟩ : ∃ w9, (((w3.setCell ⟨gc, 0, none⟩ (.int .u64 (q1 : Int))).setCell ⟨gc, 1, none⟩ (.int .u32 (q2 : Int))).setCell ⟨gc, 2, none⟩ (.int .u8 (q3 : Int))).setCell ⟨gc, 3, none⟩ (.int .u64 (q4 : Int)) = w9 := ⟨_, rfl⟩
    rw [hw9] at HC9 HR9 HS9 HM9 HEN9
    refine wpAnyH_ready (rs := [11]) (by kernel_rfl) (by simp) ?_
    refine AllReadyH.cons (o := { dst := none, op := Op.store 41 (Operand.tmp 8) (Operand.tmp 69), type := 0, pos := "skeleton.go:89", after := #[{ on := 10, ground := Ground.data }, { on := 8, ground := Ground.data }, { on := 6, ground := Ground.chain }, { on := 0, ground := Ground.phase }, { on := 1, ground := Ground.phase }, { on := 2, ground := Ground.phase }, { on := 3, ground := Ground.phase }, { on := 4, ground := Ground.phase }, { on := 5, ground := Ground.phase }, { on := 6, ground := Ground.phase }, { on := 7, ground := Ground.phase }, { on := 8, ground := Ground.phase }, { on := 9, ground := Ground.textOnly Departure.lateStores }, { on := 10, ground := Ground.phase }], guard := none }) rfl (fun KK hKK => ?_) AllReadyH.nil
    go_simp
    have hS : Hid (w9.cell? ⟨r, 0, none⟩ = some (.pointer (some ⟨A.g, 0, none⟩)) ∧ w9.cell? ⟨w.heap.size, 5, none⟩ = some (.int .u64 (m.p : Int)) ∧ w9.cell? ⟨w.heap.size, 6, none⟩ = some (.int .u32 (m.o : Int)) ∧ w9.cell? ⟨w.heap.size, 7, none⟩ = some (.int .u8 (m.r : Int)) ∧ w9.cell? ⟨w.heap.size, 8, none⟩ = some (.int .u64 (m.c : Int)) ∧ w9.cell? ⟨w.heap.size, 9, none⟩ = some (.int .u64 (m.ar : Int))) := ⟨HS9.out.c0, HM9.out.all.2.2.2.2.2.1, HM9.out.all.2.2.2.2.2.2.1, HM9.out.all.2.2.2.2.2.2.2.1, HM9.out.all.2.2.2.2.2.2.2.2.1, HM9.out.all.2.2.2.2.2.2.2.2.2.1⟩
    refine hKK.out _ _ hS.out (fun _ => ?_)
    clear hKK
    clear d0 d1 d2 d3 x0 hw9
    refine wpAnyH_take (i := 12) (oi := { dst := some 9, op := Op.assign (Operand.tmp 70), type := 43, pos := "skeleton.go:89", after := #[{ on := 9, ground := Ground.data }, { on := 11, ground := Ground.chain }, { on := 0, ground := Ground.phase }, { on := 1, ground := Ground.phase }, { on := 2, ground := Ground.phase }, { on := 3, ground := Ground.phase }, { on := 4, ground := Ground.phase }, { on := 5, ground := Ground.phase }, { on := 6, ground := Ground.phase }, { on := 7, ground := Ground.phase }, { on := 8, ground := Ground.phase }, { on := 9, ground := Ground.phase }, { on := 10, ground := Ground.phase }, { on := 11, ground := Ground.phase }], guard := none }) (v := er) rfl (by kernel_rfl) (by kernel_rfl) (by kernel_rfl) (fun _ _ _ h => h) (Or.inl ⟨by kernel_rfl, fun w hC => by go_simp⟩) hS.out ?_
    simp only [Act.put, List.setIfInBounds_toArray, List.set_cons_zero, List.set_cons_succ]
    refine wpAnyH_done (by kernel_rfl) ?_ _
    obtain ⟨c0, c1, c2, c3⟩ : w9.cell? ⟨gc, 0, none⟩ = some (.int .u64 (q1 : Int)) ∧ w9.cell? ⟨gc, 1, none⟩ = some (.int .u32 (q2 : Int)) ∧ w9.cell? ⟨gc, 2, none⟩ = some (.int .u8 (q3 : Int)) ∧ w9.cell? ⟨gc, 3, none⟩ = some (.int .u64 (q4 : Int)) := ⟨HC9.out.c0, HC9.out.c1, HC9.out.c2, HC9.out.c3⟩
    obtain ⟨y0, y1, y2, y3, y4, y5⟩ := HR9.out.all
    have z0 := HR9.out.z 0
    have z1 := HR9.out.z 1
    have z2 := HR9.out.z 2
    have z3 := HR9.out.z 3
    have z4 := HR9.out.z 4
    have z5 := HR9.out.z 5
    simp only [Cp.zero, show (((0 : Nat)) : Int) = 0 from rfl] at y0 y1 y2 y3
    have HRZ := hide (HR9.out.lay ⟨q1, q2, q3, q4⟩ 0 (.slice none 0 0))
    have HEZ := hide (HEN9.out.res HW0.out HR9.out (by omega) (foot_lay6 w9 (w.heap.size + 1) ⟨q1, q2, q3, q4⟩ 0 (.slice none 0 0)))
    obtain ⟨wz, hwz⟩ : ∃ wz, lay6 w9 (w.heap.size + 1) ⟨q1, q2, q3, q4⟩ 0 (.slice none 0 0) = wz := ⟨_, rfl⟩
    rw [hwz] at HRZ HEZ
    unfold lay6 at hwz
    obtain ⟨v0, v1, v2, v3, v4, v5⟩ := HRZ.out.all
    go_wp2
    refine bodyPost_ret (by simp [results, Tryd.results28, go_sem, v0, v1, v2, v3, v4, v5]; rfl) rfl ?_
    refine ⟨none, 0, 0, ?_, bts_nil _, new_none _, by omega, HEZ.out⟩
    simp only [HQ.out, HER.out]; rfl
end
end Go.Proofs.YtjpgfldppepmiaaDoor
namespace Go.Proofs.YtjpgfldppepmiaaDoor
section
open Go.RowKit
variable {w0 w w1 w2 w' : World} {A A' : Ad} {p : Nat} {ws : List Nat} {s s' s1 : Hs} {r g sb : Nat}
set_option maxRecDepth 20000 in
set_option maxHeartbeats 6400000 in
theorem out_destroy (m : Msg) (so : Option Addr) (sn sc : Nat) (l : List UInt8) (w : World) (h : Sr w r A.g A.sb) (x : Sv w0 w A p ws s) (hc : (Cp.mk m.p m.o m.r m.c).ok) (hm : mayC ⟨m.p, m.o, m.r, m.c⟩ = true) (hop : m.op = 5) (hl : s.es.length ≤ 5000000000000) (hG : s.G.length ≤ 5000000000000) (K : Chk) (hK : chkF ws s.t s.es p s.T ⟨m.p, m.o, m.r, m.c⟩ 8 = K) :
    Calls Tryd.prog 28 #[.pointer (some ⟨r, 0, none⟩), .agg #[.int .u64 m.ta, .int .u64 m.rp, .int .u32 m.id, .int .u16 m.op, .int .u16 m.st, .int .u64 m.p, .int .u32 m.o, .int .u8 m.r, .int .u64 m.c, .int .u64 m.ar, .slice so sn sc]] w fun e w' => OutEnd w0 w A p ws (dstF s ⟨m.p, m.o, m.r, m.c⟩ K) l e w' := by
  obtain ⟨X, hX, bm, br, bX⟩ := own_vars w m (.slice so sn sc)
  unfold resZ at hX
  have HS0 := hide (h.grow bX)
  have HX0 := hide (x.grow bX)
  have HM0 := hide bm
  have HR0 := hide br
  have HBX0 := hide bX
  have HW0 : Hid (w0.heap.size ≤ w.heap.size) := x.bel.size
  have HC := hide hc
  have HK := hide hK
  have HL := hide hl
  have HGL := hide hG
  have HMY : Hid (decide (m.p ≤ 281474976710655 ∧ m.o ≤ 16777215 ∧ m.c ≤ 281474976710655) = true) := hm
  have hgm : w.heap.size < X.heap.size := lt_of_heap bm
  have HGR : Hid (w.heap.size + 1 < X.heap.size) := lt_of_heap br
  have hopi : ((m.op : Int)) = 5 := by omega
  have HOP := hide hopi
  obtain ⟨Q, hQ⟩ : ∃ Q, dstF s ⟨m.p, m.o, m.r, m.c⟩ K = Q := ⟨_, rfl⟩
  have HQ := hide hQ
  have HZ : Hid (Q.c = Cp.zero ∧ Q.dt = false ∧ Q.ar = 0) := by
    subst hQ
    unfold dstF
    split
    · exact ⟨rfl, rfl, rfl⟩
    · split <;> exact ⟨rfl, rfl, rfl⟩
  obtain ⟨er, her⟩ : ∃ er, erN (Q.e : Int) = er := ⟨_, rfl⟩
  have HER := hide her
  rw [hQ]
  clear hQ her
  obtain ⟨k0, k1, k2, k3, k4, k5, k6, k7, k8, k9, k10⟩ := bm.all
  clear bm br bX h x hc hm hK hl hG hop hopi
  go_enter Tryd.func28, Tryd.ntmps28
  go_wp2_with fail
  refine (whole_any HS0.out).mono ?_; rintro e w1 ⟨rfl, hw1⟩; subst hw1
  go_wp2_with fail
  refine (may_any m.p m.o m.r m.c _ HC.out.1 HC.out.2.1 HC.out.2.2.1 HC.out.2.2.2).mono ?_; rw [HMY.out]; rintro e w2 ⟨rfl, hw2⟩
  have b2 : Below w1.heap.size w1 w2 := hw2 ▸ below_alloc _ _
  have HS := hide (HS0.out.grow b2)
  have HX := hide (HX0.out.grow b2)
  have HM := hide (HM0.out.grow b2)
  have HR := hide (HR0.out.grow b2)
  have HBX := hide (below_one HBX0.out b2)
  have HGT : Hid (w.heap.size + 1 < w2.heap.size) := Nat.lt_of_lt_of_le HGR.out b2.size
  clear b2 hw2 hgm k0 k1 k2 k3 k4 k5 k6 k7 k8 k9 k10 HS0 HX0 HM0 HR0 HBX0 HGR
  have hX : True := trivial
  obtain ⟨k0, k1, k2, k3, k4, k5, k6, k7, k8, k9, k10⟩ := HM.out.all
  rw [HOP.out] at k3
  go_wp2_with fail
  refine (srv_destroy ⟨m.p, m.o, m.r, m.c⟩ _ HS.out HX.out HC.out HL.out HGL.out K HK.out).mono ?_; rw [HQ.out, HER.out]; rintro e w3 ⟨rfl, E⟩
  have kh := HX.out.kh E
  have HR3 := hide (HR.out.kh kh)
  have HEN := hide (E.from HBX.out)
  clear kh E k0 k1 k2 k3 k4 k5 k6 k7 k8 k9 k10
  obtain ⟨y0, y1, y2, y3, y4, y5⟩ := HR3.out.all
  have z0 := HR3.out.z 0
  have z1 := HR3.out.z 1
  have z2 := HR3.out.z 2
  have z3 := HR3.out.z 3
  have z4 := HR3.out.z 4
  have z5 := HR3.out.z 5
  simp only [Cp.zero, show (((0 : Nat)) : Int) = 0 from rfl] at y0 y1 y2 y3
  have HRZ := hide (HR3.out.lay Cp.zero 0 (.slice none 0 0))
  have HEZ := hide (HEN.out.res HW0.out HR3.out (by omega) (foot_lay6 w3 (w.heap.size + 1) Cp.zero 0 (.slice none 0 0)))
  obtain ⟨wz, hwz⟩ : ∃ wz, lay6 w3 (w.heap.size + 1) Cp.zero 0 (.slice none 0 0) = wz := ⟨_, rfl⟩
  rw [hwz] at HRZ HEZ
  unfold lay6 at hwz
  simp only [Cp.zero, show (((0 : Nat)) : Int) = 0 from rfl] at hwz
  obtain ⟨v0, v1, v2, v3, v4, v5⟩ := HRZ.out.all
  simp only [Cp.zero, show (((0 : Nat)) : Int) = 0 from rfl] at v0 v1 v2 v3 v4
  go_wp2
  refine bodyPost_ret (by simp [results, Tryd.results28, go_sem, v0, v1, v2, v3, v4, v5]; rfl) rfl ?_
  refine ⟨none, 0, 0, ?_, ?_, new_none _, by omega, HEZ.out⟩
  · rw [HZ.out.1, HZ.out.2.2, HER.out]; rfl
  · rw [HZ.out.2.1]; exact bts_nil _
end
end Go.Proofs.YtjpgfldppepmiaaDoor
namespace Go.Proofs.YtjpgfldppepmiaaDoor
section
open Go.RowKit
variable {w0 w w1 w2 w' : World} {A A' : Ad} {p : Nat} {ws : List Nat} {s s' s1 : Hs} {r g sb : Nat}
set_option maxRecDepth 20000 in
set_option maxHeartbeats 6400000 in
theorem out_own (m : Msg) (so : Option Addr) (sn sc : Nat) (l : List UInt8) (w : World) (h : Sr w r A.g A.sb) (x : Sv w0 w A p ws s) (hc : (Cp.mk m.p m.o m.r m.c).ok) (hm : mayC ⟨m.p, m.o, m.r, m.c⟩ = true) (hop : 6 ≤ m.op ∨ m.op = 0) (R : Ro) (hown : ∀ (w : World), Sr w r A.g A.sb → Sv w0 w A p ws s → Bts w so sn sc l → Calls Tryd.prog 51 #[.pointer (some ⟨r, 0, none⟩), .agg #[.int .u64 m.ta, .int .u64 m.rp, .int .u32 m.id, .int .u16 m.op, .int .u16 m.st, .int .u64 m.p, .int .u32 m.o, .int .u8 m.r, .int .u64 m.c, .int .u64 m.ar, .slice so sn sc]] w fun e w' => OutEnd w0 w A p ws R l e w') (hb : Bts w so sn sc l) :
    Calls Tryd.prog 28 #[.pointer (some ⟨r, 0, none⟩), .agg #[.int .u64 m.ta, .int .u64 m.rp, .int .u32 m.id, .int .u16 m.op, .int .u16 m.st, .int .u64 m.p, .int .u32 m.o, .int .u8 m.r, .int .u64 m.c, .int .u64 m.ar, .slice so sn sc]] w fun e w' => OutEnd w0 w A p ws (R) l e w' := by
  obtain ⟨X, hX, bm, br, bX⟩ := own_vars w m (.slice so sn sc)
  unfold resZ at hX
  have HS0 := hide (h.grow bX)
  have HX0 := hide (x.grow bX)
  have HM0 := hide bm
  have HR0 := hide br
  have HBX0 := hide bX
  have HW0 : Hid (w0.heap.size ≤ w.heap.size) := x.bel.size
  have HC := hide hc
  have HB0 := hide (hb.carry bX)
  have HOWN := hide hown
  have HMY : Hid (decide (m.p ≤ 281474976710655 ∧ m.o ≤ 16777215 ∧ m.c ≤ 281474976710655) = true) := hm
  have hgm : w.heap.size < X.heap.size := lt_of_heap bm
  have HGR : Hid (w.heap.size + 1 < X.heap.size) := lt_of_heap br
  have n1 : ((m.op : Int) == 1) = false := by rw [beq_eq_false_iff_ne]; omega
  have n2 : ((m.op : Int) == 2) = false := by rw [beq_eq_false_iff_ne]; omega
  have n3 : ((m.op : Int) == 3) = false := by rw [beq_eq_false_iff_ne]; omega
  have n4 : ((m.op : Int) == 4) = false := by rw [beq_eq_false_iff_ne]; omega
  have n5 : ((m.op : Int) == 5) = false := by rw [beq_eq_false_iff_ne]; omega
  obtain ⟨k0, k1, k2, k3, k4, k5, k6, k7, k8, k9, k10⟩ := bm.all
  clear bm br bX h x hc hm hb hown hop
  go_enter Tryd.func28, Tryd.ntmps28
  go_wp2_with fail
  refine (whole_any HS0.out).mono ?_; rintro e w1 ⟨rfl, hw1⟩; subst hw1
  go_wp2_with fail
  refine (may_any m.p m.o m.r m.c _ HC.out.1 HC.out.2.1 HC.out.2.2.1 HC.out.2.2.2).mono ?_; rw [HMY.out]; rintro e w2 ⟨rfl, hw2⟩
  have b2 : Below w1.heap.size w1 w2 := hw2 ▸ below_alloc _ _
  have HS := hide (HS0.out.grow b2)
  have HX := hide (HX0.out.grow b2)
  have HM := hide (HM0.out.grow b2)
  have HR := hide (HR0.out.grow b2)
  have HBX := hide (below_one HBX0.out b2)
  have HGT : Hid (w.heap.size + 1 < w2.heap.size) := Nat.lt_of_lt_of_le HGR.out b2.size
  have HB := hide (HB0.out.carry b2)
  clear b2 hw2 hgm k0 k1 k2 k3 k4 k5 k6 k7 k8 k9 k10 HS0 HX0 HM0 HR0 HB0 HBX0 HGR
  have hX : True := trivial
  obtain ⟨k0, k1, k2, k3, k4, k5, k6, k7, k8, k9, k10⟩ := HM.out.all
  obtain ⟨er, her⟩ : ∃ er, erN (R.e : Int) = er := ⟨_, rfl⟩
  have HER := hide her
  obtain ⟨qc, qa, hqc, hqa⟩ : ∃ qc qa, R.c = qc ∧ R.ar = qa := ⟨_, _, rfl, rfl⟩
  have HQC := hide hqc
  have HQA := hide hqa
  clear her hqc hqa
  go_wp2_with fail
  refine (HOWN.out _ HS.out HX.out HB.out).mono ?_; unfold OutEnd; rw [HER.out, HQC.out, HQA.out]; rintro e w3 ⟨co, n, cc, rfl, B3, hnw, hn, E⟩
  have kh := HX.out.kh E
  have HR3 := hide (HR.out.kh kh)
  have HEN := hide (E.from HBX.out)
  have HB3 := hide B3
  have HN := hide hn
  have HNW := hide hnw
  clear kh E B3 hn hnw k0 k1 k2 k3 k4 k5 k6 k7 k8 k9 k10
  obtain ⟨y0, y1, y2, y3, y4, y5⟩ := HR3.out.all
  have z0 := HR3.out.z 0
  have z1 := HR3.out.z 1
  have z2 := HR3.out.z 2
  have z3 := HR3.out.z 3
  have z4 := HR3.out.z 4
  have z5 := HR3.out.z 5
  simp only [Cp.zero, show (((0 : Nat)) : Int) = 0 from rfl] at y0 y1 y2 y3
  have HRZ := hide (HR3.out.lay qc (qa : Int) (.slice co n cc))
  have HEZ := hide (HEN.out.res HW0.out HR3.out (by omega) (foot_lay6 w3 (w.heap.size + 1) qc (qa : Int) (.slice co n cc)))
  have HBZ := hide (Bts.foot HB3.out (foot_lay6 w3 (w.heap.size + 1) qc (qa : Int) (.slice co n cc)) (fun ad e _ (h : ad.block = w.heap.size + 1) => by have := HNW.out ad e; have := HGT.out; omega))
  obtain ⟨wz, hwz⟩ : ∃ wz, lay6 w3 (w.heap.size + 1) qc (qa : Int) (.slice co n cc) = wz := ⟨_, rfl⟩
  rw [hwz] at HRZ HEZ HBZ
  unfold lay6 at hwz
  obtain ⟨v0, v1, v2, v3, v4, v5⟩ := HRZ.out.all
  go_wp2
  refine bodyPost_ret (by simp [results, Tryd.results28, go_sem, v0, v1, v2, v3, v4, v5]; rfl) rfl ?_
  exact ⟨co, n, cc, by rw [HER.out, HQC.out, HQA.out], HBZ.out, HNW.out.le (by have := HGT.out; omega), HN.out, HEZ.out⟩
end
end Go.Proofs.YtjpgfldppepmiaaDoor
namespace Go.Proofs.YtjpgfldppepmiaaDoor
section
open Go.RowKit
variable {w0 w w1 w2 w' : World} {A A' : Ad} {p : Nat} {ws : List Nat} {s s' s1 : Hs} {r g sb : Nat}
structure Lim (s : Hs) : Prop where
  el : s.es.length < 5000000000000
  dl : s.D.length ≤ 5000000000000
  gl : s.G.length ≤ 5000000000000
  ep : ∀ j, (s.T j).e ≤ 9223372036854775806
structure Okm (w0 : World) (m : Msg) (so : Option Addr) (sn : Nat) : Prop where
  c : (Cp.mk m.p m.o m.r m.c).ok
  o : m.op ≤ 65535
  a : m.ar ≤ 18446744073709551615
  n : sn ≤ 140737488355328
  d : 0 < sn → ∀ ad, so = some ad → ad.block < w0.heap.size
theorem own_any (m : Msg) (so : Option Addr) (sn sc : Nat) (l : List UInt8) (w : World) (h : Sr w r A.g A.sb) (x : Sv w0 w A p ws s) (hb : Bts w so sn sc l) (q : Okm w0 m so sn) (li : Lim s) (hg : Glob w0) :
    Calls Tryd.prog 51 #[.pointer (some ⟨r, 0, none⟩), .agg #[.int .u64 m.ta, .int .u64 m.rp, .int .u32 m.id, .int .u16 m.op, .int .u16 m.st, .int .u64 m.p, .int .u32 m.o, .int .u8 m.r, .int .u64 m.c, .int .u64 m.ar, .slice so sn sc]] w fun e w' => OutEnd w0 w A p ws (if m.op < 100 ∨ needB m.op = false then badF s 3 else ownF s m.op ⟨m.p, m.o, m.r, m.c⟩ m.ar (chkF ws s.t s.es p s.T ⟨m.p, m.o, m.r, m.c⟩ (needN m.op))) l e w' := by
  by_cases h1 : m.op < 100
  · rw [if_pos (.inl h1)]
    exact own_low m so sn sc l w h x q.o h1
  · cases h2 : needB m.op with
    | false =>
      rw [if_pos (.inr rfl)]
      exact own_none m so sn sc l w h x q.o (by omega) h2
    | true =>
      rw [if_neg (by rintro (h | h); exact h1 h; cases h)]
      unfold ownF
      by_cases h0 : (chkF ws s.t s.es p s.T ⟨m.p, m.o, m.r, m.c⟩ (needN m.op)).e = 0
      · rw [if_pos h0]
        by_cases h3 : m.op = 103
        · rw [if_pos h3]
          exact own_no m so sn sc l w h x q.o hb q.n q.d (by omega) h2 q.c (by have := li.el; omega) li.dl hg _ rfl h0 h3
        · rw [if_neg h3]
          exact own_yes m so sn sc l w h x q.o hb q.n q.d (by omega) h2 q.c (by have := li.el; omega) li.dl hg _ rfl h0 h3
      · rw [if_neg h0]
        exact own_chk m so sn sc l w h x q.o hb q.n q.d (by omega) h2 q.c (by have := li.el; omega) li.dl hg _ rfl h0
theorem outcome_any (m : Msg) (so : Option Addr) (sn sc : Nat) (l : List UInt8) (w : World) (h : Sr w r A.g A.sb) (x : Sv w0 w A p ws s) (hb : Bts w so sn sc l) (q : Okm w0 m so sn) (li : Lim s) (hg : Glob w0) :
    Calls Tryd.prog 28 #[.pointer (some ⟨r, 0, none⟩), .agg #[.int .u64 m.ta, .int .u64 m.rp, .int .u32 m.id, .int .u16 m.op, .int .u16 m.st, .int .u64 m.p, .int .u32 m.o, .int .u8 m.r, .int .u64 m.c, .int .u64 m.ar, .slice so sn sc]] w fun e w' => OutEnd w0 w A p ws (outF ws p s m.op ⟨m.p, m.o, m.r, m.c⟩ m.ar) l e w' := by
  unfold outF
  cases hm : mayC ⟨m.p, m.o, m.r, m.c⟩ with
  | false => rw [if_pos rfl]; exact out_may m so sn sc l w h x q.c hm
  | true =>
    rw [if_neg (by simp)]
    by_cases h1 : m.op = 1
    · rw [if_pos h1]; exact out_info m so sn sc l w h x q.c hm h1 (by have := li.el; omega) _ rfl li.ep
    rw [if_neg h1]
    by_cases h2 : m.op = 2
    · rw [if_pos h2]; exact out_touch m so sn sc l w h x q.c hm h2 (by have := li.el; omega) _ rfl
    rw [if_neg h2]
    by_cases h3 : m.op = 3
    · rw [if_pos h3]; exact out_restrict m so sn sc l w h x q.c hm h3 li.el _ rfl q.a
    rw [if_neg h3]
    by_cases h4 : m.op = 4
    · rw [if_pos h4]; exact out_revoke m so sn sc l w h x q.c hm h4 li.el _ rfl li.ep
    rw [if_neg h4]
    by_cases h5 : m.op = 5
    · rw [if_pos h5]; exact out_destroy m so sn sc l w h x q.c hm h5 (by have := li.el; omega) li.gl _ rfl
    rw [if_neg h5]
    exact out_own m so sn sc l w h x q.c hm (by omega) _ (fun w h x hb => own_any m so sn sc l w h x hb q li hg) hb
/- a reply -/
def RplEnd (w0 w : World) (A : Ad) (p : Nat) (ws : List Nat) (m : Msg) (R : Ro) (l : List UInt8) (e : Ending) (w' : World) : Prop := ∃ m2 co n cc, m2 = rplF m R ∧ e = .returned (.agg #[.int .u64 m2.ta, .int .u64 m2.rp, .int .u32 m2.id, .int .u16 m2.op, .int .u16 m2.st, .int .u64 m2.p, .int .u32 m2.o, .int .u8 m2.r, .int .u64 m2.c, .int .u64 m2.ar, .slice co n cc]) ∧ Bts w' co n cc (datF R l) ∧ (datF R l = [] ∨ New w co) ∧ SvEnd w0 w A p ws w' R.s
theorem bts_none {co : Option Addr} {n cc : Nat} (h : Bts w co n cc []) : Bts w' co n cc [] := ⟨h.1, h.2.1, h.2.2.1, h.2.2.2.1, fun _ _ j hj => by simp at hj⟩
/- bytes that were there are not turned by a store into memory that was not -/
theorem Bts.past {co : Option Addr} {n cc : Nat} {l : List UInt8} (h : Bts w co n cc l) (h1 : Bts w1 co n cc l) {g : Nat} (hg : w.heap.size ≤ g) (f : Foot (fun j => j = g) w1 w2) : Bts w2 co n cc l :=
  ⟨h1.1, h1.2.1, h1.2.2.1, h1.2.2.2.1, fun ad e j hj => by
    have c0 := lt_of_cell (h.2.2.2.2 ad e j hj)
    have c1 := h1.2.2.2.2 ad e j hj
    rw [f.cell _ (lt_of_cell c1) (by show ¬ (ad.add j).block = g; omega), c1]⟩
theorem rep_vars (w : World) (m : Msg) (D : Value) : ∃ X, (w.alloc (.cells #[.int .u64 m.ta, .int .u64 m.rp, .int .u32 m.id, .int .u16 m.op, .int .u16 m.st, .int .u64 m.p, .int .u32 m.o, .int .u8 m.r, .int .u64 m.c, .int .u64 m.ar, D] 49)).alloc (.cells #[.int .u64 0, .int .u64 0, .int .u32 0, .int .u16 0, .int .u16 0, .int .u64 0, .int .u32 0, .int .u8 0, .int .u64 0, .int .u64 0, .slice none 0 0] 49) = X ∧ MB X w.heap.size m D ∧ MB X (w.heap.size + 1) Msg.zero (.slice none 0 0) ∧ Below w.heap.size w X := by
  have b1 := below_alloc w (.cells #[.int .u64 m.ta, .int .u64 m.rp, .int .u32 m.id, .int .u16 m.op, .int .u16 m.st, .int .u64 m.p, .int .u32 m.o, .int .u8 m.r, .int .u64 m.c, .int .u64 m.ar, D] 49)
  have b2 := below_alloc (w.alloc (.cells #[.int .u64 m.ta, .int .u64 m.rp, .int .u32 m.id, .int .u16 m.op, .int .u16 m.st, .int .u64 m.p, .int .u32 m.o, .int .u8 m.r, .int .u64 m.c, .int .u64 m.ar, D] 49)) (.cells #[.int .u64 0, .int .u64 0, .int .u32 0, .int .u16 0, .int .u16 0, .int .u64 0, .int .u32 0, .int .u8 0, .int .u64 0, .int .u64 0, .slice none 0 0] 49)
  refine ⟨_, rfl, (mb_new w m D).grow b2, ?_, below_one b1 b2⟩
  have h := heap_alloc_new (w.alloc (.cells #[.int .u64 m.ta, .int .u64 m.rp, .int .u32 m.id, .int .u16 m.op, .int .u16 m.st, .int .u64 m.p, .int .u32 m.o, .int .u8 m.r, .int .u64 m.c, .int .u64 m.ar, D] 49)) (.cells #[.int .u64 0, .int .u64 0, .int .u32 0, .int .u16 0, .int .u16 0, .int .u64 0, .int .u32 0, .int .u8 0, .int .u64 0, .int .u64 0, .slice none 0 0] 49)
  rw [sz1] at h
  exact h
theorem srv_fault (m : Msg) (D : Value) (e : Nat) (w : World) (he : e ≤ 65535) (hg : Glob w) (m2 : Msg) (h2 : (⟨m.rp, m.ta, m.id, m.op, e, 0, 0, 0, 0, 0⟩ : Msg) = m2) :
    Calls Tryd.prog 19 #[.agg #[.int .u64 m.ta, .int .u64 m.rp, .int .u32 m.id, .int .u16 m.op, .int .u16 m.st, .int .u64 m.p, .int .u32 m.o, .int .u8 m.r, .int .u64 m.c, .int .u64 m.ar, D], erN (e : Int)] w fun e w' => ∃ co cc, e = .returned (.agg #[.int .u64 m2.ta, .int .u64 m2.rp, .int .u32 m2.id, .int .u16 m2.op, .int .u16 m2.st, .int .u64 m2.p, .int .u32 m2.o, .int .u8 m2.r, .int .u64 m2.c, .int .u64 m2.ar, .slice co 0 cc]) ∧ Bts w' co 0 cc [] ∧ Below w.heap.size w w' :=
  fault_gen m D (erN (e : Int)) e w he hg (fun W hW => number_any (e : Int) W hW) m2 h2
theorem out_err (ws : List Nat) (p : Nat) (s : Hs) (op : Nat) (c : Cp) (ar : Nat) : (outF ws p s op c ar).e ≤ 65535 := by
  have k0 := chk_err ws s.t s.es p s.T c 0
  have k8 := chk_err ws s.t s.es p s.T c 8
  have kn := chk_err ws s.t s.es p s.T c (needN op)
  have k255 := chk_err ws s.t s.es p s.T c 255
  unfold outF
  split
  · show 1 ≤ _; omega
  split
  · show (chkF ws s.t s.es p s.T c 0).e ≤ _; omega
  split
  · show (chkF ws s.t s.es p s.T c 0).e ≤ _; omega
  split
  · show (resF ws s.t s.es p s.T c (ar % 256)).e ≤ _
    unfold resF
    split
    · simp only; split <;> omega
    · show (chkF ws s.t s.es p s.T c 0).e ≤ _; omega
  split
  · show (revF ws s.t s.es p s.T c).e ≤ _
    unfold revF
    split
    · split <;> simp only <;> omega
    · show (chkF ws s.t s.es p s.T c 255).e ≤ _; omega
  split
  · unfold dstF
    split
    · show (if _ then _ else _) ≤ _; split <;> omega
    · split
      · show 0 ≤ _; omega
      · show (chkF ws s.t s.es p s.T c 8).e ≤ _; omega
  split
  · show 3 ≤ _; omega
  · unfold ownF
    split
    · split
      · show 13 ≤ _; omega
      · show 0 ≤ _; omega
    · show (chkF ws s.t s.es p s.T c (needN op)).e ≤ _; omega
set_option maxRecDepth 20000 in
set_option maxHeartbeats 6400000 in
theorem serve_any (m : Msg) (so : Option Addr) (sn sc : Nat) (l : List UInt8) (w : World) (h : Sr w r A.g A.sb) (x : Sv w0 w A p ws s) (hb : Bts w so sn sc l) (q : Okm w0 m so sn) (li : Lim s) (hg : Glob w0) (R : Ro) (hR : outF ws p s m.op ⟨m.p, m.o, m.r, m.c⟩ m.ar = R) :
    Calls Tryd.prog 14 #[.pointer (some ⟨r, 0, none⟩), .agg #[.int .u64 m.ta, .int .u64 m.rp, .int .u32 m.id, .int .u16 m.op, .int .u16 m.st, .int .u64 m.p, .int .u32 m.o, .int .u8 m.r, .int .u64 m.c, .int .u64 m.ar, .slice so sn sc]] w fun e w' => RplEnd w0 w A p ws m R l e w' := by
  have hre : R.e ≤ 65535 := hR ▸ out_err ws p s m.op ⟨m.p, m.o, m.r, m.c⟩ m.ar
  obtain ⟨X, hX, bm, bz, bX⟩ := rep_vars w m (.slice so sn sc)
  have HS := hide (h.grow bX)
  have HX := hide (x.grow bX)
  have HB := hide (hb.carry bX)
  have HM := hide bm
  have HZ := hide bz
  have HBX := hide bX
  have HW0 : Hid (w0.heap.size ≤ w.heap.size) := x.bel.size
  have HQ := hide q
  have HLI := hide li
  have HG := hide hg
  have HR := hide hR
  have HRE := hide hre
  obtain ⟨k0, k1, k2, k3, k4, k5, k6, k7, k8, k9, k10⟩ := bm.all
  obtain ⟨er, her⟩ : ∃ er, erN (R.e : Int) = er := ⟨_, rfl⟩
  have HER := hide her
  obtain ⟨qc, qa, hqc, hqa⟩ : ∃ qc qa, R.c = qc ∧ R.ar = qa := ⟨_, _, rfl, rfl⟩
  have HQC := hide hqc
  have HQA := hide hqa
  clear bm bz bX h x hb q li hg hR hre her hqc hqa
  go_enter Tryd.func14, Tryd.ntmps14
  go_wp2_with fail
  refine (outcome_any m so sn sc l _ HS.out HX.out HB.out HQ.out HLI.out HG.out).mono ?_; unfold OutEnd; rw [HR.out, HER.out, HQC.out, HQA.out]; rintro e w3 ⟨co, n, cc, rfl, B3, hnw, hn, E⟩
  have kh := HX.out.kh E
  have HM3 := hide (HM.out.kh kh)
  have HZ3 := hide (HZ.out.kh kh)
  have HEN3 := hide (E.from HBX.out)
  have HB3 := hide B3
  have HN := hide hn
  have HNW := hide hnw
  have HSZ3 : Hid (w.heap.size + 1 < w3.heap.size) := lt_of_heap HZ3.out
  clear kh E B3 hn hnw k0 k1 k2 k3 k4 k5 k6 k7 k8 k9 k10
  obtain ⟨w4, hw4⟩ : ∃ w4, w3.alloc (.cells resZ 90) = w4 := ⟨_, rfl⟩
  have b4 : Below w3.heap.size w3 w4 := hw4 ▸ below_alloc _ _
  have HR4 : Hid (RB w4 w3.heap.size Cp.zero 0 (.slice none 0 0)) := hw4 ▸ rb_new w3 Cp.zero 0 (.slice none 0 0)
  have HM4 := hide (HM3.out.grow b4)
  have HZ4 := hide (HZ3.out.grow b4)
  have HB4 := hide (HB3.out.carry b4)
  have HEN4 := hide (HEN3.out.to b4)
  have y0 := HR4.out.z 0
  have y1 := HR4.out.z 1
  have y2 := HR4.out.z 2
  have y3 := HR4.out.z 3
  have y4 := HR4.out.z 4
  have y5 := HR4.out.z 5
  obtain ⟨e0, e1, e2, e3, e4, e5⟩ := HR4.out.all
  simp only [Cp.zero, show (((0 : Nat)) : Int) = 0 from rfl] at e0 e1 e2 e3
  have f5 := foot_lay6 w4 w3.heap.size qc (qa : Int) (.slice co n cc)
  have HR5 := hide (HR4.out.lay qc (qa : Int) (.slice co n cc))
  have HM5 := hide (HM4.out.foot f5 (by show ¬ w.heap.size = w3.heap.size; have := HSZ3.out; omega))
  have HZ5 := hide (HZ4.out.foot f5 (by show ¬ w.heap.size + 1 = w3.heap.size; have := HSZ3.out; omega))
  have HB5 := hide (Bts.past HB3.out HB4.out (Nat.le_refl _) f5)
  have HEN5 := hide (HEN4.out.res HW0.out HR4.out (by have := HSZ3.out; omega) f5)
  obtain ⟨w5, hw5⟩ : ∃ w5, lay6 w4 w3.heap.size qc (qa : Int) (.slice co n cc) = w5 := ⟨_, rfl⟩
  rw [hw5] at HR5 HM5 HZ5 HB5 HEN5
  unfold lay6 at hw5
  unfold resZ at hw4
  clear b4 f5
  by_cases h0 : R.e = 0
  · obtain rfl : er = .nilIface := by rw [← HER.out, h0]; rfl
    obtain ⟨j0, j1, j2, j3, j4, j5⟩ := HR5.out.all
    obtain ⟨k0, k1, k2, k3, k4, k5, k6, k7, k8, k9, k10⟩ := HM5.out.all
    go_wp2_with fail
    obtain ⟨m2, h2⟩ : ∃ m2, (⟨m.rp, m.ta, m.id, m.op, 0, qc.p, qc.o, qc.r, qc.c, qa⟩ : Msg) = m2 := ⟨_, rfl⟩
    refine (answer_any m (.slice so sn sc) 0 qc.p qc.o qc.r qc.c qa co n cc _ _ (by omega) HB5.out HN.out m2 h2).mono ?_; rintro e w6 ⟨co2, cc2, rfl, B6, N6, b6⟩
    have HB6 := hide B6
    have HZ6 := hide (HZ5.out.grow b6)
    have HE6 := hide (HEN5.out.to b6)
    have HN6 := hide N6
    have HS6 : Hid (w.heap.size + 1 < w5.heap.size) := lt_of_heap HZ5.out
    have HM2 : Hid (m2 = rplF m R) := by show m2 = rplF m R; unfold rplF; rw [if_pos h0, ← h2, HQC.out, HQA.out]
    have HDT : Hid (datF R l = if R.dt = true then l else []) := by show datF R l = _; unfold datF; by_cases hd : R.dt = true <;> simp [h0, hd]
    clear y0 y1 y2 y3 y4 y5 e0 e1 e2 e3 e4 e5 hw5 hw4 B6 N6 b6 h2 j0 j1 j2 j3 j4 j5 k0 k1 k2 k3 k4 k5 k6 k7 k8 k9 k10
    have HZL := hide (HZ6.out.lay (m := m2) (D := .slice co2 n cc2))
    have f7 := foot_lay11 w6 (w.heap.size + 1) m2 (.slice co2 n cc2)
    have HE7 := hide (HE6.out.msg HW0.out HZ6.out (by omega) f7)
    have HB7 := hide (Bts.foot HB6.out f7 (fun ad e _ (h : ad.block = w.heap.size + 1) => by have := HN6.out ad e; have := HS6.out; omega))
    obtain ⟨w7, hw7⟩ : ∃ w7, lay11 w6 (w.heap.size + 1) m2 (.slice co2 n cc2) = w7 := ⟨_, rfl⟩
    rw [hw7] at HZL HE7 HB7
    unfold lay11 at hw7
    clear f7
    obtain ⟨v0, v1, v2, v3, v4, v5, v6, v7, v8, v9, v10⟩ := HZL.out.all
    obtain ⟨z0, z1, z2, z3, z4, z5, z6, z7, z8, z9, z10⟩ := HZ6.out.all
    have x0 := HZ6.out.z 0
    have x1 := HZ6.out.z 1
    have x2 := HZ6.out.z 2
    have x3 := HZ6.out.z 3
    have x4 := HZ6.out.z 4
    have x5 := HZ6.out.z 5
    have x6 := HZ6.out.z 6
    have x7 := HZ6.out.z 7
    have x8 := HZ6.out.z 8
    have x9 := HZ6.out.z 9
    have x10 := HZ6.out.z 10
    go_wp2
    refine bodyPost_ret (by simp [results, Tryd.results14, go_sem, v0, v1, v2, v3, v4, v5, v6, v7, v8, v9, v10]; rfl) rfl ?_
    refine ⟨m2, co2, n, cc2, HM2.out, rfl, ?_, .inr (HN6.out.le (by have := HS6.out; omega)), HE7.out⟩
    rw [HDT.out]; exact HB7.out
  · obtain ⟨m2, h2⟩ : ∃ m2, (⟨m.rp, m.ta, m.id, m.op, R.e, 0, 0, 0, 0, 0⟩ : Msg) = m2 := ⟨_, rfl⟩
    have hf := fun W hW => srv_fault m (.slice so sn sc) R.e W HRE.out hW m2 h2
    rw [HER.out] at hf
    have HF := hide hf
    obtain ⟨tE, hE⟩ : ∃ v, er = .iface 61 v := ⟨_, by rw [← HER.out]; exact erN_not (by omega)⟩
    subst hE
    clear hf
    obtain ⟨k0, k1, k2, k3, k4, k5, k6, k7, k8, k9, k10⟩ := HM5.out.all
    go_wp2_with fail
    refine (HF.out _ (HEN5.out.glob HG.out)).mono ?_; rintro e w6 ⟨co2, cc2, rfl, B6, b6⟩
    have HB6 := hide B6
    have HZ6 := hide (HZ5.out.grow b6)
    have HE6 := hide (HEN5.out.to b6)
    have HM2 : Hid (m2 = rplF m R) := by show m2 = rplF m R; unfold rplF; rw [if_neg h0, ← h2]
    have HDT : Hid (datF R l = []) := by show datF R l = _; unfold datF; rw [if_neg (fun e => h0 e.1)]
    clear y0 y1 y2 y3 y4 y5 e0 e1 e2 e3 e4 e5 hw5 hw4 B6 b6 h2 k0 k1 k2 k3 k4 k5 k6 k7 k8 k9 k10
    have HZL := hide (HZ6.out.lay (m := m2) (D := .slice co2 0 cc2))
    have f7 := foot_lay11 w6 (w.heap.size + 1) m2 (.slice co2 0 cc2)
    have HE7 := hide (HE6.out.msg HW0.out HZ6.out (by omega) f7)
    have HB7 : Hid (Bts (lay11 w6 (w.heap.size + 1) m2 (.slice co2 0 cc2)) co2 0 cc2 []) := bts_none HB6.out
    obtain ⟨w7, hw7⟩ : ∃ w7, lay11 w6 (w.heap.size + 1) m2 (.slice co2 0 cc2) = w7 := ⟨_, rfl⟩
    rw [hw7] at HZL HE7 HB7
    unfold lay11 at hw7
    clear f7
    obtain ⟨v0, v1, v2, v3, v4, v5, v6, v7, v8, v9, v10⟩ := HZL.out.all
    obtain ⟨z0, z1, z2, z3, z4, z5, z6, z7, z8, z9, z10⟩ := HZ6.out.all
    have x0 := HZ6.out.z 0
    have x1 := HZ6.out.z 1
    have x2 := HZ6.out.z 2
    have x3 := HZ6.out.z 3
    have x4 := HZ6.out.z 4
    have x5 := HZ6.out.z 5
    have x6 := HZ6.out.z 6
    have x7 := HZ6.out.z 7
    have x8 := HZ6.out.z 8
    have x9 := HZ6.out.z 9
    have x10 := HZ6.out.z 10
    go_wp2
    refine bodyPost_ret (by simp [results, Tryd.results14, go_sem, v0, v1, v2, v3, v4, v5, v6, v7, v8, v9, v10]; rfl) rfl ?_
    refine ⟨m2, co2, 0, cc2, HM2.out, rfl, ?_, .inl HDT.out, HE7.out⟩
    rw [HDT.out]; exact HB7.out
end
end Go.Proofs.YtjpgfldppepmiaaDoor
