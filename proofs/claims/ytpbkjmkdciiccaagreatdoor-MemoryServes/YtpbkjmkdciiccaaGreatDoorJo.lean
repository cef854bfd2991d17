/-
  What the statements' own 'want' answers, and what it leaves: arg101b, arg102, arg104.
  What the statements' own 'want' answers, and what it leaves: yes102, yes104, size0.
  What the statements' own 'want' answers, and what it leaves: size1, read0, read1.
  What the statements' own 'want' answers, and what it leaves: make0, make1, make2.
  What the statements' own 'want' answers: what the server does.
-/
import Derived.Test.YtpbkjmkdciiccaaGreatDoorJn
namespace Go.Proofs.YtpbkjmkdciiccaaGreatDoor
section
open Go.RowKit
variable {w0 w w1 w2 w' : World} {A A' : Ad} {p : Nat} {ws : List Nat} {s s' s1 : Hs} {r g : Nat} {sb : Nat × Nat}
set_option maxRecDepth 20000 in
set_option maxHeartbeats 12800000 in
theorem want_arg101_2 (m : Msg) (so : Option Addr) (sn sc : Nat) (l : List UInt8) (w : World) (x : Sv w0 w A p ws s) (hb : Bts w so sn sc l) (q : Okm w0 w m so sn) (li : Lim s) (hg : Glob w0) (hop : m.op = 101) (K : Chk) (hK : chkF ws s.t s.es p s.T ⟨m.p, m.o, m.r, m.c⟩ 1 = K) (h0 : K.e = 0) (vl : Int) (hvl : (s.T K.k).v = vl) (hz : vl ≠ -1) (h1 : ¬ 2147483647 < m.ar / 4294967296) (h2 : 4096 < m.ar % 4294967296) :
    Calls Tryz.prog 19 #[.pointer (some ⟨A.g, 0, none⟩), .pointer (some ⟨A.sb.2, 0, none⟩), .agg #[.int .u64 m.ta, .int .u64 m.rp, .int .u32 m.id, .int .u16 m.op, .int .u16 m.st, .int .u64 m.p, .int .u32 m.o, .int .u8 m.r, .int .u64 m.c, .int .u64 m.ar, .slice so sn sc]] w fun e w' => RplEnd w0 w A p ws m (badF (s.tab K.t K.es s.T) 4) l e w' := by
  have hmf : ∀ (fn : Fn) (first cap : Array Value) (w : World), (Instr.makeFunc fn first cap).run Tryz.prog w = .ok (.func fn first cap) w := fun _ _ _ _ => rfl
  obtain ⟨X, hX, bm, bz, bX⟩ := rep_vars w m (.slice so sn sc)
  have HX := hide (x.grow bX)
  have HB := hide (hb.carry bX)
  have HM := hide bm
  have HZ := hide bz
  have HBX := hide bX
  have HW0 : Hid (w0.heap.size ≤ w.heap.size) := x.bel.size
  have HQ := hide q
  have HQX := hide (q.grow bX)
  have HLI := hide li
  have HG := hide hg
  have hopi : (m.op : Int) = 101 := by omega
  have HK := hide hK
  have H0 := hide h0
  have HEL : Hid (K.e ≤ 65535) := by show _ ≤ _; have := chk_err ws s.t s.es p s.T ⟨m.p, m.o, m.r, m.c⟩ 1; rw [hK] at this; omega
  obtain ⟨er, her⟩ : ∃ er, erN (K.e : Int) = er := ⟨_, rfl⟩
  have HER := hide her
  have HH : Hid (hasO s.T K.k = true) := by
    have e := chk_has (hK ▸ h0)
    show hasO s.T K.k = true
    rw [← hK, e.2.2]; exact e.1
  obtain ⟨k0, k1, k2, k3, k4, k5, k6, k7, k8, k9, k10⟩ := HM.out.all
  have hwk : IntKind.u16.wrap 1 = 1 := by rw [IntKind.wrap_u16]; rfl
  rw [hopi] at k3 hX
  have HK3 := hide k3
  clear bm bz bX x hb q li hg hop hK h0 her
  have HVL := hide hvl
  clear hvl
  have hz0 : (vl == -1) = false := by simpa using hz
  clear hz
  obtain ⟨at1, hat1⟩ : ∃ q, m.ar / 4294967296 = q := ⟨_, rfl⟩
  obtain ⟨mn, hmn⟩ : ∃ q, m.ar % 4294967296 = q := ⟨_, rfl⟩
  have hs1 : (m.ar : Int) / 4294967296 = (at1 : Int) := by omega
  have hs2 : (m.ar : Int).tdiv 4294967296 = (at1 : Int) := by rw [Int.tdiv_eq_ediv_of_nonneg (by omega)]; exact hs1
  have hs3 : (m.ar : Int) % 4294967296 = (mn : Int) := by omega
  have hs4 : (m.ar : Int).tmod 4294967296 = (mn : Int) := by rw [Int.tmod_eq_emod_of_nonneg (by omega)]; exact hs3
  rw [hat1] at h1
  rw [hmn] at h2
  have hi1 : ¬ (2147483647 : Int) < (at1 : Int) := by omega
  have hi2 : (4096 : Int) < (mn : Int) := by omega
  have hw5 : IntKind.u64.wrap (at1 : Int) = (at1 : Int) := by rw [IntKind.wrap_u64]; omega
  clear h1 h2 hat1 hmn
  go_enter Tryz.func19, Tryz.ntmps19
  go_wp2_with fail
  have hS : Hid (X.drew.cell? ⟨w.heap.size, 3, none⟩ = some (.int .u16 101) ∧ X.drew.cell? ⟨w.heap.size, 5, none⟩ = some (.int .u64 (m.p : Int)) ∧ X.drew.cell? ⟨w.heap.size, 6, none⟩ = some (.int .u32 (m.o : Int)) ∧ X.drew.cell? ⟨w.heap.size, 7, none⟩ = some (.int .u8 (m.r : Int)) ∧ X.drew.cell? ⟨w.heap.size, 8, none⟩ = some (.int .u64 (m.c : Int))) := ⟨k3, HM.out.all.2.2.2.2.2.1, HM.out.all.2.2.2.2.2.2.1, HM.out.all.2.2.2.2.2.2.2.1, HM.out.all.2.2.2.2.2.2.2.2.1⟩
  refine wp_region_held_drew (S := fun U => U.cell? ⟨w.heap.size, 3, none⟩ = some (.int .u16 101) ∧ U.cell? ⟨w.heap.size, 5, none⟩ = some (.int .u64 (m.p : Int)) ∧ U.cell? ⟨w.heap.size, 6, none⟩ = some (.int .u32 (m.o : Int)) ∧ U.cell? ⟨w.heap.size, 7, none⟩ = some (.int .u8 (m.r : Int)) ∧ U.cell? ⟨w.heap.size, 8, none⟩ = some (.int .u64 (m.c : Int))) (by kernel_rfl) hS.out (fun _ => ?_)
  refine wpAnyH_take (i := 0) (oi := { dst := some 72, op := Go.Op.move (Go.Operand.tmp 0), type := 26, pos := "law.go:72", after := #[], guard := none }) (v := (.pointer (some ⟨A.g, 0, none⟩))) rfl (by kernel_rfl) (by kernel_rfl) (by kernel_rfl) (fun _ _ _ h => h) (Or.inl ⟨by kernel_rfl, fun w hC => by go_simp⟩) hS.out ?_
  simp only [Act.put, List.setIfInBounds_toArray, List.set_cons_zero, List.set_cons_succ]
  refine wpAnyH_take (i := 1) (oi := { dst := some 73, op := Go.Op.fieldAddr 53 (Go.Operand.tmp 5) 5, type := 0, pos := "law.go:72", after := #[], guard := none }) (v := (.pointer (some ⟨w.heap.size, 5, none⟩))) rfl (by kernel_rfl) (by kernel_rfl) (by kernel_rfl) (fun _ _ _ h => h) (Or.inl ⟨by kernel_rfl, fun w hC => by go_simp⟩) hS.out ?_
  simp only [Act.put, List.setIfInBounds_toArray, List.set_cons_zero, List.set_cons_succ]
  refine wpAnyH_take (i := 2) (oi := { dst := some 74, op := Go.Op.load 36 (Go.Operand.tmp 73), type := 36, pos := "law.go:72", after := #[{ on := 1, ground := Go.Ground.data }], guard := none }) (v := (.agg #[.int .u64 (m.p : Int), .int .u32 (m.o : Int), .int .u8 (m.r : Int), .int .u64 (m.c : Int)])) rfl (by kernel_rfl) (by kernel_rfl) (by kernel_rfl) (fun _ _ _ h => h) (Or.inl ⟨by kernel_rfl, fun w hC => by (obtain ⟨e3, e5, e6, e7, e8⟩ := hC; go_simp)⟩) hS.out ?_
  simp only [Act.put, List.setIfInBounds_toArray, List.set_cons_zero, List.set_cons_succ]
  refine wpAnyH_take (i := 4) (oi := { dst := some 76, op := Go.Op.fieldAddr 53 (Go.Operand.tmp 5) 3, type := 0, pos := "law.go:72", after := #[], guard := none }) (v := (.pointer (some ⟨w.heap.size, 3, none⟩))) rfl (by kernel_rfl) (by kernel_rfl) (by kernel_rfl) (fun _ _ _ h => h) (Or.inl ⟨by kernel_rfl, fun w hC => by go_simp⟩) hS.out ?_
  simp only [Act.put, List.setIfInBounds_toArray, List.set_cons_zero, List.set_cons_succ]
  refine wpAnyH_take (i := 5) (oi := { dst := some 77, op := Go.Op.load 49 (Go.Operand.tmp 76), type := 49, pos := "law.go:72", after := #[{ on := 4, ground := Go.Ground.data }], guard := none }) (v := (.int .u16 101)) rfl (by kernel_rfl) (by kernel_rfl) (by kernel_rfl) (fun _ _ _ h => h) (Or.inl ⟨by kernel_rfl, fun w hC => by (obtain ⟨e3, e5, e6, e7, e8⟩ := hC; go_simp)⟩) hS.out ?_
  simp only [Act.put, List.setIfInBounds_toArray, List.set_cons_zero, List.set_cons_succ]
  refine wpAnyH_take (i := 6) (oi := { dst := some 78, op := Go.Op.binOp Go.BinOp.sub 49 (Go.Operand.tmp 77) (Go.Operand.const (Go.Value.int Go.IntKind.u16 100)) 49, type := 49, pos := "law.go:72", after := #[{ on := 5, ground := Go.Ground.data }], guard := none }) (v := (.int .u16 1)) rfl (by kernel_rfl) (by kernel_rfl) (by kernel_rfl) (fun _ _ _ h => h) (Or.inl ⟨by kernel_rfl, fun w hC => by go_simp⟩) hS.out ?_
  simp only [Act.put, List.setIfInBounds_toArray, List.set_cons_zero, List.set_cons_succ]
  refine wpAnyH_ready (rs := [3]) (by kernel_rfl) (by simp) ?_
  refine AllReadyH.cons (o := { dst := some 75, op := Go.Op.buildSlice 23 5 #[(0, Go.Operand.const (Go.Value.int Go.IntKind.u8 4)), (1, Go.Operand.const (Go.Value.int Go.IntKind.u8 1)), (2, Go.Operand.const (Go.Value.int Go.IntKind.u8 2)), (3, Go.Operand.const (Go.Value.int Go.IntKind.u8 1)), (4, Go.Operand.const (Go.Value.int Go.IntKind.u8 2))], type := 23, pos := "law.go:72", after := #[], guard := none }) rfl (fun KK hKK => ?_) AllReadyH.nil
  go_simp
  obtain ⟨Y, hY⟩ : ∃ Y, (X.alloc (.cells #[.int .u8 4, .int .u8 1, .int .u8 2, .int .u8 1, .int .u8 2] 5)).drew = Y := ⟨_, rfl⟩
  have bY : Below X.heap.size X Y := hY ▸ (below_alloc X _).drew
  have cY : Y.cell? ⟨X.heap.size, 1, none⟩ = some (.int .u8 1) := by subst hY; show (X.alloc _).cell? _ = _; rw [cell_of_row _ _ _ _ _ _ (heap_alloc_new _ _)]; rfl
  try rw [hY]
  have HM := hide (HM.out.grow bY)
  have HZ := hide (HZ.out.grow bY)
  have HX := hide (HX.out.grow bY)
  have HB := hide (HB.out.carry bY)
  have HQX := hide (HQX.out.grow bY)
  have HBX := hide (below_one HBX.out bY)
  clear bY
  have hS : Hid (Y.cell? ⟨w.heap.size, 3, none⟩ = some (.int .u16 101) ∧ Y.cell? ⟨w.heap.size, 5, none⟩ = some (.int .u64 (m.p : Int)) ∧ Y.cell? ⟨w.heap.size, 6, none⟩ = some (.int .u32 (m.o : Int)) ∧ Y.cell? ⟨w.heap.size, 7, none⟩ = some (.int .u8 (m.r : Int)) ∧ Y.cell? ⟨w.heap.size, 8, none⟩ = some (.int .u64 (m.c : Int))) := ⟨by rw [HM.out.all.2.2.2.1, hopi], HM.out.all.2.2.2.2.2.1, HM.out.all.2.2.2.2.2.2.1, HM.out.all.2.2.2.2.2.2.2.1, HM.out.all.2.2.2.2.2.2.2.2.1⟩
  refine hKK.out _ _ hS.out (fun _ => ?_)
  clear hKK
  refine wpAnyH_take (i := 7) (oi := { dst := some 79, op := Go.Op.indexAddr 23 (Go.Operand.tmp 75) (Go.Operand.tmp 78), type := 0, pos := "law.go:72", after := #[{ on := 3, ground := Go.Ground.data }, { on := 6, ground := Go.Ground.data }], guard := none }) (v := (.pointer (some ⟨X.heap.size, 1, none⟩))) rfl (by kernel_rfl) (by kernel_rfl) (by kernel_rfl) (fun _ _ _ h => h) (Or.inl ⟨by kernel_rfl, fun w hC => by go_simp⟩) hS.out ?_
  simp only [Act.put, List.setIfInBounds_toArray, List.set_cons_zero, List.set_cons_succ]
  refine wpAnyH_ready (rs := [8]) (by kernel_rfl) (by simp) ?_
  refine AllReadyH.cons (o := { dst := some 80, op := Go.Op.load 5 (Go.Operand.tmp 79), type := 5, pos := "law.go:72", after := #[{ on := 7, ground := Go.Ground.data }], guard := none }) rfl (fun KK hKK => ?_) AllReadyH.nil
  go_simp
  have hS : Hid (Y.cell? ⟨w.heap.size, 3, none⟩ = some (.int .u16 101) ∧ Y.cell? ⟨w.heap.size, 5, none⟩ = some (.int .u64 (m.p : Int)) ∧ Y.cell? ⟨w.heap.size, 6, none⟩ = some (.int .u32 (m.o : Int)) ∧ Y.cell? ⟨w.heap.size, 7, none⟩ = some (.int .u8 (m.r : Int)) ∧ Y.cell? ⟨w.heap.size, 8, none⟩ = some (.int .u64 (m.c : Int))) := ⟨by rw [HM.out.all.2.2.2.1, hopi], HM.out.all.2.2.2.2.2.1, HM.out.all.2.2.2.2.2.2.1, HM.out.all.2.2.2.2.2.2.2.1, HM.out.all.2.2.2.2.2.2.2.2.1⟩
  refine hKK.out _ _ hS.out (fun _ => ?_)
  clear hKK
  refine wpAnyH_ready (rs := [9]) (by kernel_rfl) (by simp) ?_
  refine AllReadyH.cons (o := { dst := some 81, op := Go.Op.call { callee := Go.Callee.value (Go.Operand.func 33), args := #[Go.Operand.tmp 72, Go.Operand.tmp 74, Go.Operand.tmp 80], argTypes := #[26, 36, 5] }, type := 99, pos := "law.go:72", after := #[{ on := 0, ground := Go.Ground.data }, { on := 2, ground := Go.Ground.data }, { on := 8, ground := Go.Ground.data }], guard := none }) rfl (fun KK hKK => ?_) AllReadyH.nil
  go_simp
  refine (tb_check ⟨m.p, m.o, m.r, m.c⟩ 1 _ HX.out HQ.out.c (by omega) (by have := HLI.out.el; omega) K HK.out).mono ?_; rw [HER.out]; rintro e w2 ⟨rfl, E⟩
  have kh := HX.out.kh E
  have HM := hide (HM.out.kh kh)
  have HZ := hide (HZ.out.kh kh)
  have HB := hide (Bts.sv HB.out HQX.out.d HX.out E)
  have HQX : Hid (Okm w0 w2 m so sn) := ⟨HQX.out.c, HQX.out.o, HQX.out.a, HQX.out.n, HQX.out.d.kh kh⟩
  have HE := hide (E.from HBX.out)
  clear kh E
  have hS : Hid (w2.cell? ⟨w.heap.size, 3, none⟩ = some (.int .u16 101) ∧ w2.cell? ⟨w.heap.size, 5, none⟩ = some (.int .u64 (m.p : Int)) ∧ w2.cell? ⟨w.heap.size, 6, none⟩ = some (.int .u32 (m.o : Int)) ∧ w2.cell? ⟨w.heap.size, 7, none⟩ = some (.int .u8 (m.r : Int)) ∧ w2.cell? ⟨w.heap.size, 8, none⟩ = some (.int .u64 (m.c : Int))) := ⟨by rw [HM.out.all.2.2.2.1, hopi], HM.out.all.2.2.2.2.2.1, HM.out.all.2.2.2.2.2.2.1, HM.out.all.2.2.2.2.2.2.2.1, HM.out.all.2.2.2.2.2.2.2.2.1⟩
  refine hKK.out _ _ hS.out (fun _ => ?_)
  clear hKK
  refine wpAnyH_take (i := 10) (oi := { dst := some 71, op := Go.Op.move (Go.Operand.tmp 81), type := 99, pos := "law.go:72", after := #[{ on := 9, ground := Go.Ground.data }], guard := none }) (v := (.tuple #[.int .i64 (K.k : Int), er])) rfl (by kernel_rfl) (by kernel_rfl) (by kernel_rfl) (fun _ _ _ h => h) (Or.inl ⟨by kernel_rfl, fun w hC => by go_simp⟩) hS.out ?_
  simp only [Act.put, List.setIfInBounds_toArray, List.set_cons_zero, List.set_cons_succ]
  refine wpAnyH_take (i := 11) (oi := { dst := some 82, op := Go.Op.extract (Go.Operand.tmp 71) 0, type := 3, pos := "law.go:72", after := #[{ on := 10, ground := Go.Ground.data }], guard := none }) (v := (.int .i64 (K.k : Int))) rfl (by kernel_rfl) (by kernel_rfl) (by kernel_rfl) (fun _ _ _ h => h) (Or.inl ⟨by kernel_rfl, fun w hC => by go_simp⟩) hS.out ?_
  simp only [Act.put, List.setIfInBounds_toArray, List.set_cons_zero, List.set_cons_succ]
  refine wpAnyH_take (i := 12) (oi := { dst := some 83, op := Go.Op.extract (Go.Operand.tmp 71) 1, type := 38, pos := "law.go:72", after := #[{ on := 10, ground := Go.Ground.data }, { on := 13, ground := Go.Ground.gcOnly Go.Departure.lateStores }], guard := none }) (v := er) rfl (by kernel_rfl) (by kernel_rfl) (by kernel_rfl) (fun _ _ _ h => h) (Or.inl ⟨by kernel_rfl, fun w hC => by go_simp⟩) hS.out ?_
  simp only [Act.put, List.setIfInBounds_toArray, List.set_cons_zero, List.set_cons_succ]
  refine wpAnyH_take (i := 13) (oi := { dst := some 13, op := Go.Op.assign (Go.Operand.tmp 82), type := 3, pos := "law.go:72", after := #[{ on := 11, ground := Go.Ground.data }, { on := 9, ground := Go.Ground.chain }, { on := 0, ground := Go.Ground.phase }, { on := 1, ground := Go.Ground.phase }, { on := 2, ground := Go.Ground.phase }, { on := 3, ground := Go.Ground.phase }, { on := 4, ground := Go.Ground.phase }, { on := 5, ground := Go.Ground.phase }, { on := 6, ground := Go.Ground.phase }, { on := 7, ground := Go.Ground.phase }, { on := 8, ground := Go.Ground.phase }, { on := 9, ground := Go.Ground.phase }, { on := 10, ground := Go.Ground.phase }, { on := 11, ground := Go.Ground.phase }, { on := 12, ground := Go.Ground.textOnly Go.Departure.lateStores }], guard := none }) (v := (.int .i64 (K.k : Int))) rfl (by kernel_rfl) (by kernel_rfl) (by kernel_rfl) (fun _ _ _ h => h) (Or.inl ⟨by kernel_rfl, fun w hC => by go_simp⟩) hS.out ?_
  simp only [Act.put, List.setIfInBounds_toArray, List.set_cons_zero, List.set_cons_succ]
  refine wpAnyH_take (i := 14) (oi := { dst := some 14, op := Go.Op.assign (Go.Operand.tmp 83), type := 38, pos := "law.go:72", after := #[{ on := 12, ground := Go.Ground.data }, { on := 13, ground := Go.Ground.chain }, { on := 0, ground := Go.Ground.phase }, { on := 1, ground := Go.Ground.phase }, { on := 2, ground := Go.Ground.phase }, { on := 3, ground := Go.Ground.phase }, { on := 4, ground := Go.Ground.phase }, { on := 5, ground := Go.Ground.phase }, { on := 6, ground := Go.Ground.phase }, { on := 7, ground := Go.Ground.phase }, { on := 8, ground := Go.Ground.phase }, { on := 9, ground := Go.Ground.phase }, { on := 10, ground := Go.Ground.phase }, { on := 11, ground := Go.Ground.phase }, { on := 12, ground := Go.Ground.phase }, { on := 13, ground := Go.Ground.phase }], guard := none }) (v := er) rfl (by kernel_rfl) (by kernel_rfl) (by kernel_rfl) (fun _ _ _ h => h) (Or.inl ⟨by kernel_rfl, fun w hC => by go_simp⟩) hS.out ?_
  simp only [Act.put, List.setIfInBounds_toArray, List.set_cons_zero, List.set_cons_succ]
  refine wpAnyH_done (by kernel_rfl) ?_ _
  obtain rfl : er = .nilIface := by rw [← HER.out, H0.out]; rfl
  obtain ⟨v, dv, nv, S1, on1⟩ := SvEnd.run HE.out
  have HS1 := hide S1
  have HON := hide on1
  clear S1 on1
  obtain ⟨k0, k1, k2, k3, k4, k5, k6, k7, k8, k9, k10⟩ := HM.out.all
  rw [hopi] at k3
  go_wp2_with fail
  refine (tb_value (A := A.upd v dv nv) K.k vl _ HS1.out HH.out HVL.out).mono ?_; rintro e w3 ⟨rfl, hw3⟩; subst hw3
  obtain ⟨m2, h2⟩ : ∃ m2, (⟨m.rp, m.ta, m.id, m.op, 4, 0, 0, 0, 0, 0⟩ : Msg) = m2 := ⟨_, rfl⟩
  have hf := fun W (hM : MB W w.heap.size m (.slice so sn sc)) hW => wfail_any m (.slice so sn sc) (4) W hM (by omega) hW m2 h2
  rw [show erN (((4 : Nat)) : Int) = .iface 43 (.int .i64 4) from rfl] at hf
  have HF := hide hf
  clear hf
  go_wp2_with fail
  refine (HF.out _ HM.out (HE.out.glob HG.out)).mono ?_; rintro e w6 ⟨co2, cc2, rfl, B6, b6⟩
  have HB6 := hide B6
  have HZ6 := hide (HZ.out.grow b6)
  have HE6 := hide (HE.out.to b6)
  have HM2 : Hid (m2 = rplF m (badF (s.tab K.t K.es s.T) (4))) := by show _ = _; rw [rpl_bad, ← h2]
  clear B6 b6 h2 k0 k1 k2 k3 k4 k5 k6 k7 k8 k9 k10
  have HZL := hide (HZ6.out.lay (m := m2) (D := .slice co2 0 cc2))
  have f7 := foot_lay11 w6 (w.heap.size + 1) m2 (.slice co2 0 cc2)
  have HE7 := hide (HE6.out.msg HW0.out HZ6.out (by omega) f7)
  have HB7 : Hid (Bts (lay11 w6 (w.heap.size + 1) m2 (.slice co2 0 cc2)) co2 0 cc2 []) := bts_none HB6.out
  obtain ⟨w7, hw7⟩ : ∃ w7, lay11 w6 (w.heap.size + 1) m2 (.slice co2 0 cc2) = w7 := ⟨_, rfl⟩
  rw [hw7] at HZL HE7 HB7
  unfold lay11 at hw7
  clear f7
  obtain ⟨v0, v1, v2, v3, v4, v5, v6, v7, v8, v9, v10⟩ := HZL.out.all
  obtain ⟨z0, z1, z2, z3, z4, z5, z6, z7, z8, z9, z10⟩ := HZ6.out.all
  have x0 := HZ6.out.z 0
  have x1 := HZ6.out.z 1
  have x2 := HZ6.out.z 2
  have x3 := HZ6.out.z 3
  have x4 := HZ6.out.z 4
  have x5 := HZ6.out.z 5
  have x6 := HZ6.out.z 6
  have x7 := HZ6.out.z 7
  have x8 := HZ6.out.z 8
  have x9 := HZ6.out.z 9
  have x10 := HZ6.out.z 10
  go_wp2
  refine bodyPost_ret (by simp [results, Tryz.results19, go_sem, v0, v1, v2, v3, v4, v5, v6, v7, v8, v9, v10]; rfl) rfl ?_
  exact ⟨m2, co2, 0, cc2, HM2.out, rfl, by rw [dat_bad]; exact HB7.out, .inl (dat_bad _ _ _), HE7.out⟩
set_option maxRecDepth 20000 in
set_option maxHeartbeats 12800000 in
theorem want_arg102_0 (m : Msg) (so : Option Addr) (sn sc : Nat) (l : List UInt8) (w : World) (x : Sv w0 w A p ws s) (hb : Bts w so sn sc l) (q : Okm w0 w m so sn) (li : Lim s) (hg : Glob w0) (hop : m.op = 102) (K : Chk) (hK : chkF ws s.t s.es p s.T ⟨m.p, m.o, m.r, m.c⟩ 2 = K) (h0 : K.e = 0) (vl : Int) (hvl : (s.T K.k).v = vl) (hz : vl ≠ -1) (h1 : 2147483647 < m.ar) :
    Calls Tryz.prog 19 #[.pointer (some ⟨A.g, 0, none⟩), .pointer (some ⟨A.sb.2, 0, none⟩), .agg #[.int .u64 m.ta, .int .u64 m.rp, .int .u32 m.id, .int .u16 m.op, .int .u16 m.st, .int .u64 m.p, .int .u32 m.o, .int .u8 m.r, .int .u64 m.c, .int .u64 m.ar, .slice so sn sc]] w fun e w' => RplEnd w0 w A p ws m (badF (s.tab K.t K.es s.T) 4) l e w' := by
  have hmf : ∀ (fn : Fn) (first cap : Array Value) (w : World), (Instr.makeFunc fn first cap).run Tryz.prog w = .ok (.func fn first cap) w := fun _ _ _ _ => rfl
  obtain ⟨X, hX, bm, bz, bX⟩ := rep_vars w m (.slice so sn sc)
  have HX := hide (x.grow bX)
  have HB := hide (hb.carry bX)
  have HM := hide bm
  have HZ := hide bz
  have HBX := hide bX
  have HW0 : Hid (w0.heap.size ≤ w.heap.size) := x.bel.size
  have HQ := hide q
  have HQX := hide (q.grow bX)
  have HLI := hide li
  have HG := hide hg
  have hopi : (m.op : Int) = 102 := by omega
  have HK := hide hK
  have H0 := hide h0
  have HEL : Hid (K.e ≤ 65535) := by show _ ≤ _; have := chk_err ws s.t s.es p s.T ⟨m.p, m.o, m.r, m.c⟩ 2; rw [hK] at this; omega
  obtain ⟨er, her⟩ : ∃ er, erN (K.e : Int) = er := ⟨_, rfl⟩
  have HER := hide her
  have HH : Hid (hasO s.T K.k = true) := by
    have e := chk_has (hK ▸ h0)
    show hasO s.T K.k = true
    rw [← hK, e.2.2]; exact e.1
  obtain ⟨k0, k1, k2, k3, k4, k5, k6, k7, k8, k9, k10⟩ := HM.out.all
  have hwk : IntKind.u16.wrap 2 = 2 := by rw [IntKind.wrap_u16]; rfl
  rw [hopi] at k3 hX
  have HK3 := hide k3
  clear bm bz bX x hb q li hg hop hK h0 her
  have HVL := hide hvl
  clear hvl
  have hz0 : (vl == -1) = false := by simpa using hz
  clear hz
  have hi1 : (2147483647 : Int) < (m.ar : Int) := by omega
  clear h1
  go_enter Tryz.func19, Tryz.ntmps19
  go_wp2_with fail
  have hS : Hid (X.drew.cell? ⟨w.heap.size, 3, none⟩ = some (.int .u16 102) ∧ X.drew.cell? ⟨w.heap.size, 5, none⟩ = some (.int .u64 (m.p : Int)) ∧ X.drew.cell? ⟨w.heap.size, 6, none⟩ = some (.int .u32 (m.o : Int)) ∧ X.drew.cell? ⟨w.heap.size, 7, none⟩ = some (.int .u8 (m.r : Int)) ∧ X.drew.cell? ⟨w.heap.size, 8, none⟩ = some (.int .u64 (m.c : Int))) := ⟨k3, HM.out.all.2.2.2.2.2.1, HM.out.all.2.2.2.2.2.2.1, HM.out.all.2.2.2.2.2.2.2.1, HM.out.all.2.2.2.2.2.2.2.2.1⟩
  refine wp_region_held_drew (S := fun U => U.cell? ⟨w.heap.size, 3, none⟩ = some (.int .u16 102) ∧ U.cell? ⟨w.heap.size, 5, none⟩ = some (.int .u64 (m.p : Int)) ∧ U.cell? ⟨w.heap.size, 6, none⟩ = some (.int .u32 (m.o : Int)) ∧ U.cell? ⟨w.heap.size, 7, none⟩ = some (.int .u8 (m.r : Int)) ∧ U.cell? ⟨w.heap.size, 8, none⟩ = some (.int .u64 (m.c : Int))) (by kernel_rfl) hS.out (fun _ => ?_)
  refine wpAnyH_take (i := 0) (oi := { dst := some 72, op := Go.Op.move (Go.Operand.tmp 0), type := 26, pos := "law.go:72", after := #[], guard := none }) (v := (.pointer (some ⟨A.g, 0, none⟩))) rfl (by kernel_rfl) (by kernel_rfl) (by kernel_rfl) (fun _ _ _ h => h) (Or.inl ⟨by kernel_rfl, fun w hC => by go_simp⟩) hS.out ?_
  simp only [Act.put, List.setIfInBounds_toArray, List.set_cons_zero, List.set_cons_succ]
  refine wpAnyH_take (i := 1) (oi := { dst := some 73, op := Go.Op.fieldAddr 53 (Go.Operand.tmp 5) 5, type := 0, pos := "law.go:72", after := #[], guard := none }) (v := (.pointer (some ⟨w.heap.size, 5, none⟩))) rfl (by kernel_rfl) (by kernel_rfl) (by kernel_rfl) (fun _ _ _ h => h) (Or.inl ⟨by kernel_rfl, fun w hC => by go_simp⟩) hS.out ?_
  simp only [Act.put, List.setIfInBounds_toArray, List.set_cons_zero, List.set_cons_succ]
  refine wpAnyH_take (i := 2) (oi := { dst := some 74, op := Go.Op.load 36 (Go.Operand.tmp 73), type := 36, pos := "law.go:72", after := #[{ on := 1, ground := Go.Ground.data }], guard := none }) (v := (.agg #[.int .u64 (m.p : Int), .int .u32 (m.o : Int), .int .u8 (m.r : Int), .int .u64 (m.c : Int)])) rfl (by kernel_rfl) (by kernel_rfl) (by kernel_rfl) (fun _ _ _ h => h) (Or.inl ⟨by kernel_rfl, fun w hC => by (obtain ⟨e3, e5, e6, e7, e8⟩ := hC; go_simp)⟩) hS.out ?_
  simp only [Act.put, List.setIfInBounds_toArray, List.set_cons_zero, List.set_cons_succ]
  refine wpAnyH_take (i := 4) (oi := { dst := some 76, op := Go.Op.fieldAddr 53 (Go.Operand.tmp 5) 3, type := 0, pos := "law.go:72", after := #[], guard := none }) (v := (.pointer (some ⟨w.heap.size, 3, none⟩))) rfl (by kernel_rfl) (by kernel_rfl) (by kernel_rfl) (fun _ _ _ h => h) (Or.inl ⟨by kernel_rfl, fun w hC => by go_simp⟩) hS.out ?_
  simp only [Act.put, List.setIfInBounds_toArray, List.set_cons_zero, List.set_cons_succ]
  refine wpAnyH_take (i := 5) (oi := { dst := some 77, op := Go.Op.load 49 (Go.Operand.tmp 76), type := 49, pos := "law.go:72", after := #[{ on := 4, ground := Go.Ground.data }], guard := none }) (v := (.int .u16 102)) rfl (by kernel_rfl) (by kernel_rfl) (by kernel_rfl) (fun _ _ _ h => h) (Or.inl ⟨by kernel_rfl, fun w hC => by (obtain ⟨e3, e5, e6, e7, e8⟩ := hC; go_simp)⟩) hS.out ?_
  simp only [Act.put, List.setIfInBounds_toArray, List.set_cons_zero, List.set_cons_succ]
  refine wpAnyH_take (i := 6) (oi := { dst := some 78, op := Go.Op.binOp Go.BinOp.sub 49 (Go.Operand.tmp 77) (Go.Operand.const (Go.Value.int Go.IntKind.u16 100)) 49, type := 49, pos := "law.go:72", after := #[{ on := 5, ground := Go.Ground.data }], guard := none }) (v := (.int .u16 2)) rfl (by kernel_rfl) (by kernel_rfl) (by kernel_rfl) (fun _ _ _ h => h) (Or.inl ⟨by kernel_rfl, fun w hC => by go_simp⟩) hS.out ?_
  simp only [Act.put, List.setIfInBounds_toArray, List.set_cons_zero, List.set_cons_succ]
  refine wpAnyH_ready (rs := [3]) (by kernel_rfl) (by simp) ?_
  refine AllReadyH.cons (o := { dst := some 75, op := Go.Op.buildSlice 23 5 #[(0, Go.Operand.const (Go.Value.int Go.IntKind.u8 4)), (1, Go.Operand.const (Go.Value.int Go.IntKind.u8 1)), (2, Go.Operand.const (Go.Value.int Go.IntKind.u8 2)), (3, Go.Operand.const (Go.Value.int Go.IntKind.u8 1)), (4, Go.Operand.const (Go.Value.int Go.IntKind.u8 2))], type := 23, pos := "law.go:72", after := #[], guard := none }) rfl (fun KK hKK => ?_) AllReadyH.nil
  go_simp
  obtain ⟨Y, hY⟩ : ∃ Y, (X.alloc (.cells #[.int .u8 4, .int .u8 1, .int .u8 2, .int .u8 1, .int .u8 2] 5)).drew = Y := ⟨_, rfl⟩
  have bY : Below X.heap.size X Y := hY ▸ (below_alloc X _).drew
  have cY : Y.cell? ⟨X.heap.size, 2, none⟩ = some (.int .u8 2) := by subst hY; show (X.alloc _).cell? _ = _; rw [cell_of_row _ _ _ _ _ _ (heap_alloc_new _ _)]; rfl
  try rw [hY]
  have HM := hide (HM.out.grow bY)
  have HZ := hide (HZ.out.grow bY)
  have HX := hide (HX.out.grow bY)
  have HB := hide (HB.out.carry bY)
  have HQX := hide (HQX.out.grow bY)
  have HBX := hide (below_one HBX.out bY)
  clear bY
  have hS : Hid (Y.cell? ⟨w.heap.size, 3, none⟩ = some (.int .u16 102) ∧ Y.cell? ⟨w.heap.size, 5, none⟩ = some (.int .u64 (m.p : Int)) ∧ Y.cell? ⟨w.heap.size, 6, none⟩ = some (.int .u32 (m.o : Int)) ∧ Y.cell? ⟨w.heap.size, 7, none⟩ = some (.int .u8 (m.r : Int)) ∧ Y.cell? ⟨w.heap.size, 8, none⟩ = some (.int .u64 (m.c : Int))) := ⟨by rw [HM.out.all.2.2.2.1, hopi], HM.out.all.2.2.2.2.2.1, HM.out.all.2.2.2.2.2.2.1, HM.out.all.2.2.2.2.2.2.2.1, HM.out.all.2.2.2.2.2.2.2.2.1⟩
  refine hKK.out _ _ hS.out (fun _ => ?_)
  clear hKK
  refine wpAnyH_take (i := 7) (oi := { dst := some 79, op := Go.Op.indexAddr 23 (Go.Operand.tmp 75) (Go.Operand.tmp 78), type := 0, pos := "law.go:72", after := #[{ on := 3, ground := Go.Ground.data }, { on := 6, ground := Go.Ground.data }], guard := none }) (v := (.pointer (some ⟨X.heap.size, 2, none⟩))) rfl (by kernel_rfl) (by kernel_rfl) (by kernel_rfl) (fun _ _ _ h => h) (Or.inl ⟨by kernel_rfl, fun w hC => by go_simp⟩) hS.out ?_
  simp only [Act.put, List.setIfInBounds_toArray, List.set_cons_zero, List.set_cons_succ]
  refine wpAnyH_ready (rs := [8]) (by kernel_rfl) (by simp) ?_
  refine AllReadyH.cons (o := { dst := some 80, op := Go.Op.load 5 (Go.Operand.tmp 79), type := 5, pos := "law.go:72", after := #[{ on := 7, ground := Go.Ground.data }], guard := none }) rfl (fun KK hKK => ?_) AllReadyH.nil
  go_simp
  have hS : Hid (Y.cell? ⟨w.heap.size, 3, none⟩ = some (.int .u16 102) ∧ Y.cell? ⟨w.heap.size, 5, none⟩ = some (.int .u64 (m.p : Int)) ∧ Y.cell? ⟨w.heap.size, 6, none⟩ = some (.int .u32 (m.o : Int)) ∧ Y.cell? ⟨w.heap.size, 7, none⟩ = some (.int .u8 (m.r : Int)) ∧ Y.cell? ⟨w.heap.size, 8, none⟩ = some (.int .u64 (m.c : Int))) := ⟨by rw [HM.out.all.2.2.2.1, hopi], HM.out.all.2.2.2.2.2.1, HM.out.all.2.2.2.2.2.2.1, HM.out.all.2.2.2.2.2.2.2.1, HM.out.all.2.2.2.2.2.2.2.2.1⟩
  refine hKK.out _ _ hS.out (fun _ => ?_)
  clear hKK
  refine wpAnyH_ready (rs := [9]) (by kernel_rfl) (by simp) ?_
  refine AllReadyH.cons (o := { dst := some 81, op := Go.Op.call { callee := Go.Callee.value (Go.Operand.func 33), args := #[Go.Operand.tmp 72, Go.Operand.tmp 74, Go.Operand.tmp 80], argTypes := #[26, 36, 5] }, type := 99, pos := "law.go:72", after := #[{ on := 0, ground := Go.Ground.data }, { on := 2, ground := Go.Ground.data }, { on := 8, ground := Go.Ground.data }], guard := none }) rfl (fun KK hKK => ?_) AllReadyH.nil
  go_simp
  refine (tb_check ⟨m.p, m.o, m.r, m.c⟩ 2 _ HX.out HQ.out.c (by omega) (by have := HLI.out.el; omega) K HK.out).mono ?_; rw [HER.out]; rintro e w2 ⟨rfl, E⟩
  have kh := HX.out.kh E
  have HM := hide (HM.out.kh kh)
  have HZ := hide (HZ.out.kh kh)
  have HB := hide (Bts.sv HB.out HQX.out.d HX.out E)
  have HQX : Hid (Okm w0 w2 m so sn) := ⟨HQX.out.c, HQX.out.o, HQX.out.a, HQX.out.n, HQX.out.d.kh kh⟩
  have HE := hide (E.from HBX.out)
  clear kh E
  have hS : Hid (w2.cell? ⟨w.heap.size, 3, none⟩ = some (.int .u16 102) ∧ w2.cell? ⟨w.heap.size, 5, none⟩ = some (.int .u64 (m.p : Int)) ∧ w2.cell? ⟨w.heap.size, 6, none⟩ = some (.int .u32 (m.o : Int)) ∧ w2.cell? ⟨w.heap.size, 7, none⟩ = some (.int .u8 (m.r : Int)) ∧ w2.cell? ⟨w.heap.size, 8, none⟩ = some (.int .u64 (m.c : Int))) := ⟨by rw [HM.out.all.2.2.2.1, hopi], HM.out.all.2.2.2.2.2.1, HM.out.all.2.2.2.2.2.2.1, HM.out.all.2.2.2.2.2.2.2.1, HM.out.all.2.2.2.2.2.2.2.2.1⟩
  refine hKK.out _ _ hS.out (fun _ => ?_)
  clear hKK
  refine wpAnyH_take (i := 10) (oi := { dst := some 71, op := Go.Op.move (Go.Operand.tmp 81), type := 99, pos := "law.go:72", after := #[{ on := 9, ground := Go.Ground.data }], guard := none }) (v := (.tuple #[.int .i64 (K.k : Int), er])) rfl (by kernel_rfl) (by kernel_rfl) (by kernel_rfl) (fun _ _ _ h => h) (Or.inl ⟨by kernel_rfl, fun w hC => by go_simp⟩) hS.out ?_
  simp only [Act.put, List.setIfInBounds_toArray, List.set_cons_zero, List.set_cons_succ]
  refine wpAnyH_take (i := 11) (oi := { dst := some 82, op := Go.Op.extract (Go.Operand.tmp 71) 0, type := 3, pos := "law.go:72", after := #[{ on := 10, ground := Go.Ground.data }], guard := none }) (v := (.int .i64 (K.k : Int))) rfl (by kernel_rfl) (by kernel_rfl) (by kernel_rfl) (fun _ _ _ h => h) (Or.inl ⟨by kernel_rfl, fun w hC => by go_simp⟩) hS.out ?_
  simp only [Act.put, List.setIfInBounds_toArray, List.set_cons_zero, List.set_cons_succ]
  refine wpAnyH_take (i := 12) (oi := { dst := some 83, op := Go.Op.extract (Go.Operand.tmp 71) 1, type := 38, pos := "law.go:72", after := #[{ on := 10, ground := Go.Ground.data }, { on := 13, ground := Go.Ground.gcOnly Go.Departure.lateStores }], guard := none }) (v := er) rfl (by kernel_rfl) (by kernel_rfl) (by kernel_rfl) (fun _ _ _ h => h) (Or.inl ⟨by kernel_rfl, fun w hC => by go_simp⟩) hS.out ?_
  simp only [Act.put, List.setIfInBounds_toArray, List.set_cons_zero, List.set_cons_succ]
  refine wpAnyH_take (i := 13) (oi := { dst := some 13, op := Go.Op.assign (Go.Operand.tmp 82), type := 3, pos := "law.go:72", after := #[{ on := 11, ground := Go.Ground.data }, { on := 9, ground := Go.Ground.chain }, { on := 0, ground := Go.Ground.phase }, { on := 1, ground := Go.Ground.phase }, { on := 2, ground := Go.Ground.phase }, { on := 3, ground := Go.Ground.phase }, { on := 4, ground := Go.Ground.phase }, { on := 5, ground := Go.Ground.phase }, { on := 6, ground := Go.Ground.phase }, { on := 7, ground := Go.Ground.phase }, { on := 8, ground := Go.Ground.phase }, { on := 9, ground := Go.Ground.phase }, { on := 10, ground := Go.Ground.phase }, { on := 11, ground := Go.Ground.phase }, { on := 12, ground := Go.Ground.textOnly Go.Departure.lateStores }], guard := none }) (v := (.int .i64 (K.k : Int))) rfl (by kernel_rfl) (by kernel_rfl) (by kernel_rfl) (fun _ _ _ h => h) (Or.inl ⟨by kernel_rfl, fun w hC => by go_simp⟩) hS.out ?_
  simp only [Act.put, List.setIfInBounds_toArray, List.set_cons_zero, List.set_cons_succ]
  refine wpAnyH_take (i := 14) (oi := { dst := some 14, op := Go.Op.assign (Go.Operand.tmp 83), type := 38, pos := "law.go:72", after := #[{ on := 12, ground := Go.Ground.data }, { on := 13, ground := Go.Ground.chain }, { on := 0, ground := Go.Ground.phase }, { on := 1, ground := Go.Ground.phase }, { on := 2, ground := Go.Ground.phase }, { on := 3, ground := Go.Ground.phase }, { on := 4, ground := Go.Ground.phase }, { on := 5, ground := Go.Ground.phase }, { on := 6, ground := Go.Ground.phase }, { on := 7, ground := Go.Ground.phase }, { on := 8, ground := Go.Ground.phase }, { on := 9, ground := Go.Ground.phase }, { on := 10, ground := Go.Ground.phase }, { on := 11, ground := Go.Ground.phase }, { on := 12, ground := Go.Ground.phase }, { on := 13, ground := Go.Ground.phase }], guard := none }) (v := er) rfl (by kernel_rfl) (by kernel_rfl) (by kernel_rfl) (fun _ _ _ h => h) (Or.inl ⟨by kernel_rfl, fun w hC => by go_simp⟩) hS.out ?_
  simp only [Act.put, List.setIfInBounds_toArray, List.set_cons_zero, List.set_cons_succ]
  refine wpAnyH_done (by kernel_rfl) ?_ _
  obtain rfl : er = .nilIface := by rw [← HER.out, H0.out]; rfl
  obtain ⟨v, dv, nv, S1, on1⟩ := SvEnd.run HE.out
  have HS1 := hide S1
  have HON := hide on1
  clear S1 on1
  obtain ⟨k0, k1, k2, k3, k4, k5, k6, k7, k8, k9, k10⟩ := HM.out.all
  rw [hopi] at k3
  go_wp2_with fail
  refine (tb_value (A := A.upd v dv nv) K.k vl _ HS1.out HH.out HVL.out).mono ?_; rintro e w3 ⟨rfl, hw3⟩; subst hw3
  obtain ⟨m2, h2⟩ : ∃ m2, (⟨m.rp, m.ta, m.id, m.op, 4, 0, 0, 0, 0, 0⟩ : Msg) = m2 := ⟨_, rfl⟩
  have hf := fun W (hM : MB W w.heap.size m (.slice so sn sc)) hW => wfail_any m (.slice so sn sc) (4) W hM (by omega) hW m2 h2
  rw [show erN (((4 : Nat)) : Int) = .iface 43 (.int .i64 4) from rfl] at hf
  have HF := hide hf
  clear hf
  go_wp2_with fail
  refine (HF.out _ HM.out (HE.out.glob HG.out)).mono ?_; rintro e w6 ⟨co2, cc2, rfl, B6, b6⟩
  have HB6 := hide B6
  have HZ6 := hide (HZ.out.grow b6)
  have HE6 := hide (HE.out.to b6)
  have HM2 : Hid (m2 = rplF m (badF (s.tab K.t K.es s.T) (4))) := by show _ = _; rw [rpl_bad, ← h2]
  clear B6 b6 h2 k0 k1 k2 k3 k4 k5 k6 k7 k8 k9 k10
  have HZL := hide (HZ6.out.lay (m := m2) (D := .slice co2 0 cc2))
  have f7 := foot_lay11 w6 (w.heap.size + 1) m2 (.slice co2 0 cc2)
  have HE7 := hide (HE6.out.msg HW0.out HZ6.out (by omega) f7)
  have HB7 : Hid (Bts (lay11 w6 (w.heap.size + 1) m2 (.slice co2 0 cc2)) co2 0 cc2 []) := bts_none HB6.out
  obtain ⟨w7, hw7⟩ : ∃ w7, lay11 w6 (w.heap.size + 1) m2 (.slice co2 0 cc2) = w7 := ⟨_, rfl⟩
  rw [hw7] at HZL HE7 HB7
  unfold lay11 at hw7
  clear f7
  obtain ⟨v0, v1, v2, v3, v4, v5, v6, v7, v8, v9, v10⟩ := HZL.out.all
  obtain ⟨z0, z1, z2, z3, z4, z5, z6, z7, z8, z9, z10⟩ := HZ6.out.all
  have x0 := HZ6.out.z 0
  have x1 := HZ6.out.z 1
  have x2 := HZ6.out.z 2
  have x3 := HZ6.out.z 3
  have x4 := HZ6.out.z 4
  have x5 := HZ6.out.z 5
  have x6 := HZ6.out.z 6
  have x7 := HZ6.out.z 7
  have x8 := HZ6.out.z 8
  have x9 := HZ6.out.z 9
  have x10 := HZ6.out.z 10
  go_wp2
  refine bodyPost_ret (by simp [results, Tryz.results19, go_sem, v0, v1, v2, v3, v4, v5, v6, v7, v8, v9, v10]; rfl) rfl ?_
  exact ⟨m2, co2, 0, cc2, HM2.out, rfl, by rw [dat_bad]; exact HB7.out, .inl (dat_bad _ _ _), HE7.out⟩
set_option maxRecDepth 20000 in
set_option maxHeartbeats 12800000 in
theorem want_arg104_0 (m : Msg) (so : Option Addr) (sn sc : Nat) (l : List UInt8) (w : World) (x : Sv w0 w A p ws s) (hb : Bts w so sn sc l) (q : Okm w0 w m so sn) (li : Lim s) (hg : Glob w0) (hop : m.op = 104) (K : Chk) (hK : chkF ws s.t s.es p s.T ⟨m.p, m.o, m.r, m.c⟩ 2 = K) (h0 : K.e = 0) (vl : Int) (hvl : (s.T K.k).v = vl) (hz : vl ≠ -1) (h1 : 2147483647 < m.ar) :
    Calls Tryz.prog 19 #[.pointer (some ⟨A.g, 0, none⟩), .pointer (some ⟨A.sb.2, 0, none⟩), .agg #[.int .u64 m.ta, .int .u64 m.rp, .int .u32 m.id, .int .u16 m.op, .int .u16 m.st, .int .u64 m.p, .int .u32 m.o, .int .u8 m.r, .int .u64 m.c, .int .u64 m.ar, .slice so sn sc]] w fun e w' => RplEnd w0 w A p ws m (badF (s.tab K.t K.es s.T) 4) l e w' := by
  have hmf : ∀ (fn : Fn) (first cap : Array Value) (w : World), (Instr.makeFunc fn first cap).run Tryz.prog w = .ok (.func fn first cap) w := fun _ _ _ _ => rfl
  obtain ⟨X, hX, bm, bz, bX⟩ := rep_vars w m (.slice so sn sc)
  have HX := hide (x.grow bX)
  have HB := hide (hb.carry bX)
  have HM := hide bm
  have HZ := hide bz
  have HBX := hide bX
  have HW0 : Hid (w0.heap.size ≤ w.heap.size) := x.bel.size
  have HQ := hide q
  have HQX := hide (q.grow bX)
  have HLI := hide li
  have HG := hide hg
  have hopi : (m.op : Int) = 104 := by omega
  have HK := hide hK
  have H0 := hide h0
  have HEL : Hid (K.e ≤ 65535) := by show _ ≤ _; have := chk_err ws s.t s.es p s.T ⟨m.p, m.o, m.r, m.c⟩ 2; rw [hK] at this; omega
  obtain ⟨er, her⟩ : ∃ er, erN (K.e : Int) = er := ⟨_, rfl⟩
  have HER := hide her
  have HH : Hid (hasO s.T K.k = true) := by
    have e := chk_has (hK ▸ h0)
    show hasO s.T K.k = true
    rw [← hK, e.2.2]; exact e.1
  obtain ⟨k0, k1, k2, k3, k4, k5, k6, k7, k8, k9, k10⟩ := HM.out.all
  have hwk : IntKind.u16.wrap 4 = 4 := by rw [IntKind.wrap_u16]; rfl
  rw [hopi] at k3 hX
  have HK3 := hide k3
  clear bm bz bX x hb q li hg hop hK h0 her
  have HVL := hide hvl
  clear hvl
  have hz0 : (vl == -1) = false := by simpa using hz
  clear hz
  have hi1 : (2147483647 : Int) < (m.ar : Int) := by omega
  clear h1
  go_enter Tryz.func19, Tryz.ntmps19
  go_wp2_with fail
  have hS : Hid (X.drew.cell? ⟨w.heap.size, 3, none⟩ = some (.int .u16 104) ∧ X.drew.cell? ⟨w.heap.size, 5, none⟩ = some (.int .u64 (m.p : Int)) ∧ X.drew.cell? ⟨w.heap.size, 6, none⟩ = some (.int .u32 (m.o : Int)) ∧ X.drew.cell? ⟨w.heap.size, 7, none⟩ = some (.int .u8 (m.r : Int)) ∧ X.drew.cell? ⟨w.heap.size, 8, none⟩ = some (.int .u64 (m.c : Int))) := ⟨k3, HM.out.all.2.2.2.2.2.1, HM.out.all.2.2.2.2.2.2.1, HM.out.all.2.2.2.2.2.2.2.1, HM.out.all.2.2.2.2.2.2.2.2.1⟩
  refine wp_region_held_drew (S := fun U => U.cell? ⟨w.heap.size, 3, none⟩ = some (.int .u16 104) ∧ U.cell? ⟨w.heap.size, 5, none⟩ = some (.int .u64 (m.p : Int)) ∧ U.cell? ⟨w.heap.size, 6, none⟩ = some (.int .u32 (m.o : Int)) ∧ U.cell? ⟨w.heap.size, 7, none⟩ = some (.int .u8 (m.r : Int)) ∧ U.cell? ⟨w.heap.size, 8, none⟩ = some (.int .u64 (m.c : Int))) (by kernel_rfl) hS.out (fun _ => ?_)
  refine wpAnyH_take (i := 0) (oi := { dst := some 72, op := Go.Op.move (Go.Operand.tmp 0), type := 26, pos := "law.go:72", after := #[], guard := none }) (v := (.pointer (some ⟨A.g, 0, none⟩))) rfl (by kernel_rfl) (by kernel_rfl) (by kernel_rfl) (fun _ _ _ h => h) (Or.inl ⟨by kernel_rfl, fun w hC => by go_simp⟩) hS.out ?_
  simp only [Act.put, List.setIfInBounds_toArray, List.set_cons_zero, List.set_cons_succ]
  refine wpAnyH_take (i := 1) (oi := { dst := some 73, op := Go.Op.fieldAddr 53 (Go.Operand.tmp 5) 5, type := 0, pos := "law.go:72", after := #[], guard := none }) (v := (.pointer (some ⟨w.heap.size, 5, none⟩))) rfl (by kernel_rfl) (by kernel_rfl) (by kernel_rfl) (fun _ _ _ h => h) (Or.inl ⟨by kernel_rfl, fun w hC => by go_simp⟩) hS.out ?_
  simp only [Act.put, List.setIfInBounds_toArray, List.set_cons_zero, List.set_cons_succ]
  refine wpAnyH_take (i := 2) (oi := { dst := some 74, op := Go.Op.load 36 (Go.Operand.tmp 73), type := 36, pos := "law.go:72", after := #[{ on := 1, ground := Go.Ground.data }], guard := none }) (v := (.agg #[.int .u64 (m.p : Int), .int .u32 (m.o : Int), .int .u8 (m.r : Int), .int .u64 (m.c : Int)])) rfl (by kernel_rfl) (by kernel_rfl) (by kernel_rfl) (fun _ _ _ h => h) (Or.inl ⟨by kernel_rfl, fun w hC => by (obtain ⟨e3, e5, e6, e7, e8⟩ := hC; go_simp)⟩) hS.out ?_
  simp only [Act.put, List.setIfInBounds_toArray, List.set_cons_zero, List.set_cons_succ]
  refine wpAnyH_take (i := 4) (oi := { dst := some 76, op := Go.Op.fieldAddr 53 (Go.Operand.tmp 5) 3, type := 0, pos := "law.go:72", after := #[], guard := none }) (v := (.pointer (some ⟨w.heap.size, 3, none⟩))) rfl (by kernel_rfl) (by kernel_rfl) (by kernel_rfl) (fun _ _ _ h => h) (Or.inl ⟨by kernel_rfl, fun w hC => by go_simp⟩) hS.out ?_
  simp only [Act.put, List.setIfInBounds_toArray, List.set_cons_zero, List.set_cons_succ]
  refine wpAnyH_take (i := 5) (oi := { dst := some 77, op := Go.Op.load 49 (Go.Operand.tmp 76), type := 49, pos := "law.go:72", after := #[{ on := 4, ground := Go.Ground.data }], guard := none }) (v := (.int .u16 104)) rfl (by kernel_rfl) (by kernel_rfl) (by kernel_rfl) (fun _ _ _ h => h) (Or.inl ⟨by kernel_rfl, fun w hC => by (obtain ⟨e3, e5, e6, e7, e8⟩ := hC; go_simp)⟩) hS.out ?_
  simp only [Act.put, List.setIfInBounds_toArray, List.set_cons_zero, List.set_cons_succ]
  refine wpAnyH_take (i := 6) (oi := { dst := some 78, op := Go.Op.binOp Go.BinOp.sub 49 (Go.Operand.tmp 77) (Go.Operand.const (Go.Value.int Go.IntKind.u16 100)) 49, type := 49, pos := "law.go:72", after := #[{ on := 5, ground := Go.Ground.data }], guard := none }) (v := (.int .u16 4)) rfl (by kernel_rfl) (by kernel_rfl) (by kernel_rfl) (fun _ _ _ h => h) (Or.inl ⟨by kernel_rfl, fun w hC => by go_simp⟩) hS.out ?_
  simp only [Act.put, List.setIfInBounds_toArray, List.set_cons_zero, List.set_cons_succ]
  refine wpAnyH_ready (rs := [3]) (by kernel_rfl) (by simp) ?_
  refine AllReadyH.cons (o := { dst := some 75, op := Go.Op.buildSlice 23 5 #[(0, Go.Operand.const (Go.Value.int Go.IntKind.u8 4)), (1, Go.Operand.const (Go.Value.int Go.IntKind.u8 1)), (2, Go.Operand.const (Go.Value.int Go.IntKind.u8 2)), (3, Go.Operand.const (Go.Value.int Go.IntKind.u8 1)), (4, Go.Operand.const (Go.Value.int Go.IntKind.u8 2))], type := 23, pos := "law.go:72", after := #[], guard := none }) rfl (fun KK hKK => ?_) AllReadyH.nil
  go_simp
  obtain ⟨Y, hY⟩ : ∃ Y, (X.alloc (.cells #[.int .u8 4, .int .u8 1, .int .u8 2, .int .u8 1, .int .u8 2] 5)).drew = Y := ⟨_, rfl⟩
  have bY : Below X.heap.size X Y := hY ▸ (below_alloc X _).drew
  have cY : Y.cell? ⟨X.heap.size, 4, none⟩ = some (.int .u8 2) := by subst hY; show (X.alloc _).cell? _ = _; rw [cell_of_row _ _ _ _ _ _ (heap_alloc_new _ _)]; rfl
  try rw [hY]
  have HM := hide (HM.out.grow bY)
  have HZ := hide (HZ.out.grow bY)
  have HX := hide (HX.out.grow bY)
  have HB := hide (HB.out.carry bY)
  have HQX := hide (HQX.out.grow bY)
  have HBX := hide (below_one HBX.out bY)
  clear bY
  have hS : Hid (Y.cell? ⟨w.heap.size, 3, none⟩ = some (.int .u16 104) ∧ Y.cell? ⟨w.heap.size, 5, none⟩ = some (.int .u64 (m.p : Int)) ∧ Y.cell? ⟨w.heap.size, 6, none⟩ = some (.int .u32 (m.o : Int)) ∧ Y.cell? ⟨w.heap.size, 7, none⟩ = some (.int .u8 (m.r : Int)) ∧ Y.cell? ⟨w.heap.size, 8, none⟩ = some (.int .u64 (m.c : Int))) := ⟨by rw [HM.out.all.2.2.2.1, hopi], HM.out.all.2.2.2.2.2.1, HM.out.all.2.2.2.2.2.2.1, HM.out.all.2.2.2.2.2.2.2.1, HM.out.all.2.2.2.2.2.2.2.2.1⟩
  refine hKK.out _ _ hS.out (fun _ => ?_)
  clear hKK
  refine wpAnyH_take (i := 7) (oi := { dst := some 79, op := Go.Op.indexAddr 23 (Go.Operand.tmp 75) (Go.Operand.tmp 78), type := 0, pos := "law.go:72", after := #[{ on := 3, ground := Go.Ground.data }, { on := 6, ground := Go.Ground.data }], guard := none }) (v := (.pointer (some ⟨X.heap.size, 4, none⟩))) rfl (by kernel_rfl) (by kernel_rfl) (by kernel_rfl) (fun _ _ _ h => h) (Or.inl ⟨by kernel_rfl, fun w hC => by go_simp⟩) hS.out ?_
  simp only [Act.put, List.setIfInBounds_toArray, List.set_cons_zero, List.set_cons_succ]
  refine wpAnyH_ready (rs := [8]) (by kernel_rfl) (by simp) ?_
  refine AllReadyH.cons (o := { dst := some 80, op := Go.Op.load 5 (Go.Operand.tmp 79), type := 5, pos := "law.go:72", after := #[{ on := 7, ground := Go.Ground.data }], guard := none }) rfl (fun KK hKK => ?_) AllReadyH.nil
  go_simp
  have hS : Hid (Y.cell? ⟨w.heap.size, 3, none⟩ = some (.int .u16 104) ∧ Y.cell? ⟨w.heap.size, 5, none⟩ = some (.int .u64 (m.p : Int)) ∧ Y.cell? ⟨w.heap.size, 6, none⟩ = some (.int .u32 (m.o : Int)) ∧ Y.cell? ⟨w.heap.size, 7, none⟩ = some (.int .u8 (m.r : Int)) ∧ Y.cell? ⟨w.heap.size, 8, none⟩ = some (.int .u64 (m.c : Int))) := ⟨by rw [HM.out.all.2.2.2.1, hopi], HM.out.all.2.2.2.2.2.1, HM.out.all.2.2.2.2.2.2.1, HM.out.all.2.2.2.2.2.2.2.1, HM.out.all.2.2.2.2.2.2.2.2.1⟩
  refine hKK.out _ _ hS.out (fun _ => ?_)
  clear hKK
  refine wpAnyH_ready (rs := [9]) (by kernel_rfl) (by simp) ?_
  refine AllReadyH.cons (o := { dst := some 81, op := Go.Op.call { callee := Go.Callee.value (Go.Operand.func 33), args := #[Go.Operand.tmp 72, Go.Operand.tmp 74, Go.Operand.tmp 80], argTypes := #[26, 36, 5] }, type := 99, pos := "law.go:72", after := #[{ on := 0, ground := Go.Ground.data }, { on := 2, ground := Go.Ground.data }, { on := 8, ground := Go.Ground.data }], guard := none }) rfl (fun KK hKK => ?_) AllReadyH.nil
  go_simp
  refine (tb_check ⟨m.p, m.o, m.r, m.c⟩ 2 _ HX.out HQ.out.c (by omega) (by have := HLI.out.el; omega) K HK.out).mono ?_; rw [HER.out]; rintro e w2 ⟨rfl, E⟩
  have kh := HX.out.kh E
  have HM := hide (HM.out.kh kh)
  have HZ := hide (HZ.out.kh kh)
  have HB := hide (Bts.sv HB.out HQX.out.d HX.out E)
  have HQX : Hid (Okm w0 w2 m so sn) := ⟨HQX.out.c, HQX.out.o, HQX.out.a, HQX.out.n, HQX.out.d.kh kh⟩
  have HE := hide (E.from HBX.out)
  clear kh E
  have hS : Hid (w2.cell? ⟨w.heap.size, 3, none⟩ = some (.int .u16 104) ∧ w2.cell? ⟨w.heap.size, 5, none⟩ = some (.int .u64 (m.p : Int)) ∧ w2.cell? ⟨w.heap.size, 6, none⟩ = some (.int .u32 (m.o : Int)) ∧ w2.cell? ⟨w.heap.size, 7, none⟩ = some (.int .u8 (m.r : Int)) ∧ w2.cell? ⟨w.heap.size, 8, none⟩ = some (.int .u64 (m.c : Int))) := ⟨by rw [HM.out.all.2.2.2.1, hopi], HM.out.all.2.2.2.2.2.1, HM.out.all.2.2.2.2.2.2.1, HM.out.all.2.2.2.2.2.2.2.1, HM.out.all.2.2.2.2.2.2.2.2.1⟩
  refine hKK.out _ _ hS.out (fun _ => ?_)
  clear hKK
  refine wpAnyH_take (i := 10) (oi := { dst := some 71, op := Go.Op.move (Go.Operand.tmp 81), type := 99, pos := "law.go:72", after := #[{ on := 9, ground := Go.Ground.data }], guard := none }) (v := (.tuple #[.int .i64 (K.k : Int), er])) rfl (by kernel_rfl) (by kernel_rfl) (by kernel_rfl) (fun _ _ _ h => h) (Or.inl ⟨by kernel_rfl, fun w hC => by go_simp⟩) hS.out ?_
  simp only [Act.put, List.setIfInBounds_toArray, List.set_cons_zero, List.set_cons_succ]
  refine wpAnyH_take (i := 11) (oi := { dst := some 82, op := Go.Op.extract (Go.Operand.tmp 71) 0, type := 3, pos := "law.go:72", after := #[{ on := 10, ground := Go.Ground.data }], guard := none }) (v := (.int .i64 (K.k : Int))) rfl (by kernel_rfl) (by kernel_rfl) (by kernel_rfl) (fun _ _ _ h => h) (Or.inl ⟨by kernel_rfl, fun w hC => by go_simp⟩) hS.out ?_
  simp only [Act.put, List.setIfInBounds_toArray, List.set_cons_zero, List.set_cons_succ]
  refine wpAnyH_take (i := 12) (oi := { dst := some 83, op := Go.Op.extract (Go.Operand.tmp 71) 1, type := 38, pos := "law.go:72", after := #[{ on := 10, ground := Go.Ground.data }, { on := 13, ground := Go.Ground.gcOnly Go.Departure.lateStores }], guard := none }) (v := er) rfl (by kernel_rfl) (by kernel_rfl) (by kernel_rfl) (fun _ _ _ h => h) (Or.inl ⟨by kernel_rfl, fun w hC => by go_simp⟩) hS.out ?_
  simp only [Act.put, List.setIfInBounds_toArray, List.set_cons_zero, List.set_cons_succ]
  refine wpAnyH_take (i := 13) (oi := { dst := some 13, op := Go.Op.assign (Go.Operand.tmp 82), type := 3, pos := "law.go:72", after := #[{ on := 11, ground := Go.Ground.data }, { on := 9, ground := Go.Ground.chain }, { on := 0, ground := Go.Ground.phase }, { on := 1, ground := Go.Ground.phase }, { on := 2, ground := Go.Ground.phase }, { on := 3, ground := Go.Ground.phase }, { on := 4, ground := Go.Ground.phase }, { on := 5, ground := Go.Ground.phase }, { on := 6, ground := Go.Ground.phase }, { on := 7, ground := Go.Ground.phase }, { on := 8, ground := Go.Ground.phase }, { on := 9, ground := Go.Ground.phase }, { on := 10, ground := Go.Ground.phase }, { on := 11, ground := Go.Ground.phase }, { on := 12, ground := Go.Ground.textOnly Go.Departure.lateStores }], guard := none }) (v := (.int .i64 (K.k : Int))) rfl (by kernel_rfl) (by kernel_rfl) (by kernel_rfl) (fun _ _ _ h => h) (Or.inl ⟨by kernel_rfl, fun w hC => by go_simp⟩) hS.out ?_
  simp only [Act.put, List.setIfInBounds_toArray, List.set_cons_zero, List.set_cons_succ]
  refine wpAnyH_take (i := 14) (oi := { dst := some 14, op := Go.Op.assign (Go.Operand.tmp 83), type := 38, pos := "law.go:72", after := #[{ on := 12, ground := Go.Ground.data }, { on := 13, ground := Go.Ground.chain }, { on := 0, ground := Go.Ground.phase }, { on := 1, ground := Go.Ground.phase }, { on := 2, ground := Go.Ground.phase }, { on := 3, ground := Go.Ground.phase }, { on := 4, ground := Go.Ground.phase }, { on := 5, ground := Go.Ground.phase }, { on := 6, ground := Go.Ground.phase }, { on := 7, ground := Go.Ground.phase }, { on := 8, ground := Go.Ground.phase }, { on := 9, ground := Go.Ground.phase }, { on := 10, ground := Go.Ground.phase }, { on := 11, ground := Go.Ground.phase }, { on := 12, ground := Go.Ground.phase }, { on := 13, ground := Go.Ground.phase }], guard := none }) (v := er) rfl (by kernel_rfl) (by kernel_rfl) (by kernel_rfl) (fun _ _ _ h => h) (Or.inl ⟨by kernel_rfl, fun w hC => by go_simp⟩) hS.out ?_
  simp only [Act.put, List.setIfInBounds_toArray, List.set_cons_zero, List.set_cons_succ]
  refine wpAnyH_done (by kernel_rfl) ?_ _
  obtain rfl : er = .nilIface := by rw [← HER.out, H0.out]; rfl
  obtain ⟨v, dv, nv, S1, on1⟩ := SvEnd.run HE.out
  have HS1 := hide S1
  have HON := hide on1
  clear S1 on1
  obtain ⟨k0, k1, k2, k3, k4, k5, k6, k7, k8, k9, k10⟩ := HM.out.all
  rw [hopi] at k3
  go_wp2_with fail
  refine (tb_value (A := A.upd v dv nv) K.k vl _ HS1.out HH.out HVL.out).mono ?_; rintro e w3 ⟨rfl, hw3⟩; subst hw3
  obtain ⟨m2, h2⟩ : ∃ m2, (⟨m.rp, m.ta, m.id, m.op, 4, 0, 0, 0, 0, 0⟩ : Msg) = m2 := ⟨_, rfl⟩
  have hf := fun W (hM : MB W w.heap.size m (.slice so sn sc)) hW => wfail_any m (.slice so sn sc) (4) W hM (by omega) hW m2 h2
  rw [show erN (((4 : Nat)) : Int) = .iface 43 (.int .i64 4) from rfl] at hf
  have HF := hide hf
  clear hf
  go_wp2_with fail
  refine (HF.out _ HM.out (HE.out.glob HG.out)).mono ?_; rintro e w6 ⟨co2, cc2, rfl, B6, b6⟩
  have HB6 := hide B6
  have HZ6 := hide (HZ.out.grow b6)
  have HE6 := hide (HE.out.to b6)
  have HM2 : Hid (m2 = rplF m (badF (s.tab K.t K.es s.T) (4))) := by show _ = _; rw [rpl_bad, ← h2]
  clear B6 b6 h2 k0 k1 k2 k3 k4 k5 k6 k7 k8 k9 k10
  have HZL := hide (HZ6.out.lay (m := m2) (D := .slice co2 0 cc2))
  have f7 := foot_lay11 w6 (w.heap.size + 1) m2 (.slice co2 0 cc2)
  have HE7 := hide (HE6.out.msg HW0.out HZ6.out (by omega) f7)
  have HB7 : Hid (Bts (lay11 w6 (w.heap.size + 1) m2 (.slice co2 0 cc2)) co2 0 cc2 []) := bts_none HB6.out
  obtain ⟨w7, hw7⟩ : ∃ w7, lay11 w6 (w.heap.size + 1) m2 (.slice co2 0 cc2) = w7 := ⟨_, rfl⟩
  rw [hw7] at HZL HE7 HB7
  unfold lay11 at hw7
  clear f7
  obtain ⟨v0, v1, v2, v3, v4, v5, v6, v7, v8, v9, v10⟩ := HZL.out.all
  obtain ⟨z0, z1, z2, z3, z4, z5, z6, z7, z8, z9, z10⟩ := HZ6.out.all
  have x0 := HZ6.out.z 0
  have x1 := HZ6.out.z 1
  have x2 := HZ6.out.z 2
  have x3 := HZ6.out.z 3
  have x4 := HZ6.out.z 4
  have x5 := HZ6.out.z 5
  have x6 := HZ6.out.z 6
  have x7 := HZ6.out.z 7
  have x8 := HZ6.out.z 8
  have x9 := HZ6.out.z 9
  have x10 := HZ6.out.z 10
  go_wp2
  refine bodyPost_ret (by simp [results, Tryz.results19, go_sem, v0, v1, v2, v3, v4, v5, v6, v7, v8, v9, v10]; rfl) rfl ?_
  exact ⟨m2, co2, 0, cc2, HM2.out, rfl, by rw [dat_bad]; exact HB7.out, .inl (dat_bad _ _ _), HE7.out⟩
end
end Go.Proofs.YtpbkjmkdciiccaaGreatDoor
namespace Go.Proofs.YtpbkjmkdciiccaaGreatDoor
section
open Go.RowKit
variable {w0 w w1 w2 w' : World} {A A' : Ad} {p : Nat} {ws : List Nat} {s s' s1 : Hs} {r g : Nat} {sb : Nat × Nat}
set_option maxRecDepth 20000 in
set_option maxHeartbeats 12800000 in
theorem want_yes102 (m : Msg) (so : Option Addr) (sn sc : Nat) (l : List UInt8) (w : World) (x : Sv w0 w A p ws s) (hb : Bts w so sn sc l) (q : Okm w0 w m so sn) (li : Lim s) (hg : Glob w0) (hop : m.op = 102) (K : Chk) (hK : chkF ws s.t s.es p s.T ⟨m.p, m.o, m.r, m.c⟩ 2 = K) (h0 : K.e = 0) (vl : Int) (hvl : (s.T K.k).v = vl) (hz : vl ≠ -1) (h1 : ¬ 2147483647 < m.ar) :
    Calls Tryz.prog 19 #[.pointer (some ⟨A.g, 0, none⟩), .pointer (some ⟨A.sb.2, 0, none⟩), .agg #[.int .u64 m.ta, .int .u64 m.rp, .int .u32 m.id, .int .u16 m.op, .int .u16 m.st, .int .u64 m.p, .int .u32 m.o, .int .u8 m.r, .int .u64 m.c, .int .u64 m.ar, .slice so sn sc]] w fun e w' => RplEnd w0 w A p ws m (badF ((s.tab K.t K.es s.T).sto (wriL s.L vl (m.ar : Int) l)) (wriE s.L vl (m.ar : Int) l).toNat) l e w' := by
  have hmf : ∀ (fn : Fn) (first cap : Array Value) (w : World), (Instr.makeFunc fn first cap).run Tryz.prog w = .ok (.func fn first cap) w := fun _ _ _ _ => rfl
  obtain ⟨X, hX, bm, bz, bX⟩ := rep_vars w m (.slice so sn sc)
  have HX := hide (x.grow bX)
  have HB := hide (hb.carry bX)
  have HM := hide bm
  have HZ := hide bz
  have HBX := hide bX
  have HW0 : Hid (w0.heap.size ≤ w.heap.size) := x.bel.size
  have HQ := hide q
  have HQX := hide (q.grow bX)
  have HLI := hide li
  have HG := hide hg
  have hopi : (m.op : Int) = 102 := by omega
  have HK := hide hK
  have H0 := hide h0
  have HEL : Hid (K.e ≤ 65535) := by show _ ≤ _; have := chk_err ws s.t s.es p s.T ⟨m.p, m.o, m.r, m.c⟩ 2; rw [hK] at this; omega
  obtain ⟨er, her⟩ : ∃ er, erN (K.e : Int) = er := ⟨_, rfl⟩
  have HER := hide her
  have HH : Hid (hasO s.T K.k = true) := by
    have e := chk_has (hK ▸ h0)
    show hasO s.T K.k = true
    rw [← hK, e.2.2]; exact e.1
  obtain ⟨k0, k1, k2, k3, k4, k5, k6, k7, k8, k9, k10⟩ := HM.out.all
  have hwk : IntKind.u16.wrap 2 = 2 := by rw [IntKind.wrap_u16]; rfl
  rw [hopi] at k3 hX
  have HK3 := hide k3
  clear bm bz bX x hb q li hg hop hK h0 her
  have HVL := hide hvl
  clear hvl
  have hz0 : (vl == -1) = false := by simpa using hz
  clear hz
  have hi1 : ¬ (2147483647 : Int) < (m.ar : Int) := by omega
  have hw6 : IntKind.i64.wrap (m.ar : Int) = (m.ar : Int) := by rw [IntKind.wrap_i64]; omega
  obtain ⟨ee, hee⟩ : ∃ ee, (wriE s.L vl (m.ar : Int) l).toNat = ee := ⟨_, rfl⟩
  have HEE2 : Hid (erN (wriE s.L vl (m.ar : Int) l) = erN (ee : Int)) := by show _ = _; rw [← hee, erN_toNat (wriE_in s.L vl (m.ar : Int) l).1]
  have HEL2 : Hid (ee ≤ 65535) := by show _ ≤ _; have := wriE_in s.L vl (m.ar : Int) l; omega
  rw [hee]
  obtain ⟨L2, hL2⟩ : ∃ L2, wriL s.L vl (m.ar : Int) l = L2 := ⟨_, rfl⟩
  rw [hL2]
  have HL2 := hide hL2
  obtain ⟨er2, her2⟩ : ∃ er2, erN (ee : Int) = er2 := ⟨_, rfl⟩
  have HER2 := hide her2
  have HA1 := hide h1
  clear hee hL2 her2 h1
  go_enter Tryz.func19, Tryz.ntmps19
  go_wp2_with fail
  have hS : Hid (X.drew.cell? ⟨w.heap.size, 3, none⟩ = some (.int .u16 102) ∧ X.drew.cell? ⟨w.heap.size, 5, none⟩ = some (.int .u64 (m.p : Int)) ∧ X.drew.cell? ⟨w.heap.size, 6, none⟩ = some (.int .u32 (m.o : Int)) ∧ X.drew.cell? ⟨w.heap.size, 7, none⟩ = some (.int .u8 (m.r : Int)) ∧ X.drew.cell? ⟨w.heap.size, 8, none⟩ = some (.int .u64 (m.c : Int))) := ⟨k3, HM.out.all.2.2.2.2.2.1, HM.out.all.2.2.2.2.2.2.1, HM.out.all.2.2.2.2.2.2.2.1, HM.out.all.2.2.2.2.2.2.2.2.1⟩
  refine wp_region_held_drew (S := fun U => U.cell? ⟨w.heap.size, 3, none⟩ = some (.int .u16 102) ∧ U.cell? ⟨w.heap.size, 5, none⟩ = some (.int .u64 (m.p : Int)) ∧ U.cell? ⟨w.heap.size, 6, none⟩ = some (.int .u32 (m.o : Int)) ∧ U.cell? ⟨w.heap.size, 7, none⟩ = some (.int .u8 (m.r : Int)) ∧ U.cell? ⟨w.heap.size, 8, none⟩ = some (.int .u64 (m.c : Int))) (by kernel_rfl) hS.out (fun _ => ?_)
  refine wpAnyH_take (i := 0) (oi := { dst := some 72, op := Go.Op.move (Go.Operand.tmp 0), type := 26, pos := "law.go:72", after := #[], guard := none }) (v := (.pointer (some ⟨A.g, 0, none⟩))) rfl (by kernel_rfl) (by kernel_rfl) (by kernel_rfl) (fun _ _ _ h => h) (Or.inl ⟨by kernel_rfl, fun w hC => by go_simp⟩) hS.out ?_
  simp only [Act.put, List.setIfInBounds_toArray, List.set_cons_zero, List.set_cons_succ]
  refine wpAnyH_take (i := 1) (oi := { dst := some 73, op := Go.Op.fieldAddr 53 (Go.Operand.tmp 5) 5, type := 0, pos := "law.go:72", after := #[], guard := none }) (v := (.pointer (some ⟨w.heap.size, 5, none⟩))) rfl (by kernel_rfl) (by kernel_rfl) (by kernel_rfl) (fun _ _ _ h => h) (Or.inl ⟨by kernel_rfl, fun w hC => by go_simp⟩) hS.out ?_
  simp only [Act.put, List.setIfInBounds_toArray, List.set_cons_zero, List.set_cons_succ]
  refine wpAnyH_take (i := 2) (oi := { dst := some 74, op := Go.Op.load 36 (Go.Operand.tmp 73), type := 36, pos := "law.go:72", after := #[{ on := 1, ground := Go.Ground.data }], guard := none }) (v := (.agg #[.int .u64 (m.p : Int), .int .u32 (m.o : Int), .int .u8 (m.r : Int), .int .u64 (m.c : Int)])) rfl (by kernel_rfl) (by kernel_rfl) (by kernel_rfl) (fun _ _ _ h => h) (Or.inl ⟨by kernel_rfl, fun w hC => by (obtain ⟨e3, e5, e6, e7, e8⟩ := hC; go_simp)⟩) hS.out ?_
  simp only [Act.put, List.setIfInBounds_toArray, List.set_cons_zero, List.set_cons_succ]
  refine wpAnyH_take (i := 4) (oi := { dst := some 76, op := Go.Op.fieldAddr 53 (Go.Operand.tmp 5) 3, type := 0, pos := "law.go:72", after := #[], guard := none }) (v := (.pointer (some ⟨w.heap.size, 3, none⟩))) rfl (by kernel_rfl) (by kernel_rfl) (by kernel_rfl) (fun _ _ _ h => h) (Or.inl ⟨by kernel_rfl, fun w hC => by go_simp⟩) hS.out ?_
  simp only [Act.put, List.setIfInBounds_toArray, List.set_cons_zero, List.set_cons_succ]
  refine wpAnyH_take (i := 5) (oi := { dst := some 77, op := Go.Op.load 49 (Go.Operand.tmp 76), type := 49, pos := "law.go:72", after := #[{ on := 4, ground := Go.Ground.data }], guard := none }) (v := (.int .u16 102)) rfl (by kernel_rfl) (by kernel_rfl) (by kernel_rfl) (fun _ _ _ h => h) (Or.inl ⟨by kernel_rfl, fun w hC => by (obtain ⟨e3, e5, e6, e7, e8⟩ := hC; go_simp)⟩) hS.out ?_
  simp only [Act.put, List.setIfInBounds_toArray, List.set_cons_zero, List.set_cons_succ]
  refine wpAnyH_take (i := 6) (oi := { dst := some 78, op := Go.Op.binOp Go.BinOp.sub 49 (Go.Operand.tmp 77) (Go.Operand.const (Go.Value.int Go.IntKind.u16 100)) 49, type := 49, pos := "law.go:72", after := #[{ on := 5, ground := Go.Ground.data }], guard := none }) (v := (.int .u16 2)) rfl (by kernel_rfl) (by kernel_rfl) (by kernel_rfl) (fun _ _ _ h => h) (Or.inl ⟨by kernel_rfl, fun w hC => by go_simp⟩) hS.out ?_
  simp only [Act.put, List.setIfInBounds_toArray, List.set_cons_zero, List.set_cons_succ]
  refine wpAnyH_ready (rs := [3]) (by kernel_rfl) (by simp) ?_
  refine AllReadyH.cons (o := { dst := some 75, op := Go.Op.buildSlice 23 5 #[(0, Go.Operand.const (Go.Value.int Go.IntKind.u8 4)), (1, Go.Operand.const (Go.Value.int Go.IntKind.u8 1)), (2, Go.Operand.const (Go.Value.int Go.IntKind.u8 2)), (3, Go.Operand.const (Go.Value.int Go.IntKind.u8 1)), (4, Go.Operand.const (Go.Value.int Go.IntKind.u8 2))], type := 23, pos := "law.go:72", after := #[], guard := none }) rfl (fun KK hKK => ?_) AllReadyH.nil
  go_simp
  obtain ⟨Y, hY⟩ : ∃ Y, (X.alloc (.cells #[.int .u8 4, .int .u8 1, .int .u8 2, .int .u8 1, .int .u8 2] 5)).drew = Y := ⟨_, rfl⟩
  have bY : Below X.heap.size X Y := hY ▸ (below_alloc X _).drew
  have cY : Y.cell? ⟨X.heap.size, 2, none⟩ = some (.int .u8 2) := by subst hY; show (X.alloc _).cell? _ = _; rw [cell_of_row _ _ _ _ _ _ (heap_alloc_new _ _)]; rfl
  try rw [hY]
  have HM := hide (HM.out.grow bY)
  have HZ := hide (HZ.out.grow bY)
  have HX := hide (HX.out.grow bY)
  have HB := hide (HB.out.carry bY)
  have HQX := hide (HQX.out.grow bY)
  have HBX := hide (below_one HBX.out bY)
  clear bY
  have hS : Hid (Y.cell? ⟨w.heap.size, 3, none⟩ = some (.int .u16 102) ∧ Y.cell? ⟨w.heap.size, 5, none⟩ = some (.int .u64 (m.p : Int)) ∧ Y.cell? ⟨w.heap.size, 6, none⟩ = some (.int .u32 (m.o : Int)) ∧ Y.cell? ⟨w.heap.size, 7, none⟩ = some (.int .u8 (m.r : Int)) ∧ Y.cell? ⟨w.heap.size, 8, none⟩ = some (.int .u64 (m.c : Int))) := ⟨by rw [HM.out.all.2.2.2.1, hopi], HM.out.all.2.2.2.2.2.1, HM.out.all.2.2.2.2.2.2.1, HM.out.all.2.2.2.2.2.2.2.1, HM.out.all.2.2.2.2.2.2.2.2.1⟩
  refine hKK.out _ _ hS.out (fun _ => ?_)
  clear hKK
  refine wpAnyH_take (i := 7) (oi := { dst := some 79, op := Go.Op.indexAddr 23 (Go.Operand.tmp 75) (Go.Operand.tmp 78), type := 0, pos := "law.go:72", after := #[{ on := 3, ground := Go.Ground.data }, { on := 6, ground := Go.Ground.data }], guard := none }) (v := (.pointer (some ⟨X.heap.size, 2, none⟩))) rfl (by kernel_rfl) (by kernel_rfl) (by kernel_rfl) (fun _ _ _ h => h) (Or.inl ⟨by kernel_rfl, fun w hC => by go_simp⟩) hS.out ?_
  simp only [Act.put, List.setIfInBounds_toArray, List.set_cons_zero, List.set_cons_succ]
  refine wpAnyH_ready (rs := [8]) (by kernel_rfl) (by simp) ?_
  refine AllReadyH.cons (o := { dst := some 80, op := Go.Op.load 5 (Go.Operand.tmp 79), type := 5, pos := "law.go:72", after := #[{ on := 7, ground := Go.Ground.data }], guard := none }) rfl (fun KK hKK => ?_) AllReadyH.nil
  go_simp
  have hS : Hid (Y.cell? ⟨w.heap.size, 3, none⟩ = some (.int .u16 102) ∧ Y.cell? ⟨w.heap.size, 5, none⟩ = some (.int .u64 (m.p : Int)) ∧ Y.cell? ⟨w.heap.size, 6, none⟩ = some (.int .u32 (m.o : Int)) ∧ Y.cell? ⟨w.heap.size, 7, none⟩ = some (.int .u8 (m.r : Int)) ∧ Y.cell? ⟨w.heap.size, 8, none⟩ = some (.int .u64 (m.c : Int))) := ⟨by rw [HM.out.all.2.2.2.1, hopi], HM.out.all.2.2.2.2.2.1, HM.out.all.2.2.2.2.2.2.1, HM.out.all.2.2.2.2.2.2.2.1, HM.out.all.2.2.2.2.2.2.2.2.1⟩
  refine hKK.out _ _ hS.out (fun _ => ?_)
  clear hKK
  refine wpAnyH_ready (rs := [9]) (by kernel_rfl) (by simp) ?_
  refine AllReadyH.cons (o := { dst := some 81, op := Go.Op.call { callee := Go.Callee.value (Go.Operand.func 33), args := #[Go.Operand.tmp 72, Go.Operand.tmp 74, Go.Operand.tmp 80], argTypes := #[26, 36, 5] }, type := 99, pos := "law.go:72", after := #[{ on := 0, ground := Go.Ground.data }, { on := 2, ground := Go.Ground.data }, { on := 8, ground := Go.Ground.data }], guard := none }) rfl (fun KK hKK => ?_) AllReadyH.nil
  go_simp
  refine (tb_check ⟨m.p, m.o, m.r, m.c⟩ 2 _ HX.out HQ.out.c (by omega) (by have := HLI.out.el; omega) K HK.out).mono ?_; rw [HER.out]; rintro e w2 ⟨rfl, E⟩
  have kh := HX.out.kh E
  have HM := hide (HM.out.kh kh)
  have HZ := hide (HZ.out.kh kh)
  have HB := hide (Bts.sv HB.out HQX.out.d HX.out E)
  have HQX : Hid (Okm w0 w2 m so sn) := ⟨HQX.out.c, HQX.out.o, HQX.out.a, HQX.out.n, HQX.out.d.kh kh⟩
  have HE := hide (E.from HBX.out)
  clear kh E
  have hS : Hid (w2.cell? ⟨w.heap.size, 3, none⟩ = some (.int .u16 102) ∧ w2.cell? ⟨w.heap.size, 5, none⟩ = some (.int .u64 (m.p : Int)) ∧ w2.cell? ⟨w.heap.size, 6, none⟩ = some (.int .u32 (m.o : Int)) ∧ w2.cell? ⟨w.heap.size, 7, none⟩ = some (.int .u8 (m.r : Int)) ∧ w2.cell? ⟨w.heap.size, 8, none⟩ = some (.int .u64 (m.c : Int))) := ⟨by rw [HM.out.all.2.2.2.1, hopi], HM.out.all.2.2.2.2.2.1, HM.out.all.2.2.2.2.2.2.1, HM.out.all.2.2.2.2.2.2.2.1, HM.out.all.2.2.2.2.2.2.2.2.1⟩
  refine hKK.out _ _ hS.out (fun _ => ?_)
  clear hKK
  refine wpAnyH_take (i := 10) (oi := { dst := some 71, op := Go.Op.move (Go.Operand.tmp 81), type := 99, pos := "law.go:72", after := #[{ on := 9, ground := Go.Ground.data }], guard := none }) (v := (.tuple #[.int .i64 (K.k : Int), er])) rfl (by kernel_rfl) (by kernel_rfl) (by kernel_rfl) (fun _ _ _ h => h) (Or.inl ⟨by kernel_rfl, fun w hC => by go_simp⟩) hS.out ?_
  simp only [Act.put, List.setIfInBounds_toArray, List.set_cons_zero, List.set_cons_succ]
  refine wpAnyH_take (i := 11) (oi := { dst := some 82, op := Go.Op.extract (Go.Operand.tmp 71) 0, type := 3, pos := "law.go:72", after := #[{ on := 10, ground := Go.Ground.data }], guard := none }) (v := (.int .i64 (K.k : Int))) rfl (by kernel_rfl) (by kernel_rfl) (by kernel_rfl) (fun _ _ _ h => h) (Or.inl ⟨by kernel_rfl, fun w hC => by go_simp⟩) hS.out ?_
  simp only [Act.put, List.setIfInBounds_toArray, List.set_cons_zero, List.set_cons_succ]
  refine wpAnyH_take (i := 12) (oi := { dst := some 83, op := Go.Op.extract (Go.Operand.tmp 71) 1, type := 38, pos := "law.go:72", after := #[{ on := 10, ground := Go.Ground.data }, { on := 13, ground := Go.Ground.gcOnly Go.Departure.lateStores }], guard := none }) (v := er) rfl (by kernel_rfl) (by kernel_rfl) (by kernel_rfl) (fun _ _ _ h => h) (Or.inl ⟨by kernel_rfl, fun w hC => by go_simp⟩) hS.out ?_
  simp only [Act.put, List.setIfInBounds_toArray, List.set_cons_zero, List.set_cons_succ]
  refine wpAnyH_take (i := 13) (oi := { dst := some 13, op := Go.Op.assign (Go.Operand.tmp 82), type := 3, pos := "law.go:72", after := #[{ on := 11, ground := Go.Ground.data }, { on := 9, ground := Go.Ground.chain }, { on := 0, ground := Go.Ground.phase }, { on := 1, ground := Go.Ground.phase }, { on := 2, ground := Go.Ground.phase }, { on := 3, ground := Go.Ground.phase }, { on := 4, ground := Go.Ground.phase }, { on := 5, ground := Go.Ground.phase }, { on := 6, ground := Go.Ground.phase }, { on := 7, ground := Go.Ground.phase }, { on := 8, ground := Go.Ground.phase }, { on := 9, ground := Go.Ground.phase }, { on := 10, ground := Go.Ground.phase }, { on := 11, ground := Go.Ground.phase }, { on := 12, ground := Go.Ground.textOnly Go.Departure.lateStores }], guard := none }) (v := (.int .i64 (K.k : Int))) rfl (by kernel_rfl) (by kernel_rfl) (by kernel_rfl) (fun _ _ _ h => h) (Or.inl ⟨by kernel_rfl, fun w hC => by go_simp⟩) hS.out ?_
  simp only [Act.put, List.setIfInBounds_toArray, List.set_cons_zero, List.set_cons_succ]
  refine wpAnyH_take (i := 14) (oi := { dst := some 14, op := Go.Op.assign (Go.Operand.tmp 83), type := 38, pos := "law.go:72", after := #[{ on := 12, ground := Go.Ground.data }, { on := 13, ground := Go.Ground.chain }, { on := 0, ground := Go.Ground.phase }, { on := 1, ground := Go.Ground.phase }, { on := 2, ground := Go.Ground.phase }, { on := 3, ground := Go.Ground.phase }, { on := 4, ground := Go.Ground.phase }, { on := 5, ground := Go.Ground.phase }, { on := 6, ground := Go.Ground.phase }, { on := 7, ground := Go.Ground.phase }, { on := 8, ground := Go.Ground.phase }, { on := 9, ground := Go.Ground.phase }, { on := 10, ground := Go.Ground.phase }, { on := 11, ground := Go.Ground.phase }, { on := 12, ground := Go.Ground.phase }, { on := 13, ground := Go.Ground.phase }], guard := none }) (v := er) rfl (by kernel_rfl) (by kernel_rfl) (by kernel_rfl) (fun _ _ _ h => h) (Or.inl ⟨by kernel_rfl, fun w hC => by go_simp⟩) hS.out ?_
  simp only [Act.put, List.setIfInBounds_toArray, List.set_cons_zero, List.set_cons_succ]
  refine wpAnyH_done (by kernel_rfl) ?_ _
  obtain rfl : er = .nilIface := by rw [← HER.out, H0.out]; rfl
  obtain ⟨v, dv, nv, S1, on1⟩ := SvEnd.run HE.out
  have HS1 := hide S1
  have HON := hide on1
  clear S1 on1
  obtain ⟨k0, k1, k2, k3, k4, k5, k6, k7, k8, k9, k10⟩ := HM.out.all
  rw [hopi] at k3
  go_wp2_with fail
  refine (tb_value (A := A.upd v dv nv) K.k vl _ HS1.out HH.out HVL.out).mono ?_; rintro e w3 ⟨rfl, hw3⟩; subst hw3
  go_wp2_with fail
  refine (sto_write vl m.ar so sn sc l _ (show Sto _ _ _ _ _ _ s.n _ _ s.L from HS1.out.st) (by have := HA1.out; omega) HB.out (fun h => Dat.off (Dat.up HQX.out.d HS1.out.n0) h)).mono ?_; rw [HEE2.out, HL2.out, HER2.out]; rintro e w4 ⟨rfl, E4⟩
  have E4 : SvEnd w0 _ (A.upd v dv nv) p ws w4 ((s.tab K.t K.es s.T).sto L2) := HS1.out.store E4
  have kh := HS1.out.kh E4
  have HM := hide (HM.out.kh kh)
  have HZ := hide (HZ.out.kh kh)
  have HE := hide ((HON.out _ _ E4).from (Below.refl _ _))
  clear kh E4 k0 k1 k2 k3 k4 k5 k6 k7 k8 k9 k10
  have HER := HER2
  obtain ⟨k0, k1, k2, k3, k4, k5, k6, k7, k8, k9, k10⟩ := HM.out.all
  rw [hopi] at k3
  obtain ⟨m2, h2⟩ : ∃ m2, (⟨m.rp, m.ta, m.id, m.op, ee, 0, 0, 0, 0, 0⟩ : Msg) = m2 := ⟨_, rfl⟩
  have hf := fun W (hM : MB W w.heap.size m (.slice so sn sc)) hW => wfail_any m (.slice so sn sc) (ee) W hM (HEL2.out) hW m2 h2
  rw [HER.out] at hf
  have HF := hide hf
  clear hf
  go_wp2_with fail
  refine (HF.out _ HM.out (HE.out.glob HG.out)).mono ?_; rintro e w6 ⟨co2, cc2, rfl, B6, b6⟩
  have HB6 := hide B6
  have HZ6 := hide (HZ.out.grow b6)
  have HE6 := hide (HE.out.to b6)
  have HM2 : Hid (m2 = rplF m (badF ((s.tab K.t K.es s.T).sto L2) (ee))) := by show _ = _; rw [rpl_bad, ← h2]
  clear B6 b6 h2 k0 k1 k2 k3 k4 k5 k6 k7 k8 k9 k10
  have HZL := hide (HZ6.out.lay (m := m2) (D := .slice co2 0 cc2))
  have f7 := foot_lay11 w6 (w.heap.size + 1) m2 (.slice co2 0 cc2)
  have HE7 := hide (HE6.out.msg HW0.out HZ6.out (by omega) f7)
  have HB7 : Hid (Bts (lay11 w6 (w.heap.size + 1) m2 (.slice co2 0 cc2)) co2 0 cc2 []) := bts_none HB6.out
  obtain ⟨w7, hw7⟩ : ∃ w7, lay11 w6 (w.heap.size + 1) m2 (.slice co2 0 cc2) = w7 := ⟨_, rfl⟩
  rw [hw7] at HZL HE7 HB7
  unfold lay11 at hw7
  clear f7
  obtain ⟨v0, v1, v2, v3, v4, v5, v6, v7, v8, v9, v10⟩ := HZL.out.all
  obtain ⟨z0, z1, z2, z3, z4, z5, z6, z7, z8, z9, z10⟩ := HZ6.out.all
  have x0 := HZ6.out.z 0
  have x1 := HZ6.out.z 1
  have x2 := HZ6.out.z 2
  have x3 := HZ6.out.z 3
  have x4 := HZ6.out.z 4
  have x5 := HZ6.out.z 5
  have x6 := HZ6.out.z 6
  have x7 := HZ6.out.z 7
  have x8 := HZ6.out.z 8
  have x9 := HZ6.out.z 9
  have x10 := HZ6.out.z 10
  go_wp2
  refine bodyPost_ret (by simp [results, Tryz.results19, go_sem, v0, v1, v2, v3, v4, v5, v6, v7, v8, v9, v10]; rfl) rfl ?_
  exact ⟨m2, co2, 0, cc2, HM2.out, rfl, by rw [dat_bad]; exact HB7.out, .inl (dat_bad _ _ _), HE7.out⟩
set_option maxRecDepth 20000 in
set_option maxHeartbeats 12800000 in
theorem want_yes104 (m : Msg) (so : Option Addr) (sn sc : Nat) (l : List UInt8) (w : World) (x : Sv w0 w A p ws s) (hb : Bts w so sn sc l) (q : Okm w0 w m so sn) (li : Lim s) (hg : Glob w0) (hop : m.op = 104) (K : Chk) (hK : chkF ws s.t s.es p s.T ⟨m.p, m.o, m.r, m.c⟩ 2 = K) (h0 : K.e = 0) (vl : Int) (hvl : (s.T K.k).v = vl) (hz : vl ≠ -1) (h1 : ¬ 2147483647 < m.ar) :
    Calls Tryz.prog 19 #[.pointer (some ⟨A.g, 0, none⟩), .pointer (some ⟨A.sb.2, 0, none⟩), .agg #[.int .u64 m.ta, .int .u64 m.rp, .int .u32 m.id, .int .u16 m.op, .int .u16 m.st, .int .u64 m.p, .int .u32 m.o, .int .u8 m.r, .int .u64 m.c, .int .u64 m.ar, .slice so sn sc]] w fun e w' => RplEnd w0 w A p ws m (badF ((s.tab K.t K.es s.T).sto (groL s.n s.L vl (m.ar : Int))) (groE s.n s.L vl (m.ar : Int)).toNat) l e w' := by
  have hmf : ∀ (fn : Fn) (first cap : Array Value) (w : World), (Instr.makeFunc fn first cap).run Tryz.prog w = .ok (.func fn first cap) w := fun _ _ _ _ => rfl
  obtain ⟨X, hX, bm, bz, bX⟩ := rep_vars w m (.slice so sn sc)
  have HX := hide (x.grow bX)
  have HB := hide (hb.carry bX)
  have HM := hide bm
  have HZ := hide bz
  have HBX := hide bX
  have HW0 : Hid (w0.heap.size ≤ w.heap.size) := x.bel.size
  have HQ := hide q
  have HQX := hide (q.grow bX)
  have HLI := hide li
  have HG := hide hg
  have hopi : (m.op : Int) = 104 := by omega
  have HK := hide hK
  have H0 := hide h0
  have HEL : Hid (K.e ≤ 65535) := by show _ ≤ _; have := chk_err ws s.t s.es p s.T ⟨m.p, m.o, m.r, m.c⟩ 2; rw [hK] at this; omega
  obtain ⟨er, her⟩ : ∃ er, erN (K.e : Int) = er := ⟨_, rfl⟩
  have HER := hide her
  have HH : Hid (hasO s.T K.k = true) := by
    have e := chk_has (hK ▸ h0)
    show hasO s.T K.k = true
    rw [← hK, e.2.2]; exact e.1
  obtain ⟨k0, k1, k2, k3, k4, k5, k6, k7, k8, k9, k10⟩ := HM.out.all
  have hwk : IntKind.u16.wrap 4 = 4 := by rw [IntKind.wrap_u16]; rfl
  rw [hopi] at k3 hX
  have HK3 := hide k3
  clear bm bz bX x hb q li hg hop hK h0 her
  have HVL := hide hvl
  clear hvl
  have hz0 : (vl == -1) = false := by simpa using hz
  clear hz
  have hi1 : ¬ (2147483647 : Int) < (m.ar : Int) := by omega
  have hw6 : IntKind.i64.wrap (m.ar : Int) = (m.ar : Int) := by rw [IntKind.wrap_i64]; omega
  obtain ⟨ee, hee⟩ : ∃ ee, (groE s.n s.L vl (m.ar : Int)).toNat = ee := ⟨_, rfl⟩
  have HEE2 : Hid (erN (groE s.n s.L vl (m.ar : Int)) = erN (ee : Int)) := by show _ = _; rw [← hee, erN_toNat (groE_in s.n s.L vl (m.ar : Int)).1]
  have HEL2 : Hid (ee ≤ 65535) := by show _ ≤ _; have := groE_in s.n s.L vl (m.ar : Int); omega
  rw [hee]
  obtain ⟨L2, hL2⟩ : ∃ L2, groL s.n s.L vl (m.ar : Int) = L2 := ⟨_, rfl⟩
  rw [hL2]
  have HL2 := hide hL2
  obtain ⟨er2, her2⟩ : ∃ er2, erN (ee : Int) = er2 := ⟨_, rfl⟩
  have HER2 := hide her2
  have HA1 := hide h1
  clear hee hL2 her2 h1
  go_enter Tryz.func19, Tryz.ntmps19
  go_wp2_with fail
  have hS : Hid (X.drew.cell? ⟨w.heap.size, 3, none⟩ = some (.int .u16 104) ∧ X.drew.cell? ⟨w.heap.size, 5, none⟩ = some (.int .u64 (m.p : Int)) ∧ X.drew.cell? ⟨w.heap.size, 6, none⟩ = some (.int .u32 (m.o : Int)) ∧ X.drew.cell? ⟨w.heap.size, 7, none⟩ = some (.int .u8 (m.r : Int)) ∧ X.drew.cell? ⟨w.heap.size, 8, none⟩ = some (.int .u64 (m.c : Int))) := ⟨k3, HM.out.all.2.2.2.2.2.1, HM.out.all.2.2.2.2.2.2.1, HM.out.all.2.2.2.2.2.2.2.1, HM.out.all.2.2.2.2.2.2.2.2.1⟩
  refine wp_region_held_drew (S := fun U => U.cell? ⟨w.heap.size, 3, none⟩ = some (.int .u16 104) ∧ U.cell? ⟨w.heap.size, 5, none⟩ = some (.int .u64 (m.p : Int)) ∧ U.cell? ⟨w.heap.size, 6, none⟩ = some (.int .u32 (m.o : Int)) ∧ U.cell? ⟨w.heap.size, 7, none⟩ = some (.int .u8 (m.r : Int)) ∧ U.cell? ⟨w.heap.size, 8, none⟩ = some (.int .u64 (m.c : Int))) (by kernel_rfl) hS.out (fun _ => ?_)
  refine wpAnyH_take (i := 0) (oi := { dst := some 72, op := Go.Op.move (Go.Operand.tmp 0), type := 26, pos := "law.go:72", after := #[], guard := none }) (v := (.pointer (some ⟨A.g, 0, none⟩))) rfl (by kernel_rfl) (by kernel_rfl) (by kernel_rfl) (fun _ _ _ h => h) (Or.inl ⟨by kernel_rfl, fun w hC => by go_simp⟩) hS.out ?_
  simp only [Act.put, List.setIfInBounds_toArray, List.set_cons_zero, List.set_cons_succ]
  refine wpAnyH_take (i := 1) (oi := { dst := some 73, op := Go.Op.fieldAddr 53 (Go.Operand.tmp 5) 5, type := 0, pos := "law.go:72", after := #[], guard := none }) (v := (.pointer (some ⟨w.heap.size, 5, none⟩))) rfl (by kernel_rfl) (by kernel_rfl) (by kernel_rfl) (fun _ _ _ h => h) (Or.inl ⟨by kernel_rfl, fun w hC => by go_simp⟩) hS.out ?_
  simp only [Act.put, List.setIfInBounds_toArray, List.set_cons_zero, List.set_cons_succ]
  refine wpAnyH_take (i := 2) (oi := { dst := some 74, op := Go.Op.load 36 (Go.Operand.tmp 73), type := 36, pos := "law.go:72", after := #[{ on := 1, ground := Go.Ground.data }], guard := none }) (v := (.agg #[.int .u64 (m.p : Int), .int .u32 (m.o : Int), .int .u8 (m.r : Int), .int .u64 (m.c : Int)])) rfl (by kernel_rfl) (by kernel_rfl) (by kernel_rfl) (fun _ _ _ h => h) (Or.inl ⟨by kernel_rfl, fun w hC => by (obtain ⟨e3, e5, e6, e7, e8⟩ := hC; go_simp)⟩) hS.out ?_
  simp only [Act.put, List.setIfInBounds_toArray, List.set_cons_zero, List.set_cons_succ]
  refine wpAnyH_take (i := 4) (oi := { dst := some 76, op := Go.Op.fieldAddr 53 (Go.Operand.tmp 5) 3, type := 0, pos := "law.go:72", after := #[], guard := none }) (v := (.pointer (some ⟨w.heap.size, 3, none⟩))) rfl (by kernel_rfl) (by kernel_rfl) (by kernel_rfl) (fun _ _ _ h => h) (Or.inl ⟨by kernel_rfl, fun w hC => by go_simp⟩) hS.out ?_
  simp only [Act.put, List.setIfInBounds_toArray, List.set_cons_zero, List.set_cons_succ]
  refine wpAnyH_take (i := 5) (oi := { dst := some 77, op := Go.Op.load 49 (Go.Operand.tmp 76), type := 49, pos := "law.go:72", after := #[{ on := 4, ground := Go.Ground.data }], guard := none }) (v := (.int .u16 104)) rfl (by kernel_rfl) (by kernel_rfl) (by kernel_rfl) (fun _ _ _ h => h) (Or.inl ⟨by kernel_rfl, fun w hC => by (obtain ⟨e3, e5, e6, e7, e8⟩ := hC; go_simp)⟩) hS.out ?_
  simp only [Act.put, List.setIfInBounds_toArray, List.set_cons_zero, List.set_cons_succ]
  refine wpAnyH_take (i := 6) (oi := { dst := some 78, op := Go.Op.binOp Go.BinOp.sub 49 (Go.Operand.tmp 77) (Go.Operand.const (Go.Value.int Go.IntKind.u16 100)) 49, type := 49, pos := "law.go:72", after := #[{ on := 5, ground := Go.Ground.data }], guard := none }) (v := (.int .u16 4)) rfl (by kernel_rfl) (by kernel_rfl) (by kernel_rfl) (fun _ _ _ h => h) (Or.inl ⟨by kernel_rfl, fun w hC => by go_simp⟩) hS.out ?_
  simp only [Act.put, List.setIfInBounds_toArray, List.set_cons_zero, List.set_cons_succ]
  refine wpAnyH_ready (rs := [3]) (by kernel_rfl) (by simp) ?_
  refine AllReadyH.cons (o := { dst := some 75, op := Go.Op.buildSlice 23 5 #[(0, Go.Operand.const (Go.Value.int Go.IntKind.u8 4)), (1, Go.Operand.const (Go.Value.int Go.IntKind.u8 1)), (2, Go.Operand.const (Go.Value.int Go.IntKind.u8 2)), (3, Go.Operand.const (Go.Value.int Go.IntKind.u8 1)), (4, Go.Operand.const (Go.Value.int Go.IntKind.u8 2))], type := 23, pos := "law.go:72", after := #[], guard := none }) rfl (fun KK hKK => ?_) AllReadyH.nil
  go_simp
  obtain ⟨Y, hY⟩ : ∃ Y, (X.alloc (.cells #[.int .u8 4, .int .u8 1, .int .u8 2, .int .u8 1, .int .u8 2] 5)).drew = Y := ⟨_, rfl⟩
  have bY : Below X.heap.size X Y := hY ▸ (below_alloc X _).drew
  have cY : Y.cell? ⟨X.heap.size, 4, none⟩ = some (.int .u8 2) := by subst hY; show (X.alloc _).cell? _ = _; rw [cell_of_row _ _ _ _ _ _ (heap_alloc_new _ _)]; rfl
  try rw [hY]
  have HM := hide (HM.out.grow bY)
  have HZ := hide (HZ.out.grow bY)
  have HX := hide (HX.out.grow bY)
  have HB := hide (HB.out.carry bY)
  have HQX := hide (HQX.out.grow bY)
  have HBX := hide (below_one HBX.out bY)
  clear bY
  have hS : Hid (Y.cell? ⟨w.heap.size, 3, none⟩ = some (.int .u16 104) ∧ Y.cell? ⟨w.heap.size, 5, none⟩ = some (.int .u64 (m.p : Int)) ∧ Y.cell? ⟨w.heap.size, 6, none⟩ = some (.int .u32 (m.o : Int)) ∧ Y.cell? ⟨w.heap.size, 7, none⟩ = some (.int .u8 (m.r : Int)) ∧ Y.cell? ⟨w.heap.size, 8, none⟩ = some (.int .u64 (m.c : Int))) := ⟨by rw [HM.out.all.2.2.2.1, hopi], HM.out.all.2.2.2.2.2.1, HM.out.all.2.2.2.2.2.2.1, HM.out.all.2.2.2.2.2.2.2.1, HM.out.all.2.2.2.2.2.2.2.2.1⟩
  refine hKK.out _ _ hS.out (fun _ => ?_)
  clear hKK
  refine wpAnyH_take (i := 7) (oi := { dst := some 79, op := Go.Op.indexAddr 23 (Go.Operand.tmp 75) (Go.Operand.tmp 78), type := 0, pos := "law.go:72", after := #[{ on := 3, ground := Go.Ground.data }, { on := 6, ground := Go.Ground.data }], guard := none }) (v := (.pointer (some ⟨X.heap.size, 4, none⟩))) rfl (by kernel_rfl) (by kernel_rfl) (by kernel_rfl) (fun _ _ _ h => h) (Or.inl ⟨by kernel_rfl, fun w hC => by go_simp⟩) hS.out ?_
  simp only [Act.put, List.setIfInBounds_toArray, List.set_cons_zero, List.set_cons_succ]
  refine wpAnyH_ready (rs := [8]) (by kernel_rfl) (by simp) ?_
  refine AllReadyH.cons (o := { dst := some 80, op := Go.Op.load 5 (Go.Operand.tmp 79), type := 5, pos := "law.go:72", after := #[{ on := 7, ground := Go.Ground.data }], guard := none }) rfl (fun KK hKK => ?_) AllReadyH.nil
  go_simp
  have hS : Hid (Y.cell? ⟨w.heap.size, 3, none⟩ = some (.int .u16 104) ∧ Y.cell? ⟨w.heap.size, 5, none⟩ = some (.int .u64 (m.p : Int)) ∧ Y.cell? ⟨w.heap.size, 6, none⟩ = some (.int .u32 (m.o : Int)) ∧ Y.cell? ⟨w.heap.size, 7, none⟩ = some (.int .u8 (m.r : Int)) ∧ Y.cell? ⟨w.heap.size, 8, none⟩ = some (.int .u64 (m.c : Int))) := ⟨by rw [HM.out.all.2.2.2.1, hopi], HM.out.all.2.2.2.2.2.1, HM.out.all.2.2.2.2.2.2.1, HM.out.all.2.2.2.2.2.2.2.1, HM.out.all.2.2.2.2.2.2.2.2.1⟩
  refine hKK.out _ _ hS.out (fun _ => ?_)
  clear hKK
  refine wpAnyH_ready (rs := [9]) (by kernel_rfl) (by simp) ?_
  refine AllReadyH.cons (o := { dst := some 81, op := Go.Op.call { callee := Go.Callee.value (Go.Operand.func 33), args := #[Go.Operand.tmp 72, Go.Operand.tmp 74, Go.Operand.tmp 80], argTypes := #[26, 36, 5] }, type := 99, pos := "law.go:72", after := #[{ on := 0, ground := Go.Ground.data }, { on := 2, ground := Go.Ground.data }, { on := 8, ground := Go.Ground.data }], guard := none }) rfl (fun KK hKK => ?_) AllReadyH.nil
  go_simp
  refine (tb_check ⟨m.p, m.o, m.r, m.c⟩ 2 _ HX.out HQ.out.c (by omega) (by have := HLI.out.el; omega) K HK.out).mono ?_; rw [HER.out]; rintro e w2 ⟨rfl, E⟩
  have kh := HX.out.kh E
  have HM := hide (HM.out.kh kh)
  have HZ := hide (HZ.out.kh kh)
  have HB := hide (Bts.sv HB.out HQX.out.d HX.out E)
  have HQX : Hid (Okm w0 w2 m so sn) := ⟨HQX.out.c, HQX.out.o, HQX.out.a, HQX.out.n, HQX.out.d.kh kh⟩
  have HE := hide (E.from HBX.out)
  clear kh E
  have hS : Hid (w2.cell? ⟨w.heap.size, 3, none⟩ = some (.int .u16 104) ∧ w2.cell? ⟨w.heap.size, 5, none⟩ = some (.int .u64 (m.p : Int)) ∧ w2.cell? ⟨w.heap.size, 6, none⟩ = some (.int .u32 (m.o : Int)) ∧ w2.cell? ⟨w.heap.size, 7, none⟩ = some (.int .u8 (m.r : Int)) ∧ w2.cell? ⟨w.heap.size, 8, none⟩ = some (.int .u64 (m.c : Int))) := ⟨by rw [HM.out.all.2.2.2.1, hopi], HM.out.all.2.2.2.2.2.1, HM.out.all.2.2.2.2.2.2.1, HM.out.all.2.2.2.2.2.2.2.1, HM.out.all.2.2.2.2.2.2.2.2.1⟩
  refine hKK.out _ _ hS.out (fun _ => ?_)
  clear hKK
  refine wpAnyH_take (i := 10) (oi := { dst := some 71, op := Go.Op.move (Go.Operand.tmp 81), type := 99, pos := "law.go:72", after := #[{ on := 9, ground := Go.Ground.data }], guard := none }) (v := (.tuple #[.int .i64 (K.k : Int), er])) rfl (by kernel_rfl) (by kernel_rfl) (by kernel_rfl) (fun _ _ _ h => h) (Or.inl ⟨by kernel_rfl, fun w hC => by go_simp⟩) hS.out ?_
  simp only [Act.put, List.setIfInBounds_toArray, List.set_cons_zero, List.set_cons_succ]
  refine wpAnyH_take (i := 11) (oi := { dst := some 82, op := Go.Op.extract (Go.Operand.tmp 71) 0, type := 3, pos := "law.go:72", after := #[{ on := 10, ground := Go.Ground.data }], guard := none }) (v := (.int .i64 (K.k : Int))) rfl (by kernel_rfl) (by kernel_rfl) (by kernel_rfl) (fun _ _ _ h => h) (Or.inl ⟨by kernel_rfl, fun w hC => by go_simp⟩) hS.out ?_
  simp only [Act.put, List.setIfInBounds_toArray, List.set_cons_zero, List.set_cons_succ]
  refine wpAnyH_take (i := 12) (oi := { dst := some 83, op := Go.Op.extract (Go.Operand.tmp 71) 1, type := 38, pos := "law.go:72", after := #[{ on := 10, ground := Go.Ground.data }, { on := 13, ground := Go.Ground.gcOnly Go.Departure.lateStores }], guard := none }) (v := er) rfl (by kernel_rfl) (by kernel_rfl) (by kernel_rfl) (fun _ _ _ h => h) (Or.inl ⟨by kernel_rfl, fun w hC => by go_simp⟩) hS.out ?_
  simp only [Act.put, List.setIfInBounds_toArray, List.set_cons_zero, List.set_cons_succ]
  refine wpAnyH_take (i := 13) (oi := { dst := some 13, op := Go.Op.assign (Go.Operand.tmp 82), type := 3, pos := "law.go:72", after := #[{ on := 11, ground := Go.Ground.data }, { on := 9, ground := Go.Ground.chain }, { on := 0, ground := Go.Ground.phase }, { on := 1, ground := Go.Ground.phase }, { on := 2, ground := Go.Ground.phase }, { on := 3, ground := Go.Ground.phase }, { on := 4, ground := Go.Ground.phase }, { on := 5, ground := Go.Ground.phase }, { on := 6, ground := Go.Ground.phase }, { on := 7, ground := Go.Ground.phase }, { on := 8, ground := Go.Ground.phase }, { on := 9, ground := Go.Ground.phase }, { on := 10, ground := Go.Ground.phase }, { on := 11, ground := Go.Ground.phase }, { on := 12, ground := Go.Ground.textOnly Go.Departure.lateStores }], guard := none }) (v := (.int .i64 (K.k : Int))) rfl (by kernel_rfl) (by kernel_rfl) (by kernel_rfl) (fun _ _ _ h => h) (Or.inl ⟨by kernel_rfl, fun w hC => by go_simp⟩) hS.out ?_
  simp only [Act.put, List.setIfInBounds_toArray, List.set_cons_zero, List.set_cons_succ]
  refine wpAnyH_take (i := 14) (oi := { dst := some 14, op := Go.Op.assign (Go.Operand.tmp 83), type := 38, pos := "law.go:72", after := #[{ on := 12, ground := Go.Ground.data }, { on := 13, ground := Go.Ground.chain }, { on := 0, ground := Go.Ground.phase }, { on := 1, ground := Go.Ground.phase }, { on := 2, ground := Go.Ground.phase }, { on := 3, ground := Go.Ground.phase }, { on := 4, ground := Go.Ground.phase }, { on := 5, ground := Go.Ground.phase }, { on := 6, ground := Go.Ground.phase }, { on := 7, ground := Go.Ground.phase }, { on := 8, ground := Go.Ground.phase }, { on := 9, ground := Go.Ground.phase }, { on := 10, ground := Go.Ground.phase }, { on := 11, ground := Go.Ground.phase }, { on := 12, ground := Go.Ground.phase }, { on := 13, ground := Go.Ground.phase }], guard := none }) (v := er) rfl (by kernel_rfl) (by kernel_rfl) (by kernel_rfl) (fun _ _ _ h => h) (Or.inl ⟨by kernel_rfl, fun w hC => by go_simp⟩) hS.out ?_
  simp only [Act.put, List.setIfInBounds_toArray, List.set_cons_zero, List.set_cons_succ]
  refine wpAnyH_done (by kernel_rfl) ?_ _
  obtain rfl : er = .nilIface := by rw [← HER.out, H0.out]; rfl
  obtain ⟨v, dv, nv, S1, on1⟩ := SvEnd.run HE.out
  have HS1 := hide S1
  have HON := hide on1
  clear S1 on1
  obtain ⟨k0, k1, k2, k3, k4, k5, k6, k7, k8, k9, k10⟩ := HM.out.all
  rw [hopi] at k3
  go_wp2_with fail
  refine (tb_value (A := A.upd v dv nv) K.k vl _ HS1.out HH.out HVL.out).mono ?_; rintro e w3 ⟨rfl, hw3⟩; subst hw3
  go_wp2_with fail
  refine (sto_grow vl (m.ar : Int) _ (show Sto _ _ _ _ _ _ s.n _ _ s.L from HS1.out.st) HS1.out.nw).mono ?_; rw [HEE2.out, HL2.out, HER2.out]; rintro e w4 ⟨rfl, E4⟩
  have E4 : SvEnd w0 _ (A.upd v dv nv) p ws w4 ((s.tab K.t K.es s.T).sto L2) := HS1.out.store E4
  have kh := HS1.out.kh E4
  have HM := hide (HM.out.kh kh)
  have HZ := hide (HZ.out.kh kh)
  have HE := hide ((HON.out _ _ E4).from (Below.refl _ _))
  clear kh E4 k0 k1 k2 k3 k4 k5 k6 k7 k8 k9 k10
  have HER := HER2
  obtain ⟨k0, k1, k2, k3, k4, k5, k6, k7, k8, k9, k10⟩ := HM.out.all
  rw [hopi] at k3
  obtain ⟨m2, h2⟩ : ∃ m2, (⟨m.rp, m.ta, m.id, m.op, ee, 0, 0, 0, 0, 0⟩ : Msg) = m2 := ⟨_, rfl⟩
  have hf := fun W (hM : MB W w.heap.size m (.slice so sn sc)) hW => wfail_any m (.slice so sn sc) (ee) W hM (HEL2.out) hW m2 h2
  rw [HER.out] at hf
  have HF := hide hf
  clear hf
  go_wp2_with fail
  refine (HF.out _ HM.out (HE.out.glob HG.out)).mono ?_; rintro e w6 ⟨co2, cc2, rfl, B6, b6⟩
  have HB6 := hide B6
  have HZ6 := hide (HZ.out.grow b6)
  have HE6 := hide (HE.out.to b6)
  have HM2 : Hid (m2 = rplF m (badF ((s.tab K.t K.es s.T).sto L2) (ee))) := by show _ = _; rw [rpl_bad, ← h2]
  clear B6 b6 h2 k0 k1 k2 k3 k4 k5 k6 k7 k8 k9 k10
  have HZL := hide (HZ6.out.lay (m := m2) (D := .slice co2 0 cc2))
  have f7 := foot_lay11 w6 (w.heap.size + 1) m2 (.slice co2 0 cc2)
  have HE7 := hide (HE6.out.msg HW0.out HZ6.out (by omega) f7)
  have HB7 : Hid (Bts (lay11 w6 (w.heap.size + 1) m2 (.slice co2 0 cc2)) co2 0 cc2 []) := bts_none HB6.out
  obtain ⟨w7, hw7⟩ : ∃ w7, lay11 w6 (w.heap.size + 1) m2 (.slice co2 0 cc2) = w7 := ⟨_, rfl⟩
  rw [hw7] at HZL HE7 HB7
  unfold lay11 at hw7
  clear f7
  obtain ⟨v0, v1, v2, v3, v4, v5, v6, v7, v8, v9, v10⟩ := HZL.out.all
  obtain ⟨z0, z1, z2, z3, z4, z5, z6, z7, z8, z9, z10⟩ := HZ6.out.all
  have x0 := HZ6.out.z 0
  have x1 := HZ6.out.z 1
  have x2 := HZ6.out.z 2
  have x3 := HZ6.out.z 3
  have x4 := HZ6.out.z 4
  have x5 := HZ6.out.z 5
  have x6 := HZ6.out.z 6
  have x7 := HZ6.out.z 7
  have x8 := HZ6.out.z 8
  have x9 := HZ6.out.z 9
  have x10 := HZ6.out.z 10
  go_wp2
  refine bodyPost_ret (by simp [results, Tryz.results19, go_sem, v0, v1, v2, v3, v4, v5, v6, v7, v8, v9, v10]; rfl) rfl ?_
  exact ⟨m2, co2, 0, cc2, HM2.out, rfl, by rw [dat_bad]; exact HB7.out, .inl (dat_bad _ _ _), HE7.out⟩
set_option maxRecDepth 20000 in
set_option maxHeartbeats 12800000 in
theorem want_size0 (m : Msg) (so : Option Addr) (sn sc : Nat) (l : List UInt8) (w : World) (x : Sv w0 w A p ws s) (hb : Bts w so sn sc l) (q : Okm w0 w m so sn) (li : Lim s) (hg : Glob w0) (hop : m.op = 103) (K : Chk) (hK : chkF ws s.t s.es p s.T ⟨m.p, m.o, m.r, m.c⟩ 1 = K) (h0 : K.e = 0) (vl : Int) (hvl : (s.T K.k).v = vl) (hz : vl ≠ -1) (h1 : sizeE s.L vl ≠ 0) :
    Calls Tryz.prog 19 #[.pointer (some ⟨A.g, 0, none⟩), .pointer (some ⟨A.sb.2, 0, none⟩), .agg #[.int .u64 m.ta, .int .u64 m.rp, .int .u32 m.id, .int .u16 m.op, .int .u16 m.st, .int .u64 m.p, .int .u32 m.o, .int .u8 m.r, .int .u64 m.c, .int .u64 m.ar, .slice so sn sc]] w fun e w' => RplEnd w0 w A p ws m (badF (s.tab K.t K.es s.T) (sizeE s.L vl).toNat) l e w' := by
  have hmf : ∀ (fn : Fn) (first cap : Array Value) (w : World), (Instr.makeFunc fn first cap).run Tryz.prog w = .ok (.func fn first cap) w := fun _ _ _ _ => rfl
  obtain ⟨X, hX, bm, bz, bX⟩ := rep_vars w m (.slice so sn sc)
  have HX := hide (x.grow bX)
  have HB := hide (hb.carry bX)
  have HM := hide bm
  have HZ := hide bz
  have HBX := hide bX
  have HW0 : Hid (w0.heap.size ≤ w.heap.size) := x.bel.size
  have HQ := hide q
  have HQX := hide (q.grow bX)
  have HLI := hide li
  have HG := hide hg
  have hopi : (m.op : Int) = 103 := by omega
  have HK := hide hK
  have H0 := hide h0
  have HEL : Hid (K.e ≤ 65535) := by show _ ≤ _; have := chk_err ws s.t s.es p s.T ⟨m.p, m.o, m.r, m.c⟩ 1; rw [hK] at this; omega
  obtain ⟨er, her⟩ : ∃ er, erN (K.e : Int) = er := ⟨_, rfl⟩
  have HER := hide her
  have HH : Hid (hasO s.T K.k = true) := by
    have e := chk_has (hK ▸ h0)
    show hasO s.T K.k = true
    rw [← hK, e.2.2]; exact e.1
  obtain ⟨k0, k1, k2, k3, k4, k5, k6, k7, k8, k9, k10⟩ := HM.out.all
  have hwk : IntKind.u16.wrap 3 = 3 := by rw [IntKind.wrap_u16]; rfl
  rw [hopi] at k3 hX
  have HK3 := hide k3
  clear bm bz bX x hb q li hg hop hK h0 her
  have HVL := hide hvl
  clear hvl
  have hz0 : (vl == -1) = false := by simpa using hz
  clear hz
  have hsz : sizeN s.L vl ≤ 262144 := HX.out.sizes vl
  obtain ⟨z, hz⟩ : ∃ z, sizeN s.L vl = z := ⟨_, rfl⟩
  rw [hz] at hsz
  have HSZ := hide hz
  have hw6 : IntKind.u64.wrap (z : Int) = (z : Int) := by rw [IntKind.wrap_u64]; omega
  obtain ⟨ee, hee⟩ : ∃ ee, (sizeE s.L vl).toNat = ee := ⟨_, rfl⟩
  have hin := sizeE_in s.L vl
  have hz3 : sizeE s.L vl = (ee : Int) := by omega
  have HEL2 : Hid (ee ≤ 65535) := by show _ ≤ _; omega
  have HE0 : Hid (ee ≠ 0) := by show _ ≠ _; omega
  rw [hee]
  obtain ⟨er2, her2⟩ : ∃ er2, erN (ee : Int) = er2 := ⟨_, rfl⟩
  have HER3 := hide her2
  have HER2 : Hid (erN (sizeE s.L vl) = er2) := by show _ = _; rw [hz3, her2]
  clear hee hin hz3 her2 hz h1 hsz
  go_enter Tryz.func19, Tryz.ntmps19
  go_wp2_with fail
  have hS : Hid (X.drew.cell? ⟨w.heap.size, 3, none⟩ = some (.int .u16 103) ∧ X.drew.cell? ⟨w.heap.size, 5, none⟩ = some (.int .u64 (m.p : Int)) ∧ X.drew.cell? ⟨w.heap.size, 6, none⟩ = some (.int .u32 (m.o : Int)) ∧ X.drew.cell? ⟨w.heap.size, 7, none⟩ = some (.int .u8 (m.r : Int)) ∧ X.drew.cell? ⟨w.heap.size, 8, none⟩ = some (.int .u64 (m.c : Int))) := ⟨k3, HM.out.all.2.2.2.2.2.1, HM.out.all.2.2.2.2.2.2.1, HM.out.all.2.2.2.2.2.2.2.1, HM.out.all.2.2.2.2.2.2.2.2.1⟩
  refine wp_region_held_drew (S := fun U => U.cell? ⟨w.heap.size, 3, none⟩ = some (.int .u16 103) ∧ U.cell? ⟨w.heap.size, 5, none⟩ = some (.int .u64 (m.p : Int)) ∧ U.cell? ⟨w.heap.size, 6, none⟩ = some (.int .u32 (m.o : Int)) ∧ U.cell? ⟨w.heap.size, 7, none⟩ = some (.int .u8 (m.r : Int)) ∧ U.cell? ⟨w.heap.size, 8, none⟩ = some (.int .u64 (m.c : Int))) (by kernel_rfl) hS.out (fun _ => ?_)
  refine wpAnyH_take (i := 0) (oi := { dst := some 72, op := Go.Op.move (Go.Operand.tmp 0), type := 26, pos := "law.go:72", after := #[], guard := none }) (v := (.pointer (some ⟨A.g, 0, none⟩))) rfl (by kernel_rfl) (by kernel_rfl) (by kernel_rfl) (fun _ _ _ h => h) (Or.inl ⟨by kernel_rfl, fun w hC => by go_simp⟩) hS.out ?_
  simp only [Act.put, List.setIfInBounds_toArray, List.set_cons_zero, List.set_cons_succ]
  refine wpAnyH_take (i := 1) (oi := { dst := some 73, op := Go.Op.fieldAddr 53 (Go.Operand.tmp 5) 5, type := 0, pos := "law.go:72", after := #[], guard := none }) (v := (.pointer (some ⟨w.heap.size, 5, none⟩))) rfl (by kernel_rfl) (by kernel_rfl) (by kernel_rfl) (fun _ _ _ h => h) (Or.inl ⟨by kernel_rfl, fun w hC => by go_simp⟩) hS.out ?_
  simp only [Act.put, List.setIfInBounds_toArray, List.set_cons_zero, List.set_cons_succ]
  refine wpAnyH_take (i := 2) (oi := { dst := some 74, op := Go.Op.load 36 (Go.Operand.tmp 73), type := 36, pos := "law.go:72", after := #[{ on := 1, ground := Go.Ground.data }], guard := none }) (v := (.agg #[.int .u64 (m.p : Int), .int .u32 (m.o : Int), .int .u8 (m.r : Int), .int .u64 (m.c : Int)])) rfl (by kernel_rfl) (by kernel_rfl) (by kernel_rfl) (fun _ _ _ h => h) (Or.inl ⟨by kernel_rfl, fun w hC => by (obtain ⟨e3, e5, e6, e7, e8⟩ := hC; go_simp)⟩) hS.out ?_
  simp only [Act.put, List.setIfInBounds_toArray, List.set_cons_zero, List.set_cons_succ]
  refine wpAnyH_take (i := 4) (oi := { dst := some 76, op := Go.Op.fieldAddr 53 (Go.Operand.tmp 5) 3, type := 0, pos := "law.go:72", after := #[], guard := none }) (v := (.pointer (some ⟨w.heap.size, 3, none⟩))) rfl (by kernel_rfl) (by kernel_rfl) (by kernel_rfl) (fun _ _ _ h => h) (Or.inl ⟨by kernel_rfl, fun w hC => by go_simp⟩) hS.out ?_
  simp only [Act.put, List.setIfInBounds_toArray, List.set_cons_zero, List.set_cons_succ]
  refine wpAnyH_take (i := 5) (oi := { dst := some 77, op := Go.Op.load 49 (Go.Operand.tmp 76), type := 49, pos := "law.go:72", after := #[{ on := 4, ground := Go.Ground.data }], guard := none }) (v := (.int .u16 103)) rfl (by kernel_rfl) (by kernel_rfl) (by kernel_rfl) (fun _ _ _ h => h) (Or.inl ⟨by kernel_rfl, fun w hC => by (obtain ⟨e3, e5, e6, e7, e8⟩ := hC; go_simp)⟩) hS.out ?_
  simp only [Act.put, List.setIfInBounds_toArray, List.set_cons_zero, List.set_cons_succ]
  refine wpAnyH_take (i := 6) (oi := { dst := some 78, op := Go.Op.binOp Go.BinOp.sub 49 (Go.Operand.tmp 77) (Go.Operand.const (Go.Value.int Go.IntKind.u16 100)) 49, type := 49, pos := "law.go:72", after := #[{ on := 5, ground := Go.Ground.data }], guard := none }) (v := (.int .u16 3)) rfl (by kernel_rfl) (by kernel_rfl) (by kernel_rfl) (fun _ _ _ h => h) (Or.inl ⟨by kernel_rfl, fun w hC => by go_simp⟩) hS.out ?_
  simp only [Act.put, List.setIfInBounds_toArray, List.set_cons_zero, List.set_cons_succ]
  refine wpAnyH_ready (rs := [3]) (by kernel_rfl) (by simp) ?_
  refine AllReadyH.cons (o := { dst := some 75, op := Go.Op.buildSlice 23 5 #[(0, Go.Operand.const (Go.Value.int Go.IntKind.u8 4)), (1, Go.Operand.const (Go.Value.int Go.IntKind.u8 1)), (2, Go.Operand.const (Go.Value.int Go.IntKind.u8 2)), (3, Go.Operand.const (Go.Value.int Go.IntKind.u8 1)), (4, Go.Operand.const (Go.Value.int Go.IntKind.u8 2))], type := 23, pos := "law.go:72", after := #[], guard := none }) rfl (fun KK hKK => ?_) AllReadyH.nil
  go_simp
  obtain ⟨Y, hY⟩ : ∃ Y, (X.alloc (.cells #[.int .u8 4, .int .u8 1, .int .u8 2, .int .u8 1, .int .u8 2] 5)).drew = Y := ⟨_, rfl⟩
  have bY : Below X.heap.size X Y := hY ▸ (below_alloc X _).drew
  have cY : Y.cell? ⟨X.heap.size, 3, none⟩ = some (.int .u8 1) := by subst hY; show (X.alloc _).cell? _ = _; rw [cell_of_row _ _ _ _ _ _ (heap_alloc_new _ _)]; rfl
  try rw [hY]
  have HM := hide (HM.out.grow bY)
  have HZ := hide (HZ.out.grow bY)
  have HX := hide (HX.out.grow bY)
  have HB := hide (HB.out.carry bY)
  have HQX := hide (HQX.out.grow bY)
  have HBX := hide (below_one HBX.out bY)
  clear bY
  have hS : Hid (Y.cell? ⟨w.heap.size, 3, none⟩ = some (.int .u16 103) ∧ Y.cell? ⟨w.heap.size, 5, none⟩ = some (.int .u64 (m.p : Int)) ∧ Y.cell? ⟨w.heap.size, 6, none⟩ = some (.int .u32 (m.o : Int)) ∧ Y.cell? ⟨w.heap.size, 7, none⟩ = some (.int .u8 (m.r : Int)) ∧ Y.cell? ⟨w.heap.size, 8, none⟩ = some (.int .u64 (m.c : Int))) := ⟨by rw [HM.out.all.2.2.2.1, hopi], HM.out.all.2.2.2.2.2.1, HM.out.all.2.2.2.2.2.2.1, HM.out.all.2.2.2.2.2.2.2.1, HM.out.all.2.2.2.2.2.2.2.2.1⟩
  refine hKK.out _ _ hS.out (fun _ => ?_)
  clear hKK
  refine wpAnyH_take (i := 7) (oi := { dst := some 79, op := Go.Op.indexAddr 23 (Go.Operand.tmp 75) (Go.Operand.tmp 78), type := 0, pos := "law.go:72", after := #[{ on := 3, ground := Go.Ground.data }, { on := 6, ground := Go.Ground.data }], guard := none }) (v := (.pointer (some ⟨X.heap.size, 3, none⟩))) rfl (by kernel_rfl) (by kernel_rfl) (by kernel_rfl) (fun _ _ _ h => h) (Or.inl ⟨by kernel_rfl, fun w hC => by go_simp⟩) hS.out ?_
  simp only [Act.put, List.setIfInBounds_toArray, List.set_cons_zero, List.set_cons_succ]
  refine wpAnyH_ready (rs := [8]) (by kernel_rfl) (by simp) ?_
  refine AllReadyH.cons (o := { dst := some 80, op := Go.Op.load 5 (Go.Operand.tmp 79), type := 5, pos := "law.go:72", after := #[{ on := 7, ground := Go.Ground.data }], guard := none }) rfl (fun KK hKK => ?_) AllReadyH.nil
  go_simp
  have hS : Hid (Y.cell? ⟨w.heap.size, 3, none⟩ = some (.int .u16 103) ∧ Y.cell? ⟨w.heap.size, 5, none⟩ = some (.int .u64 (m.p : Int)) ∧ Y.cell? ⟨w.heap.size, 6, none⟩ = some (.int .u32 (m.o : Int)) ∧ Y.cell? ⟨w.heap.size, 7, none⟩ = some (.int .u8 (m.r : Int)) ∧ Y.cell? ⟨w.heap.size, 8, none⟩ = some (.int .u64 (m.c : Int))) := ⟨by rw [HM.out.all.2.2.2.1, hopi], HM.out.all.2.2.2.2.2.1, HM.out.all.2.2.2.2.2.2.1, HM.out.all.2.2.2.2.2.2.2.1, HM.out.all.2.2.2.2.2.2.2.2.1⟩
  refine hKK.out _ _ hS.out (fun _ => ?_)
  clear hKK
  refine wpAnyH_ready (rs := [9]) (by kernel_rfl) (by simp) ?_
  refine AllReadyH.cons (o := { dst := some 81, op := Go.Op.call { callee := Go.Callee.value (Go.Operand.func 33), args := #[Go.Operand.tmp 72, Go.Operand.tmp 74, Go.Operand.tmp 80], argTypes := #[26, 36, 5] }, type := 99, pos := "law.go:72", after := #[{ on := 0, ground := Go.Ground.data }, { on := 2, ground := Go.Ground.data }, { on := 8, ground := Go.Ground.data }], guard := none }) rfl (fun KK hKK => ?_) AllReadyH.nil
  go_simp
  refine (tb_check ⟨m.p, m.o, m.r, m.c⟩ 1 _ HX.out HQ.out.c (by omega) (by have := HLI.out.el; omega) K HK.out).mono ?_; rw [HER.out]; rintro e w2 ⟨rfl, E⟩
  have kh := HX.out.kh E
  have HM := hide (HM.out.kh kh)
  have HZ := hide (HZ.out.kh kh)
  have HB := hide (Bts.sv HB.out HQX.out.d HX.out E)
  have HQX : Hid (Okm w0 w2 m so sn) := ⟨HQX.out.c, HQX.out.o, HQX.out.a, HQX.out.n, HQX.out.d.kh kh⟩
  have HE := hide (E.from HBX.out)
  clear kh E
  have hS : Hid (w2.cell? ⟨w.heap.size, 3, none⟩ = some (.int .u16 103) ∧ w2.cell? ⟨w.heap.size, 5, none⟩ = some (.int .u64 (m.p : Int)) ∧ w2.cell? ⟨w.heap.size, 6, none⟩ = some (.int .u32 (m.o : Int)) ∧ w2.cell? ⟨w.heap.size, 7, none⟩ = some (.int .u8 (m.r : Int)) ∧ w2.cell? ⟨w.heap.size, 8, none⟩ = some (.int .u64 (m.c : Int))) := ⟨by rw [HM.out.all.2.2.2.1, hopi], HM.out.all.2.2.2.2.2.1, HM.out.all.2.2.2.2.2.2.1, HM.out.all.2.2.2.2.2.2.2.1, HM.out.all.2.2.2.2.2.2.2.2.1⟩
  refine hKK.out _ _ hS.out (fun _ => ?_)
  clear hKK
  refine wpAnyH_take (i := 10) (oi := { dst := some 71, op := Go.Op.move (Go.Operand.tmp 81), type := 99, pos := "law.go:72", after := #[{ on := 9, ground := Go.Ground.data }], guard := none }) (v := (.tuple #[.int .i64 (K.k : Int), er])) rfl (by kernel_rfl) (by kernel_rfl) (by kernel_rfl) (fun _ _ _ h => h) (Or.inl ⟨by kernel_rfl, fun w hC => by go_simp⟩) hS.out ?_
  simp only [Act.put, List.setIfInBounds_toArray, List.set_cons_zero, List.set_cons_succ]
  refine wpAnyH_take (i := 11) (oi := { dst := some 82, op := Go.Op.extract (Go.Operand.tmp 71) 0, type := 3, pos := "law.go:72", after := #[{ on := 10, ground := Go.Ground.data }], guard := none }) (v := (.int .i64 (K.k : Int))) rfl (by kernel_rfl) (by kernel_rfl) (by kernel_rfl) (fun _ _ _ h => h) (Or.inl ⟨by kernel_rfl, fun w hC => by go_simp⟩) hS.out ?_
  simp only [Act.put, List.setIfInBounds_toArray, List.set_cons_zero, List.set_cons_succ]
  refine wpAnyH_take (i := 12) (oi := { dst := some 83, op := Go.Op.extract (Go.Operand.tmp 71) 1, type := 38, pos := "law.go:72", after := #[{ on := 10, ground := Go.Ground.data }, { on := 13, ground := Go.Ground.gcOnly Go.Departure.lateStores }], guard := none }) (v := er) rfl (by kernel_rfl) (by kernel_rfl) (by kernel_rfl) (fun _ _ _ h => h) (Or.inl ⟨by kernel_rfl, fun w hC => by go_simp⟩) hS.out ?_
  simp only [Act.put, List.setIfInBounds_toArray, List.set_cons_zero, List.set_cons_succ]
  refine wpAnyH_take (i := 13) (oi := { dst := some 13, op := Go.Op.assign (Go.Operand.tmp 82), type := 3, pos := "law.go:72", after := #[{ on := 11, ground := Go.Ground.data }, { on := 9, ground := Go.Ground.chain }, { on := 0, ground := Go.Ground.phase }, { on := 1, ground := Go.Ground.phase }, { on := 2, ground := Go.Ground.phase }, { on := 3, ground := Go.Ground.phase }, { on := 4, ground := Go.Ground.phase }, { on := 5, ground := Go.Ground.phase }, { on := 6, ground := Go.Ground.phase }, { on := 7, ground := Go.Ground.phase }, { on := 8, ground := Go.Ground.phase }, { on := 9, ground := Go.Ground.phase }, { on := 10, ground := Go.Ground.phase }, { on := 11, ground := Go.Ground.phase }, { on := 12, ground := Go.Ground.textOnly Go.Departure.lateStores }], guard := none }) (v := (.int .i64 (K.k : Int))) rfl (by kernel_rfl) (by kernel_rfl) (by kernel_rfl) (fun _ _ _ h => h) (Or.inl ⟨by kernel_rfl, fun w hC => by go_simp⟩) hS.out ?_
  simp only [Act.put, List.setIfInBounds_toArray, List.set_cons_zero, List.set_cons_succ]
  refine wpAnyH_take (i := 14) (oi := { dst := some 14, op := Go.Op.assign (Go.Operand.tmp 83), type := 38, pos := "law.go:72", after := #[{ on := 12, ground := Go.Ground.data }, { on := 13, ground := Go.Ground.chain }, { on := 0, ground := Go.Ground.phase }, { on := 1, ground := Go.Ground.phase }, { on := 2, ground := Go.Ground.phase }, { on := 3, ground := Go.Ground.phase }, { on := 4, ground := Go.Ground.phase }, { on := 5, ground := Go.Ground.phase }, { on := 6, ground := Go.Ground.phase }, { on := 7, ground := Go.Ground.phase }, { on := 8, ground := Go.Ground.phase }, { on := 9, ground := Go.Ground.phase }, { on := 10, ground := Go.Ground.phase }, { on := 11, ground := Go.Ground.phase }, { on := 12, ground := Go.Ground.phase }, { on := 13, ground := Go.Ground.phase }], guard := none }) (v := er) rfl (by kernel_rfl) (by kernel_rfl) (by kernel_rfl) (fun _ _ _ h => h) (Or.inl ⟨by kernel_rfl, fun w hC => by go_simp⟩) hS.out ?_
  simp only [Act.put, List.setIfInBounds_toArray, List.set_cons_zero, List.set_cons_succ]
  refine wpAnyH_done (by kernel_rfl) ?_ _
  obtain rfl : er = .nilIface := by rw [← HER.out, H0.out]; rfl
  obtain ⟨v, dv, nv, S1, on1⟩ := SvEnd.run HE.out
  have HS1 := hide S1
  have HON := hide on1
  clear S1 on1
  obtain ⟨k0, k1, k2, k3, k4, k5, k6, k7, k8, k9, k10⟩ := HM.out.all
  rw [hopi] at k3
  go_wp2_with fail
  refine (tb_value (A := A.upd v dv nv) K.k vl _ HS1.out HH.out HVL.out).mono ?_; rintro e w3 ⟨rfl, hw3⟩; subst hw3
  go_wp2_with fail
  refine (sto_size vl _ (show Sto _ _ _ _ _ _ _ _ _ s.L from HS1.out.st)).mono ?_; rw [HSZ.out, HER2.out]; rintro e w4 ⟨rfl, hw4⟩; subst hw4
  have HE := hide ((HON.out _ _ HS1.out.stay).from (Below.refl _ _))
  obtain ⟨tE, hE⟩ : ∃ v, er2 = .iface 43 v := ⟨_, by rw [← HER3.out]; exact erN_not (by have := HE0.out; omega)⟩
  subst hE
  have HER := HER3
  obtain ⟨m2, h2⟩ : ∃ m2, (⟨m.rp, m.ta, m.id, m.op, ee, 0, 0, 0, 0, 0⟩ : Msg) = m2 := ⟨_, rfl⟩
  have hf := fun W (hM : MB W w.heap.size m (.slice so sn sc)) hW => wfail_any m (.slice so sn sc) (ee) W hM (HEL2.out) hW m2 h2
  rw [HER.out] at hf
  have HF := hide hf
  clear hf
  go_wp2_with fail
  refine (HF.out _ HM.out (HE.out.glob HG.out)).mono ?_; rintro e w6 ⟨co2, cc2, rfl, B6, b6⟩
  have HB6 := hide B6
  have HZ6 := hide (HZ.out.grow b6)
  have HE6 := hide (HE.out.to b6)
  have HM2 : Hid (m2 = rplF m (badF (s.tab K.t K.es s.T) (ee))) := by show _ = _; rw [rpl_bad, ← h2]
  clear B6 b6 h2 k0 k1 k2 k3 k4 k5 k6 k7 k8 k9 k10
  have HZL := hide (HZ6.out.lay (m := m2) (D := .slice co2 0 cc2))
  have f7 := foot_lay11 w6 (w.heap.size + 1) m2 (.slice co2 0 cc2)
  have HE7 := hide (HE6.out.msg HW0.out HZ6.out (by omega) f7)
  have HB7 : Hid (Bts (lay11 w6 (w.heap.size + 1) m2 (.slice co2 0 cc2)) co2 0 cc2 []) := bts_none HB6.out
  obtain ⟨w7, hw7⟩ : ∃ w7, lay11 w6 (w.heap.size + 1) m2 (.slice co2 0 cc2) = w7 := ⟨_, rfl⟩
  rw [hw7] at HZL HE7 HB7
  unfold lay11 at hw7
  clear f7
  obtain ⟨v0, v1, v2, v3, v4, v5, v6, v7, v8, v9, v10⟩ := HZL.out.all
  obtain ⟨z0, z1, z2, z3, z4, z5, z6, z7, z8, z9, z10⟩ := HZ6.out.all
  have x0 := HZ6.out.z 0
  have x1 := HZ6.out.z 1
  have x2 := HZ6.out.z 2
  have x3 := HZ6.out.z 3
  have x4 := HZ6.out.z 4
  have x5 := HZ6.out.z 5
  have x6 := HZ6.out.z 6
  have x7 := HZ6.out.z 7
  have x8 := HZ6.out.z 8
  have x9 := HZ6.out.z 9
  have x10 := HZ6.out.z 10
  go_wp2
  refine bodyPost_ret (by simp [results, Tryz.results19, go_sem, v0, v1, v2, v3, v4, v5, v6, v7, v8, v9, v10]; rfl) rfl ?_
  exact ⟨m2, co2, 0, cc2, HM2.out, rfl, by rw [dat_bad]; exact HB7.out, .inl (dat_bad _ _ _), HE7.out⟩
end
end Go.Proofs.YtpbkjmkdciiccaaGreatDoor
namespace Go.Proofs.YtpbkjmkdciiccaaGreatDoor
section
open Go.RowKit
variable {w0 w w1 w2 w' : World} {A A' : Ad} {p : Nat} {ws : List Nat} {s s' s1 : Hs} {r g : Nat} {sb : Nat × Nat}
set_option maxRecDepth 20000 in
set_option maxHeartbeats 12800000 in
theorem want_size1 (m : Msg) (so : Option Addr) (sn sc : Nat) (l : List UInt8) (w : World) (x : Sv w0 w A p ws s) (hb : Bts w so sn sc l) (q : Okm w0 w m so sn) (li : Lim s) (hg : Glob w0) (hop : m.op = 103) (K : Chk) (hK : chkF ws s.t s.es p s.T ⟨m.p, m.o, m.r, m.c⟩ 1 = K) (h0 : K.e = 0) (vl : Int) (hvl : (s.T K.k).v = vl) (hz : vl ≠ -1) (h1 : sizeE s.L vl = 0) :
    Calls Tryz.prog 19 #[.pointer (some ⟨A.g, 0, none⟩), .pointer (some ⟨A.sb.2, 0, none⟩), .agg #[.int .u64 m.ta, .int .u64 m.rp, .int .u32 m.id, .int .u16 m.op, .int .u16 m.st, .int .u64 m.p, .int .u32 m.o, .int .u8 m.r, .int .u64 m.c, .int .u64 m.ar, .slice so sn sc]] w fun e w' => RplEnd w0 w A p ws m ⟨0, Cp.zero, sizeN s.L vl, [], (s.tab K.t K.es s.T)⟩ l e w' := by
  have hmf : ∀ (fn : Fn) (first cap : Array Value) (w : World), (Instr.makeFunc fn first cap).run Tryz.prog w = .ok (.func fn first cap) w := fun _ _ _ _ => rfl
  obtain ⟨X, hX, bm, bz, bX⟩ := rep_vars w m (.slice so sn sc)
  have HX := hide (x.grow bX)
  have HB := hide (hb.carry bX)
  have HM := hide bm
  have HZ := hide bz
  have HBX := hide bX
  have HW0 : Hid (w0.heap.size ≤ w.heap.size) := x.bel.size
  have HQ := hide q
  have HQX := hide (q.grow bX)
  have HLI := hide li
  have HG := hide hg
  have hopi : (m.op : Int) = 103 := by omega
  have HK := hide hK
  have H0 := hide h0
  have HEL : Hid (K.e ≤ 65535) := by show _ ≤ _; have := chk_err ws s.t s.es p s.T ⟨m.p, m.o, m.r, m.c⟩ 1; rw [hK] at this; omega
  obtain ⟨er, her⟩ : ∃ er, erN (K.e : Int) = er := ⟨_, rfl⟩
  have HER := hide her
  have HH : Hid (hasO s.T K.k = true) := by
    have e := chk_has (hK ▸ h0)
    show hasO s.T K.k = true
    rw [← hK, e.2.2]; exact e.1
  obtain ⟨k0, k1, k2, k3, k4, k5, k6, k7, k8, k9, k10⟩ := HM.out.all
  have hwk : IntKind.u16.wrap 3 = 3 := by rw [IntKind.wrap_u16]; rfl
  rw [hopi] at k3 hX
  have HK3 := hide k3
  clear bm bz bX x hb q li hg hop hK h0 her
  have HVL := hide hvl
  clear hvl
  have hz0 : (vl == -1) = false := by simpa using hz
  clear hz
  have hsz : sizeN s.L vl ≤ 262144 := HX.out.sizes vl
  obtain ⟨z, hz⟩ : ∃ z, sizeN s.L vl = z := ⟨_, rfl⟩
  rw [hz] at hsz
  have HSZ := hide hz
  have hw6 : IntKind.u64.wrap (z : Int) = (z : Int) := by rw [IntKind.wrap_u64]; omega
  have HER2 : Hid (erN (sizeE s.L vl) = .nilIface) := by show _ = _; rw [h1]; rfl
  rw [hz]
  clear hz h1 hsz
  go_enter Tryz.func19, Tryz.ntmps19
  go_wp2_with fail
  have hS : Hid (X.drew.cell? ⟨w.heap.size, 3, none⟩ = some (.int .u16 103) ∧ X.drew.cell? ⟨w.heap.size, 5, none⟩ = some (.int .u64 (m.p : Int)) ∧ X.drew.cell? ⟨w.heap.size, 6, none⟩ = some (.int .u32 (m.o : Int)) ∧ X.drew.cell? ⟨w.heap.size, 7, none⟩ = some (.int .u8 (m.r : Int)) ∧ X.drew.cell? ⟨w.heap.size, 8, none⟩ = some (.int .u64 (m.c : Int))) := ⟨k3, HM.out.all.2.2.2.2.2.1, HM.out.all.2.2.2.2.2.2.1, HM.out.all.2.2.2.2.2.2.2.1, HM.out.all.2.2.2.2.2.2.2.2.1⟩
  refine wp_region_held_drew (S := fun U => U.cell? ⟨w.heap.size, 3, none⟩ = some (.int .u16 103) ∧ U.cell? ⟨w.heap.size, 5, none⟩ = some (.int .u64 (m.p : Int)) ∧ U.cell? ⟨w.heap.size, 6, none⟩ = some (.int .u32 (m.o : Int)) ∧ U.cell? ⟨w.heap.size, 7, none⟩ = some (.int .u8 (m.r : Int)) ∧ U.cell? ⟨w.heap.size, 8, none⟩ = some (.int .u64 (m.c : Int))) (by kernel_rfl) hS.out (fun _ => ?_)
  refine wpAnyH_take (i := 0) (oi := { dst := some 72, op := Go.Op.move (Go.Operand.tmp 0), type := 26, pos := "law.go:72", after := #[], guard := none }) (v := (.pointer (some ⟨A.g, 0, none⟩))) rfl (by kernel_rfl) (by kernel_rfl) (by kernel_rfl) (fun _ _ _ h => h) (Or.inl ⟨by kernel_rfl, fun w hC => by go_simp⟩) hS.out ?_
  simp only [Act.put, List.setIfInBounds_toArray, List.set_cons_zero, List.set_cons_succ]
  refine wpAnyH_take (i := 1) (oi := { dst := some 73, op := Go.Op.fieldAddr 53 (Go.Operand.tmp 5) 5, type := 0, pos := "law.go:72", after := #[], guard := none }) (v := (.pointer (some ⟨w.heap.size, 5, none⟩))) rfl (by kernel_rfl) (by kernel_rfl) (by kernel_rfl) (fun _ _ _ h => h) (Or.inl ⟨by kernel_rfl, fun w hC => by go_simp⟩) hS.out ?_
  simp only [Act.put, List.setIfInBounds_toArray, List.set_cons_zero, List.set_cons_succ]
  refine wpAnyH_take (i := 2) (oi := { dst := some 74, op := Go.Op.load 36 (Go.Operand.tmp 73), type := 36, pos := "law.go:72", after := #[{ on := 1, ground := Go.Ground.data }], guard := none }) (v := (.agg #[.int .u64 (m.p : Int), .int .u32 (m.o : Int), .int .u8 (m.r : Int), .int .u64 (m.c : Int)])) rfl (by kernel_rfl) (by kernel_rfl) (by kernel_rfl) (fun _ _ _ h => h) (Or.inl ⟨by kernel_rfl, fun w hC => by (obtain ⟨e3, e5, e6, e7, e8⟩ := hC; go_simp)⟩) hS.out ?_
  simp only [Act.put, List.setIfInBounds_toArray, List.set_cons_zero, List.set_cons_succ]
  refine wpAnyH_take (i := 4) (oi := { dst := some 76, op := Go.Op.fieldAddr 53 (Go.Operand.tmp 5) 3, type := 0, pos := "law.go:72", after := #[], guard := none }) (v := (.pointer (some ⟨w.heap.size, 3, none⟩))) rfl (by kernel_rfl) (by kernel_rfl) (by kernel_rfl) (fun _ _ _ h => h) (Or.inl ⟨by kernel_rfl, fun w hC => by go_simp⟩) hS.out ?_
  simp only [Act.put, List.setIfInBounds_toArray, List.set_cons_zero, List.set_cons_succ]
  refine wpAnyH_take (i := 5) (oi := { dst := some 77, op := Go.Op.load 49 (Go.Operand.tmp 76), type := 49, pos := "law.go:72", after := #[{ on := 4, ground := Go.Ground.data }], guard := none }) (v := (.int .u16 103)) rfl (by kernel_rfl) (by kernel_rfl) (by kernel_rfl) (fun _ _ _ h => h) (Or.inl ⟨by kernel_rfl, fun w hC => by (obtain ⟨e3, e5, e6, e7, e8⟩ := hC; go_simp)⟩) hS.out ?_
  simp only [Act.put, List.setIfInBounds_toArray, List.set_cons_zero, List.set_cons_succ]
  refine wpAnyH_take (i := 6) (oi := { dst := some 78, op := Go.Op.binOp Go.BinOp.sub 49 (Go.Operand.tmp 77) (Go.Operand.const (Go.Value.int Go.IntKind.u16 100)) 49, type := 49, pos := "law.go:72", after := #[{ on := 5, ground := Go.Ground.data }], guard := none }) (v := (.int .u16 3)) rfl (by kernel_rfl) (by kernel_rfl) (by kernel_rfl) (fun _ _ _ h => h) (Or.inl ⟨by kernel_rfl, fun w hC => by go_simp⟩) hS.out ?_
  simp only [Act.put, List.setIfInBounds_toArray, List.set_cons_zero, List.set_cons_succ]
  refine wpAnyH_ready (rs := [3]) (by kernel_rfl) (by simp) ?_
  refine AllReadyH.cons (o := { dst := some 75, op := Go.Op.buildSlice 23 5 #[(0, Go.Operand.const (Go.Value.int Go.IntKind.u8 4)), (1, Go.Operand.const (Go.Value.int Go.IntKind.u8 1)), (2, Go.Operand.const (Go.Value.int Go.IntKind.u8 2)), (3, Go.Operand.const (Go.Value.int Go.IntKind.u8 1)), (4, Go.Operand.const (Go.Value.int Go.IntKind.u8 2))], type := 23, pos := "law.go:72", after := #[], guard := none }) rfl (fun KK hKK => ?_) AllReadyH.nil
  go_simp
  obtain ⟨Y, hY⟩ : ∃ Y, (X.alloc (.cells #[.int .u8 4, .int .u8 1, .int .u8 2, .int .u8 1, .int .u8 2] 5)).drew = Y := ⟨_, rfl⟩
  have bY : Below X.heap.size X Y := hY ▸ (below_alloc X _).drew
  have cY : Y.cell? ⟨X.heap.size, 3, none⟩ = some (.int .u8 1) := by subst hY; show (X.alloc _).cell? _ = _; rw [cell_of_row _ _ _ _ _ _ (heap_alloc_new _ _)]; rfl
  try rw [hY]
  have HM := hide (HM.out.grow bY)
  have HZ := hide (HZ.out.grow bY)
  have HX := hide (HX.out.grow bY)
  have HB := hide (HB.out.carry bY)
  have HQX := hide (HQX.out.grow bY)
  have HBX := hide (below_one HBX.out bY)
  clear bY
  have hS : Hid (Y.cell? ⟨w.heap.size, 3, none⟩ = some (.int .u16 103) ∧ Y.cell? ⟨w.heap.size, 5, none⟩ = some (.int .u64 (m.p : Int)) ∧ Y.cell? ⟨w.heap.size, 6, none⟩ = some (.int .u32 (m.o : Int)) ∧ Y.cell? ⟨w.heap.size, 7, none⟩ = some (.int .u8 (m.r : Int)) ∧ Y.cell? ⟨w.heap.size, 8, none⟩ = some (.int .u64 (m.c : Int))) := ⟨by rw [HM.out.all.2.2.2.1, hopi], HM.out.all.2.2.2.2.2.1, HM.out.all.2.2.2.2.2.2.1, HM.out.all.2.2.2.2.2.2.2.1, HM.out.all.2.2.2.2.2.2.2.2.1⟩
  refine hKK.out _ _ hS.out (fun _ => ?_)
  clear hKK
  refine wpAnyH_take (i := 7) (oi := { dst := some 79, op := Go.Op.indexAddr 23 (Go.Operand.tmp 75) (Go.Operand.tmp 78), type := 0, pos := "law.go:72", after := #[{ on := 3, ground := Go.Ground.data }, { on := 6, ground := Go.Ground.data }], guard := none }) (v := (.pointer (some ⟨X.heap.size, 3, none⟩))) rfl (by kernel_rfl) (by kernel_rfl) (by kernel_rfl) (fun _ _ _ h => h) (Or.inl ⟨by kernel_rfl, fun w hC => by go_simp⟩) hS.out ?_
  simp only [Act.put, List.setIfInBounds_toArray, List.set_cons_zero, List.set_cons_succ]
  refine wpAnyH_ready (rs := [8]) (by kernel_rfl) (by simp) ?_
  refine AllReadyH.cons (o := { dst := some 80, op := Go.Op.load 5 (Go.Operand.tmp 79), type := 5, pos := "law.go:72", after := #[{ on := 7, ground := Go.Ground.data }], guard := none }) rfl (fun KK hKK => ?_) AllReadyH.nil
  go_simp
  have hS : Hid (Y.cell? ⟨w.heap.size, 3, none⟩ = some (.int .u16 103) ∧ Y.cell? ⟨w.heap.size, 5, none⟩ = some (.int .u64 (m.p : Int)) ∧ Y.cell? ⟨w.heap.size, 6, none⟩ = some (.int .u32 (m.o : Int)) ∧ Y.cell? ⟨w.heap.size, 7, none⟩ = some (.int .u8 (m.r : Int)) ∧ Y.cell? ⟨w.heap.size, 8, none⟩ = some (.int .u64 (m.c : Int))) := ⟨by rw [HM.out.all.2.2.2.1, hopi], HM.out.all.2.2.2.2.2.1, HM.out.all.2.2.2.2.2.2.1, HM.out.all.2.2.2.2.2.2.2.1, HM.out.all.2.2.2.2.2.2.2.2.1⟩
  refine hKK.out _ _ hS.out (fun _ => ?_)
  clear hKK
  refine wpAnyH_ready (rs := [9]) (by kernel_rfl) (by simp) ?_
  refine AllReadyH.cons (o := { dst := some 81, op := Go.Op.call { callee := Go.Callee.value (Go.Operand.func 33), args := #[Go.Operand.tmp 72, Go.Operand.tmp 74, Go.Operand.tmp 80], argTypes := #[26, 36, 5] }, type := 99, pos := "law.go:72", after := #[{ on := 0, ground := Go.Ground.data }, { on := 2, ground := Go.Ground.data }, { on := 8, ground := Go.Ground.data }], guard := none }) rfl (fun KK hKK => ?_) AllReadyH.nil
  go_simp
  refine (tb_check ⟨m.p, m.o, m.r, m.c⟩ 1 _ HX.out HQ.out.c (by omega) (by have := HLI.out.el; omega) K HK.out).mono ?_; rw [HER.out]; rintro e w2 ⟨rfl, E⟩
  have kh := HX.out.kh E
  have HM := hide (HM.out.kh kh)
  have HZ := hide (HZ.out.kh kh)
  have HB := hide (Bts.sv HB.out HQX.out.d HX.out E)
  have HQX : Hid (Okm w0 w2 m so sn) := ⟨HQX.out.c, HQX.out.o, HQX.out.a, HQX.out.n, HQX.out.d.kh kh⟩
  have HE := hide (E.from HBX.out)
  clear kh E
  have hS : Hid (w2.cell? ⟨w.heap.size, 3, none⟩ = some (.int .u16 103) ∧ w2.cell? ⟨w.heap.size, 5, none⟩ = some (.int .u64 (m.p : Int)) ∧ w2.cell? ⟨w.heap.size, 6, none⟩ = some (.int .u32 (m.o : Int)) ∧ w2.cell? ⟨w.heap.size, 7, none⟩ = some (.int .u8 (m.r : Int)) ∧ w2.cell? ⟨w.heap.size, 8, none⟩ = some (.int .u64 (m.c : Int))) := ⟨by rw [HM.out.all.2.2.2.1, hopi], HM.out.all.2.2.2.2.2.1, HM.out.all.2.2.2.2.2.2.1, HM.out.all.2.2.2.2.2.2.2.1, HM.out.all.2.2.2.2.2.2.2.2.1⟩
  refine hKK.out _ _ hS.out (fun _ => ?_)
  clear hKK
  refine wpAnyH_take (i := 10) (oi := { dst := some 71, op := Go.Op.move (Go.Operand.tmp 81), type := 99, pos := "law.go:72", after := #[{ on := 9, ground := Go.Ground.data }], guard := none }) (v := (.tuple #[.int .i64 (K.k : Int), er])) rfl (by kernel_rfl) (by kernel_rfl) (by kernel_rfl) (fun _ _ _ h => h) (Or.inl ⟨by kernel_rfl, fun w hC => by go_simp⟩) hS.out ?_
  simp only [Act.put, List.setIfInBounds_toArray, List.set_cons_zero, List.set_cons_succ]
  refine wpAnyH_take (i := 11) (oi := { dst := some 82, op := Go.Op.extract (Go.Operand.tmp 71) 0, type := 3, pos := "law.go:72", after := #[{ on := 10, ground := Go.Ground.data }], guard := none }) (v := (.int .i64 (K.k : Int))) rfl (by kernel_rfl) (by kernel_rfl) (by kernel_rfl) (fun _ _ _ h => h) (Or.inl ⟨by kernel_rfl, fun w hC => by go_simp⟩) hS.out ?_
  simp only [Act.put, List.setIfInBounds_toArray, List.set_cons_zero, List.set_cons_succ]
  refine wpAnyH_take (i := 12) (oi := { dst := some 83, op := Go.Op.extract (Go.Operand.tmp 71) 1, type := 38, pos := "law.go:72", after := #[{ on := 10, ground := Go.Ground.data }, { on := 13, ground := Go.Ground.gcOnly Go.Departure.lateStores }], guard := none }) (v := er) rfl (by kernel_rfl) (by kernel_rfl) (by kernel_rfl) (fun _ _ _ h => h) (Or.inl ⟨by kernel_rfl, fun w hC => by go_simp⟩) hS.out ?_
  simp only [Act.put, List.setIfInBounds_toArray, List.set_cons_zero, List.set_cons_succ]
  refine wpAnyH_take (i := 13) (oi := { dst := some 13, op := Go.Op.assign (Go.Operand.tmp 82), type := 3, pos := "law.go:72", after := #[{ on := 11, ground := Go.Ground.data }, { on := 9, ground := Go.Ground.chain }, { on := 0, ground := Go.Ground.phase }, { on := 1, ground := Go.Ground.phase }, { on := 2, ground := Go.Ground.phase }, { on := 3, ground := Go.Ground.phase }, { on := 4, ground := Go.Ground.phase }, { on := 5, ground := Go.Ground.phase }, { on := 6, ground := Go.Ground.phase }, { on := 7, ground := Go.Ground.phase }, { on := 8, ground := Go.Ground.phase }, { on := 9, ground := Go.Ground.phase }, { on := 10, ground := Go.Ground.phase }, { on := 11, ground := Go.Ground.phase }, { on := 12, ground := Go.Ground.textOnly Go.Departure.lateStores }], guard := none }) (v := (.int .i64 (K.k : Int))) rfl (by kernel_rfl) (by kernel_rfl) (by kernel_rfl) (fun _ _ _ h => h) (Or.inl ⟨by kernel_rfl, fun w hC => by go_simp⟩) hS.out ?_
  simp only [Act.put, List.setIfInBounds_toArray, List.set_cons_zero, List.set_cons_succ]
  refine wpAnyH_take (i := 14) (oi := { dst := some 14, op := Go.Op.assign (Go.Operand.tmp 83), type := 38, pos := "law.go:72", after := #[{ on := 12, ground := Go.Ground.data }, { on := 13, ground := Go.Ground.chain }, { on := 0, ground := Go.Ground.phase }, { on := 1, ground := Go.Ground.phase }, { on := 2, ground := Go.Ground.phase }, { on := 3, ground := Go.Ground.phase }, { on := 4, ground := Go.Ground.phase }, { on := 5, ground := Go.Ground.phase }, { on := 6, ground := Go.Ground.phase }, { on := 7, ground := Go.Ground.phase }, { on := 8, ground := Go.Ground.phase }, { on := 9, ground := Go.Ground.phase }, { on := 10, ground := Go.Ground.phase }, { on := 11, ground := Go.Ground.phase }, { on := 12, ground := Go.Ground.phase }, { on := 13, ground := Go.Ground.phase }], guard := none }) (v := er) rfl (by kernel_rfl) (by kernel_rfl) (by kernel_rfl) (fun _ _ _ h => h) (Or.inl ⟨by kernel_rfl, fun w hC => by go_simp⟩) hS.out ?_
  simp only [Act.put, List.setIfInBounds_toArray, List.set_cons_zero, List.set_cons_succ]
  refine wpAnyH_done (by kernel_rfl) ?_ _
  obtain rfl : er = .nilIface := by rw [← HER.out, H0.out]; rfl
  obtain ⟨v, dv, nv, S1, on1⟩ := SvEnd.run HE.out
  have HS1 := hide S1
  have HON := hide on1
  clear S1 on1
  obtain ⟨k0, k1, k2, k3, k4, k5, k6, k7, k8, k9, k10⟩ := HM.out.all
  rw [hopi] at k3
  go_wp2_with fail
  refine (tb_value (A := A.upd v dv nv) K.k vl _ HS1.out HH.out HVL.out).mono ?_; rintro e w3 ⟨rfl, hw3⟩; subst hw3
  go_wp2_with fail
  refine (sto_size vl _ (show Sto _ _ _ _ _ _ _ _ _ s.L from HS1.out.st)).mono ?_; rw [HSZ.out, HER2.out]; rintro e w4 ⟨rfl, hw4⟩; subst hw4
  have HE := hide ((HON.out _ _ HS1.out.stay).from (Below.refl _ _))
  clear k0 k1 k2 k3 k4 k5 k6 k7 k8 k9 k10
  obtain ⟨k0, k1, k2, k3, k4, k5, k6, k7, k8, k9, k10⟩ := HM.out.all
  obtain ⟨m2, h2⟩ : ∃ m2, (⟨m.rp, m.ta, m.id, m.op, 0, 0, 0, 0, 0, z⟩ : Msg) = m2 := ⟨_, rfl⟩
  go_wp2_with fail
  have ha := answer_own m (.slice so sn sc) 0 (0) (0) (0) (0) (z) none 0 0 [] w4 (by omega) (bts_nil _) (by omega) m2 h2
  rw [hopi] at ha
  refine ha.mono ?_; clear ha; rintro e w6 ⟨co2, cc2, rfl, B6, N6, T6, b6⟩
  have HB6 := hide B6
  have HZ6 := hide (HZ.out.grow b6)
  have HE6 := hide (HE.out.to b6)
  have HN6 := hide N6
  have HT6 := hide T6
  have HS6 : Hid (w.heap.size + 1 < w4.heap.size) := lt_of_heap HZ.out
  have HM2 : Hid (m2 = rplF m (⟨0, Cp.zero, z, [], (s.tab K.t K.es s.T)⟩)) := by show _ = _; unfold rplF; rw [if_pos rfl]; exact h2.symm
  clear B6 N6 T6 b6 h2 k0 k1 k2 k3 k4 k5 k6 k7 k8 k9 k10
  have HZL := hide (HZ6.out.lay (m := m2) (D := .slice co2 0 cc2))
  have f7 := foot_lay11 w6 (w.heap.size + 1) m2 (.slice co2 0 cc2)
  have HE7 := hide (HE6.out.msg HW0.out HZ6.out (by omega) f7)
  have HB7 := hide (Bts.foot HB6.out f7 (fun ad e _ (h : ad.block = w.heap.size + 1) => by have := HN6.out ad e; have := HS6.out; omega))
  have HT7 := hide (HT6.out.foot f7 (fun ad e (h : ad.block = w.heap.size + 1) => by have := HN6.out ad e; have := HS6.out; omega))
  obtain ⟨w7, hw7⟩ : ∃ w7, lay11 w6 (w.heap.size + 1) m2 (.slice co2 0 cc2) = w7 := ⟨_, rfl⟩
  rw [hw7] at HZL HE7 HB7 HT7
  unfold lay11 at hw7
  clear f7
  obtain ⟨v0, v1, v2, v3, v4, v5, v6, v7, v8, v9, v10⟩ := HZL.out.all
  obtain ⟨z0, z1, z2, z3, z4, z5, z6, z7, z8, z9, z10⟩ := HZ6.out.all
  have x0 := HZ6.out.z 0
  have x1 := HZ6.out.z 1
  have x2 := HZ6.out.z 2
  have x3 := HZ6.out.z 3
  have x4 := HZ6.out.z 4
  have x5 := HZ6.out.z 5
  have x6 := HZ6.out.z 6
  have x7 := HZ6.out.z 7
  have x8 := HZ6.out.z 8
  have x9 := HZ6.out.z 9
  have x10 := HZ6.out.z 10
  go_wp2
  refine bodyPost_ret (by simp [results, Tryz.results19, go_sem, v0, v1, v2, v3, v4, v5, v6, v7, v8, v9, v10]; rfl) rfl ?_
  exact ⟨m2, co2, 0, cc2, HM2.out, rfl, HB7.out, .inr ⟨HN6.out.le (by have := HS6.out; omega), HT7.out⟩, HE7.out⟩
set_option maxRecDepth 20000 in
set_option maxHeartbeats 12800000 in
theorem want_read0 (m : Msg) (so : Option Addr) (sn sc : Nat) (l : List UInt8) (w : World) (x : Sv w0 w A p ws s) (hb : Bts w so sn sc l) (q : Okm w0 w m so sn) (li : Lim s) (hg : Glob w0) (hop : m.op = 101) (K : Chk) (hK : chkF ws s.t s.es p s.T ⟨m.p, m.o, m.r, m.c⟩ 1 = K) (h0 : K.e = 0) (vl : Int) (hvl : (s.T K.k).v = vl) (hz : vl ≠ -1) (h1 : ¬ 2147483647 < m.ar / 4294967296) (h2 : ¬ 4096 < m.ar % 4294967296) (h3 : reaE s.L vl (m.ar / 4294967296 : Nat) (m.ar % 4294967296 : Nat) ≠ 0) :
    Calls Tryz.prog 19 #[.pointer (some ⟨A.g, 0, none⟩), .pointer (some ⟨A.sb.2, 0, none⟩), .agg #[.int .u64 m.ta, .int .u64 m.rp, .int .u32 m.id, .int .u16 m.op, .int .u16 m.st, .int .u64 m.p, .int .u32 m.o, .int .u8 m.r, .int .u64 m.c, .int .u64 m.ar, .slice so sn sc]] w fun e w' => RplEnd w0 w A p ws m (badF (s.tab K.t K.es s.T) (reaE s.L vl (m.ar / 4294967296 : Nat) (m.ar % 4294967296 : Nat)).toNat) l e w' := by
  have hmf : ∀ (fn : Fn) (first cap : Array Value) (w : World), (Instr.makeFunc fn first cap).run Tryz.prog w = .ok (.func fn first cap) w := fun _ _ _ _ => rfl
  obtain ⟨X, hX, bm, bz, bX⟩ := rep_vars w m (.slice so sn sc)
  have HX := hide (x.grow bX)
  have HB := hide (hb.carry bX)
  have HM := hide bm
  have HZ := hide bz
  have HBX := hide bX
  have HW0 : Hid (w0.heap.size ≤ w.heap.size) := x.bel.size
  have HQ := hide q
  have HQX := hide (q.grow bX)
  have HLI := hide li
  have HG := hide hg
  have hopi : (m.op : Int) = 101 := by omega
  have HK := hide hK
  have H0 := hide h0
  have HEL : Hid (K.e ≤ 65535) := by show _ ≤ _; have := chk_err ws s.t s.es p s.T ⟨m.p, m.o, m.r, m.c⟩ 1; rw [hK] at this; omega
  obtain ⟨er, her⟩ : ∃ er, erN (K.e : Int) = er := ⟨_, rfl⟩
  have HER := hide her
  have HH : Hid (hasO s.T K.k = true) := by
    have e := chk_has (hK ▸ h0)
    show hasO s.T K.k = true
    rw [← hK, e.2.2]; exact e.1
  obtain ⟨k0, k1, k2, k3, k4, k5, k6, k7, k8, k9, k10⟩ := HM.out.all
  have hwk : IntKind.u16.wrap 1 = 1 := by rw [IntKind.wrap_u16]; rfl
  rw [hopi] at k3 hX
  have HK3 := hide k3
  clear bm bz bX x hb q li hg hop hK h0 her
  have HVL := hide hvl
  clear hvl
  have hz0 : (vl == -1) = false := by simpa using hz
  clear hz
  obtain ⟨at1, hat1⟩ : ∃ q, m.ar / 4294967296 = q := ⟨_, rfl⟩
  obtain ⟨mn, hmn⟩ : ∃ q, m.ar % 4294967296 = q := ⟨_, rfl⟩
  have hs1 : (m.ar : Int) / 4294967296 = (at1 : Int) := by omega
  have hs2 : (m.ar : Int).tdiv 4294967296 = (at1 : Int) := by rw [Int.tdiv_eq_ediv_of_nonneg (by omega)]; exact hs1
  have hs3 : (m.ar : Int) % 4294967296 = (mn : Int) := by omega
  have hs4 : (m.ar : Int).tmod 4294967296 = (mn : Int) := by rw [Int.tmod_eq_emod_of_nonneg (by omega)]; exact hs3
  rw [hat1] at h1
  rw [hmn] at h2
  rw [hat1, hmn] at h3 ⊢
  have hi1 : ¬ (2147483647 : Int) < (at1 : Int) := by omega
  have hi2 : ¬ (4096 : Int) < (mn : Int) := by omega
  have hw5 : IntKind.u64.wrap (at1 : Int) = (at1 : Int) := by rw [IntKind.wrap_u64]; omega
  have hw6 : IntKind.i64.wrap (at1 : Int) = (at1 : Int) := by rw [IntKind.wrap_i64]; omega
  have hw7 : IntKind.i64.wrap (mn : Int) = (mn : Int) := by rw [IntKind.wrap_i64]; omega
  have HA1 := hide h1
  have HLE := hide (reaD_len s.L vl at1 mn)
  have HA2 := hide h2
  obtain ⟨ee, hee⟩ : ∃ ee, (reaE s.L vl (at1 : Nat) (mn : Nat)).toNat = ee := ⟨_, rfl⟩
  have hin := reaE_in s.L vl (at1 : Nat) (mn : Nat)
  have hz3 : reaE s.L vl (at1 : Nat) (mn : Nat) = (ee : Int) := by omega
  have HEL2 : Hid (ee ≤ 65535) := by show _ ≤ _; omega
  have HE0 : Hid (ee ≠ 0) := by show _ ≠ _; omega
  rw [hee]
  obtain ⟨er2, her2⟩ : ∃ er2, erN (ee : Int) = er2 := ⟨_, rfl⟩
  have HER3 := hide her2
  have HER2 : Hid (erN (reaE s.L vl (at1 : Nat) (mn : Nat)) = er2) := by show _ = _; rw [hz3, her2]
  clear hee hin hz3 her2 h1 h2 h3 hat1 hmn
  go_enter Tryz.func19, Tryz.ntmps19
  go_wp2_with fail
  have hS : Hid (X.drew.cell? ⟨w.heap.size, 3, none⟩ = some (.int .u16 101) ∧ X.drew.cell? ⟨w.heap.size, 5, none⟩ = some (.int .u64 (m.p : Int)) ∧ X.drew.cell? ⟨w.heap.size, 6, none⟩ = some (.int .u32 (m.o : Int)) ∧ X.drew.cell? ⟨w.heap.size, 7, none⟩ = some (.int .u8 (m.r : Int)) ∧ X.drew.cell? ⟨w.heap.size, 8, none⟩ = some (.int .u64 (m.c : Int))) := ⟨k3, HM.out.all.2.2.2.2.2.1, HM.out.all.2.2.2.2.2.2.1, HM.out.all.2.2.2.2.2.2.2.1, HM.out.all.2.2.2.2.2.2.2.2.1⟩
  refine wp_region_held_drew (S := fun U => U.cell? ⟨w.heap.size, 3, none⟩ = some (.int .u16 101) ∧ U.cell? ⟨w.heap.size, 5, none⟩ = some (.int .u64 (m.p : Int)) ∧ U.cell? ⟨w.heap.size, 6, none⟩ = some (.int .u32 (m.o : Int)) ∧ U.cell? ⟨w.heap.size, 7, none⟩ = some (.int .u8 (m.r : Int)) ∧ U.cell? ⟨w.heap.size, 8, none⟩ = some (.int .u64 (m.c : Int))) (by kernel_rfl) hS.out (fun _ => ?_)
  refine wpAnyH_take (i := 0) (oi := { dst := some 72, op := Go.Op.move (Go.Operand.tmp 0), type := 26, pos := "law.go:72", after := #[], guard := none }) (v := (.pointer (some ⟨A.g, 0, none⟩))) rfl (by kernel_rfl) (by kernel_rfl) (by kernel_rfl) (fun _ _ _ h => h) (Or.inl ⟨by kernel_rfl, fun w hC => by go_simp⟩) hS.out ?_
  simp only [Act.put, List.setIfInBounds_toArray, List.set_cons_zero, List.set_cons_succ]
  refine wpAnyH_take (i := 1) (oi := { dst := some 73, op := Go.Op.fieldAddr 53 (Go.Operand.tmp 5) 5, type := 0, pos := "law.go:72", after := #[], guard := none }) (v := (.pointer (some ⟨w.heap.size, 5, none⟩))) rfl (by kernel_rfl) (by kernel_rfl) (by kernel_rfl) (fun _ _ _ h => h) (Or.inl ⟨by kernel_rfl, fun w hC => by go_simp⟩) hS.out ?_
  simp only [Act.put, List.setIfInBounds_toArray, List.set_cons_zero, List.set_cons_succ]
  refine wpAnyH_take (i := 2) (oi := { dst := some 74, op := Go.Op.load 36 (Go.Operand.tmp 73), type := 36, pos := "law.go:72", after := #[{ on := 1, ground := Go.Ground.data }], guard := none }) (v := (.agg #[.int .u64 (m.p : Int), .int .u32 (m.o : Int), .int .u8 (m.r : Int), .int .u64 (m.c : Int)])) rfl (by kernel_rfl) (by kernel_rfl) (by kernel_rfl) (fun _ _ _ h => h) (Or.inl ⟨by kernel_rfl, fun w hC => by (obtain ⟨e3, e5, e6, e7, e8⟩ := hC; go_simp)⟩) hS.out ?_
  simp only [Act.put, List.setIfInBounds_toArray, List.set_cons_zero, List.set_cons_succ]
  refine wpAnyH_take (i := 4) (oi := { dst := some 76, op := Go.Op.fieldAddr 53 (Go.Operand.tmp 5) 3, type := 0, pos := "law.go:72", after := #[], guard := none }) (v := (.pointer (some ⟨w.heap.size, 3, none⟩))) rfl (by kernel_rfl) (by kernel_rfl) (by kernel_rfl) (fun _ _ _ h => h) (Or.inl ⟨by kernel_rfl, fun w hC => by go_simp⟩) hS.out ?_
  simp only [Act.put, List.setIfInBounds_toArray, List.set_cons_zero, List.set_cons_succ]
  refine wpAnyH_take (i := 5) (oi := { dst := some 77, op := Go.Op.load 49 (Go.Operand.tmp 76), type := 49, pos := "law.go:72", after := #[{ on := 4, ground := Go.Ground.data }], guard := none }) (v := (.int .u16 101)) rfl (by kernel_rfl) (by kernel_rfl) (by kernel_rfl) (fun _ _ _ h => h) (Or.inl ⟨by kernel_rfl, fun w hC => by (obtain ⟨e3, e5, e6, e7, e8⟩ := hC; go_simp)⟩) hS.out ?_
  simp only [Act.put, List.setIfInBounds_toArray, List.set_cons_zero, List.set_cons_succ]
  refine wpAnyH_take (i := 6) (oi := { dst := some 78, op := Go.Op.binOp Go.BinOp.sub 49 (Go.Operand.tmp 77) (Go.Operand.const (Go.Value.int Go.IntKind.u16 100)) 49, type := 49, pos := "law.go:72", after := #[{ on := 5, ground := Go.Ground.data }], guard := none }) (v := (.int .u16 1)) rfl (by kernel_rfl) (by kernel_rfl) (by kernel_rfl) (fun _ _ _ h => h) (Or.inl ⟨by kernel_rfl, fun w hC => by go_simp⟩) hS.out ?_
  simp only [Act.put, List.setIfInBounds_toArray, List.set_cons_zero, List.set_cons_succ]
  refine wpAnyH_ready (rs := [3]) (by kernel_rfl) (by simp) ?_
  refine AllReadyH.cons (o := { dst := some 75, op := Go.Op.buildSlice 23 5 #[(0, Go.Operand.const (Go.Value.int Go.IntKind.u8 4)), (1, Go.Operand.const (Go.Value.int Go.IntKind.u8 1)), (2, Go.Operand.const (Go.Value.int Go.IntKind.u8 2)), (3, Go.Operand.const (Go.Value.int Go.IntKind.u8 1)), (4, Go.Operand.const (Go.Value.int Go.IntKind.u8 2))], type := 23, pos := "law.go:72", after := #[], guard := none }) rfl (fun KK hKK => ?_) AllReadyH.nil
  go_simp
  obtain ⟨Y, hY⟩ : ∃ Y, (X.alloc (.cells #[.int .u8 4, .int .u8 1, .int .u8 2, .int .u8 1, .int .u8 2] 5)).drew = Y := ⟨_, rfl⟩
  have bY : Below X.heap.size X Y := hY ▸ (below_alloc X _).drew
  have cY : Y.cell? ⟨X.heap.size, 1, none⟩ = some (.int .u8 1) := by subst hY; show (X.alloc _).cell? _ = _; rw [cell_of_row _ _ _ _ _ _ (heap_alloc_new _ _)]; rfl
  try rw [hY]
  have HM := hide (HM.out.grow bY)
  have HZ := hide (HZ.out.grow bY)
  have HX := hide (HX.out.grow bY)
  have HB := hide (HB.out.carry bY)
  have HQX := hide (HQX.out.grow bY)
  have HBX := hide (below_one HBX.out bY)
  clear bY
  have hS : Hid (Y.cell? ⟨w.heap.size, 3, none⟩ = some (.int .u16 101) ∧ Y.cell? ⟨w.heap.size, 5, none⟩ = some (.int .u64 (m.p : Int)) ∧ Y.cell? ⟨w.heap.size, 6, none⟩ = some (.int .u32 (m.o : Int)) ∧ Y.cell? ⟨w.heap.size, 7, none⟩ = some (.int .u8 (m.r : Int)) ∧ Y.cell? ⟨w.heap.size, 8, none⟩ = some (.int .u64 (m.c : Int))) := ⟨by rw [HM.out.all.2.2.2.1, hopi], HM.out.all.2.2.2.2.2.1, HM.out.all.2.2.2.2.2.2.1, HM.out.all.2.2.2.2.2.2.2.1, HM.out.all.2.2.2.2.2.2.2.2.1⟩
  refine hKK.out _ _ hS.out (fun _ => ?_)
  clear hKK
  refine wpAnyH_take (i := 7) (oi := { dst := some 79, op := Go.Op.indexAddr 23 (Go.Operand.tmp 75) (Go.Operand.tmp 78), type := 0, pos := "law.go:72", after := #[{ on := 3, ground := Go.Ground.data }, { on := 6, ground := Go.Ground.data }], guard := none }) (v := (.pointer (some ⟨X.heap.size, 1, none⟩))) rfl (by kernel_rfl) (by kernel_rfl) (by kernel_rfl) (fun _ _ _ h => h) (Or.inl ⟨by kernel_rfl, fun w hC => by go_simp⟩) hS.out ?_
  simp only [Act.put, List.setIfInBounds_toArray, List.set_cons_zero, List.set_cons_succ]
  refine wpAnyH_ready (rs := [8]) (by kernel_rfl) (by simp) ?_
  refine AllReadyH.cons (o := { dst := some 80, op := Go.Op.load 5 (Go.Operand.tmp 79), type := 5, pos := "law.go:72", after := #[{ on := 7, ground := Go.Ground.data }], guard := none }) rfl (fun KK hKK => ?_) AllReadyH.nil
  go_simp
  have hS : Hid (Y.cell? ⟨w.heap.size, 3, none⟩ = some (.int .u16 101) ∧ Y.cell? ⟨w.heap.size, 5, none⟩ = some (.int .u64 (m.p : Int)) ∧ Y.cell? ⟨w.heap.size, 6, none⟩ = some (.int .u32 (m.o : Int)) ∧ Y.cell? ⟨w.heap.size, 7, none⟩ = some (.int .u8 (m.r : Int)) ∧ Y.cell? ⟨w.heap.size, 8, none⟩ = some (.int .u64 (m.c : Int))) := ⟨by rw [HM.out.all.2.2.2.1, hopi], HM.out.all.2.2.2.2.2.1, HM.out.all.2.2.2.2.2.2.1, HM.out.all.2.2.2.2.2.2.2.1, HM.out.all.2.2.2.2.2.2.2.2.1⟩
  refine hKK.out _ _ hS.out (fun _ => ?_)
  clear hKK
  refine wpAnyH_ready (rs := [9]) (by kernel_rfl) (by simp) ?_
  refine AllReadyH.cons (o := { dst := some 81, op := Go.Op.call { callee := Go.Callee.value (Go.Operand.func 33), args := #[Go.Operand.tmp 72, Go.Operand.tmp 74, Go.Operand.tmp 80], argTypes := #[26, 36, 5] }, type := 99, pos := "law.go:72", after := #[{ on := 0, ground := Go.Ground.data }, { on := 2, ground := Go.Ground.data }, { on := 8, ground := Go.Ground.data }], guard := none }) rfl (fun KK hKK => ?_) AllReadyH.nil
  go_simp
  refine (tb_check ⟨m.p, m.o, m.r, m.c⟩ 1 _ HX.out HQ.out.c (by omega) (by have := HLI.out.el; omega) K HK.out).mono ?_; rw [HER.out]; rintro e w2 ⟨rfl, E⟩
  have kh := HX.out.kh E
  have HM := hide (HM.out.kh kh)
  have HZ := hide (HZ.out.kh kh)
  have HB := hide (Bts.sv HB.out HQX.out.d HX.out E)
  have HQX : Hid (Okm w0 w2 m so sn) := ⟨HQX.out.c, HQX.out.o, HQX.out.a, HQX.out.n, HQX.out.d.kh kh⟩
  have HE := hide (E.from HBX.out)
  clear kh E
  have hS : Hid (w2.cell? ⟨w.heap.size, 3, none⟩ = some (.int .u16 101) ∧ w2.cell? ⟨w.heap.size, 5, none⟩ = some (.int .u64 (m.p : Int)) ∧ w2.cell? ⟨w.heap.size, 6, none⟩ = some (.int .u32 (m.o : Int)) ∧ w2.cell? ⟨w.heap.size, 7, none⟩ = some (.int .u8 (m.r : Int)) ∧ w2.cell? ⟨w.heap.size, 8, none⟩ = some (.int .u64 (m.c : Int))) := ⟨by rw [HM.out.all.2.2.2.1, hopi], HM.out.all.2.2.2.2.2.1, HM.out.all.2.2.2.2.2.2.1, HM.out.all.2.2.2.2.2.2.2.1, HM.out.all.2.2.2.2.2.2.2.2.1⟩
  refine hKK.out _ _ hS.out (fun _ => ?_)
  clear hKK
  refine wpAnyH_take (i := 10) (oi := { dst := some 71, op := Go.Op.move (Go.Operand.tmp 81), type := 99, pos := "law.go:72", after := #[{ on := 9, ground := Go.Ground.data }], guard := none }) (v := (.tuple #[.int .i64 (K.k : Int), er])) rfl (by kernel_rfl) (by kernel_rfl) (by kernel_rfl) (fun _ _ _ h => h) (Or.inl ⟨by kernel_rfl, fun w hC => by go_simp⟩) hS.out ?_
  simp only [Act.put, List.setIfInBounds_toArray, List.set_cons_zero, List.set_cons_succ]
  refine wpAnyH_take (i := 11) (oi := { dst := some 82, op := Go.Op.extract (Go.Operand.tmp 71) 0, type := 3, pos := "law.go:72", after := #[{ on := 10, ground := Go.Ground.data }], guard := none }) (v := (.int .i64 (K.k : Int))) rfl (by kernel_rfl) (by kernel_rfl) (by kernel_rfl) (fun _ _ _ h => h) (Or.inl ⟨by kernel_rfl, fun w hC => by go_simp⟩) hS.out ?_
  simp only [Act.put, List.setIfInBounds_toArray, List.set_cons_zero, List.set_cons_succ]
  refine wpAnyH_take (i := 12) (oi := { dst := some 83, op := Go.Op.extract (Go.Operand.tmp 71) 1, type := 38, pos := "law.go:72", after := #[{ on := 10, ground := Go.Ground.data }, { on := 13, ground := Go.Ground.gcOnly Go.Departure.lateStores }], guard := none }) (v := er) rfl (by kernel_rfl) (by kernel_rfl) (by kernel_rfl) (fun _ _ _ h => h) (Or.inl ⟨by kernel_rfl, fun w hC => by go_simp⟩) hS.out ?_
  simp only [Act.put, List.setIfInBounds_toArray, List.set_cons_zero, List.set_cons_succ]
  refine wpAnyH_take (i := 13) (oi := { dst := some 13, op := Go.Op.assign (Go.Operand.tmp 82), type := 3, pos := "law.go:72", after := #[{ on := 11, ground := Go.Ground.data }, { on := 9, ground := Go.Ground.chain }, { on := 0, ground := Go.Ground.phase }, { on := 1, ground := Go.Ground.phase }, { on := 2, ground := Go.Ground.phase }, { on := 3, ground := Go.Ground.phase }, { on := 4, ground := Go.Ground.phase }, { on := 5, ground := Go.Ground.phase }, { on := 6, ground := Go.Ground.phase }, { on := 7, ground := Go.Ground.phase }, { on := 8, ground := Go.Ground.phase }, { on := 9, ground := Go.Ground.phase }, { on := 10, ground := Go.Ground.phase }, { on := 11, ground := Go.Ground.phase }, { on := 12, ground := Go.Ground.textOnly Go.Departure.lateStores }], guard := none }) (v := (.int .i64 (K.k : Int))) rfl (by kernel_rfl) (by kernel_rfl) (by kernel_rfl) (fun _ _ _ h => h) (Or.inl ⟨by kernel_rfl, fun w hC => by go_simp⟩) hS.out ?_
  simp only [Act.put, List.setIfInBounds_toArray, List.set_cons_zero, List.set_cons_succ]
  refine wpAnyH_take (i := 14) (oi := { dst := some 14, op := Go.Op.assign (Go.Operand.tmp 83), type := 38, pos := "law.go:72", after := #[{ on := 12, ground := Go.Ground.data }, { on := 13, ground := Go.Ground.chain }, { on := 0, ground := Go.Ground.phase }, { on := 1, ground := Go.Ground.phase }, { on := 2, ground := Go.Ground.phase }, { on := 3, ground := Go.Ground.phase }, { on := 4, ground := Go.Ground.phase }, { on := 5, ground := Go.Ground.phase }, { on := 6, ground := Go.Ground.phase }, { on := 7, ground := Go.Ground.phase }, { on := 8, ground := Go.Ground.phase }, { on := 9, ground := Go.Ground.phase }, { on := 10, ground := Go.Ground.phase }, { on := 11, ground := Go.Ground.phase }, { on := 12, ground := Go.Ground.phase }, { on := 13, ground := Go.Ground.phase }], guard := none }) (v := er) rfl (by kernel_rfl) (by kernel_rfl) (by kernel_rfl) (fun _ _ _ h => h) (Or.inl ⟨by kernel_rfl, fun w hC => by go_simp⟩) hS.out ?_
  simp only [Act.put, List.setIfInBounds_toArray, List.set_cons_zero, List.set_cons_succ]
  refine wpAnyH_done (by kernel_rfl) ?_ _
  obtain rfl : er = .nilIface := by rw [← HER.out, H0.out]; rfl
  obtain ⟨v, dv, nv, S1, on1⟩ := SvEnd.run HE.out
  have HS1 := hide S1
  have HON := hide on1
  clear S1 on1
  obtain ⟨k0, k1, k2, k3, k4, k5, k6, k7, k8, k9, k10⟩ := HM.out.all
  rw [hopi] at k3
  go_wp2_with fail
  refine (tb_value (A := A.upd v dv nv) K.k vl _ HS1.out HH.out HVL.out).mono ?_; rintro e w3 ⟨rfl, hw3⟩; subst hw3
  go_wp2_with fail
  refine (sto_read vl at1 mn _ (show Sto _ _ _ _ _ _ _ _ _ s.L from HS1.out.st) (by have := HA1.out; omega)).mono ?_; rw [HER2.out]; rintro e w4 ⟨co, n, cc, rfl, B4, N4, b4⟩
  have HBR := hide B4
  have HNN : Hid (n ≤ 4096) := by show _ ≤ _; have h1 := B4.1; have h2 := HLE.out; have h3 := HA2.out; omega
  have HM := hide (HM.out.grow b4)
  have HZ := hide (HZ.out.grow b4)
  have HE := hide (HE.out.to b4)
  clear B4 N4 b4 k0 k1 k2 k3 k4 k5 k6 k7 k8 k9 k10
  obtain ⟨k0, k1, k2, k3, k4, k5, k6, k7, k8, k9, k10⟩ := HM.out.all
  rw [hopi] at k3
  obtain ⟨tE, hE⟩ : ∃ v, er2 = .iface 43 v := ⟨_, by rw [← HER3.out]; exact erN_not (by have := HE0.out; omega)⟩
  subst hE
  have HER := HER3
  obtain ⟨m2, h2⟩ : ∃ m2, (⟨m.rp, m.ta, m.id, m.op, ee, 0, 0, 0, 0, 0⟩ : Msg) = m2 := ⟨_, rfl⟩
  have hf := fun W (hM : MB W w.heap.size m (.slice so sn sc)) hW => wfail_any m (.slice so sn sc) (ee) W hM (HEL2.out) hW m2 h2
  rw [HER.out] at hf
  have HF := hide hf
  clear hf
  go_wp2_with fail
  refine (HF.out _ HM.out (HE.out.glob HG.out)).mono ?_; rintro e w6 ⟨co2, cc2, rfl, B6, b6⟩
  have HB6 := hide B6
  have HZ6 := hide (HZ.out.grow b6)
  have HE6 := hide (HE.out.to b6)
  have HM2 : Hid (m2 = rplF m (badF (s.tab K.t K.es s.T) (ee))) := by show _ = _; rw [rpl_bad, ← h2]
  clear B6 b6 h2 k0 k1 k2 k3 k4 k5 k6 k7 k8 k9 k10
  have HZL := hide (HZ6.out.lay (m := m2) (D := .slice co2 0 cc2))
  have f7 := foot_lay11 w6 (w.heap.size + 1) m2 (.slice co2 0 cc2)
  have HE7 := hide (HE6.out.msg HW0.out HZ6.out (by omega) f7)
  have HB7 : Hid (Bts (lay11 w6 (w.heap.size + 1) m2 (.slice co2 0 cc2)) co2 0 cc2 []) := bts_none HB6.out
  obtain ⟨w7, hw7⟩ : ∃ w7, lay11 w6 (w.heap.size + 1) m2 (.slice co2 0 cc2) = w7 := ⟨_, rfl⟩
  rw [hw7] at HZL HE7 HB7
  unfold lay11 at hw7
  clear f7
  obtain ⟨v0, v1, v2, v3, v4, v5, v6, v7, v8, v9, v10⟩ := HZL.out.all
  obtain ⟨z0, z1, z2, z3, z4, z5, z6, z7, z8, z9, z10⟩ := HZ6.out.all
  have x0 := HZ6.out.z 0
  have x1 := HZ6.out.z 1
  have x2 := HZ6.out.z 2
  have x3 := HZ6.out.z 3
  have x4 := HZ6.out.z 4
  have x5 := HZ6.out.z 5
  have x6 := HZ6.out.z 6
  have x7 := HZ6.out.z 7
  have x8 := HZ6.out.z 8
  have x9 := HZ6.out.z 9
  have x10 := HZ6.out.z 10
  go_wp2
  refine bodyPost_ret (by simp [results, Tryz.results19, go_sem, v0, v1, v2, v3, v4, v5, v6, v7, v8, v9, v10]; rfl) rfl ?_
  exact ⟨m2, co2, 0, cc2, HM2.out, rfl, by rw [dat_bad]; exact HB7.out, .inl (dat_bad _ _ _), HE7.out⟩
set_option maxRecDepth 20000 in
set_option maxHeartbeats 12800000 in
theorem want_read1 (m : Msg) (so : Option Addr) (sn sc : Nat) (l : List UInt8) (w : World) (x : Sv w0 w A p ws s) (hb : Bts w so sn sc l) (q : Okm w0 w m so sn) (li : Lim s) (hg : Glob w0) (hop : m.op = 101) (K : Chk) (hK : chkF ws s.t s.es p s.T ⟨m.p, m.o, m.r, m.c⟩ 1 = K) (h0 : K.e = 0) (vl : Int) (hvl : (s.T K.k).v = vl) (hz : vl ≠ -1) (h1 : ¬ 2147483647 < m.ar / 4294967296) (h2 : ¬ 4096 < m.ar % 4294967296) (h3 : reaE s.L vl (m.ar / 4294967296 : Nat) (m.ar % 4294967296 : Nat) = 0) :
    Calls Tryz.prog 19 #[.pointer (some ⟨A.g, 0, none⟩), .pointer (some ⟨A.sb.2, 0, none⟩), .agg #[.int .u64 m.ta, .int .u64 m.rp, .int .u32 m.id, .int .u16 m.op, .int .u16 m.st, .int .u64 m.p, .int .u32 m.o, .int .u8 m.r, .int .u64 m.c, .int .u64 m.ar, .slice so sn sc]] w fun e w' => RplEnd w0 w A p ws m ⟨0, Cp.zero, 0, reaD s.L vl (m.ar / 4294967296 : Nat) (m.ar % 4294967296 : Nat), (s.tab K.t K.es s.T)⟩ l e w' := by
  have hmf : ∀ (fn : Fn) (first cap : Array Value) (w : World), (Instr.makeFunc fn first cap).run Tryz.prog w = .ok (.func fn first cap) w := fun _ _ _ _ => rfl
  obtain ⟨X, hX, bm, bz, bX⟩ := rep_vars w m (.slice so sn sc)
  have HX := hide (x.grow bX)
  have HB := hide (hb.carry bX)
  have HM := hide bm
  have HZ := hide bz
  have HBX := hide bX
  have HW0 : Hid (w0.heap.size ≤ w.heap.size) := x.bel.size
  have HQ := hide q
  have HQX := hide (q.grow bX)
  have HLI := hide li
  have HG := hide hg
  have hopi : (m.op : Int) = 101 := by omega
  have HK := hide hK
  have H0 := hide h0
  have HEL : Hid (K.e ≤ 65535) := by show _ ≤ _; have := chk_err ws s.t s.es p s.T ⟨m.p, m.o, m.r, m.c⟩ 1; rw [hK] at this; omega
  obtain ⟨er, her⟩ : ∃ er, erN (K.e : Int) = er := ⟨_, rfl⟩
  have HER := hide her
  have HH : Hid (hasO s.T K.k = true) := by
    have e := chk_has (hK ▸ h0)
    show hasO s.T K.k = true
    rw [← hK, e.2.2]; exact e.1
  obtain ⟨k0, k1, k2, k3, k4, k5, k6, k7, k8, k9, k10⟩ := HM.out.all
  have hwk : IntKind.u16.wrap 1 = 1 := by rw [IntKind.wrap_u16]; rfl
  rw [hopi] at k3 hX
  have HK3 := hide k3
  clear bm bz bX x hb q li hg hop hK h0 her
  have HVL := hide hvl
  clear hvl
  have hz0 : (vl == -1) = false := by simpa using hz
  clear hz
  obtain ⟨at1, hat1⟩ : ∃ q, m.ar / 4294967296 = q := ⟨_, rfl⟩
  obtain ⟨mn, hmn⟩ : ∃ q, m.ar % 4294967296 = q := ⟨_, rfl⟩
  have hs1 : (m.ar : Int) / 4294967296 = (at1 : Int) := by omega
  have hs2 : (m.ar : Int).tdiv 4294967296 = (at1 : Int) := by rw [Int.tdiv_eq_ediv_of_nonneg (by omega)]; exact hs1
  have hs3 : (m.ar : Int) % 4294967296 = (mn : Int) := by omega
  have hs4 : (m.ar : Int).tmod 4294967296 = (mn : Int) := by rw [Int.tmod_eq_emod_of_nonneg (by omega)]; exact hs3
  rw [hat1] at h1
  rw [hmn] at h2
  rw [hat1, hmn] at h3 ⊢
  have hi1 : ¬ (2147483647 : Int) < (at1 : Int) := by omega
  have hi2 : ¬ (4096 : Int) < (mn : Int) := by omega
  have hw5 : IntKind.u64.wrap (at1 : Int) = (at1 : Int) := by rw [IntKind.wrap_u64]; omega
  have hw6 : IntKind.i64.wrap (at1 : Int) = (at1 : Int) := by rw [IntKind.wrap_i64]; omega
  have hw7 : IntKind.i64.wrap (mn : Int) = (mn : Int) := by rw [IntKind.wrap_i64]; omega
  have HA1 := hide h1
  have HLE := hide (reaD_len s.L vl at1 mn)
  have HA2 := hide h2
  have HER2 : Hid (erN (reaE s.L vl (at1 : Nat) (mn : Nat)) = .nilIface) := by show _ = _; rw [h3]; rfl
  clear h1 h2 h3 hat1 hmn
  go_enter Tryz.func19, Tryz.ntmps19
  go_wp2_with fail
  have hS : Hid (X.drew.cell? ⟨w.heap.size, 3, none⟩ = some (.int .u16 101) ∧ X.drew.cell? ⟨w.heap.size, 5, none⟩ = some (.int .u64 (m.p : Int)) ∧ X.drew.cell? ⟨w.heap.size, 6, none⟩ = some (.int .u32 (m.o : Int)) ∧ X.drew.cell? ⟨w.heap.size, 7, none⟩ = some (.int .u8 (m.r : Int)) ∧ X.drew.cell? ⟨w.heap.size, 8, none⟩ = some (.int .u64 (m.c : Int))) := ⟨k3, HM.out.all.2.2.2.2.2.1, HM.out.all.2.2.2.2.2.2.1, HM.out.all.2.2.2.2.2.2.2.1, HM.out.all.2.2.2.2.2.2.2.2.1⟩
  refine wp_region_held_drew (S := fun U => U.cell? ⟨w.heap.size, 3, none⟩ = some (.int .u16 101) ∧ U.cell? ⟨w.heap.size, 5, none⟩ = some (.int .u64 (m.p : Int)) ∧ U.cell? ⟨w.heap.size, 6, none⟩ = some (.int .u32 (m.o : Int)) ∧ U.cell? ⟨w.heap.size, 7, none⟩ = some (.int .u8 (m.r : Int)) ∧ U.cell? ⟨w.heap.size, 8, none⟩ = some (.int .u64 (m.c : Int))) (by kernel_rfl) hS.out (fun _ => ?_)
  refine wpAnyH_take (i := 0) (oi := { dst := some 72, op := Go.Op.move (Go.Operand.tmp 0), type := 26, pos := "law.go:72", after := #[], guard := none }) (v := (.pointer (some ⟨A.g, 0, none⟩))) rfl (by kernel_rfl) (by kernel_rfl) (by kernel_rfl) (fun _ _ _ h => h) (Or.inl ⟨by kernel_rfl, fun w hC => by go_simp⟩) hS.out ?_
  simp only [Act.put, List.setIfInBounds_toArray, List.set_cons_zero, List.set_cons_succ]
  refine wpAnyH_take (i := 1) (oi := { dst := some 73, op := Go.Op.fieldAddr 53 (Go.Operand.tmp 5) 5, type := 0, pos := "law.go:72", after := #[], guard := none }) (v := (.pointer (some ⟨w.heap.size, 5, none⟩))) rfl (by kernel_rfl) (by kernel_rfl) (by kernel_rfl) (fun _ _ _ h => h) (Or.inl ⟨by kernel_rfl, fun w hC => by go_simp⟩) hS.out ?_
  simp only [Act.put, List.setIfInBounds_toArray, List.set_cons_zero, List.set_cons_succ]
  refine wpAnyH_take (i := 2) (oi := { dst := some 74, op := Go.Op.load 36 (Go.Operand.tmp 73), type := 36, pos := "law.go:72", after := #[{ on := 1, ground := Go.Ground.data }], guard := none }) (v := (.agg #[.int .u64 (m.p : Int), .int .u32 (m.o : Int), .int .u8 (m.r : Int), .int .u64 (m.c : Int)])) rfl (by kernel_rfl) (by kernel_rfl) (by kernel_rfl) (fun _ _ _ h => h) (Or.inl ⟨by kernel_rfl, fun w hC => by (obtain ⟨e3, e5, e6, e7, e8⟩ := hC; go_simp)⟩) hS.out ?_
  simp only [Act.put, List.setIfInBounds_toArray, List.set_cons_zero, List.set_cons_succ]
  refine wpAnyH_take (i := 4) (oi := { dst := some 76, op := Go.Op.fieldAddr 53 (Go.Operand.tmp 5) 3, type := 0, pos := "law.go:72", after := #[], guard := none }) (v := (.pointer (some ⟨w.heap.size, 3, none⟩))) rfl (by kernel_rfl) (by kernel_rfl) (by kernel_rfl) (fun _ _ _ h => h) (Or.inl ⟨by kernel_rfl, fun w hC => by go_simp⟩) hS.out ?_
  simp only [Act.put, List.setIfInBounds_toArray, List.set_cons_zero, List.set_cons_succ]
  refine wpAnyH_take (i := 5) (oi := { dst := some 77, op := Go.Op.load 49 (Go.Operand.tmp 76), type := 49, pos := "law.go:72", after := #[{ on := 4, ground := Go.Ground.data }], guard := none }) (v := (.int .u16 101)) rfl (by kernel_rfl) (by kernel_rfl) (by kernel_rfl) (fun _ _ _ h => h) (Or.inl ⟨by kernel_rfl, fun w hC => by (obtain ⟨e3, e5, e6, e7, e8⟩ := hC; go_simp)⟩) hS.out ?_
  simp only [Act.put, List.setIfInBounds_toArray, List.set_cons_zero, List.set_cons_succ]
  refine wpAnyH_take (i := 6) (oi := { dst := some 78, op := Go.Op.binOp Go.BinOp.sub 49 (Go.Operand.tmp 77) (Go.Operand.const (Go.Value.int Go.IntKind.u16 100)) 49, type := 49, pos := "law.go:72", after := #[{ on := 5, ground := Go.Ground.data }], guard := none }) (v := (.int .u16 1)) rfl (by kernel_rfl) (by kernel_rfl) (by kernel_rfl) (fun _ _ _ h => h) (Or.inl ⟨by kernel_rfl, fun w hC => by go_simp⟩) hS.out ?_
  simp only [Act.put, List.setIfInBounds_toArray, List.set_cons_zero, List.set_cons_succ]
  refine wpAnyH_ready (rs := [3]) (by kernel_rfl) (by simp) ?_
  refine AllReadyH.cons (o := { dst := some 75, op := Go.Op.buildSlice 23 5 #[(0, Go.Operand.const (Go.Value.int Go.IntKind.u8 4)), (1, Go.Operand.const (Go.Value.int Go.IntKind.u8 1)), (2, Go.Operand.const (Go.Value.int Go.IntKind.u8 2)), (3, Go.Operand.const (Go.Value.int Go.IntKind.u8 1)), (4, Go.Operand.const (Go.Value.int Go.IntKind.u8 2))], type := 23, pos := "law.go:72", after := #[], guard := none }) rfl (fun KK hKK => ?_) AllReadyH.nil
  go_simp
  obtain ⟨Y, hY⟩ : ∃ Y, (X.alloc (.cells #[.int .u8 4, .int .u8 1, .int .u8 2, .int .u8 1, .int .u8 2] 5)).drew = Y := ⟨_, rfl⟩
  have bY : Below X.heap.size X Y := hY ▸ (below_alloc X _).drew
  have cY : Y.cell? ⟨X.heap.size, 1, none⟩ = some (.int .u8 1) := by subst hY; show (X.alloc _).cell? _ = _; rw [cell_of_row _ _ _ _ _ _ (heap_alloc_new _ _)]; rfl
  try rw [hY]
  have HM := hide (HM.out.grow bY)
  have HZ := hide (HZ.out.grow bY)
  have HX := hide (HX.out.grow bY)
  have HB := hide (HB.out.carry bY)
  have HQX := hide (HQX.out.grow bY)
  have HBX := hide (below_one HBX.out bY)
  clear bY
  have hS : Hid (Y.cell? ⟨w.heap.size, 3, none⟩ = some (.int .u16 101) ∧ Y.cell? ⟨w.heap.size, 5, none⟩ = some (.int .u64 (m.p : Int)) ∧ Y.cell? ⟨w.heap.size, 6, none⟩ = some (.int .u32 (m.o : Int)) ∧ Y.cell? ⟨w.heap.size, 7, none⟩ = some (.int .u8 (m.r : Int)) ∧ Y.cell? ⟨w.heap.size, 8, none⟩ = some (.int .u64 (m.c : Int))) := ⟨by rw [HM.out.all.2.2.2.1, hopi], HM.out.all.2.2.2.2.2.1, HM.out.all.2.2.2.2.2.2.1, HM.out.all.2.2.2.2.2.2.2.1, HM.out.all.2.2.2.2.2.2.2.2.1⟩
  refine hKK.out _ _ hS.out (fun _ => ?_)
  clear hKK
  refine wpAnyH_take (i := 7) (oi := { dst := some 79, op := Go.Op.indexAddr 23 (Go.Operand.tmp 75) (Go.Operand.tmp 78), type := 0, pos := "law.go:72", after := #[{ on := 3, ground := Go.Ground.data }, { on := 6, ground := Go.Ground.data }], guard := none }) (v := (.pointer (some ⟨X.heap.size, 1, none⟩))) rfl (by kernel_rfl) (by kernel_rfl) (by kernel_rfl) (fun _ _ _ h => h) (Or.inl ⟨by kernel_rfl, fun w hC => by go_simp⟩) hS.out ?_
  simp only [Act.put, List.setIfInBounds_toArray, List.set_cons_zero, List.set_cons_succ]
  refine wpAnyH_ready (rs := [8]) (by kernel_rfl) (by simp) ?_
  refine AllReadyH.cons (o := { dst := some 80, op := Go.Op.load 5 (Go.Operand.tmp 79), type := 5, pos := "law.go:72", after := #[{ on := 7, ground := Go.Ground.data }], guard := none }) rfl (fun KK hKK => ?_) AllReadyH.nil
  go_simp
  have hS : Hid (Y.cell? ⟨w.heap.size, 3, none⟩ = some (.int .u16 101) ∧ Y.cell? ⟨w.heap.size, 5, none⟩ = some (.int .u64 (m.p : Int)) ∧ Y.cell? ⟨w.heap.size, 6, none⟩ = some (.int .u32 (m.o : Int)) ∧ Y.cell? ⟨w.heap.size, 7, none⟩ = some (.int .u8 (m.r : Int)) ∧ Y.cell? ⟨w.heap.size, 8, none⟩ = some (.int .u64 (m.c : Int))) := ⟨by rw [HM.out.all.2.2.2.1, hopi], HM.out.all.2.2.2.2.2.1, HM.out.all.2.2.2.2.2.2.1, HM.out.all.2.2.2.2.2.2.2.1, HM.out.all.2.2.2.2.2.2.2.2.1⟩
  refine hKK.out _ _ hS.out (fun _ => ?_)
  clear hKK
  refine wpAnyH_ready (rs := [9]) (by kernel_rfl) (by simp) ?_
  refine AllReadyH.cons (o := { dst := some 81, op := Go.Op.call { callee := Go.Callee.value (Go.Operand.func 33), args := #[Go.Operand.tmp 72, Go.Operand.tmp 74, Go.Operand.tmp 80], argTypes := #[26, 36, 5] }, type := 99, pos := "law.go:72", after := #[{ on := 0, ground := Go.Ground.data }, { on := 2, ground := Go.Ground.data }, { on := 8, ground := Go.Ground.data }], guard := none }) rfl (fun KK hKK => ?_) AllReadyH.nil
  go_simp
  refine (tb_check ⟨m.p, m.o, m.r, m.c⟩ 1 _ HX.out HQ.out.c (by omega) (by have := HLI.out.el; omega) K HK.out).mono ?_; rw [HER.out]; rintro e w2 ⟨rfl, E⟩
  have kh := HX.out.kh E
  have HM := hide (HM.out.kh kh)
  have HZ := hide (HZ.out.kh kh)
  have HB := hide (Bts.sv HB.out HQX.out.d HX.out E)
  have HQX : Hid (Okm w0 w2 m so sn) := ⟨HQX.out.c, HQX.out.o, HQX.out.a, HQX.out.n, HQX.out.d.kh kh⟩
  have HE := hide (E.from HBX.out)
  clear kh E
  have hS : Hid (w2.cell? ⟨w.heap.size, 3, none⟩ = some (.int .u16 101) ∧ w2.cell? ⟨w.heap.size, 5, none⟩ = some (.int .u64 (m.p : Int)) ∧ w2.cell? ⟨w.heap.size, 6, none⟩ = some (.int .u32 (m.o : Int)) ∧ w2.cell? ⟨w.heap.size, 7, none⟩ = some (.int .u8 (m.r : Int)) ∧ w2.cell? ⟨w.heap.size, 8, none⟩ = some (.int .u64 (m.c : Int))) := ⟨by rw [HM.out.all.2.2.2.1, hopi], HM.out.all.2.2.2.2.2.1, HM.out.all.2.2.2.2.2.2.1, HM.out.all.2.2.2.2.2.2.2.1, HM.out.all.2.2.2.2.2.2.2.2.1⟩
  refine hKK.out _ _ hS.out (fun _ => ?_)
  clear hKK
  refine wpAnyH_take (i := 10) (oi := { dst := some 71, op := Go.Op.move (Go.Operand.tmp 81), type := 99, pos := "law.go:72", after := #[{ on := 9, ground := Go.Ground.data }], guard := none }) (v := (.tuple #[.int .i64 (K.k : Int), er])) rfl (by kernel_rfl) (by kernel_rfl) (by kernel_rfl) (fun _ _ _ h => h) (Or.inl ⟨by kernel_rfl, fun w hC => by go_simp⟩) hS.out ?_
  simp only [Act.put, List.setIfInBounds_toArray, List.set_cons_zero, List.set_cons_succ]
  refine wpAnyH_take (i := 11) (oi := { dst := some 82, op := Go.Op.extract (Go.Operand.tmp 71) 0, type := 3, pos := "law.go:72", after := #[{ on := 10, ground := Go.Ground.data }], guard := none }) (v := (.int .i64 (K.k : Int))) rfl (by kernel_rfl) (by kernel_rfl) (by kernel_rfl) (fun _ _ _ h => h) (Or.inl ⟨by kernel_rfl, fun w hC => by go_simp⟩) hS.out ?_
  simp only [Act.put, List.setIfInBounds_toArray, List.set_cons_zero, List.set_cons_succ]
  refine wpAnyH_take (i := 12) (oi := { dst := some 83, op := Go.Op.extract (Go.Operand.tmp 71) 1, type := 38, pos := "law.go:72", after := #[{ on := 10, ground := Go.Ground.data }, { on := 13, ground := Go.Ground.gcOnly Go.Departure.lateStores }], guard := none }) (v := er) rfl (by kernel_rfl) (by kernel_rfl) (by kernel_rfl) (fun _ _ _ h => h) (Or.inl ⟨by kernel_rfl, fun w hC => by go_simp⟩) hS.out ?_
  simp only [Act.put, List.setIfInBounds_toArray, List.set_cons_zero, List.set_cons_succ]
  refine wpAnyH_take (i := 13) (oi := { dst := some 13, op := Go.Op.assign (Go.Operand.tmp 82), type := 3, pos := "law.go:72", after := #[{ on := 11, ground := Go.Ground.data }, { on := 9, ground := Go.Ground.chain }, { on := 0, ground := Go.Ground.phase }, { on := 1, ground := Go.Ground.phase }, { on := 2, ground := Go.Ground.phase }, { on := 3, ground := Go.Ground.phase }, { on := 4, ground := Go.Ground.phase }, { on := 5, ground := Go.Ground.phase }, { on := 6, ground := Go.Ground.phase }, { on := 7, ground := Go.Ground.phase }, { on := 8, ground := Go.Ground.phase }, { on := 9, ground := Go.Ground.phase }, { on := 10, ground := Go.Ground.phase }, { on := 11, ground := Go.Ground.phase }, { on := 12, ground := Go.Ground.textOnly Go.Departure.lateStores }], guard := none }) (v := (.int .i64 (K.k : Int))) rfl (by kernel_rfl) (by kernel_rfl) (by kernel_rfl) (fun _ _ _ h => h) (Or.inl ⟨by kernel_rfl, fun w hC => by go_simp⟩) hS.out ?_
  simp only [Act.put, List.setIfInBounds_toArray, List.set_cons_zero, List.set_cons_succ]
  refine wpAnyH_take (i := 14) (oi := { dst := some 14, op := Go.Op.assign (Go.Operand.tmp 83), type := 38, pos := "law.go:72", after := #[{ on := 12, ground := Go.Ground.data }, { on := 13, ground := Go.Ground.chain }, { on := 0, ground := Go.Ground.phase }, { on := 1, ground := Go.Ground.phase }, { on := 2, ground := Go.Ground.phase }, { on := 3, ground := Go.Ground.phase }, { on := 4, ground := Go.Ground.phase }, { on := 5, ground := Go.Ground.phase }, { on := 6, ground := Go.Ground.phase }, { on := 7, ground := Go.Ground.phase }, { on := 8, ground := Go.Ground.phase }, { on := 9, ground := Go.Ground.phase }, { on := 10, ground := Go.Ground.phase }, { on := 11, ground := Go.Ground.phase }, { on := 12, ground := Go.Ground.phase }, { on := 13, ground := Go.Ground.phase }], guard := none }) (v := er) rfl (by kernel_rfl) (by kernel_rfl) (by kernel_rfl) (fun _ _ _ h => h) (Or.inl ⟨by kernel_rfl, fun w hC => by go_simp⟩) hS.out ?_
  simp only [Act.put, List.setIfInBounds_toArray, List.set_cons_zero, List.set_cons_succ]
  refine wpAnyH_done (by kernel_rfl) ?_ _
  obtain rfl : er = .nilIface := by rw [← HER.out, H0.out]; rfl
  obtain ⟨v, dv, nv, S1, on1⟩ := SvEnd.run HE.out
  have HS1 := hide S1
  have HON := hide on1
  clear S1 on1
  obtain ⟨k0, k1, k2, k3, k4, k5, k6, k7, k8, k9, k10⟩ := HM.out.all
  rw [hopi] at k3
  go_wp2_with fail
  refine (tb_value (A := A.upd v dv nv) K.k vl _ HS1.out HH.out HVL.out).mono ?_; rintro e w3 ⟨rfl, hw3⟩; subst hw3
  go_wp2_with fail
  refine (sto_read vl at1 mn _ (show Sto _ _ _ _ _ _ _ _ _ s.L from HS1.out.st) (by have := HA1.out; omega)).mono ?_; rw [HER2.out]; rintro e w4 ⟨co, n, cc, rfl, B4, N4, b4⟩
  have HBR := hide B4
  have HNN : Hid (n ≤ 4096) := by show _ ≤ _; have h1 := B4.1; have h2 := HLE.out; have h3 := HA2.out; omega
  have HM := hide (HM.out.grow b4)
  have HZ := hide (HZ.out.grow b4)
  have HE := hide (HE.out.to b4)
  clear B4 N4 b4 k0 k1 k2 k3 k4 k5 k6 k7 k8 k9 k10
  obtain ⟨k0, k1, k2, k3, k4, k5, k6, k7, k8, k9, k10⟩ := HM.out.all
  obtain ⟨m2, h2⟩ : ∃ m2, (⟨m.rp, m.ta, m.id, m.op, 0, 0, 0, 0, 0, 0⟩ : Msg) = m2 := ⟨_, rfl⟩
  clear hopi
  go_wp2_with fail
  refine (answer_own m (.slice so sn sc) 0 (0) (0) (0) (0) (0) co n cc _ _ (by omega) HBR.out (by have := HNN.out; omega) m2 h2).mono ?_; rintro e w6 ⟨co2, cc2, rfl, B6, N6, T6, b6⟩
  have HB6 := hide B6
  have HZ6 := hide (HZ.out.grow b6)
  have HE6 := hide (HE.out.to b6)
  have HN6 := hide N6
  have HT6 := hide T6
  have HS6 : Hid (w.heap.size + 1 < w4.heap.size) := lt_of_heap HZ.out
  have HM2 : Hid (m2 = rplF m (⟨0, Cp.zero, 0, reaD s.L vl (at1 : Nat) (mn : Nat), (s.tab K.t K.es s.T)⟩)) := by show _ = _; unfold rplF; rw [if_pos rfl]; exact h2.symm
  clear B6 N6 T6 b6 h2 k0 k1 k2 k3 k4 k5 k6 k7 k8 k9 k10
  have HZL := hide (HZ6.out.lay (m := m2) (D := .slice co2 n cc2))
  have f7 := foot_lay11 w6 (w.heap.size + 1) m2 (.slice co2 n cc2)
  have HE7 := hide (HE6.out.msg HW0.out HZ6.out (by omega) f7)
  have HB7 := hide (Bts.foot HB6.out f7 (fun ad e _ (h : ad.block = w.heap.size + 1) => by have := HN6.out ad e; have := HS6.out; omega))
  have HT7 := hide (HT6.out.foot f7 (fun ad e (h : ad.block = w.heap.size + 1) => by have := HN6.out ad e; have := HS6.out; omega))
  obtain ⟨w7, hw7⟩ : ∃ w7, lay11 w6 (w.heap.size + 1) m2 (.slice co2 n cc2) = w7 := ⟨_, rfl⟩
  rw [hw7] at HZL HE7 HB7 HT7
  unfold lay11 at hw7
  clear f7
  obtain ⟨v0, v1, v2, v3, v4, v5, v6, v7, v8, v9, v10⟩ := HZL.out.all
  obtain ⟨z0, z1, z2, z3, z4, z5, z6, z7, z8, z9, z10⟩ := HZ6.out.all
  have x0 := HZ6.out.z 0
  have x1 := HZ6.out.z 1
  have x2 := HZ6.out.z 2
  have x3 := HZ6.out.z 3
  have x4 := HZ6.out.z 4
  have x5 := HZ6.out.z 5
  have x6 := HZ6.out.z 6
  have x7 := HZ6.out.z 7
  have x8 := HZ6.out.z 8
  have x9 := HZ6.out.z 9
  have x10 := HZ6.out.z 10
  go_wp2
  refine bodyPost_ret (by simp [results, Tryz.results19, go_sem, v0, v1, v2, v3, v4, v5, v6, v7, v8, v9, v10]; rfl) rfl ?_
  exact ⟨m2, co2, n, cc2, HM2.out, rfl, HB7.out, .inr ⟨HN6.out.le (by have := HS6.out; omega), HT7.out⟩, HE7.out⟩
end
end Go.Proofs.YtpbkjmkdciiccaaGreatDoor
namespace Go.Proofs.YtpbkjmkdciiccaaGreatDoor
section
open Go.RowKit
variable {w0 w w1 w2 w' : World} {A A' : Ad} {p : Nat} {ws : List Nat} {s s' s1 : Hs} {r g : Nat} {sb : Nat × Nat}
set_option maxRecDepth 20000 in
set_option maxHeartbeats 12800000 in
theorem want_make0 (m : Msg) (so : Option Addr) (sn sc : Nat) (l : List UInt8) (w : World) (x : Sv w0 w A p ws s) (hb : Bts w so sn sc l) (q : Okm w0 w m so sn) (li : Lim s) (hg : Glob w0) (hop : m.op = 100) (K : Chk) (hK : chkF ws s.t s.es p s.T ⟨m.p, m.o, m.r, m.c⟩ 4 = K) (h0 : K.e = 0) (vl : Int) (hvl : (s.T K.k).v = vl) (hz : vl = -1) (h1 : ¬ 2147483647 < m.ar) (h2 : createE s.n s.L (m.ar : Int) ≠ 0) :
    Calls Tryz.prog 19 #[.pointer (some ⟨A.g, 0, none⟩), .pointer (some ⟨A.sb.2, 0, none⟩), .agg #[.int .u64 m.ta, .int .u64 m.rp, .int .u32 m.id, .int .u16 m.op, .int .u16 m.st, .int .u64 m.p, .int .u32 m.o, .int .u8 m.r, .int .u64 m.c, .int .u64 m.ar, .slice so sn sc]] w fun e w' => RplEnd w0 w A p ws m (badF (s.tab K.t K.es s.T) (createE s.n s.L (m.ar : Int)).toNat) l e w' := by
  have hmf : ∀ (fn : Fn) (first cap : Array Value) (w : World), (Instr.makeFunc fn first cap).run Tryz.prog w = .ok (.func fn first cap) w := fun _ _ _ _ => rfl
  obtain ⟨X, hX, bm, bz, bX⟩ := rep_vars w m (.slice so sn sc)
  have HX := hide (x.grow bX)
  have HB := hide (hb.carry bX)
  have HM := hide bm
  have HZ := hide bz
  have HBX := hide bX
  have HW0 : Hid (w0.heap.size ≤ w.heap.size) := x.bel.size
  have HQ := hide q
  have HQX := hide (q.grow bX)
  have HLI := hide li
  have HG := hide hg
  have hopi : (m.op : Int) = 100 := by omega
  have HK := hide hK
  have H0 := hide h0
  have HEL : Hid (K.e ≤ 65535) := by show _ ≤ _; have := chk_err ws s.t s.es p s.T ⟨m.p, m.o, m.r, m.c⟩ 4; rw [hK] at this; omega
  obtain ⟨er, her⟩ : ∃ er, erN (K.e : Int) = er := ⟨_, rfl⟩
  have HER := hide her
  have HH : Hid (hasO s.T K.k = true) := by
    have e := chk_has (hK ▸ h0)
    show hasO s.T K.k = true
    rw [← hK, e.2.2]; exact e.1
  obtain ⟨k0, k1, k2, k3, k4, k5, k6, k7, k8, k9, k10⟩ := HM.out.all
  have hwk : IntKind.u16.wrap 0 = 0 := by rw [IntKind.wrap_u16]; rfl
  rw [hopi] at k3 hX
  have HK3 := hide k3
  clear bm bz bX x hb q li hg hop hK h0 her
  have HVL := hide hvl
  clear hvl
  have hz0 : (vl == -1) = true := by rw [hz]; rfl
  clear hz
  have hi1 : ¬ (2147483647 : Int) < (m.ar : Int) := by omega
  have hw6 : IntKind.i64.wrap (m.ar : Int) = (m.ar : Int) := by rw [IntKind.wrap_i64]; omega
  have HA1 := hide h1
  have hin := createE_in s.n s.L (m.ar : Int)
  have hN : createN s.n s.L (m.ar : Int) = 0 := if_neg h2
  have hL : createL s.n s.L (m.ar : Int) = s.L := if_neg h2
  obtain ⟨ee, hee⟩ : ∃ ee, (createE s.n s.L (m.ar : Int)).toNat = ee := ⟨_, rfl⟩
  have hz3 : createE s.n s.L (m.ar : Int) = (ee : Int) := by omega
  have HEL2 : Hid (ee ≤ 65535) := by show _ ≤ _; omega
  have HE0 : Hid (ee ≠ 0) := by show _ ≠ _; omega
  rw [hee]
  obtain ⟨er2, her2⟩ : ∃ er2, erN (ee : Int) = er2 := ⟨_, rfl⟩
  have HER3 := hide her2
  have HER2 : Hid (erN (createE s.n s.L (m.ar : Int)) = er2) := by show _ = _; rw [hz3, her2]
  have HID := hide hN
  have HLL := hide hL
  clear hee hin hz3 her2 h1 h2 hN hL
  go_enter Tryz.func19, Tryz.ntmps19
  go_wp2_with fail
  have hS : Hid (X.drew.cell? ⟨w.heap.size, 3, none⟩ = some (.int .u16 100) ∧ X.drew.cell? ⟨w.heap.size, 5, none⟩ = some (.int .u64 (m.p : Int)) ∧ X.drew.cell? ⟨w.heap.size, 6, none⟩ = some (.int .u32 (m.o : Int)) ∧ X.drew.cell? ⟨w.heap.size, 7, none⟩ = some (.int .u8 (m.r : Int)) ∧ X.drew.cell? ⟨w.heap.size, 8, none⟩ = some (.int .u64 (m.c : Int))) := ⟨k3, HM.out.all.2.2.2.2.2.1, HM.out.all.2.2.2.2.2.2.1, HM.out.all.2.2.2.2.2.2.2.1, HM.out.all.2.2.2.2.2.2.2.2.1⟩
  refine wp_region_held_drew (S := fun U => U.cell? ⟨w.heap.size, 3, none⟩ = some (.int .u16 100) ∧ U.cell? ⟨w.heap.size, 5, none⟩ = some (.int .u64 (m.p : Int)) ∧ U.cell? ⟨w.heap.size, 6, none⟩ = some (.int .u32 (m.o : Int)) ∧ U.cell? ⟨w.heap.size, 7, none⟩ = some (.int .u8 (m.r : Int)) ∧ U.cell? ⟨w.heap.size, 8, none⟩ = some (.int .u64 (m.c : Int))) (by kernel_rfl) hS.out (fun _ => ?_)
  refine wpAnyH_take (i := 0) (oi := { dst := some 72, op := Go.Op.move (Go.Operand.tmp 0), type := 26, pos := "law.go:72", after := #[], guard := none }) (v := (.pointer (some ⟨A.g, 0, none⟩))) rfl (by kernel_rfl) (by kernel_rfl) (by kernel_rfl) (fun _ _ _ h => h) (Or.inl ⟨by kernel_rfl, fun w hC => by go_simp⟩) hS.out ?_
  simp only [Act.put, List.setIfInBounds_toArray, List.set_cons_zero, List.set_cons_succ]
  refine wpAnyH_take (i := 1) (oi := { dst := some 73, op := Go.Op.fieldAddr 53 (Go.Operand.tmp 5) 5, type := 0, pos := "law.go:72", after := #[], guard := none }) (v := (.pointer (some ⟨w.heap.size, 5, none⟩))) rfl (by kernel_rfl) (by kernel_rfl) (by kernel_rfl) (fun _ _ _ h => h) (Or.inl ⟨by kernel_rfl, fun w hC => by go_simp⟩) hS.out ?_
  simp only [Act.put, List.setIfInBounds_toArray, List.set_cons_zero, List.set_cons_succ]
  refine wpAnyH_take (i := 2) (oi := { dst := some 74, op := Go.Op.load 36 (Go.Operand.tmp 73), type := 36, pos := "law.go:72", after := #[{ on := 1, ground := Go.Ground.data }], guard := none }) (v := (.agg #[.int .u64 (m.p : Int), .int .u32 (m.o : Int), .int .u8 (m.r : Int), .int .u64 (m.c : Int)])) rfl (by kernel_rfl) (by kernel_rfl) (by kernel_rfl) (fun _ _ _ h => h) (Or.inl ⟨by kernel_rfl, fun w hC => by (obtain ⟨e3, e5, e6, e7, e8⟩ := hC; go_simp)⟩) hS.out ?_
  simp only [Act.put, List.setIfInBounds_toArray, List.set_cons_zero, List.set_cons_succ]
  refine wpAnyH_take (i := 4) (oi := { dst := some 76, op := Go.Op.fieldAddr 53 (Go.Operand.tmp 5) 3, type := 0, pos := "law.go:72", after := #[], guard := none }) (v := (.pointer (some ⟨w.heap.size, 3, none⟩))) rfl (by kernel_rfl) (by kernel_rfl) (by kernel_rfl) (fun _ _ _ h => h) (Or.inl ⟨by kernel_rfl, fun w hC => by go_simp⟩) hS.out ?_
  simp only [Act.put, List.setIfInBounds_toArray, List.set_cons_zero, List.set_cons_succ]
  refine wpAnyH_take (i := 5) (oi := { dst := some 77, op := Go.Op.load 49 (Go.Operand.tmp 76), type := 49, pos := "law.go:72", after := #[{ on := 4, ground := Go.Ground.data }], guard := none }) (v := (.int .u16 100)) rfl (by kernel_rfl) (by kernel_rfl) (by kernel_rfl) (fun _ _ _ h => h) (Or.inl ⟨by kernel_rfl, fun w hC => by (obtain ⟨e3, e5, e6, e7, e8⟩ := hC; go_simp)⟩) hS.out ?_
  simp only [Act.put, List.setIfInBounds_toArray, List.set_cons_zero, List.set_cons_succ]
  refine wpAnyH_take (i := 6) (oi := { dst := some 78, op := Go.Op.binOp Go.BinOp.sub 49 (Go.Operand.tmp 77) (Go.Operand.const (Go.Value.int Go.IntKind.u16 100)) 49, type := 49, pos := "law.go:72", after := #[{ on := 5, ground := Go.Ground.data }], guard := none }) (v := (.int .u16 0)) rfl (by kernel_rfl) (by kernel_rfl) (by kernel_rfl) (fun _ _ _ h => h) (Or.inl ⟨by kernel_rfl, fun w hC => by go_simp⟩) hS.out ?_
  simp only [Act.put, List.setIfInBounds_toArray, List.set_cons_zero, List.set_cons_succ]
  refine wpAnyH_ready (rs := [3]) (by kernel_rfl) (by simp) ?_
  refine AllReadyH.cons (o := { dst := some 75, op := Go.Op.buildSlice 23 5 #[(0, Go.Operand.const (Go.Value.int Go.IntKind.u8 4)), (1, Go.Operand.const (Go.Value.int Go.IntKind.u8 1)), (2, Go.Operand.const (Go.Value.int Go.IntKind.u8 2)), (3, Go.Operand.const (Go.Value.int Go.IntKind.u8 1)), (4, Go.Operand.const (Go.Value.int Go.IntKind.u8 2))], type := 23, pos := "law.go:72", after := #[], guard := none }) rfl (fun KK hKK => ?_) AllReadyH.nil
  go_simp
  obtain ⟨Y, hY⟩ : ∃ Y, (X.alloc (.cells #[.int .u8 4, .int .u8 1, .int .u8 2, .int .u8 1, .int .u8 2] 5)).drew = Y := ⟨_, rfl⟩
  have bY : Below X.heap.size X Y := hY ▸ (below_alloc X _).drew
  have cY : Y.cell? ⟨X.heap.size, 0, none⟩ = some (.int .u8 4) := by subst hY; show (X.alloc _).cell? _ = _; rw [cell_of_row _ _ _ _ _ _ (heap_alloc_new _ _)]; rfl
  try rw [hY]
  have HM := hide (HM.out.grow bY)
  have HZ := hide (HZ.out.grow bY)
  have HX := hide (HX.out.grow bY)
  have HB := hide (HB.out.carry bY)
  have HQX := hide (HQX.out.grow bY)
  have HBX := hide (below_one HBX.out bY)
  clear bY
  have hS : Hid (Y.cell? ⟨w.heap.size, 3, none⟩ = some (.int .u16 100) ∧ Y.cell? ⟨w.heap.size, 5, none⟩ = some (.int .u64 (m.p : Int)) ∧ Y.cell? ⟨w.heap.size, 6, none⟩ = some (.int .u32 (m.o : Int)) ∧ Y.cell? ⟨w.heap.size, 7, none⟩ = some (.int .u8 (m.r : Int)) ∧ Y.cell? ⟨w.heap.size, 8, none⟩ = some (.int .u64 (m.c : Int))) := ⟨by rw [HM.out.all.2.2.2.1, hopi], HM.out.all.2.2.2.2.2.1, HM.out.all.2.2.2.2.2.2.1, HM.out.all.2.2.2.2.2.2.2.1, HM.out.all.2.2.2.2.2.2.2.2.1⟩
  refine hKK.out _ _ hS.out (fun _ => ?_)
  clear hKK
  refine wpAnyH_take (i := 7) (oi := { dst := some 79, op := Go.Op.indexAddr 23 (Go.Operand.tmp 75) (Go.Operand.tmp 78), type := 0, pos := "law.go:72", after := #[{ on := 3, ground := Go.Ground.data }, { on := 6, ground := Go.Ground.data }], guard := none }) (v := (.pointer (some ⟨X.heap.size, 0, none⟩))) rfl (by kernel_rfl) (by kernel_rfl) (by kernel_rfl) (fun _ _ _ h => h) (Or.inl ⟨by kernel_rfl, fun w hC => by go_simp⟩) hS.out ?_
  simp only [Act.put, List.setIfInBounds_toArray, List.set_cons_zero, List.set_cons_succ]
  refine wpAnyH_ready (rs := [8]) (by kernel_rfl) (by simp) ?_
  refine AllReadyH.cons (o := { dst := some 80, op := Go.Op.load 5 (Go.Operand.tmp 79), type := 5, pos := "law.go:72", after := #[{ on := 7, ground := Go.Ground.data }], guard := none }) rfl (fun KK hKK => ?_) AllReadyH.nil
  go_simp
  have hS : Hid (Y.cell? ⟨w.heap.size, 3, none⟩ = some (.int .u16 100) ∧ Y.cell? ⟨w.heap.size, 5, none⟩ = some (.int .u64 (m.p : Int)) ∧ Y.cell? ⟨w.heap.size, 6, none⟩ = some (.int .u32 (m.o : Int)) ∧ Y.cell? ⟨w.heap.size, 7, none⟩ = some (.int .u8 (m.r : Int)) ∧ Y.cell? ⟨w.heap.size, 8, none⟩ = some (.int .u64 (m.c : Int))) := ⟨by rw [HM.out.all.2.2.2.1, hopi], HM.out.all.2.2.2.2.2.1, HM.out.all.2.2.2.2.2.2.1, HM.out.all.2.2.2.2.2.2.2.1, HM.out.all.2.2.2.2.2.2.2.2.1⟩
  refine hKK.out _ _ hS.out (fun _ => ?_)
  clear hKK
  refine wpAnyH_ready (rs := [9]) (by kernel_rfl) (by simp) ?_
  refine AllReadyH.cons (o := { dst := some 81, op := Go.Op.call { callee := Go.Callee.value (Go.Operand.func 33), args := #[Go.Operand.tmp 72, Go.Operand.tmp 74, Go.Operand.tmp 80], argTypes := #[26, 36, 5] }, type := 99, pos := "law.go:72", after := #[{ on := 0, ground := Go.Ground.data }, { on := 2, ground := Go.Ground.data }, { on := 8, ground := Go.Ground.data }], guard := none }) rfl (fun KK hKK => ?_) AllReadyH.nil
  go_simp
  refine (tb_check ⟨m.p, m.o, m.r, m.c⟩ 4 _ HX.out HQ.out.c (by omega) (by have := HLI.out.el; omega) K HK.out).mono ?_; rw [HER.out]; rintro e w2 ⟨rfl, E⟩
  have kh := HX.out.kh E
  have HM := hide (HM.out.kh kh)
  have HZ := hide (HZ.out.kh kh)
  have HB := hide (Bts.sv HB.out HQX.out.d HX.out E)
  have HQX : Hid (Okm w0 w2 m so sn) := ⟨HQX.out.c, HQX.out.o, HQX.out.a, HQX.out.n, HQX.out.d.kh kh⟩
  have HE := hide (E.from HBX.out)
  clear kh E
  have hS : Hid (w2.cell? ⟨w.heap.size, 3, none⟩ = some (.int .u16 100) ∧ w2.cell? ⟨w.heap.size, 5, none⟩ = some (.int .u64 (m.p : Int)) ∧ w2.cell? ⟨w.heap.size, 6, none⟩ = some (.int .u32 (m.o : Int)) ∧ w2.cell? ⟨w.heap.size, 7, none⟩ = some (.int .u8 (m.r : Int)) ∧ w2.cell? ⟨w.heap.size, 8, none⟩ = some (.int .u64 (m.c : Int))) := ⟨by rw [HM.out.all.2.2.2.1, hopi], HM.out.all.2.2.2.2.2.1, HM.out.all.2.2.2.2.2.2.1, HM.out.all.2.2.2.2.2.2.2.1, HM.out.all.2.2.2.2.2.2.2.2.1⟩
  refine hKK.out _ _ hS.out (fun _ => ?_)
  clear hKK
  refine wpAnyH_take (i := 10) (oi := { dst := some 71, op := Go.Op.move (Go.Operand.tmp 81), type := 99, pos := "law.go:72", after := #[{ on := 9, ground := Go.Ground.data }], guard := none }) (v := (.tuple #[.int .i64 (K.k : Int), er])) rfl (by kernel_rfl) (by kernel_rfl) (by kernel_rfl) (fun _ _ _ h => h) (Or.inl ⟨by kernel_rfl, fun w hC => by go_simp⟩) hS.out ?_
  simp only [Act.put, List.setIfInBounds_toArray, List.set_cons_zero, List.set_cons_succ]
  refine wpAnyH_take (i := 11) (oi := { dst := some 82, op := Go.Op.extract (Go.Operand.tmp 71) 0, type := 3, pos := "law.go:72", after := #[{ on := 10, ground := Go.Ground.data }], guard := none }) (v := (.int .i64 (K.k : Int))) rfl (by kernel_rfl) (by kernel_rfl) (by kernel_rfl) (fun _ _ _ h => h) (Or.inl ⟨by kernel_rfl, fun w hC => by go_simp⟩) hS.out ?_
  simp only [Act.put, List.setIfInBounds_toArray, List.set_cons_zero, List.set_cons_succ]
  refine wpAnyH_take (i := 12) (oi := { dst := some 83, op := Go.Op.extract (Go.Operand.tmp 71) 1, type := 38, pos := "law.go:72", after := #[{ on := 10, ground := Go.Ground.data }, { on := 13, ground := Go.Ground.gcOnly Go.Departure.lateStores }], guard := none }) (v := er) rfl (by kernel_rfl) (by kernel_rfl) (by kernel_rfl) (fun _ _ _ h => h) (Or.inl ⟨by kernel_rfl, fun w hC => by go_simp⟩) hS.out ?_
  simp only [Act.put, List.setIfInBounds_toArray, List.set_cons_zero, List.set_cons_succ]
  refine wpAnyH_take (i := 13) (oi := { dst := some 13, op := Go.Op.assign (Go.Operand.tmp 82), type := 3, pos := "law.go:72", after := #[{ on := 11, ground := Go.Ground.data }, { on := 9, ground := Go.Ground.chain }, { on := 0, ground := Go.Ground.phase }, { on := 1, ground := Go.Ground.phase }, { on := 2, ground := Go.Ground.phase }, { on := 3, ground := Go.Ground.phase }, { on := 4, ground := Go.Ground.phase }, { on := 5, ground := Go.Ground.phase }, { on := 6, ground := Go.Ground.phase }, { on := 7, ground := Go.Ground.phase }, { on := 8, ground := Go.Ground.phase }, { on := 9, ground := Go.Ground.phase }, { on := 10, ground := Go.Ground.phase }, { on := 11, ground := Go.Ground.phase }, { on := 12, ground := Go.Ground.textOnly Go.Departure.lateStores }], guard := none }) (v := (.int .i64 (K.k : Int))) rfl (by kernel_rfl) (by kernel_rfl) (by kernel_rfl) (fun _ _ _ h => h) (Or.inl ⟨by kernel_rfl, fun w hC => by go_simp⟩) hS.out ?_
  simp only [Act.put, List.setIfInBounds_toArray, List.set_cons_zero, List.set_cons_succ]
  refine wpAnyH_take (i := 14) (oi := { dst := some 14, op := Go.Op.assign (Go.Operand.tmp 83), type := 38, pos := "law.go:72", after := #[{ on := 12, ground := Go.Ground.data }, { on := 13, ground := Go.Ground.chain }, { on := 0, ground := Go.Ground.phase }, { on := 1, ground := Go.Ground.phase }, { on := 2, ground := Go.Ground.phase }, { on := 3, ground := Go.Ground.phase }, { on := 4, ground := Go.Ground.phase }, { on := 5, ground := Go.Ground.phase }, { on := 6, ground := Go.Ground.phase }, { on := 7, ground := Go.Ground.phase }, { on := 8, ground := Go.Ground.phase }, { on := 9, ground := Go.Ground.phase }, { on := 10, ground := Go.Ground.phase }, { on := 11, ground := Go.Ground.phase }, { on := 12, ground := Go.Ground.phase }, { on := 13, ground := Go.Ground.phase }], guard := none }) (v := er) rfl (by kernel_rfl) (by kernel_rfl) (by kernel_rfl) (fun _ _ _ h => h) (Or.inl ⟨by kernel_rfl, fun w hC => by go_simp⟩) hS.out ?_
  simp only [Act.put, List.setIfInBounds_toArray, List.set_cons_zero, List.set_cons_succ]
  refine wpAnyH_done (by kernel_rfl) ?_ _
  obtain rfl : er = .nilIface := by rw [← HER.out, H0.out]; rfl
  obtain ⟨v, dv, nv, S1, on1⟩ := SvEnd.run HE.out
  have HS1 := hide S1
  have HON := hide on1
  clear S1 on1
  obtain ⟨k0, k1, k2, k3, k4, k5, k6, k7, k8, k9, k10⟩ := HM.out.all
  rw [hopi] at k3
  go_wp2_with fail
  refine (tb_value (A := A.upd v dv nv) K.k vl _ HS1.out HH.out HVL.out).mono ?_; rintro e w3 ⟨rfl, hw3⟩; subst hw3
  go_wp2_with fail
  refine (sto_create (m.ar : Int) _ (show Sto _ _ _ _ _ _ s.n _ _ s.L from HS1.out.st) HS1.out.nw).mono ?_; rw [HER2.out, HID.out, HLL.out]; rintro e w4 ⟨rfl, E4⟩
  have E4 := HS1.out.store E4
  have kh := HS1.out.kh E4
  have HM := hide (HM.out.kh kh)
  have HZ := hide (HZ.out.kh kh)
  have HE := hide ((HON.out _ _ E4).from (Below.refl _ _))
  clear kh E4 k0 k1 k2 k3 k4 k5 k6 k7 k8 k9 k10
  have HE : Hid (SvEnd w0 w A p ws w4 (s.tab K.t K.es s.T)) := HE.out
  obtain ⟨k0, k1, k2, k3, k4, k5, k6, k7, k8, k9, k10⟩ := HM.out.all
  rw [hopi] at k3
  obtain ⟨tE, hE⟩ : ∃ v, er2 = .iface 43 v := ⟨_, by rw [← HER3.out]; exact erN_not (by have := HE0.out; omega)⟩
  subst hE
  have HER := HER3
  obtain ⟨m2, h2⟩ : ∃ m2, (⟨m.rp, m.ta, m.id, m.op, ee, 0, 0, 0, 0, 0⟩ : Msg) = m2 := ⟨_, rfl⟩
  have hf := fun W (hM : MB W w.heap.size m (.slice so sn sc)) hW => wfail_any m (.slice so sn sc) (ee) W hM (HEL2.out) hW m2 h2
  rw [HER.out] at hf
  have HF := hide hf
  clear hf
  go_wp2_with fail
  refine (HF.out _ HM.out (HE.out.glob HG.out)).mono ?_; rintro e w6 ⟨co2, cc2, rfl, B6, b6⟩
  have HB6 := hide B6
  have HZ6 := hide (HZ.out.grow b6)
  have HE6 := hide (HE.out.to b6)
  have HM2 : Hid (m2 = rplF m (badF (s.tab K.t K.es s.T) (ee))) := by show _ = _; rw [rpl_bad, ← h2]
  clear B6 b6 h2 k0 k1 k2 k3 k4 k5 k6 k7 k8 k9 k10
  have HZL := hide (HZ6.out.lay (m := m2) (D := .slice co2 0 cc2))
  have f7 := foot_lay11 w6 (w.heap.size + 1) m2 (.slice co2 0 cc2)
  have HE7 := hide (HE6.out.msg HW0.out HZ6.out (by omega) f7)
  have HB7 : Hid (Bts (lay11 w6 (w.heap.size + 1) m2 (.slice co2 0 cc2)) co2 0 cc2 []) := bts_none HB6.out
  obtain ⟨w7, hw7⟩ : ∃ w7, lay11 w6 (w.heap.size + 1) m2 (.slice co2 0 cc2) = w7 := ⟨_, rfl⟩
  rw [hw7] at HZL HE7 HB7
  unfold lay11 at hw7
  clear f7
  obtain ⟨v0, v1, v2, v3, v4, v5, v6, v7, v8, v9, v10⟩ := HZL.out.all
  obtain ⟨z0, z1, z2, z3, z4, z5, z6, z7, z8, z9, z10⟩ := HZ6.out.all
  have x0 := HZ6.out.z 0
  have x1 := HZ6.out.z 1
  have x2 := HZ6.out.z 2
  have x3 := HZ6.out.z 3
  have x4 := HZ6.out.z 4
  have x5 := HZ6.out.z 5
  have x6 := HZ6.out.z 6
  have x7 := HZ6.out.z 7
  have x8 := HZ6.out.z 8
  have x9 := HZ6.out.z 9
  have x10 := HZ6.out.z 10
  go_wp2
  refine bodyPost_ret (by simp [results, Tryz.results19, go_sem, v0, v1, v2, v3, v4, v5, v6, v7, v8, v9, v10]; rfl) rfl ?_
  exact ⟨m2, co2, 0, cc2, HM2.out, rfl, by rw [dat_bad]; exact HB7.out, .inl (dat_bad _ _ _), HE7.out⟩
set_option maxRecDepth 20000 in
set_option maxHeartbeats 12800000 in
theorem want_make1 (m : Msg) (so : Option Addr) (sn sc : Nat) (l : List UInt8) (w : World) (x : Sv w0 w A p ws s) (hb : Bts w so sn sc l) (q : Okm w0 w m so sn) (li : Lim s) (hg : Glob w0) (hop : m.op = 100) (K : Chk) (hK : chkF ws s.t s.es p s.T ⟨m.p, m.o, m.r, m.c⟩ 4 = K) (h0 : K.e = 0) (vl : Int) (hvl : (s.T K.k).v = vl) (hz : vl = -1) (h1 : ¬ 2147483647 < m.ar) (h2 : createE s.n s.L (m.ar : Int) = 0) (R : Cre) (hR : creF ws K.t K.es p s.T (lowS s.L : Int) = R) (h3 : R.e ≠ 0) :
    Calls Tryz.prog 19 #[.pointer (some ⟨A.g, 0, none⟩), .pointer (some ⟨A.sb.2, 0, none⟩), .agg #[.int .u64 m.ta, .int .u64 m.rp, .int .u32 m.id, .int .u16 m.op, .int .u16 m.st, .int .u64 m.p, .int .u32 m.o, .int .u8 m.r, .int .u64 m.c, .int .u64 m.ar, .slice so sn sc]] w fun e w' => RplEnd w0 w A p ws m (badF ⟨R.t, R.es, R.T, s.n, delL (createL s.n s.L (m.ar : Int)) (lowS s.L : Int)⟩ R.e) l e w' := by
  have hmf : ∀ (fn : Fn) (first cap : Array Value) (w : World), (Instr.makeFunc fn first cap).run Tryz.prog w = .ok (.func fn first cap) w := fun _ _ _ _ => rfl
  obtain ⟨X, hX, bm, bz, bX⟩ := rep_vars w m (.slice so sn sc)
  have HX := hide (x.grow bX)
  have HB := hide (hb.carry bX)
  have HM := hide bm
  have HZ := hide bz
  have HBX := hide bX
  have HW0 : Hid (w0.heap.size ≤ w.heap.size) := x.bel.size
  have HQ := hide q
  have HQX := hide (q.grow bX)
  have HLI := hide li
  have HG := hide hg
  have hopi : (m.op : Int) = 100 := by omega
  have HK := hide hK
  have H0 := hide h0
  have HEL : Hid (K.e ≤ 65535) := by show _ ≤ _; have := chk_err ws s.t s.es p s.T ⟨m.p, m.o, m.r, m.c⟩ 4; rw [hK] at this; omega
  obtain ⟨er, her⟩ : ∃ er, erN (K.e : Int) = er := ⟨_, rfl⟩
  have HER := hide her
  have HH : Hid (hasO s.T K.k = true) := by
    have e := chk_has (hK ▸ h0)
    show hasO s.T K.k = true
    rw [← hK, e.2.2]; exact e.1
  obtain ⟨k0, k1, k2, k3, k4, k5, k6, k7, k8, k9, k10⟩ := HM.out.all
  have hwk : IntKind.u16.wrap 0 = 0 := by rw [IntKind.wrap_u16]; rfl
  rw [hopi] at k3 hX
  have HK3 := hide k3
  clear bm bz bX x hb q li hg hop hK h0 her
  have HVL := hide hvl
  clear hvl
  have hz0 : (vl == -1) = true := by rw [hz]; rfl
  clear hz
  have hi1 : ¬ (2147483647 : Int) < (m.ar : Int) := by omega
  have hw6 : IntKind.i64.wrap (m.ar : Int) = (m.ar : Int) := by rw [IntKind.wrap_i64]; omega
  have HA1 := hide h1
  have hin := createE_in s.n s.L (m.ar : Int)
  have hN : createN s.n s.L (m.ar : Int) = lowS s.L := if_pos h2
  have HER2 : Hid (erN (createE s.n s.L (m.ar : Int)) = .nilIface) := by show _ = _; rw [h2]; rfl
  obtain ⟨id, hid⟩ : ∃ id, lowS s.L = id := ⟨_, rfl⟩
  rw [hid] at hN hR ⊢
  have HID := hide hN
  obtain ⟨L2, hL2⟩ : ∃ L2, createL s.n s.L (m.ar : Int) = L2 := ⟨_, rfl⟩
  rw [hL2]
  have HLL := hide hL2
  have HRR := hide hR
  have H3 := hide h3
  obtain ⟨⟨qp, qo, qr, qc⟩, hq⟩ : ∃ q, R.c = q := ⟨_, rfl⟩
  have HQQ := hide hq
  obtain ⟨er3, her3⟩ : ∃ er, erN (R.e : Int) = er := ⟨_, rfl⟩
  have HER3 := hide her3
  have HEL3 : Hid (R.e ≤ 65535) := by show _ ≤ _; rw [← hR]; exact cre_err _ _ _ _ _ _
  have HLK : Hid (K.es.length ≤ 5000000000000) := by
    show _ ≤ _
    have := chk_len ws s.t s.es p s.T ⟨m.p, m.o, m.r, m.c⟩ 4
    rw [HK.out] at this
    have := HLI.out.el
    omega
  clear hin h1 h2 hN hid hL2 hR h3 hq her3
  go_enter Tryz.func19, Tryz.ntmps19
  go_wp2_with fail
  have hS : Hid (X.drew.cell? ⟨w.heap.size, 3, none⟩ = some (.int .u16 100) ∧ X.drew.cell? ⟨w.heap.size, 5, none⟩ = some (.int .u64 (m.p : Int)) ∧ X.drew.cell? ⟨w.heap.size, 6, none⟩ = some (.int .u32 (m.o : Int)) ∧ X.drew.cell? ⟨w.heap.size, 7, none⟩ = some (.int .u8 (m.r : Int)) ∧ X.drew.cell? ⟨w.heap.size, 8, none⟩ = some (.int .u64 (m.c : Int))) := ⟨k3, HM.out.all.2.2.2.2.2.1, HM.out.all.2.2.2.2.2.2.1, HM.out.all.2.2.2.2.2.2.2.1, HM.out.all.2.2.2.2.2.2.2.2.1⟩
  refine wp_region_held_drew (S := fun U => U.cell? ⟨w.heap.size, 3, none⟩ = some (.int .u16 100) ∧ U.cell? ⟨w.heap.size, 5, none⟩ = some (.int .u64 (m.p : Int)) ∧ U.cell? ⟨w.heap.size, 6, none⟩ = some (.int .u32 (m.o : Int)) ∧ U.cell? ⟨w.heap.size, 7, none⟩ = some (.int .u8 (m.r : Int)) ∧ U.cell? ⟨w.heap.size, 8, none⟩ = some (.int .u64 (m.c : Int))) (by kernel_rfl) hS.out (fun _ => ?_)
  refine wpAnyH_take (i := 0) (oi := { dst := some 72, op := Go.Op.move (Go.Operand.tmp 0), type := 26, pos := "law.go:72", after := #[], guard := none }) (v := (.pointer (some ⟨A.g, 0, none⟩))) rfl (by kernel_rfl) (by kernel_rfl) (by kernel_rfl) (fun _ _ _ h => h) (Or.inl ⟨by kernel_rfl, fun w hC => by go_simp⟩) hS.out ?_
  simp only [Act.put, List.setIfInBounds_toArray, List.set_cons_zero, List.set_cons_succ]
  refine wpAnyH_take (i := 1) (oi := { dst := some 73, op := Go.Op.fieldAddr 53 (Go.Operand.tmp 5) 5, type := 0, pos := "law.go:72", after := #[], guard := none }) (v := (.pointer (some ⟨w.heap.size, 5, none⟩))) rfl (by kernel_rfl) (by kernel_rfl) (by kernel_rfl) (fun _ _ _ h => h) (Or.inl ⟨by kernel_rfl, fun w hC => by go_simp⟩) hS.out ?_
  simp only [Act.put, List.setIfInBounds_toArray, List.set_cons_zero, List.set_cons_succ]
  refine wpAnyH_take (i := 2) (oi := { dst := some 74, op := Go.Op.load 36 (Go.Operand.tmp 73), type := 36, pos := "law.go:72", after := #[{ on := 1, ground := Go.Ground.data }], guard := none }) (v := (.agg #[.int .u64 (m.p : Int), .int .u32 (m.o : Int), .int .u8 (m.r : Int), .int .u64 (m.c : Int)])) rfl (by kernel_rfl) (by kernel_rfl) (by kernel_rfl) (fun _ _ _ h => h) (Or.inl ⟨by kernel_rfl, fun w hC => by (obtain ⟨e3, e5, e6, e7, e8⟩ := hC; go_simp)⟩) hS.out ?_
  simp only [Act.put, List.setIfInBounds_toArray, List.set_cons_zero, List.set_cons_succ]
  refine wpAnyH_take (i := 4) (oi := { dst := some 76, op := Go.Op.fieldAddr 53 (Go.Operand.tmp 5) 3, type := 0, pos := "law.go:72", after := #[], guard := none }) (v := (.pointer (some ⟨w.heap.size, 3, none⟩))) rfl (by kernel_rfl) (by kernel_rfl) (by kernel_rfl) (fun _ _ _ h => h) (Or.inl ⟨by kernel_rfl, fun w hC => by go_simp⟩) hS.out ?_
  simp only [Act.put, List.setIfInBounds_toArray, List.set_cons_zero, List.set_cons_succ]
  refine wpAnyH_take (i := 5) (oi := { dst := some 77, op := Go.Op.load 49 (Go.Operand.tmp 76), type := 49, pos := "law.go:72", after := #[{ on := 4, ground := Go.Ground.data }], guard := none }) (v := (.int .u16 100)) rfl (by kernel_rfl) (by kernel_rfl) (by kernel_rfl) (fun _ _ _ h => h) (Or.inl ⟨by kernel_rfl, fun w hC => by (obtain ⟨e3, e5, e6, e7, e8⟩ := hC; go_simp)⟩) hS.out ?_
  simp only [Act.put, List.setIfInBounds_toArray, List.set_cons_zero, List.set_cons_succ]
  refine wpAnyH_take (i := 6) (oi := { dst := some 78, op := Go.Op.binOp Go.BinOp.sub 49 (Go.Operand.tmp 77) (Go.Operand.const (Go.Value.int Go.IntKind.u16 100)) 49, type := 49, pos := "law.go:72", after := #[{ on := 5, ground := Go.Ground.data }], guard := none }) (v := (.int .u16 0)) rfl (by kernel_rfl) (by kernel_rfl) (by kernel_rfl) (fun _ _ _ h => h) (Or.inl ⟨by kernel_rfl, fun w hC => by go_simp⟩) hS.out ?_
  simp only [Act.put, List.setIfInBounds_toArray, List.set_cons_zero, List.set_cons_succ]
  refine wpAnyH_ready (rs := [3]) (by kernel_rfl) (by simp) ?_
  refine AllReadyH.cons (o := { dst := some 75, op := Go.Op.buildSlice 23 5 #[(0, Go.Operand.const (Go.Value.int Go.IntKind.u8 4)), (1, Go.Operand.const (Go.Value.int Go.IntKind.u8 1)), (2, Go.Operand.const (Go.Value.int Go.IntKind.u8 2)), (3, Go.Operand.const (Go.Value.int Go.IntKind.u8 1)), (4, Go.Operand.const (Go.Value.int Go.IntKind.u8 2))], type := 23, pos := "law.go:72", after := #[], guard := none }) rfl (fun KK hKK => ?_) AllReadyH.nil
  go_simp
  obtain ⟨Y, hY⟩ : ∃ Y, (X.alloc (.cells #[.int .u8 4, .int .u8 1, .int .u8 2, .int .u8 1, .int .u8 2] 5)).drew = Y := ⟨_, rfl⟩
  have bY : Below X.heap.size X Y := hY ▸ (below_alloc X _).drew
  have cY : Y.cell? ⟨X.heap.size, 0, none⟩ = some (.int .u8 4) := by subst hY; show (X.alloc _).cell? _ = _; rw [cell_of_row _ _ _ _ _ _ (heap_alloc_new _ _)]; rfl
  try rw [hY]
  have HM := hide (HM.out.grow bY)
  have HZ := hide (HZ.out.grow bY)
  have HX := hide (HX.out.grow bY)
  have HB := hide (HB.out.carry bY)
  have HQX := hide (HQX.out.grow bY)
  have HBX := hide (below_one HBX.out bY)
  clear bY
  have hS : Hid (Y.cell? ⟨w.heap.size, 3, none⟩ = some (.int .u16 100) ∧ Y.cell? ⟨w.heap.size, 5, none⟩ = some (.int .u64 (m.p : Int)) ∧ Y.cell? ⟨w.heap.size, 6, none⟩ = some (.int .u32 (m.o : Int)) ∧ Y.cell? ⟨w.heap.size, 7, none⟩ = some (.int .u8 (m.r : Int)) ∧ Y.cell? ⟨w.heap.size, 8, none⟩ = some (.int .u64 (m.c : Int))) := ⟨by rw [HM.out.all.2.2.2.1, hopi], HM.out.all.2.2.2.2.2.1, HM.out.all.2.2.2.2.2.2.1, HM.out.all.2.2.2.2.2.2.2.1, HM.out.all.2.2.2.2.2.2.2.2.1⟩
  refine hKK.out _ _ hS.out (fun _ => ?_)
  clear hKK
  refine wpAnyH_take (i := 7) (oi := { dst := some 79, op := Go.Op.indexAddr 23 (Go.Operand.tmp 75) (Go.Operand.tmp 78), type := 0, pos := "law.go:72", after := #[{ on := 3, ground := Go.Ground.data }, { on := 6, ground := Go.Ground.data }], guard := none }) (v := (.pointer (some ⟨X.heap.size, 0, none⟩))) rfl (by kernel_rfl) (by kernel_rfl) (by kernel_rfl) (fun _ _ _ h => h) (Or.inl ⟨by kernel_rfl, fun w hC => by go_simp⟩) hS.out ?_
  simp only [Act.put, List.setIfInBounds_toArray, List.set_cons_zero, List.set_cons_succ]
  refine wpAnyH_ready (rs := [8]) (by kernel_rfl) (by simp) ?_
  refine AllReadyH.cons (o := { dst := some 80, op := Go.Op.load 5 (Go.Operand.tmp 79), type := 5, pos := "law.go:72", after := #[{ on := 7, ground := Go.Ground.data }], guard := none }) rfl (fun KK hKK => ?_) AllReadyH.nil
  go_simp
  have hS : Hid (Y.cell? ⟨w.heap.size, 3, none⟩ = some (.int .u16 100) ∧ Y.cell? ⟨w.heap.size, 5, none⟩ = some (.int .u64 (m.p : Int)) ∧ Y.cell? ⟨w.heap.size, 6, none⟩ = some (.int .u32 (m.o : Int)) ∧ Y.cell? ⟨w.heap.size, 7, none⟩ = some (.int .u8 (m.r : Int)) ∧ Y.cell? ⟨w.heap.size, 8, none⟩ = some (.int .u64 (m.c : Int))) := ⟨by rw [HM.out.all.2.2.2.1, hopi], HM.out.all.2.2.2.2.2.1, HM.out.all.2.2.2.2.2.2.1, HM.out.all.2.2.2.2.2.2.2.1, HM.out.all.2.2.2.2.2.2.2.2.1⟩
  refine hKK.out _ _ hS.out (fun _ => ?_)
  clear hKK
  refine wpAnyH_ready (rs := [9]) (by kernel_rfl) (by simp) ?_
  refine AllReadyH.cons (o := { dst := some 81, op := Go.Op.call { callee := Go.Callee.value (Go.Operand.func 33), args := #[Go.Operand.tmp 72, Go.Operand.tmp 74, Go.Operand.tmp 80], argTypes := #[26, 36, 5] }, type := 99, pos := "law.go:72", after := #[{ on := 0, ground := Go.Ground.data }, { on := 2, ground := Go.Ground.data }, { on := 8, ground := Go.Ground.data }], guard := none }) rfl (fun KK hKK => ?_) AllReadyH.nil
  go_simp
  refine (tb_check ⟨m.p, m.o, m.r, m.c⟩ 4 _ HX.out HQ.out.c (by omega) (by have := HLI.out.el; omega) K HK.out).mono ?_; rw [HER.out]; rintro e w2 ⟨rfl, E⟩
  have kh := HX.out.kh E
  have HM := hide (HM.out.kh kh)
  have HZ := hide (HZ.out.kh kh)
  have HB := hide (Bts.sv HB.out HQX.out.d HX.out E)
  have HQX : Hid (Okm w0 w2 m so sn) := ⟨HQX.out.c, HQX.out.o, HQX.out.a, HQX.out.n, HQX.out.d.kh kh⟩
  have HE := hide (E.from HBX.out)
  clear kh E
  have hS : Hid (w2.cell? ⟨w.heap.size, 3, none⟩ = some (.int .u16 100) ∧ w2.cell? ⟨w.heap.size, 5, none⟩ = some (.int .u64 (m.p : Int)) ∧ w2.cell? ⟨w.heap.size, 6, none⟩ = some (.int .u32 (m.o : Int)) ∧ w2.cell? ⟨w.heap.size, 7, none⟩ = some (.int .u8 (m.r : Int)) ∧ w2.cell? ⟨w.heap.size, 8, none⟩ = some (.int .u64 (m.c : Int))) := ⟨by rw [HM.out.all.2.2.2.1, hopi], HM.out.all.2.2.2.2.2.1, HM.out.all.2.2.2.2.2.2.1, HM.out.all.2.2.2.2.2.2.2.1, HM.out.all.2.2.2.2.2.2.2.2.1⟩
  refine hKK.out _ _ hS.out (fun _ => ?_)
  clear hKK
  refine wpAnyH_take (i := 10) (oi := { dst := some 71, op := Go.Op.move (Go.Operand.tmp 81), type := 99, pos := "law.go:72", after := #[{ on := 9, ground := Go.Ground.data }], guard := none }) (v := (.tuple #[.int .i64 (K.k : Int), er])) rfl (by kernel_rfl) (by kernel_rfl) (by kernel_rfl) (fun _ _ _ h => h) (Or.inl ⟨by kernel_rfl, fun w hC => by go_simp⟩) hS.out ?_
  simp only [Act.put, List.setIfInBounds_toArray, List.set_cons_zero, List.set_cons_succ]
  refine wpAnyH_take (i := 11) (oi := { dst := some 82, op := Go.Op.extract (Go.Operand.tmp 71) 0, type := 3, pos := "law.go:72", after := #[{ on := 10, ground := Go.Ground.data }], guard := none }) (v := (.int .i64 (K.k : Int))) rfl (by kernel_rfl) (by kernel_rfl) (by kernel_rfl) (fun _ _ _ h => h) (Or.inl ⟨by kernel_rfl, fun w hC => by go_simp⟩) hS.out ?_
  simp only [Act.put, List.setIfInBounds_toArray, List.set_cons_zero, List.set_cons_succ]
  refine wpAnyH_take (i := 12) (oi := { dst := some 83, op := Go.Op.extract (Go.Operand.tmp 71) 1, type := 38, pos := "law.go:72", after := #[{ on := 10, ground := Go.Ground.data }, { on := 13, ground := Go.Ground.gcOnly Go.Departure.lateStores }], guard := none }) (v := er) rfl (by kernel_rfl) (by kernel_rfl) (by kernel_rfl) (fun _ _ _ h => h) (Or.inl ⟨by kernel_rfl, fun w hC => by go_simp⟩) hS.out ?_
  simp only [Act.put, List.setIfInBounds_toArray, List.set_cons_zero, List.set_cons_succ]
  refine wpAnyH_take (i := 13) (oi := { dst := some 13, op := Go.Op.assign (Go.Operand.tmp 82), type := 3, pos := "law.go:72", after := #[{ on := 11, ground := Go.Ground.data }, { on := 9, ground := Go.Ground.chain }, { on := 0, ground := Go.Ground.phase }, { on := 1, ground := Go.Ground.phase }, { on := 2, ground := Go.Ground.phase }, { on := 3, ground := Go.Ground.phase }, { on := 4, ground := Go.Ground.phase }, { on := 5, ground := Go.Ground.phase }, { on := 6, ground := Go.Ground.phase }, { on := 7, ground := Go.Ground.phase }, { on := 8, ground := Go.Ground.phase }, { on := 9, ground := Go.Ground.phase }, { on := 10, ground := Go.Ground.phase }, { on := 11, ground := Go.Ground.phase }, { on := 12, ground := Go.Ground.textOnly Go.Departure.lateStores }], guard := none }) (v := (.int .i64 (K.k : Int))) rfl (by kernel_rfl) (by kernel_rfl) (by kernel_rfl) (fun _ _ _ h => h) (Or.inl ⟨by kernel_rfl, fun w hC => by go_simp⟩) hS.out ?_
  simp only [Act.put, List.setIfInBounds_toArray, List.set_cons_zero, List.set_cons_succ]
  refine wpAnyH_take (i := 14) (oi := { dst := some 14, op := Go.Op.assign (Go.Operand.tmp 83), type := 38, pos := "law.go:72", after := #[{ on := 12, ground := Go.Ground.data }, { on := 13, ground := Go.Ground.chain }, { on := 0, ground := Go.Ground.phase }, { on := 1, ground := Go.Ground.phase }, { on := 2, ground := Go.Ground.phase }, { on := 3, ground := Go.Ground.phase }, { on := 4, ground := Go.Ground.phase }, { on := 5, ground := Go.Ground.phase }, { on := 6, ground := Go.Ground.phase }, { on := 7, ground := Go.Ground.phase }, { on := 8, ground := Go.Ground.phase }, { on := 9, ground := Go.Ground.phase }, { on := 10, ground := Go.Ground.phase }, { on := 11, ground := Go.Ground.phase }, { on := 12, ground := Go.Ground.phase }, { on := 13, ground := Go.Ground.phase }], guard := none }) (v := er) rfl (by kernel_rfl) (by kernel_rfl) (by kernel_rfl) (fun _ _ _ h => h) (Or.inl ⟨by kernel_rfl, fun w hC => by go_simp⟩) hS.out ?_
  simp only [Act.put, List.setIfInBounds_toArray, List.set_cons_zero, List.set_cons_succ]
  refine wpAnyH_done (by kernel_rfl) ?_ _
  obtain rfl : er = .nilIface := by rw [← HER.out, H0.out]; rfl
  obtain ⟨v, dv, nv, S1, on1⟩ := SvEnd.run HE.out
  have HS1 := hide S1
  have HON := hide on1
  clear S1 on1
  obtain ⟨k0, k1, k2, k3, k4, k5, k6, k7, k8, k9, k10⟩ := HM.out.all
  rw [hopi] at k3
  go_wp2_with fail
  refine (tb_value (A := A.upd v dv nv) K.k vl _ HS1.out HH.out HVL.out).mono ?_; rintro e w3 ⟨rfl, hw3⟩; subst hw3
  go_wp2_with fail
  refine (sto_create (m.ar : Int) _ (show Sto _ _ _ _ _ _ s.n _ _ s.L from HS1.out.st) HS1.out.nw).mono ?_; rw [HER2.out, HID.out, HLL.out]; rintro e w4 ⟨rfl, E4⟩
  have E4 := HS1.out.store E4
  have kh := HS1.out.kh E4
  have HM := hide (HM.out.kh kh)
  have HZ := hide (HZ.out.kh kh)
  have HE := hide ((HON.out _ _ E4).from (Below.refl _ _))
  obtain ⟨v4, dv4, nv4, S4, on4⟩ := SvEnd.run E4
  have HS4 := hide S4
  have HON4 := hide on4
  clear kh E4 S4 on4 k0 k1 k2 k3 k4 k5 k6 k7 k8 k9 k10
  obtain ⟨k0, k1, k2, k3, k4, k5, k6, k7, k8, k9, k10⟩ := HM.out.all
  rw [hopi] at k3
  go_wp2_with fail
  refine (tb_create (id : Int) _ (A := (A.upd v dv nv).upd v4 dv4 nv4) HS4.out HLK.out R HRR.out).mono ?_; rw [HQQ.out, HER3.out]; rintro e w5 ⟨rfl, E5⟩
  simp only [Cp.val]
  have kh := HS4.out.kh E5
  have HM := hide (HM.out.kh kh)
  have HZ := hide (HZ.out.kh kh)
  have E5b := HON4.out _ _ E5
  obtain ⟨V, hV⟩ : ∃ V, w5.alloc (.cells #[.int .u64 (qp : Int), .int .u32 (qo : Int), .int .u8 (qr : Int), .int .u64 (qc : Int)] 36) = V := ⟨_, rfl⟩
  have bV : Below w5.heap.size w5 V := hV ▸ below_alloc _ _
  have CV : CBox V w5.heap.size qp qo qr qc := hV ▸ CBox.new w5 qp qo qr qc
  have HM := hide (HM.out.grow bV)
  have HZ := hide (HZ.out.grow bV)
  have HE := hide (((HON.out _ _ E5b).from (Below.refl _ _)).to bV)
  have t0 := CV.c0
  have t1 := CV.c1
  have t2 := CV.c2
  have t3 := CV.c3
  obtain ⟨v5, dv5, nv5, S5, on5⟩ := SvEnd.run E5
  have HS5 := hide (S5.grow bV)
  have HON5 : Hid (∀ W s6, SvEnd w0 V (((A.upd v dv nv).upd v4 dv4 nv4).upd v5 dv5 nv5) p ws W s6 → SvEnd w0 w A p ws W s6) := fun W s6 z => (HON.out _ _ (HON4.out _ _ (on5 _ _ (z.from bV)))).from (Below.refl _ _)
  clear kh E5 E5b bV S5 on5 k0 k1 k2 k3 k4 k5 k6 k7 k8 k9 k10
  obtain ⟨k0, k1, k2, k3, k4, k5, k6, k7, k8, k9, k10⟩ := HM.out.all
  rw [hopi] at k3
  obtain ⟨tE, hE⟩ : ∃ v, er3 = .iface 43 v := ⟨_, by rw [← HER3.out]; exact erN_not (by have := H3.out; omega)⟩
  subst hE
  go_wp2_with fail
  refine (sto_delete (id : Int) _ HS5.out.st).mono ?_; rintro e w6 ⟨rfl, E6⟩
  have E6 : SvEnd w0 V _ p ws w6 ⟨R.t, R.es, R.T, s.n, delL L2 (id : Int)⟩ := HS5.out.store E6
  have kh := HS5.out.kh E6
  have HM := hide (HM.out.kh kh)
  have HZ := hide (HZ.out.kh kh)
  have HE := hide (HON5.out _ _ E6)
  clear kh E6 t0 t1 t2 t3 k0 k1 k2 k3 k4 k5 k6 k7 k8 k9 k10
  obtain ⟨w8, hw8⟩ : ∃ w8, w6 = w8 := ⟨_, rfl⟩
  subst hw8
  have HER := HER3
  obtain ⟨k0, k1, k2, k3, k4, k5, k6, k7, k8, k9, k10⟩ := HM.out.all
  rw [hopi] at k3
  obtain ⟨m2, h2⟩ : ∃ m2, (⟨m.rp, m.ta, m.id, m.op, R.e, 0, 0, 0, 0, 0⟩ : Msg) = m2 := ⟨_, rfl⟩
  have hf := fun W (hM : MB W w.heap.size m (.slice so sn sc)) hW => wfail_any m (.slice so sn sc) (R.e) W hM (HEL3.out) hW m2 h2
  rw [HER.out] at hf
  have HF := hide hf
  clear hf
  go_wp2_with fail
  refine (HF.out _ HM.out (HE.out.glob HG.out)).mono ?_; rintro e w9 ⟨co2, cc2, rfl, B6, b6⟩
  have HB6 := hide B6
  have HZ6 := hide (HZ.out.grow b6)
  have HE6 := hide (HE.out.to b6)
  have HM2 : Hid (m2 = rplF m (badF ⟨R.t, R.es, R.T, s.n, delL L2 (id : Int)⟩ (R.e))) := by show _ = _; rw [rpl_bad, ← h2]
  clear B6 b6 h2 k0 k1 k2 k3 k4 k5 k6 k7 k8 k9 k10
  have HZL := hide (HZ6.out.lay (m := m2) (D := .slice co2 0 cc2))
  have f7 := foot_lay11 w9 (w.heap.size + 1) m2 (.slice co2 0 cc2)
  have HE7 := hide (HE6.out.msg HW0.out HZ6.out (by omega) f7)
  have HB7 : Hid (Bts (lay11 w9 (w.heap.size + 1) m2 (.slice co2 0 cc2)) co2 0 cc2 []) := bts_none HB6.out
  obtain ⟨w7, hw7⟩ : ∃ w7, lay11 w9 (w.heap.size + 1) m2 (.slice co2 0 cc2) = w7 := ⟨_, rfl⟩
  rw [hw7] at HZL HE7 HB7
  unfold lay11 at hw7
  clear f7
  obtain ⟨v0, v1, v2, v3, v4, v5, v6, v7, v8, v9, v10⟩ := HZL.out.all
  obtain ⟨z0, z1, z2, z3, z4, z5, z6, z7, z8, z9, z10⟩ := HZ6.out.all
  have x0 := HZ6.out.z 0
  have x1 := HZ6.out.z 1
  have x2 := HZ6.out.z 2
  have x3 := HZ6.out.z 3
  have x4 := HZ6.out.z 4
  have x5 := HZ6.out.z 5
  have x6 := HZ6.out.z 6
  have x7 := HZ6.out.z 7
  have x8 := HZ6.out.z 8
  have x9 := HZ6.out.z 9
  have x10 := HZ6.out.z 10
  go_wp2
  refine bodyPost_ret (by simp [results, Tryz.results19, go_sem, v0, v1, v2, v3, v4, v5, v6, v7, v8, v9, v10]; rfl) rfl ?_
  exact ⟨m2, co2, 0, cc2, HM2.out, rfl, by rw [dat_bad]; exact HB7.out, .inl (dat_bad _ _ _), HE7.out⟩
set_option maxRecDepth 20000 in
set_option maxHeartbeats 12800000 in
theorem want_make2 (m : Msg) (so : Option Addr) (sn sc : Nat) (l : List UInt8) (w : World) (x : Sv w0 w A p ws s) (hb : Bts w so sn sc l) (q : Okm w0 w m so sn) (li : Lim s) (hg : Glob w0) (hop : m.op = 100) (K : Chk) (hK : chkF ws s.t s.es p s.T ⟨m.p, m.o, m.r, m.c⟩ 4 = K) (h0 : K.e = 0) (vl : Int) (hvl : (s.T K.k).v = vl) (hz : vl = -1) (h1 : ¬ 2147483647 < m.ar) (h2 : createE s.n s.L (m.ar : Int) = 0) (R : Cre) (hR : creF ws K.t K.es p s.T (lowS s.L : Int) = R) (h3 : R.e = 0) :
    Calls Tryz.prog 19 #[.pointer (some ⟨A.g, 0, none⟩), .pointer (some ⟨A.sb.2, 0, none⟩), .agg #[.int .u64 m.ta, .int .u64 m.rp, .int .u32 m.id, .int .u16 m.op, .int .u16 m.st, .int .u64 m.p, .int .u32 m.o, .int .u8 m.r, .int .u64 m.c, .int .u64 m.ar, .slice so sn sc]] w fun e w' => RplEnd w0 w A p ws m ⟨0, R.c, 0, [], ⟨R.t, R.es, R.T, s.n, createL s.n s.L (m.ar : Int)⟩⟩ l e w' := by
  have hmf : ∀ (fn : Fn) (first cap : Array Value) (w : World), (Instr.makeFunc fn first cap).run Tryz.prog w = .ok (.func fn first cap) w := fun _ _ _ _ => rfl
  obtain ⟨X, hX, bm, bz, bX⟩ := rep_vars w m (.slice so sn sc)
  have HX := hide (x.grow bX)
  have HB := hide (hb.carry bX)
  have HM := hide bm
  have HZ := hide bz
  have HBX := hide bX
  have HW0 : Hid (w0.heap.size ≤ w.heap.size) := x.bel.size
  have HQ := hide q
  have HQX := hide (q.grow bX)
  have HLI := hide li
  have HG := hide hg
  have hopi : (m.op : Int) = 100 := by omega
  have HK := hide hK
  have H0 := hide h0
  have HEL : Hid (K.e ≤ 65535) := by show _ ≤ _; have := chk_err ws s.t s.es p s.T ⟨m.p, m.o, m.r, m.c⟩ 4; rw [hK] at this; omega
  obtain ⟨er, her⟩ : ∃ er, erN (K.e : Int) = er := ⟨_, rfl⟩
  have HER := hide her
  have HH : Hid (hasO s.T K.k = true) := by
    have e := chk_has (hK ▸ h0)
    show hasO s.T K.k = true
    rw [← hK, e.2.2]; exact e.1
  obtain ⟨k0, k1, k2, k3, k4, k5, k6, k7, k8, k9, k10⟩ := HM.out.all
  have hwk : IntKind.u16.wrap 0 = 0 := by rw [IntKind.wrap_u16]; rfl
  rw [hopi] at k3 hX
  have HK3 := hide k3
  clear bm bz bX x hb q li hg hop hK h0 her
  have HVL := hide hvl
  clear hvl
  have hz0 : (vl == -1) = true := by rw [hz]; rfl
  clear hz
  have hi1 : ¬ (2147483647 : Int) < (m.ar : Int) := by omega
  have hw6 : IntKind.i64.wrap (m.ar : Int) = (m.ar : Int) := by rw [IntKind.wrap_i64]; omega
  have HA1 := hide h1
  have hin := createE_in s.n s.L (m.ar : Int)
  have hN : createN s.n s.L (m.ar : Int) = lowS s.L := if_pos h2
  have HER2 : Hid (erN (createE s.n s.L (m.ar : Int)) = .nilIface) := by show _ = _; rw [h2]; rfl
  obtain ⟨id, hid⟩ : ∃ id, lowS s.L = id := ⟨_, rfl⟩
  rw [hid] at hN hR
  have HID := hide hN
  obtain ⟨L2, hL2⟩ : ∃ L2, createL s.n s.L (m.ar : Int) = L2 := ⟨_, rfl⟩
  rw [hL2]
  have HLL := hide hL2
  have HRR := hide hR
  have H3 := hide h3
  obtain ⟨⟨qp, qo, qr, qc⟩, hq⟩ : ∃ q, R.c = q := ⟨_, rfl⟩
  have HQQ := hide hq
  rw [hq]
  obtain ⟨er3, her3⟩ : ∃ er, erN (R.e : Int) = er := ⟨_, rfl⟩
  have HER3 := hide her3
  have HEL3 : Hid (R.e ≤ 65535) := by show _ ≤ _; rw [← hR]; exact cre_err _ _ _ _ _ _
  have HLK : Hid (K.es.length ≤ 5000000000000) := by
    show _ ≤ _
    have := chk_len ws s.t s.es p s.T ⟨m.p, m.o, m.r, m.c⟩ 4
    rw [HK.out] at this
    have := HLI.out.el
    omega
  clear hin h1 h2 hN hid hL2 hR h3 hq her3
  go_enter Tryz.func19, Tryz.ntmps19
  go_wp2_with fail
  have hS : Hid (X.drew.cell? ⟨w.heap.size, 3, none⟩ = some (.int .u16 100) ∧ X.drew.cell? ⟨w.heap.size, 5, none⟩ = some (.int .u64 (m.p : Int)) ∧ X.drew.cell? ⟨w.heap.size, 6, none⟩ = some (.int .u32 (m.o : Int)) ∧ X.drew.cell? ⟨w.heap.size, 7, none⟩ = some (.int .u8 (m.r : Int)) ∧ X.drew.cell? ⟨w.heap.size, 8, none⟩ = some (.int .u64 (m.c : Int))) := ⟨k3, HM.out.all.2.2.2.2.2.1, HM.out.all.2.2.2.2.2.2.1, HM.out.all.2.2.2.2.2.2.2.1, HM.out.all.2.2.2.2.2.2.2.2.1⟩
  refine wp_region_held_drew (S := fun U => U.cell? ⟨w.heap.size, 3, none⟩ = some (.int .u16 100) ∧ U.cell? ⟨w.heap.size, 5, none⟩ = some (.int .u64 (m.p : Int)) ∧ U.cell? ⟨w.heap.size, 6, none⟩ = some (.int .u32 (m.o : Int)) ∧ U.cell? ⟨w.heap.size, 7, none⟩ = some (.int .u8 (m.r : Int)) ∧ U.cell? ⟨w.heap.size, 8, none⟩ = some (.int .u64 (m.c : Int))) (by kernel_rfl) hS.out (fun _ => ?_)
  refine wpAnyH_take (i := 0) (oi := { dst := some 72, op := Go.Op.move (Go.Operand.tmp 0), type := 26, pos := "law.go:72", after := #[], guard := none }) (v := (.pointer (some ⟨A.g, 0, none⟩))) rfl (by kernel_rfl) (by kernel_rfl) (by kernel_rfl) (fun _ _ _ h => h) (Or.inl ⟨by kernel_rfl, fun w hC => by go_simp⟩) hS.out ?_
  simp only [Act.put, List.setIfInBounds_toArray, List.set_cons_zero, List.set_cons_succ]
  refine wpAnyH_take (i := 1) (oi := { dst := some 73, op := Go.Op.fieldAddr 53 (Go.Operand.tmp 5) 5, type := 0, pos := "law.go:72", after := #[], guard := none }) (v := (.pointer (some ⟨w.heap.size, 5, none⟩))) rfl (by kernel_rfl) (by kernel_rfl) (by kernel_rfl) (fun _ _ _ h => h) (Or.inl ⟨by kernel_rfl, fun w hC => by go_simp⟩) hS.out ?_
  simp only [Act.put, List.setIfInBounds_toArray, List.set_cons_zero, List.set_cons_succ]
  refine wpAnyH_take (i := 2) (oi := { dst := some 74, op := Go.Op.load 36 (Go.Operand.tmp 73), type := 36, pos := "law.go:72", after := #[{ on := 1, ground := Go.Ground.data }], guard := none }) (v := (.agg #[.int .u64 (m.p : Int), .int .u32 (m.o : Int), .int .u8 (m.r : Int), .int .u64 (m.c : Int)])) rfl (by kernel_rfl) (by kernel_rfl) (by kernel_rfl) (fun _ _ _ h => h) (Or.inl ⟨by kernel_rfl, fun w hC => by (obtain ⟨e3, e5, e6, e7, e8⟩ := hC; go_simp)⟩) hS.out ?_
  simp only [Act.put, List.setIfInBounds_toArray, List.set_cons_zero, List.set_cons_succ]
  refine wpAnyH_take (i := 4) (oi := { dst := some 76, op := Go.Op.fieldAddr 53 (Go.Operand.tmp 5) 3, type := 0, pos := "law.go:72", after := #[], guard := none }) (v := (.pointer (some ⟨w.heap.size, 3, none⟩))) rfl (by kernel_rfl) (by kernel_rfl) (by kernel_rfl) (fun _ _ _ h => h) (Or.inl ⟨by kernel_rfl, fun w hC => by go_simp⟩) hS.out ?_
  simp only [Act.put, List.setIfInBounds_toArray, List.set_cons_zero, List.set_cons_succ]
  refine wpAnyH_take (i := 5) (oi := { dst := some 77, op := Go.Op.load 49 (Go.Operand.tmp 76), type := 49, pos := "law.go:72", after := #[{ on := 4, ground := Go.Ground.data }], guard := none }) (v := (.int .u16 100)) rfl (by kernel_rfl) (by kernel_rfl) (by kernel_rfl) (fun _ _ _ h => h) (Or.inl ⟨by kernel_rfl, fun w hC => by (obtain ⟨e3, e5, e6, e7, e8⟩ := hC; go_simp)⟩) hS.out ?_
  simp only [Act.put, List.setIfInBounds_toArray, List.set_cons_zero, List.set_cons_succ]
  refine wpAnyH_take (i := 6) (oi := { dst := some 78, op := Go.Op.binOp Go.BinOp.sub 49 (Go.Operand.tmp 77) (Go.Operand.const (Go.Value.int Go.IntKind.u16 100)) 49, type := 49, pos := "law.go:72", after := #[{ on := 5, ground := Go.Ground.data }], guard := none }) (v := (.int .u16 0)) rfl (by kernel_rfl) (by kernel_rfl) (by kernel_rfl) (fun _ _ _ h => h) (Or.inl ⟨by kernel_rfl, fun w hC => by go_simp⟩) hS.out ?_
  simp only [Act.put, List.setIfInBounds_toArray, List.set_cons_zero, List.set_cons_succ]
  refine wpAnyH_ready (rs := [3]) (by kernel_rfl) (by simp) ?_
  refine AllReadyH.cons (o := { dst := some 75, op := Go.Op.buildSlice 23 5 #[(0, Go.Operand.const (Go.Value.int Go.IntKind.u8 4)), (1, Go.Operand.const (Go.Value.int Go.IntKind.u8 1)), (2, Go.Operand.const (Go.Value.int Go.IntKind.u8 2)), (3, Go.Operand.const (Go.Value.int Go.IntKind.u8 1)), (4, Go.Operand.const (Go.Value.int Go.IntKind.u8 2))], type := 23, pos := "law.go:72", after := #[], guard := none }) rfl (fun KK hKK => ?_) AllReadyH.nil
  go_simp
  obtain ⟨Y, hY⟩ : ∃ Y, (X.alloc (.cells #[.int .u8 4, .int .u8 1, .int .u8 2, .int .u8 1, .int .u8 2] 5)).drew = Y := ⟨_, rfl⟩
  have bY : Below X.heap.size X Y := hY ▸ (below_alloc X _).drew
  have cY : Y.cell? ⟨X.heap.size, 0, none⟩ = some (.int .u8 4) := by subst hY; show (X.alloc _).cell? _ = _; rw [cell_of_row _ _ _ _ _ _ (heap_alloc_new _ _)]; rfl
  try rw [hY]
  have HM := hide (HM.out.grow bY)
  have HZ := hide (HZ.out.grow bY)
  have HX := hide (HX.out.grow bY)
  have HB := hide (HB.out.carry bY)
  have HQX := hide (HQX.out.grow bY)
  have HBX := hide (below_one HBX.out bY)
  clear bY
  have hS : Hid (Y.cell? ⟨w.heap.size, 3, none⟩ = some (.int .u16 100) ∧ Y.cell? ⟨w.heap.size, 5, none⟩ = some (.int .u64 (m.p : Int)) ∧ Y.cell? ⟨w.heap.size, 6, none⟩ = some (.int .u32 (m.o : Int)) ∧ Y.cell? ⟨w.heap.size, 7, none⟩ = some (.int .u8 (m.r : Int)) ∧ Y.cell? ⟨w.heap.size, 8, none⟩ = some (.int .u64 (m.c : Int))) := ⟨by rw [HM.out.all.2.2.2.1, hopi], HM.out.all.2.2.2.2.2.1, HM.out.all.2.2.2.2.2.2.1, HM.out.all.2.2.2.2.2.2.2.1, HM.out.all.2.2.2.2.2.2.2.2.1⟩
  refine hKK.out _ _ hS.out (fun _ => ?_)
  clear hKK
  refine wpAnyH_take (i := 7) (oi := { dst := some 79, op := Go.Op.indexAddr 23 (Go.Operand.tmp 75) (Go.Operand.tmp 78), type := 0, pos := "law.go:72", after := #[{ on := 3, ground := Go.Ground.data }, { on := 6, ground := Go.Ground.data }], guard := none }) (v := (.pointer (some ⟨X.heap.size, 0, none⟩))) rfl (by kernel_rfl) (by kernel_rfl) (by kernel_rfl) (fun _ _ _ h => h) (Or.inl ⟨by kernel_rfl, fun w hC => by go_simp⟩) hS.out ?_
  simp only [Act.put, List.setIfInBounds_toArray, List.set_cons_zero, List.set_cons_succ]
  refine wpAnyH_ready (rs := [8]) (by kernel_rfl) (by simp) ?_
  refine AllReadyH.cons (o := { dst := some 80, op := Go.Op.load 5 (Go.Operand.tmp 79), type := 5, pos := "law.go:72", after := #[{ on := 7, ground := Go.Ground.data }], guard := none }) rfl (fun KK hKK => ?_) AllReadyH.nil
  go_simp
  have hS : Hid (Y.cell? ⟨w.heap.size, 3, none⟩ = some (.int .u16 100) ∧ Y.cell? ⟨w.heap.size, 5, none⟩ = some (.int .u64 (m.p : Int)) ∧ Y.cell? ⟨w.heap.size, 6, none⟩ = some (.int .u32 (m.o : Int)) ∧ Y.cell? ⟨w.heap.size, 7, none⟩ = some (.int .u8 (m.r : Int)) ∧ Y.cell? ⟨w.heap.size, 8, none⟩ = some (.int .u64 (m.c : Int))) := ⟨by rw [HM.out.all.2.2.2.1, hopi], HM.out.all.2.2.2.2.2.1, HM.out.all.2.2.2.2.2.2.1, HM.out.all.2.2.2.2.2.2.2.1, HM.out.all.2.2.2.2.2.2.2.2.1⟩
  refine hKK.out _ _ hS.out (fun _ => ?_)
  clear hKK
  refine wpAnyH_ready (rs := [9]) (by kernel_rfl) (by simp) ?_
  refine AllReadyH.cons (o := { dst := some 81, op := Go.Op.call { callee := Go.Callee.value (Go.Operand.func 33), args := #[Go.Operand.tmp 72, Go.Operand.tmp 74, Go.Operand.tmp 80], argTypes := #[26, 36, 5] }, type := 99, pos := "law.go:72", after := #[{ on := 0, ground := Go.Ground.data }, { on := 2, ground := Go.Ground.data }, { on := 8, ground := Go.Ground.data }], guard := none }) rfl (fun KK hKK => ?_) AllReadyH.nil
  go_simp
  refine (tb_check ⟨m.p, m.o, m.r, m.c⟩ 4 _ HX.out HQ.out.c (by omega) (by have := HLI.out.el; omega) K HK.out).mono ?_; rw [HER.out]; rintro e w2 ⟨rfl, E⟩
  have kh := HX.out.kh E
  have HM := hide (HM.out.kh kh)
  have HZ := hide (HZ.out.kh kh)
  have HB := hide (Bts.sv HB.out HQX.out.d HX.out E)
  have HQX : Hid (Okm w0 w2 m so sn) := ⟨HQX.out.c, HQX.out.o, HQX.out.a, HQX.out.n, HQX.out.d.kh kh⟩
  have HE := hide (E.from HBX.out)
  clear kh E
  have hS : Hid (w2.cell? ⟨w.heap.size, 3, none⟩ = some (.int .u16 100) ∧ w2.cell? ⟨w.heap.size, 5, none⟩ = some (.int .u64 (m.p : Int)) ∧ w2.cell? ⟨w.heap.size, 6, none⟩ = some (.int .u32 (m.o : Int)) ∧ w2.cell? ⟨w.heap.size, 7, none⟩ = some (.int .u8 (m.r : Int)) ∧ w2.cell? ⟨w.heap.size, 8, none⟩ = some (.int .u64 (m.c : Int))) := ⟨by rw [HM.out.all.2.2.2.1, hopi], HM.out.all.2.2.2.2.2.1, HM.out.all.2.2.2.2.2.2.1, HM.out.all.2.2.2.2.2.2.2.1, HM.out.all.2.2.2.2.2.2.2.2.1⟩
  refine hKK.out _ _ hS.out (fun _ => ?_)
  clear hKK
  refine wpAnyH_take (i := 10) (oi := { dst := some 71, op := Go.Op.move (Go.Operand.tmp 81), type := 99, pos := "law.go:72", after := #[{ on := 9, ground := Go.Ground.data }], guard := none }) (v := (.tuple #[.int .i64 (K.k : Int), er])) rfl (by kernel_rfl) (by kernel_rfl) (by kernel_rfl) (fun _ _ _ h => h) (Or.inl ⟨by kernel_rfl, fun w hC => by go_simp⟩) hS.out ?_
  simp only [Act.put, List.setIfInBounds_toArray, List.set_cons_zero, List.set_cons_succ]
  refine wpAnyH_take (i := 11) (oi := { dst := some 82, op := Go.Op.extract (Go.Operand.tmp 71) 0, type := 3, pos := "law.go:72", after := #[{ on := 10, ground := Go.Ground.data }], guard := none }) (v := (.int .i64 (K.k : Int))) rfl (by kernel_rfl) (by kernel_rfl) (by kernel_rfl) (fun _ _ _ h => h) (Or.inl ⟨by kernel_rfl, fun w hC => by go_simp⟩) hS.out ?_
  simp only [Act.put, List.setIfInBounds_toArray, List.set_cons_zero, List.set_cons_succ]
  refine wpAnyH_take (i := 12) (oi := { dst := some 83, op := Go.Op.extract (Go.Operand.tmp 71) 1, type := 38, pos := "law.go:72", after := #[{ on := 10, ground := Go.Ground.data }, { on := 13, ground := Go.Ground.gcOnly Go.Departure.lateStores }], guard := none }) (v := er) rfl (by kernel_rfl) (by kernel_rfl) (by kernel_rfl) (fun _ _ _ h => h) (Or.inl ⟨by kernel_rfl, fun w hC => by go_simp⟩) hS.out ?_
  simp only [Act.put, List.setIfInBounds_toArray, List.set_cons_zero, List.set_cons_succ]
  refine wpAnyH_take (i := 13) (oi := { dst := some 13, op := Go.Op.assign (Go.Operand.tmp 82), type := 3, pos := "law.go:72", after := #[{ on := 11, ground := Go.Ground.data }, { on := 9, ground := Go.Ground.chain }, { on := 0, ground := Go.Ground.phase }, { on := 1, ground := Go.Ground.phase }, { on := 2, ground := Go.Ground.phase }, { on := 3, ground := Go.Ground.phase }, { on := 4, ground := Go.Ground.phase }, { on := 5, ground := Go.Ground.phase }, { on := 6, ground := Go.Ground.phase }, { on := 7, ground := Go.Ground.phase }, { on := 8, ground := Go.Ground.phase }, { on := 9, ground := Go.Ground.phase }, { on := 10, ground := Go.Ground.phase }, { on := 11, ground := Go.Ground.phase }, { on := 12, ground := Go.Ground.textOnly Go.Departure.lateStores }], guard := none }) (v := (.int .i64 (K.k : Int))) rfl (by kernel_rfl) (by kernel_rfl) (by kernel_rfl) (fun _ _ _ h => h) (Or.inl ⟨by kernel_rfl, fun w hC => by go_simp⟩) hS.out ?_
  simp only [Act.put, List.setIfInBounds_toArray, List.set_cons_zero, List.set_cons_succ]
  refine wpAnyH_take (i := 14) (oi := { dst := some 14, op := Go.Op.assign (Go.Operand.tmp 83), type := 38, pos := "law.go:72", after := #[{ on := 12, ground := Go.Ground.data }, { on := 13, ground := Go.Ground.chain }, { on := 0, ground := Go.Ground.phase }, { on := 1, ground := Go.Ground.phase }, { on := 2, ground := Go.Ground.phase }, { on := 3, ground := Go.Ground.phase }, { on := 4, ground := Go.Ground.phase }, { on := 5, ground := Go.Ground.phase }, { on := 6, ground := Go.Ground.phase }, { on := 7, ground := Go.Ground.phase }, { on := 8, ground := Go.Ground.phase }, { on := 9, ground := Go.Ground.phase }, { on := 10, ground := Go.Ground.phase }, { on := 11, ground := Go.Ground.phase }, { on := 12, ground := Go.Ground.phase }, { on := 13, ground := Go.Ground.phase }], guard := none }) (v := er) rfl (by kernel_rfl) (by kernel_rfl) (by kernel_rfl) (fun _ _ _ h => h) (Or.inl ⟨by kernel_rfl, fun w hC => by go_simp⟩) hS.out ?_
  simp only [Act.put, List.setIfInBounds_toArray, List.set_cons_zero, List.set_cons_succ]
  refine wpAnyH_done (by kernel_rfl) ?_ _
  obtain rfl : er = .nilIface := by rw [← HER.out, H0.out]; rfl
  obtain ⟨v, dv, nv, S1, on1⟩ := SvEnd.run HE.out
  have HS1 := hide S1
  have HON := hide on1
  clear S1 on1
  obtain ⟨k0, k1, k2, k3, k4, k5, k6, k7, k8, k9, k10⟩ := HM.out.all
  rw [hopi] at k3
  go_wp2_with fail
  refine (tb_value (A := A.upd v dv nv) K.k vl _ HS1.out HH.out HVL.out).mono ?_; rintro e w3 ⟨rfl, hw3⟩; subst hw3
  go_wp2_with fail
  refine (sto_create (m.ar : Int) _ (show Sto _ _ _ _ _ _ s.n _ _ s.L from HS1.out.st) HS1.out.nw).mono ?_; rw [HER2.out, HID.out, HLL.out]; rintro e w4 ⟨rfl, E4⟩
  have E4 := HS1.out.store E4
  have kh := HS1.out.kh E4
  have HM := hide (HM.out.kh kh)
  have HZ := hide (HZ.out.kh kh)
  have HE := hide ((HON.out _ _ E4).from (Below.refl _ _))
  obtain ⟨v4, dv4, nv4, S4, on4⟩ := SvEnd.run E4
  have HS4 := hide S4
  have HON4 := hide on4
  clear kh E4 S4 on4 k0 k1 k2 k3 k4 k5 k6 k7 k8 k9 k10
  obtain ⟨k0, k1, k2, k3, k4, k5, k6, k7, k8, k9, k10⟩ := HM.out.all
  rw [hopi] at k3
  go_wp2_with fail
  refine (tb_create (id : Int) _ (A := (A.upd v dv nv).upd v4 dv4 nv4) HS4.out HLK.out R HRR.out).mono ?_; rw [HQQ.out, HER3.out]; rintro e w5 ⟨rfl, E5⟩
  simp only [Cp.val]
  have kh := HS4.out.kh E5
  have HM := hide (HM.out.kh kh)
  have HZ := hide (HZ.out.kh kh)
  have E5b := HON4.out _ _ E5
  obtain ⟨V, hV⟩ : ∃ V, w5.alloc (.cells #[.int .u64 (qp : Int), .int .u32 (qo : Int), .int .u8 (qr : Int), .int .u64 (qc : Int)] 36) = V := ⟨_, rfl⟩
  have bV : Below w5.heap.size w5 V := hV ▸ below_alloc _ _
  have CV : CBox V w5.heap.size qp qo qr qc := hV ▸ CBox.new w5 qp qo qr qc
  have HM := hide (HM.out.grow bV)
  have HZ := hide (HZ.out.grow bV)
  have HE := hide (((HON.out _ _ E5b).from (Below.refl _ _)).to bV)
  have t0 := CV.c0
  have t1 := CV.c1
  have t2 := CV.c2
  have t3 := CV.c3
  clear kh E5 E5b bV k0 k1 k2 k3 k4 k5 k6 k7 k8 k9 k10
  obtain ⟨k0, k1, k2, k3, k4, k5, k6, k7, k8, k9, k10⟩ := HM.out.all
  obtain rfl : er3 = .nilIface := by rw [← HER3.out, H3.out]; rfl
  obtain ⟨m2, h2⟩ : ∃ m2, (⟨m.rp, m.ta, m.id, m.op, 0, qp, qo, qr, qc, 0⟩ : Msg) = m2 := ⟨_, rfl⟩
  clear hopi
  go_wp2_with fail
  refine (answer_own m (.slice so sn sc) 0 (qp) (qo) (qr) (qc) (0) none 0 0 [] _ (by omega) (bts_nil _) (by omega) m2 h2).mono ?_; rintro e w6 ⟨co2, cc2, rfl, B6, N6, T6, b6⟩
  have HB6 := hide B6
  have HZ6 := hide (HZ.out.grow b6)
  have HE6 := hide (HE.out.to b6)
  have HN6 := hide N6
  have HT6 := hide T6
  have HS6 : Hid (w.heap.size + 1 < V.heap.size) := lt_of_heap HZ.out
  have HM2 : Hid (m2 = rplF m (⟨0, ⟨qp, qo, qr, qc⟩, 0, [], ⟨R.t, R.es, R.T, s.n, L2⟩⟩)) := by show _ = _; unfold rplF; rw [if_pos rfl]; exact h2.symm
  clear B6 N6 T6 b6 h2 k0 k1 k2 k3 k4 k5 k6 k7 k8 k9 k10
  have HZL := hide (HZ6.out.lay (m := m2) (D := .slice co2 0 cc2))
  have f7 := foot_lay11 w6 (w.heap.size + 1) m2 (.slice co2 0 cc2)
  have HE7 := hide (HE6.out.msg HW0.out HZ6.out (by omega) f7)
  have HB7 := hide (Bts.foot HB6.out f7 (fun ad e _ (h : ad.block = w.heap.size + 1) => by have := HN6.out ad e; have := HS6.out; omega))
  have HT7 := hide (HT6.out.foot f7 (fun ad e (h : ad.block = w.heap.size + 1) => by have := HN6.out ad e; have := HS6.out; omega))
  obtain ⟨w7, hw7⟩ : ∃ w7, lay11 w6 (w.heap.size + 1) m2 (.slice co2 0 cc2) = w7 := ⟨_, rfl⟩
  rw [hw7] at HZL HE7 HB7 HT7
  unfold lay11 at hw7
  clear f7
  obtain ⟨v0, v1, v2, v3, v4, v5, v6, v7, v8, v9, v10⟩ := HZL.out.all
  obtain ⟨z0, z1, z2, z3, z4, z5, z6, z7, z8, z9, z10⟩ := HZ6.out.all
  have x0 := HZ6.out.z 0
  have x1 := HZ6.out.z 1
  have x2 := HZ6.out.z 2
  have x3 := HZ6.out.z 3
  have x4 := HZ6.out.z 4
  have x5 := HZ6.out.z 5
  have x6 := HZ6.out.z 6
  have x7 := HZ6.out.z 7
  have x8 := HZ6.out.z 8
  have x9 := HZ6.out.z 9
  have x10 := HZ6.out.z 10
  go_wp2
  refine bodyPost_ret (by simp [results, Tryz.results19, go_sem, v0, v1, v2, v3, v4, v5, v6, v7, v8, v9, v10]; rfl) rfl ?_
  exact ⟨m2, co2, 0, cc2, HM2.out, rfl, HB7.out, .inr ⟨HN6.out.le (by have := HS6.out; omega), HT7.out⟩, HE7.out⟩
end
end Go.Proofs.YtpbkjmkdciiccaaGreatDoor
namespace Go.Proofs.YtpbkjmkdciiccaaGreatDoor
section
open Go.RowKit
variable {w0 w w1 w2 w' : World} {A A' : Ad} {p : Nat} {ws : List Nat} {s s' s1 : Hs} {r g : Nat} {sb : Nat × Nat}
/- behind a check that passed: each operation -/
set_option maxRecDepth 20000 in
theorem want_op (m : Msg) (so : Option Addr) (sn sc : Nat) (l : List UInt8) (w : World) (x : Sv w0 w A p ws s) (hb : Bts w so sn sc l) (q : Okm w0 w m so sn) (li : Lim s) (hg : Glob w0) (hop : 100 ≤ m.op ∧ m.op ≤ 104) (K : Chk) (hK : chkF ws s.t s.es p s.T ⟨m.p, m.o, m.r, m.c⟩ (needN m.op) = K) (h0 : K.e = 0) :
    Calls Tryz.prog 19 #[.pointer (some ⟨A.g, 0, none⟩), .pointer (some ⟨A.sb.2, 0, none⟩), .agg #[.int .u64 m.ta, .int .u64 m.rp, .int .u32 m.id, .int .u16 m.op, .int .u16 m.st, .int .u64 m.p, .int .u32 m.o, .int .u8 m.r, .int .u64 m.c, .int .u64 m.ar, .slice so sn sc]] w fun e w' => RplEnd w0 w A p ws m (doF ws p (s.tab K.t K.es s.T) m.op (s.T K.k).v m.ar l) l e w' := by
  have : m.op = 100 ∨ m.op = 101 ∨ m.op = 102 ∨ m.op = 103 ∨ m.op = 104 := by omega
  obtain ⟨vl, hvl⟩ : ∃ vl, (s.T K.k).v = vl := ⟨_, rfl⟩
  rw [hvl]
  rcases this with e | e | e | e | e
  · rw [e] at hK
    have hK : chkF ws s.t s.es p s.T ⟨m.p, m.o, m.r, m.c⟩ 4 = K := hK
    by_cases hz : vl = -1
    · rw [show doF ws p (s.tab K.t K.es s.T) m.op vl m.ar l = mkF ws p (s.tab K.t K.es s.T) m.ar from by rw [e]; unfold doF; simp [hz]]
      unfold mkF
      by_cases h1 : 2147483647 < m.ar
      · rw [if_pos h1]; exact want_arg100_0 m so sn sc l w x hb q li hg e K hK h0 _ hvl hz h1
      · rw [if_neg h1]
        by_cases h2 : createE s.n s.L (m.ar : Int) = 0
        · rw [if_pos (show createE (s.tab K.t K.es s.T).n (s.tab K.t K.es s.T).L (m.ar : Int) = 0 from h2)]
          by_cases h3 : (creF ws K.t K.es p s.T (lowS s.L : Int)).e = 0
          · rw [if_pos (show (creF ws (s.tab K.t K.es s.T).t (s.tab K.t K.es s.T).es p (s.tab K.t K.es s.T).T (lowS (s.tab K.t K.es s.T).L : Int)).e = 0 from h3)]
            exact want_make2 m so sn sc l w x hb q li hg e K hK h0 _ hvl hz h1 h2 _ rfl h3
          · rw [if_neg (show ¬ (creF ws (s.tab K.t K.es s.T).t (s.tab K.t K.es s.T).es p (s.tab K.t K.es s.T).T (lowS (s.tab K.t K.es s.T).L : Int)).e = 0 from h3)]
            exact want_make1 m so sn sc l w x hb q li hg e K hK h0 _ hvl hz h1 h2 _ rfl h3
        · rw [if_neg (show ¬ createE (s.tab K.t K.es s.T).n (s.tab K.t K.es s.T).L (m.ar : Int) = 0 from h2)]
          exact want_make0 m so sn sc l w x hb q li hg e K hK h0 _ hvl hz h1 h2
    · rw [show doF ws p (s.tab K.t K.es s.T) m.op vl m.ar l = badF (s.tab K.t K.es s.T) 3 from by rw [e]; unfold doF; simp [hz]]
      exact want_mis100 m so sn sc l w x hb q li hg e K hK h0 _ hvl hz
  · rw [e] at hK
    have hK : chkF ws s.t s.es p s.T ⟨m.p, m.o, m.r, m.c⟩ 1 = K := hK
    by_cases hz : vl = -1
    · rw [show doF ws p (s.tab K.t K.es s.T) m.op vl m.ar l = badF (s.tab K.t K.es s.T) 3 from by rw [e]; unfold doF; simp [hz]]
      exact want_mis101 m so sn sc l w x hb q li hg e K hK h0 _ hvl hz
    · rw [show doF ws p (s.tab K.t K.es s.T) m.op vl m.ar l = reaF (s.tab K.t K.es s.T) vl m.ar from by rw [e]; unfold doF; simp [hz]]
      unfold reaF
      by_cases h1 : 2147483647 < m.ar / 4294967296
      · rw [if_pos h1]; exact want_arg101_1 m so sn sc l w x hb q li hg e K hK h0 _ hvl hz h1
      · rw [if_neg h1]
        by_cases h2 : 4096 < m.ar % 4294967296
        · rw [if_pos h2]; exact want_arg101_2 m so sn sc l w x hb q li hg e K hK h0 _ hvl hz h1 h2
        · rw [if_neg h2]
          by_cases h3 : reaE s.L vl (m.ar / 4294967296 : Nat) (m.ar % 4294967296 : Nat) = 0
          · have hr := want_read1 m so sn sc l w x hb q li hg e K hK h0 _ hvl hz h1 h2 h3
            rw [show (Ro.mk (reaE (s.tab K.t K.es s.T).L vl (m.ar / 4294967296 : Nat) (m.ar % 4294967296 : Nat)).toNat Cp.zero 0 (reaD (s.tab K.t K.es s.T).L vl (m.ar / 4294967296 : Nat) (m.ar % 4294967296 : Nat)) (s.tab K.t K.es s.T)) = ⟨0, Cp.zero, 0, reaD s.L vl (m.ar / 4294967296 : Nat) (m.ar % 4294967296 : Nat), s.tab K.t K.es s.T⟩ from by
              show Ro.mk (reaE s.L vl _ _).toNat _ _ _ _ = _
              rw [h3]; rfl]
            exact hr
          · have hr := want_read0 m so sn sc l w x hb q li hg e K hK h0 _ hvl hz h1 h2 h3
            rw [show (Ro.mk (reaE (s.tab K.t K.es s.T).L vl (m.ar / 4294967296 : Nat) (m.ar % 4294967296 : Nat)).toNat Cp.zero 0 (reaD (s.tab K.t K.es s.T).L vl (m.ar / 4294967296 : Nat) (m.ar % 4294967296 : Nat)) (s.tab K.t K.es s.T)) = badF (s.tab K.t K.es s.T) (reaE s.L vl (m.ar / 4294967296 : Nat) (m.ar % 4294967296 : Nat)).toNat from by
              have hd : reaD s.L vl (m.ar / 4294967296 : Nat) (m.ar % 4294967296 : Nat) = [] := by
                revert h3
                unfold reaE reaD
                split
                · intro _; rfl
                · split
                  · intro h; exact absurd rfl h
                  · intro _; rfl
              show Ro.mk _ _ _ (reaD s.L vl _ _) _ = _
              rw [hd]; rfl]
            exact hr
  · rw [e] at hK
    have hK : chkF ws s.t s.es p s.T ⟨m.p, m.o, m.r, m.c⟩ 2 = K := hK
    by_cases hz : vl = -1
    · rw [show doF ws p (s.tab K.t K.es s.T) m.op vl m.ar l = badF (s.tab K.t K.es s.T) 3 from by rw [e]; unfold doF; simp [hz]]
      exact want_mis102 m so sn sc l w x hb q li hg e K hK h0 _ hvl hz
    · rw [show doF ws p (s.tab K.t K.es s.T) m.op vl m.ar l = wriF (s.tab K.t K.es s.T) vl m.ar l from by rw [e]; unfold doF; simp [hz]]
      unfold wriF
      by_cases h1 : 2147483647 < m.ar
      · rw [if_pos h1]; exact want_arg102_0 m so sn sc l w x hb q li hg e K hK h0 _ hvl hz h1
      · rw [if_neg h1]; exact want_yes102 m so sn sc l w x hb q li hg e K hK h0 _ hvl hz h1
  · rw [e] at hK
    have hK : chkF ws s.t s.es p s.T ⟨m.p, m.o, m.r, m.c⟩ 1 = K := hK
    by_cases hz : vl = -1
    · rw [show doF ws p (s.tab K.t K.es s.T) m.op vl m.ar l = badF (s.tab K.t K.es s.T) 3 from by rw [e]; unfold doF; simp [hz]]
      exact want_mis103 m so sn sc l w x hb q li hg e K hK h0 _ hvl hz
    · rw [show doF ws p (s.tab K.t K.es s.T) m.op vl m.ar l = sizF (s.tab K.t K.es s.T) vl from by rw [e]; unfold doF; simp [hz]]
      by_cases h3 : sizeE s.L vl = 0
      · have hr := want_size1 m so sn sc l w x hb q li hg e K hK h0 _ hvl hz h3
        rw [show sizF (s.tab K.t K.es s.T) vl = ⟨0, Cp.zero, sizeN s.L vl, [], s.tab K.t K.es s.T⟩ from by
          show Ro.mk (sizeE s.L vl).toNat _ _ _ _ = _
          rw [h3]; rfl]
        exact hr
      · have hr := want_size0 m so sn sc l w x hb q li hg e K hK h0 _ hvl hz h3
        rw [show sizF (s.tab K.t K.es s.T) vl = badF (s.tab K.t K.es s.T) (sizeE s.L vl).toNat from by
          have hd : sizeN s.L vl = 0 := by
            revert h3
            unfold sizeE sizeN
            split
            · intro _; rfl
            · intro h; exact absurd rfl h
          show Ro.mk _ _ (sizeN s.L vl) _ _ = _
          rw [hd]; rfl]
        exact hr
  · rw [e] at hK
    have hK : chkF ws s.t s.es p s.T ⟨m.p, m.o, m.r, m.c⟩ 2 = K := hK
    by_cases hz : vl = -1
    · rw [show doF ws p (s.tab K.t K.es s.T) m.op vl m.ar l = badF (s.tab K.t K.es s.T) 3 from by rw [e]; unfold doF; simp [hz]]
      exact want_mis104 m so sn sc l w x hb q li hg e K hK h0 _ hvl hz
    · rw [show doF ws p (s.tab K.t K.es s.T) m.op vl m.ar l = groF (s.tab K.t K.es s.T) vl m.ar from by rw [e]; unfold doF; simp [hz]]
      unfold groF
      by_cases h1 : 2147483647 < m.ar
      · rw [if_pos h1]; exact want_arg104_0 m so sn sc l w x hb q li hg e K hK h0 _ hvl hz h1
      · rw [if_neg h1]; exact want_yes104 m so sn sc l w x hb q li hg e K hK h0 _ hvl hz h1
set_option maxRecDepth 20000 in
theorem want_any (m : Msg) (so : Option Addr) (sn sc : Nat) (l : List UInt8) (w : World) (x : Sv w0 w A p ws s) (hb : Bts w so sn sc l) (q : Okm w0 w m so sn) (li : Lim s) (hg : Glob w0) (hop : m.op = 5 ∨ 100 ≤ m.op) (hm : mayC ⟨m.p, m.o, m.r, m.c⟩ = true) (R : Ro) (hR : outF ws p s m.op ⟨m.p, m.o, m.r, m.c⟩ m.ar l = R) :
    Calls Tryz.prog 19 #[.pointer (some ⟨A.g, 0, none⟩), .pointer (some ⟨A.sb.2, 0, none⟩), .agg #[.int .u64 m.ta, .int .u64 m.rp, .int .u32 m.id, .int .u16 m.op, .int .u16 m.st, .int .u64 m.p, .int .u32 m.o, .int .u8 m.r, .int .u64 m.c, .int .u64 m.ar, .slice so sn sc]] w fun e w' => RplEnd w0 w A p ws m R l e w' := by
  subst hR
  unfold outF
  rw [hm, if_neg (by decide)]
  by_cases h5 : m.op = 5
  · rw [if_pos h5]
    unfold dstF
    by_cases ho : m.o = 0
    · rw [if_pos (show (Cp.mk m.p m.o m.r m.c).o = 0 from ho)]
      by_cases h0 : (chkF ws s.t s.es p s.T ⟨m.p, m.o, m.r, m.c⟩ 8).e = 0
      · rw [if_pos h0]; exact want_root1 m so sn sc l w x hb q li hg h5 ho _ rfl h0
      · rw [if_neg h0]; exact want_root0 m so sn sc l w x hb q li hg h5 ho _ rfl h0
    · rw [if_neg (show ¬ (Cp.mk m.p m.o m.r m.c).o = 0 from ho)]
      by_cases h0 : (chkF ws s.t s.es p s.T ⟨m.p, m.o, m.r, m.c⟩ 8).e = 0
      · rw [if_pos h0]; exact want_dst1 m so sn sc l w x hb q li hg h5 ho _ rfl h0
      · rw [if_neg h0]
        have hr := want_dst0 m so sn sc l w x hb q li hg h5 ho _ rfl h0
        rw [show desT s.T (chkF ws s.t s.es p s.T ⟨m.p, m.o, m.r, m.c⟩ 8) = s.T from if_neg h0] at hr
        exact hr
  · rw [if_neg h5]
    by_cases h1 : m.op ≤ 104
    · have hn : needB m.op = true := by unfold needB; rw [decide_eq_true (by omega : 100 ≤ m.op), decide_eq_true h1]; rfl
      rw [if_neg (by rw [hn]; intro h; rcases h with h | h; omega; cases h)]
      unfold ownF
      by_cases h0 : (chkF ws s.t s.es p s.T ⟨m.p, m.o, m.r, m.c⟩ (needN m.op)).e = 0
      · rw [if_pos h0]; exact want_op m so sn sc l w x hb q li hg ⟨by omega, h1⟩ _ rfl h0
      · rw [if_neg h0]
        have : m.op = 100 ∨ m.op = 101 ∨ m.op = 102 ∨ m.op = 103 ∨ m.op = 104 := by omega
        rcases this with e | e | e | e | e
        · have hn2 : needN m.op = 4 := by rw [e]; rfl
          rw [hn2] at h0 ⊢; exact want_chk100 m so sn sc l w x hb q li hg e _ rfl h0
        · have hn2 : needN m.op = 1 := by rw [e]; rfl
          rw [hn2] at h0 ⊢; exact want_chk101 m so sn sc l w x hb q li hg e _ rfl h0
        · have hn2 : needN m.op = 2 := by rw [e]; rfl
          rw [hn2] at h0 ⊢; exact want_chk102 m so sn sc l w x hb q li hg e _ rfl h0
        · have hn2 : needN m.op = 1 := by rw [e]; rfl
          rw [hn2] at h0 ⊢; exact want_chk103 m so sn sc l w x hb q li hg e _ rfl h0
        · have hn2 : needN m.op = 2 := by rw [e]; rfl
          rw [hn2] at h0 ⊢; exact want_chk104 m so sn sc l w x hb q li hg e _ rfl h0
    · rw [if_pos (.inr (by unfold needB; rw [decide_eq_false h1, Bool.and_false]))]
      exact want_none m so sn sc l w x hb q li hg (by omega)
end
end Go.Proofs.YtpbkjmkdciiccaaGreatDoor
