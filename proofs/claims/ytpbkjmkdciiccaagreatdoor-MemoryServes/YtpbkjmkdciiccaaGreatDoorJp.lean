/-
  A deed's request (the statements' own message), as a contract.
  A deed's request, way by way.
  A deed's request, way by way.
  A deed's request, way by way.
  A deed's request, way by way.
  A deed's request, way by way.
-/
import Derived.Test.YtpbkjmkdciiccaaGreatDoorJk
import Derived.Test.YtpbkjmkdciiccaaGreatDoorJe
namespace Go.Proofs.YtpbkjmkdciiccaaGreatDoor
section
open Go.RowKit
variable {w0 w w1 w2 w' : World}
structure Ac where
  o : Nat
  wh : Nat
  a : Nat
  b : Nat
  fr : Bool
  so : Option Addr
  sn : Nat
  sc : Nat
  l : List UInt8
def Ac.ok (x : Ac) : Prop := x.o ≤ 255 ∧ x.wh ≤ 255 ∧ x.a ≤ 65535 ∧ x.b ≤ 65535
def Ac.cells (x : Ac) : List Value := [.int .u8 (x.o : Int), .int .u8 (x.wh : Int), .int .u16 (x.a : Int), .int .u16 (x.b : Int), .bool x.fr, .slice x.so x.sn x.sc]
/- its operation, its number -/
def opM (o : Nat) : Nat := if o % 11 = 10 then 5 else 100 + o % 6
def ar1M (o a b : Nat) : Nat := if o % 6 = 1 then a % 400 * 4294967296 + b % 400 else a % 400
def arM (x : Ac) : Nat := if x.fr = true then (ar1M x.o x.a x.b + 2 ^ (31 + x.b % 33)) % 18446744073709551616 else ar1M x.o x.a x.b
def msgF (x : Ac) (q : Cp) : Msg := ⟨0, 0, 0, opM x.o, 0, q.p, q.o, q.r, q.c, arM x⟩
theorem ar1M_lt (o a b : Nat) : ar1M o a b < 1722000000000 := by unfold ar1M; split <;> omega
theorem arM_le (x : Ac) : arM x ≤ 18446744073709551615 := by
  have := ar1M_lt x.o x.a x.b
  unfold arM; split <;> omega
theorem opM_in (o : Nat) : opM o = 5 ∨ 100 ≤ opM o := by unfold opM; split <;> omega
theorem opM_le (o : Nat) : opM o ≤ 105 := by unfold opM; split <;> omega
/- a deed in a variable -/
def AB (w : World) (g : Nat) (x : Ac) : Prop := w.heap[g]? = some (.cells #[.int .u8 (x.o : Int), .int .u8 (x.wh : Int), .int .u16 (x.a : Int), .int .u16 (x.b : Int), .bool x.fr, .slice x.so x.sn x.sc] 51 (0, 0))
theorem AB.new (w : World) (x : Ac) : AB (w.alloc (.cells #[.int .u8 (x.o : Int), .int .u8 (x.wh : Int), .int .u16 (x.a : Int), .int .u16 (x.b : Int), .bool x.fr, .slice x.so x.sn x.sc] 51)) w.heap.size x := heap_alloc_new _ _
theorem AB.grow {g : Nat} {x : Ac} (h : AB w g x) (b : Below w.heap.size w w') : AB w' g x := (b.block g (lt_of_heap h)).trans h
theorem AB.foot {g : Nat} {x : Ac} {S : Nat → Prop} (h : AB w g x) (f : Foot S w w') (hS : ¬ S g) : AB w' g x := (f.block g (lt_of_heap h) hS).trans h
theorem AB.all {g : Nat} {x : Ac} (h : AB w g x) : w.cell? ⟨g, 0, none⟩ = some (.int .u8 (x.o : Int)) ∧ w.cell? ⟨g, 1, none⟩ = some (.int .u8 (x.wh : Int)) ∧ w.cell? ⟨g, 2, none⟩ = some (.int .u16 (x.a : Int)) ∧ w.cell? ⟨g, 3, none⟩ = some (.int .u16 (x.b : Int)) ∧ w.cell? ⟨g, 4, none⟩ = some (.bool x.fr) ∧ w.cell? ⟨g, 5, none⟩ = some (.slice x.so x.sn x.sc) := by
  refine ⟨?_, ?_, ?_, ?_, ?_, ?_⟩ <;> (rw [cell_of_row w g _ _ _ _ h]; rfl)
theorem MB.put3 {g : Nat} {m : Msg} {D : Value} (h : MB w g m D) (o : Nat) : MB (w.setCell ⟨g, 3, none⟩ (.int .u16 (o : Int))) g ⟨m.ta, m.rp, m.id, o, m.st, m.p, m.o, m.r, m.c, m.ar⟩ D := by
  have h1 := heap_setCell_same w g 3 _ _ (.int .u16 (o : Int)) h
  unfold MB
  rw [h1]
  simp
theorem MB.put9 {g : Nat} {m : Msg} {D : Value} (h : MB w g m D) (a : Nat) : MB (w.setCell ⟨g, 9, none⟩ (.int .u64 (a : Int))) g ⟨m.ta, m.rp, m.id, m.op, m.st, m.p, m.o, m.r, m.c, a⟩ D := by
  have h1 := heap_setCell_same w g 9 _ _ (.int .u64 (a : Int)) h
  unfold MB
  rw [h1]
  simp
theorem shl_add {x P z : Nat} (hz : (x + P) % 18446744073709551616 = z) : IntKind.u64.wrap ((x : Int) + IntKind.u64.wrap ((P : Nat) : Int)) = (z : Int) := by
  rw [IntKind.wrap_u64, IntKind.wrap_u64]; omega
theorem foot_one (w : World) (g o : Nat) (v : Value) : Foot (fun j => j = g) w (w.setCell ⟨g, o, none⟩ v) := (Foot.refl _ w).put _ _
end
end Go.Proofs.YtpbkjmkdciiccaaGreatDoor
namespace Go.Proofs.YtpbkjmkdciiccaaGreatDoor
section
open Go.RowKit
set_option maxRecDepth 20000 in
set_option maxHeartbeats 12800000 in
theorem msg_000 (x : Ac) (hx : x.ok) {B n : Nat} {v : Value} {L : List Cp} (w : World) (hr : w.ownsRow B 36 4 v n (cellsC L)) (hn : n = L.length) (h0 : 0 < n) (q : Cp) (hq : L.getD (x.wh % n) Cp.zero = q) (h1 : x.o % 6 ≠ 1) (h2 : x.fr = false) (h3 : x.o % 11 ≠ 10) (m2 : Msg) (hm2 : msgF x q = m2) :
    Calls Tryz.prog 16 #[.agg #[.int .u8 (x.o : Int), .int .u8 (x.wh : Int), .int .u16 (x.a : Int), .int .u16 (x.b : Int), .bool x.fr, .slice x.so x.sn x.sc], v] w fun e w' => e = .returned (.agg #[.int .u64 m2.ta, .int .u64 m2.rp, .int .u32 m2.id, .int .u16 m2.op, .int .u16 m2.st, .int .u64 m2.p, .int .u32 m2.o, .int .u8 m2.r, .int .u64 m2.c, .int .u64 m2.ar, .slice x.so x.sn x.sc]) ∧ Below w.heap.size w w' := by
  have HM2 := hide hm2
  clear hm2
  obtain ⟨o, wh, a, b, fr, so, sn, sc, l⟩ := x
  obtain ⟨qp, qo, qr, qc⟩ := q
  simp only at h1 h2 h3 hq hx HM2 ⊢
  subst h2
  obtain ⟨k, hk⟩ : ∃ k, wh % n = k := ⟨_, rfl⟩
  have hkn : k < n := by rw [← hk]; exact Nat.mod_lt _ h0
  rw [hk] at hq
  obtain ⟨rb, cap, rfl, hnc, hcm, e0, e1, e2, e3⟩ := owns_cap hr hn k hkn qp qo qr qc hq
  unfold maxLen at hcm
  have hxo : o ≤ 255 ∧ wh ≤ 255 ∧ a ≤ 65535 ∧ b ≤ 65535 := hx
  have hk1 : (wh : Int) % (n : Int) = (k : Int) := by rw [← hk]; rfl
  have hk2 : (wh : Int).tmod (n : Int) = (k : Int) := by rw [Int.tmod_eq_emod_of_nonneg (by omega)]; exact hk1
  have hn0 : ¬ ((n : Int) = 0) := by omega
  have hn00 : ((n : Int) == 0) = false := by simp; omega
  have hn000 : ¬ n = 0 := by omega
  have hkl : (k : Int) < (n : Int) := by omega
  have hk0 : (0 : Int) ≤ (k : Int) := by omega
  have hwh : (wh : Int) ≤ 255 := by omega
  have hwk : IntKind.i64.wrap (wh : Int) = (wh : Int) := by rw [IntKind.wrap_i64]; omega
  have hwk2 : IntKind.i64.wrap (k : Int) = (k : Int) := by rw [IntKind.wrap_i64]; omega
  obtain ⟨o6, ho6⟩ : ∃ o6, o % 6 = o6 := ⟨_, rfl⟩
  have p1 : (o : Int) % 6 = (o6 : Int) := by omega
  have p2 : (o : Int).tmod 6 = (o6 : Int) := by rw [Int.tmod_eq_emod_of_nonneg (by omega)]; exact p1
  have p3 : IntKind.u16.wrap (o6 : Int) = (o6 : Int) := by rw [IntKind.wrap_u16]; omega
  have p3b : IntKind.u8.wrap (o6 : Int) = (o6 : Int) := by rw [IntKind.wrap_u8]; omega
  obtain ⟨po, hpo⟩ : ∃ po, 100 + o6 = po := ⟨_, rfl⟩
  have p4 : IntKind.u16.wrap (100 + (o6 : Int)) = (po : Int) := by rw [IntKind.wrap_u16]; omega
  obtain ⟨o11, ho11⟩ : ∃ o11, o % 11 = o11 := ⟨_, rfl⟩
  have p5 : (o : Int) % 11 = (o11 : Int) := by omega
  have p6 : (o : Int).tmod 11 = (o11 : Int) := by rw [Int.tmod_eq_emod_of_nonneg (by omega)]; exact p5
  have p6b : IntKind.u8.wrap (o11 : Int) = (o11 : Int) := by rw [IntKind.wrap_u8]; omega
  obtain ⟨a4, ha4⟩ : ∃ a4, a % 400 = a4 := ⟨_, rfl⟩
  have a1 : (a : Int) % 400 = (a4 : Int) := by omega
  have a2 : (a : Int).tmod 400 = (a4 : Int) := by rw [Int.tmod_eq_emod_of_nonneg (by omega)]; exact a1
  have a3 : IntKind.u64.wrap (a4 : Int) = (a4 : Int) := by rw [IntKind.wrap_u64]; omega
  have a3b : IntKind.u16.wrap (a4 : Int) = (a4 : Int) := by rw [IntKind.wrap_u16]; omega
  obtain ⟨b4, hb4⟩ : ∃ b4, b % 400 = b4 := ⟨_, rfl⟩
  have b1 : (b : Int) % 400 = (b4 : Int) := by omega
  have b2 : (b : Int).tmod 400 = (b4 : Int) := by rw [Int.tmod_eq_emod_of_nonneg (by omega)]; exact b1
  have b3 : IntKind.u64.wrap (b4 : Int) = (b4 : Int) := by rw [IntKind.wrap_u64]; omega
  have b3b : IntKind.u16.wrap (b4 : Int) = (b4 : Int) := by rw [IntKind.wrap_u16]; omega
  obtain ⟨b5, hb5⟩ : ∃ b5, b % 33 = b5 := ⟨_, rfl⟩
  have c1 : (b : Int) % 33 = (b5 : Int) := by omega
  have c2 : (b : Int).tmod 33 = (b5 : Int) := by rw [Int.tmod_eq_emod_of_nonneg (by omega)]; exact c1
  have c3 : IntKind.u16.wrap (31 + (b5 : Int)) = ((31 + b5 : Nat) : Int) := by rw [IntKind.wrap_u16]; omega
  have c3b : IntKind.u16.wrap (b5 : Int) = (b5 : Int) := by rw [IntKind.wrap_u16]; omega
  have c4 : b5 < 33 := by omega
  have HMF : Hid (m2 = ⟨0, 0, 0, po, 0, qp, qo, qr, qc, a4⟩) := by
    show m2 = _
    rw [← HM2.out]
    unfold msgF arM ar1M opM
    simp only
    rw [if_neg h3, if_neg (by decide), if_neg h1]
    simp only [ho6, hpo, ha4]
  obtain ⟨z1, hz1⟩ : ∃ z1, a4 * 4294967296 + b4 = z1 := ⟨_, rfl⟩
  have d1 : IntKind.u64.wrap (IntKind.u64.wrap ((a4 : Int) * 4294967296) + (b4 : Int)) = (z1 : Int) := by rw [IntKind.wrap_u64, IntKind.wrap_u64]; omega
  have d1b : (a4 : Int) * 4294967296 + (b4 : Int) = (z1 : Int) := by omega
  have d1c : IntKind.u64.wrap (z1 : Int) = (z1 : Int) := by rw [IntKind.wrap_u64]; omega
  have t1 : ((o6 : Int) == 1) = false := by rw [beq_eq_false_iff_ne]; omega
  have t2 : ((o11 : Int) == 10) = false := by rw [beq_eq_false_iff_ne]; omega
  obtain ⟨X, hX⟩ : ∃ X, (w.alloc (.cells #[.int .u8 (o : Int), .int .u8 (wh : Int), .int .u16 (a : Int), .int .u16 (b : Int), .bool false, .slice so sn sc] 51)).alloc (.cells #[.int .u64 0, .int .u64 0, .int .u32 0, .int .u16 0, .int .u16 0, .int .u64 0, .int .u32 0, .int .u8 0, .int .u64 0, .int .u64 0, .slice none 0 0] 53) = X := ⟨_, rfl⟩
  have bX : Below w.heap.size w X := hX ▸ below_one (below_alloc w _) (below_alloc _ _)
  have HAB : Hid (AB X w.heap.size ⟨o, wh, a, b, false, so, sn, sc, l⟩) := hX ▸ (AB.new w ⟨o, wh, a, b, false, so, sn, sc, l⟩).grow (below_alloc _ _)
  have HZ : Hid (MB X (w.heap.size + 1) Msg.zero (.slice none 0 0)) := by
    show X.heap[w.heap.size + 1]? = _
    have h := heap_alloc_new (w.alloc (.cells #[.int .u8 (o : Int), .int .u8 (wh : Int), .int .u16 (a : Int), .int .u16 (b : Int), .bool false, .slice so sn sc] 51)) (.cells #[.int .u64 0, .int .u64 0, .int .u32 0, .int .u16 0, .int .u16 0, .int .u64 0, .int .u32 0, .int .u8 0, .int .u64 0, .int .u64 0, .slice none 0 0] 53)
    rw [hX, sz1] at h
    exact h
  have HBX := hide bX
  have HSZ : Hid (w.heap.size + 1 < X.heap.size) := lt_of_heap HZ.out
  have f0 : X.cell? ⟨rb, k * 4, none⟩ = some (.int .u64 (qp : Int)) := by rw [bX.cell (lt_of_cell e0), e0]
  have f1 : X.cell? ⟨rb, k * 4 + 1, none⟩ = some (.int .u32 (qo : Int)) := by rw [bX.cell (lt_of_cell e1), e1]
  have f2 : X.cell? ⟨rb, k * 4 + 2, none⟩ = some (.int .u8 (qr : Int)) := by rw [bX.cell (lt_of_cell e2), e2]
  have f3 : X.cell? ⟨rb, k * 4 + 3, none⟩ = some (.int .u64 (qc : Int)) := by rw [bX.cell (lt_of_cell e3), e3]
  have HF : Hid (X.cell? ⟨rb, k * 4, none⟩ = some (.int .u64 (qp : Int)) ∧ X.cell? ⟨rb, k * 4 + 1, none⟩ = some (.int .u32 (qo : Int)) ∧ X.cell? ⟨rb, k * 4 + 2, none⟩ = some (.int .u8 (qr : Int)) ∧ X.cell? ⟨rb, k * 4 + 3, none⟩ = some (.int .u64 (qc : Int))) := ⟨f0, f1, f2, f3⟩
  obtain ⟨g0, g1, g2, g3, g4, g5⟩ := HAB.out.all
  simp only at g0 g1 g2 g3 g4 g5
  clear hr hn h0 hq h1 h3 hx hxo hk bX e0 e1 e2 e3 HM2 ho6 ho11 ha4 hb4 hb5 hpo
  go_enter Tryz.func16, Tryz.ntmps16
  go_wp2_with fail
  have hS : Hid ((X.drew.cell? ⟨w.heap.size, 0, none⟩ = some (.int .u8 (o : Int)) ∧ X.drew.cell? ⟨w.heap.size, 1, none⟩ = some (.int .u8 (wh : Int)) ∧ X.drew.cell? ⟨w.heap.size, 5, none⟩ = some (.slice so sn sc)) ∧ X.drew.cell? ⟨rb, k * 4, none⟩ = some (.int .u64 (qp : Int)) ∧ X.drew.cell? ⟨rb, k * 4 + 1, none⟩ = some (.int .u32 (qo : Int)) ∧ X.drew.cell? ⟨rb, k * 4 + 2, none⟩ = some (.int .u8 (qr : Int)) ∧ X.drew.cell? ⟨rb, k * 4 + 3, none⟩ = some (.int .u64 (qc : Int))) := ⟨⟨g0, g1, g5⟩, f0, f1, f2, f3⟩
  refine wp_region_held_drew (S := fun U => (U.cell? ⟨w.heap.size, 0, none⟩ = some (.int .u8 (o : Int)) ∧ U.cell? ⟨w.heap.size, 1, none⟩ = some (.int .u8 (wh : Int)) ∧ U.cell? ⟨w.heap.size, 5, none⟩ = some (.slice so sn sc)) ∧ U.cell? ⟨rb, k * 4, none⟩ = some (.int .u64 (qp : Int)) ∧ U.cell? ⟨rb, k * 4 + 1, none⟩ = some (.int .u32 (qo : Int)) ∧ U.cell? ⟨rb, k * 4 + 2, none⟩ = some (.int .u8 (qr : Int)) ∧ U.cell? ⟨rb, k * 4 + 3, none⟩ = some (.int .u64 (qc : Int))) (by kernel_rfl) hS.out (fun _ => ?_)
  refine wpAnyH_take (i := 0) (oi := { dst := some 6, op := Go.Op.fieldAddr 51 (Go.Operand.tmp 2) 0, type := 0, pos := "law.go:38", after := #[], guard := none }) (v := (.pointer (some ⟨w.heap.size, 0, none⟩))) rfl (by kernel_rfl) (by kernel_rfl) (by kernel_rfl) (fun _ _ _ h => h) (Or.inl ⟨by kernel_rfl, fun w hC => by go_simp⟩) hS.out ?_
  simp only [Act.put, List.setIfInBounds_toArray, List.set_cons_zero, List.set_cons_succ]
  refine wpAnyH_take (i := 1) (oi := { dst := some 7, op := Go.Op.load 5 (Go.Operand.tmp 6), type := 5, pos := "law.go:38", after := #[{ on := 0, ground := Go.Ground.data }], guard := none }) (v := (.int .u8 (o : Int))) rfl (by kernel_rfl) (by kernel_rfl) (by kernel_rfl) (fun _ _ _ h => h) (Or.inl ⟨by kernel_rfl, fun w hC => by (obtain ⟨⟨g0, g1, g5⟩, f0, f1, f2, f3⟩ := hC; go_simp)⟩) hS.out ?_
  simp only [Act.put, List.setIfInBounds_toArray, List.set_cons_zero, List.set_cons_succ]
  refine wpAnyH_take (i := 2) (oi := { dst := some 8, op := Go.Op.binOp Go.BinOp.rem 5 (Go.Operand.tmp 7) (Go.Operand.const (Go.Value.int Go.IntKind.u8 6)) 5, type := 5, pos := "law.go:38", after := #[{ on := 1, ground := Go.Ground.data }], guard := none }) (v := (.int .u8 (o6 : Int))) rfl (by kernel_rfl) (by kernel_rfl) (by kernel_rfl) (fun _ _ _ h => h) (Or.inl ⟨by kernel_rfl, fun w hC => by go_simp⟩) hS.out ?_
  simp only [Act.put, List.setIfInBounds_toArray, List.set_cons_zero, List.set_cons_succ]
  refine wpAnyH_take (i := 3) (oi := { dst := some 9, op := Go.Op.convert 5 49 (Go.Operand.tmp 8), type := 49, pos := "law.go:38", after := #[{ on := 2, ground := Go.Ground.data }], guard := none }) (v := (.int .u16 (o6 : Int))) rfl (by kernel_rfl) (by kernel_rfl) (by kernel_rfl) (fun _ _ _ h => h) (Or.inl ⟨by kernel_rfl, fun w hC => by go_simp⟩) hS.out ?_
  simp only [Act.put, List.setIfInBounds_toArray, List.set_cons_zero, List.set_cons_succ]
  refine wpAnyH_take (i := 4) (oi := { dst := some 10, op := Go.Op.binOp Go.BinOp.add 49 (Go.Operand.const (Go.Value.int Go.IntKind.u16 100)) (Go.Operand.tmp 9) 49, type := 49, pos := "law.go:38", after := #[{ on := 3, ground := Go.Ground.data }], guard := none }) (v := (.int .u16 (po : Int))) rfl (by kernel_rfl) (by kernel_rfl) (by kernel_rfl) (fun _ _ _ h => h) (Or.inl ⟨by kernel_rfl, fun w hC => by go_simp⟩) hS.out ?_
  simp only [Act.put, List.setIfInBounds_toArray, List.set_cons_zero, List.set_cons_succ]
  refine wpAnyH_take (i := 5) (oi := { dst := some 11, op := Go.Op.move (Go.Operand.tmp 1), type := 47, pos := "law.go:38", after := #[], guard := none }) (v := (.slice (some ⟨rb, 0, none⟩) n cap)) rfl (by kernel_rfl) (by kernel_rfl) (by kernel_rfl) (fun _ _ _ h => h) (Or.inl ⟨by kernel_rfl, fun w hC => by go_simp⟩) hS.out ?_
  simp only [Act.put, List.setIfInBounds_toArray, List.set_cons_zero, List.set_cons_succ]
  refine wpAnyH_take (i := 6) (oi := { dst := some 12, op := Go.Op.fieldAddr 51 (Go.Operand.tmp 2) 1, type := 0, pos := "law.go:38", after := #[], guard := none }) (v := (.pointer (some ⟨w.heap.size, 1, none⟩))) rfl (by kernel_rfl) (by kernel_rfl) (by kernel_rfl) (fun _ _ _ h => h) (Or.inl ⟨by kernel_rfl, fun w hC => by go_simp⟩) hS.out ?_
  simp only [Act.put, List.setIfInBounds_toArray, List.set_cons_zero, List.set_cons_succ]
  refine wpAnyH_take (i := 7) (oi := { dst := some 13, op := Go.Op.load 5 (Go.Operand.tmp 12), type := 5, pos := "law.go:38", after := #[{ on := 6, ground := Go.Ground.data }], guard := none }) (v := (.int .u8 (wh : Int))) rfl (by kernel_rfl) (by kernel_rfl) (by kernel_rfl) (fun _ _ _ h => h) (Or.inl ⟨by kernel_rfl, fun w hC => by (obtain ⟨⟨g0, g1, g5⟩, f0, f1, f2, f3⟩ := hC; go_simp)⟩) hS.out ?_
  simp only [Act.put, List.setIfInBounds_toArray, List.set_cons_zero, List.set_cons_succ]
  refine wpAnyH_take (i := 8) (oi := { dst := some 14, op := Go.Op.convert 5 3 (Go.Operand.tmp 13), type := 3, pos := "law.go:38", after := #[{ on := 7, ground := Go.Ground.data }], guard := none }) (v := (.int .i64 (wh : Int))) rfl (by kernel_rfl) (by kernel_rfl) (by kernel_rfl) (fun _ _ _ h => h) (Or.inl ⟨by kernel_rfl, fun w hC => by go_simp⟩) hS.out ?_
  simp only [Act.put, List.setIfInBounds_toArray, List.set_cons_zero, List.set_cons_succ]
  refine wpAnyH_take (i := 9) (oi := { dst := some 15, op := Go.Op.move (Go.Operand.tmp 1), type := 47, pos := "law.go:38", after := #[], guard := none }) (v := (.slice (some ⟨rb, 0, none⟩) n cap)) rfl (by kernel_rfl) (by kernel_rfl) (by kernel_rfl) (fun _ _ _ h => h) (Or.inl ⟨by kernel_rfl, fun w hC => by go_simp⟩) hS.out ?_
  simp only [Act.put, List.setIfInBounds_toArray, List.set_cons_zero, List.set_cons_succ]
  refine wpAnyH_take (i := 10) (oi := { dst := some 16, op := Go.Op.call { callee := Go.Callee.builtin Go.Builtin.len, args := #[Go.Operand.tmp 15], argTypes := #[47] }, type := 3, pos := "law.go:38", after := #[{ on := 9, ground := Go.Ground.data }], guard := none }) (v := (.int .i64 (n : Int))) rfl (by kernel_rfl) (by kernel_rfl) (by kernel_rfl) (fun _ _ _ h => h) (Or.inl ⟨by kernel_rfl, fun w hC => by go_simp⟩) hS.out ?_
  simp only [Act.put, List.setIfInBounds_toArray, List.set_cons_zero, List.set_cons_succ]
  refine wpAnyH_take (i := 11) (oi := { dst := some 17, op := Go.Op.binOp Go.BinOp.rem 3 (Go.Operand.tmp 14) (Go.Operand.tmp 16) 3, type := 3, pos := "law.go:38", after := #[{ on := 8, ground := Go.Ground.data }, { on := 10, ground := Go.Ground.data }], guard := none }) (v := (.int .i64 (k : Int))) rfl (by kernel_rfl) (by kernel_rfl) (by kernel_rfl) (fun _ _ _ h => h) (Or.inl ⟨by kernel_rfl, fun w hC => by go_simp⟩) hS.out ?_
  simp only [Act.put, List.setIfInBounds_toArray, List.set_cons_zero, List.set_cons_succ]
  refine wpAnyH_take (i := 12) (oi := { dst := some 18, op := Go.Op.indexAddr 47 (Go.Operand.tmp 11) (Go.Operand.tmp 17), type := 0, pos := "law.go:38", after := #[{ on := 5, ground := Go.Ground.data }, { on := 11, ground := Go.Ground.data }], guard := none }) (v := (.pointer (some ⟨rb, k * 4, none⟩))) rfl (by kernel_rfl) (by kernel_rfl) (by kernel_rfl) (fun _ _ _ h => h) (Or.inl ⟨by kernel_rfl, fun w hC => by go_simp⟩) hS.out ?_
  simp only [Act.put, List.setIfInBounds_toArray, List.set_cons_zero, List.set_cons_succ]
  refine wpAnyH_take (i := 13) (oi := { dst := some 19, op := Go.Op.load 36 (Go.Operand.tmp 18), type := 36, pos := "law.go:38", after := #[{ on := 12, ground := Go.Ground.data }], guard := none }) (v := (.agg #[.int .u64 (qp : Int), .int .u32 (qo : Int), .int .u8 (qr : Int), .int .u64 (qc : Int)])) rfl (by kernel_rfl) (by kernel_rfl) (by kernel_rfl) (fun _ _ _ h => h) (Or.inl ⟨by kernel_rfl, fun w hC => by (obtain ⟨⟨g0, g1, g5⟩, f0, f1, f2, f3⟩ := hC; go_simp)⟩) hS.out ?_
  simp only [Act.put, List.setIfInBounds_toArray, List.set_cons_zero, List.set_cons_succ]
  refine wpAnyH_take (i := 14) (oi := { dst := some 20, op := Go.Op.fieldAddr 51 (Go.Operand.tmp 2) 5, type := 0, pos := "law.go:38", after := #[], guard := none }) (v := (.pointer (some ⟨w.heap.size, 5, none⟩))) rfl (by kernel_rfl) (by kernel_rfl) (by kernel_rfl) (fun _ _ _ h => h) (Or.inl ⟨by kernel_rfl, fun w hC => by go_simp⟩) hS.out ?_
  simp only [Act.put, List.setIfInBounds_toArray, List.set_cons_zero, List.set_cons_succ]
  refine wpAnyH_take (i := 15) (oi := { dst := some 21, op := Go.Op.load 23 (Go.Operand.tmp 20), type := 23, pos := "law.go:38", after := #[{ on := 14, ground := Go.Ground.data }], guard := none }) (v := (.slice so sn sc)) rfl (by kernel_rfl) (by kernel_rfl) (by kernel_rfl) (fun _ _ _ h => h) (Or.inl ⟨by kernel_rfl, fun w hC => by (obtain ⟨⟨g0, g1, g5⟩, f0, f1, f2, f3⟩ := hC; go_simp)⟩) hS.out ?_
  simp only [Act.put, List.setIfInBounds_toArray, List.set_cons_zero, List.set_cons_succ]
  refine wpAnyH_take (i := 16) (oi := { dst := some 22, op := Go.Op.build 53 #[(3, Go.Operand.tmp 10), (5, Go.Operand.tmp 19), (7, Go.Operand.tmp 21)], type := 53, pos := "law.go:38", after := #[{ on := 4, ground := Go.Ground.data }, { on := 13, ground := Go.Ground.data }, { on := 15, ground := Go.Ground.data }], guard := none }) (v := (.agg #[.int .u64 0, .int .u64 0, .int .u32 0, .int .u16 (po : Int), .int .u16 0, .int .u64 (qp : Int), .int .u32 (qo : Int), .int .u8 (qr : Int), .int .u64 (qc : Int), .int .u64 0, .slice so sn sc])) rfl (by kernel_rfl) (by kernel_rfl) (by kernel_rfl) (fun _ _ _ h => h) (Or.inl ⟨by kernel_rfl, fun w hC => by go_simp⟩) hS.out ?_
  simp only [Act.put, List.setIfInBounds_toArray, List.set_cons_zero, List.set_cons_succ]
  refine wpAnyH_ready (rs := [17]) (by kernel_rfl) (by simp) ?_
  refine AllReadyH.cons (o := { dst := some 5, op := Go.Op.alloc 53, type := 0, pos := "law.go:38", after := #[], guard := none }) rfl (fun KK hKK => ?_) AllReadyH.nil
  go_simp
  obtain ⟨Y, hY⟩ : ∃ Y, (X.alloc (.cells #[.int .u64 0, .int .u64 0, .int .u32 0, .int .u16 0, .int .u16 0, .int .u64 0, .int .u32 0, .int .u8 0, .int .u64 0, .int .u64 0, .slice none 0 0] 53)).drew = Y := ⟨_, rfl⟩
  try rw [hY]
  have bY : Below X.heap.size X Y := hY ▸ (below_alloc X _).drew
  have HMY : Hid (MB Y X.heap.size Msg.zero (.slice none 0 0)) := hY ▸ mb_new X Msg.zero _
  have HAY := hide (HAB.out.grow bY)
  have HZY := hide (HZ.out.grow bY)
  have HFY : Hid (Y.cell? ⟨rb, k * 4, none⟩ = some (.int .u64 (qp : Int)) ∧ Y.cell? ⟨rb, k * 4 + 1, none⟩ = some (.int .u32 (qo : Int)) ∧ Y.cell? ⟨rb, k * 4 + 2, none⟩ = some (.int .u8 (qr : Int)) ∧ Y.cell? ⟨rb, k * 4 + 3, none⟩ = some (.int .u64 (qc : Int))) := ⟨by rw [bY.cell (lt_of_cell f0), f0], by rw [bY.cell (lt_of_cell f1), f1], by rw [bY.cell (lt_of_cell f2), f2], by rw [bY.cell (lt_of_cell f3), f3]⟩
  have HLT : Hid (rb < X.heap.size) := lt_of_cell f0
  have HBY := hide (below_one HBX.out bY)
  clear g0 g1 g2 g3 g4 g5 f0 f1 f2 f3 bY
  obtain ⟨g0, g1, g2, g3, g4, g5⟩ := HAY.out.all
  simp only at g0 g1 g2 g3 g4 g5
  obtain ⟨m0, hm0⟩ : ∃ m0 : Msg, (⟨0, 0, 0, po, 0, qp, qo, qr, qc, 0⟩ : Msg) = m0 := ⟨_, rfl⟩
  have hS : Hid ((Y.cell? ⟨w.heap.size, 0, none⟩ = some (.int .u8 (o : Int)) ∧ Y.cell? ⟨w.heap.size, 1, none⟩ = some (.int .u8 (wh : Int)) ∧ Y.cell? ⟨w.heap.size, 5, none⟩ = some (.slice so sn sc)) ∧ Y.cell? ⟨rb, k * 4, none⟩ = some (.int .u64 (qp : Int)) ∧ Y.cell? ⟨rb, k * 4 + 1, none⟩ = some (.int .u32 (qo : Int)) ∧ Y.cell? ⟨rb, k * 4 + 2, none⟩ = some (.int .u8 (qr : Int)) ∧ Y.cell? ⟨rb, k * 4 + 3, none⟩ = some (.int .u64 (qc : Int))) := ⟨⟨g0, g1, g5⟩, HFY.out⟩
  refine hKK.out _ _ hS.out (fun _ => ?_)
  clear hKK
  have HML := hide (HMY.out.lay (m := ⟨0, 0, 0, po, 0, qp, qo, qr, qc, 0⟩) (D := .slice so sn sc))
  have fL := foot_lay11 Y X.heap.size ⟨0, 0, 0, po, 0, qp, qo, qr, qc, 0⟩ (.slice so sn sc)
  have HAL := hide (HAY.out.foot fL (fun (e : w.heap.size = X.heap.size) => by have := HSZ.out; omega))
  have HZL := hide (HZY.out.foot fL (fun (e : w.heap.size + 1 = X.heap.size) => by have := HSZ.out; omega))
  have HBL : Hid (Below w.heap.size w (lay11 Y X.heap.size ⟨0, 0, 0, po, 0, qp, qo, qr, qc, 0⟩ (.slice so sn sc))) := (((below_foot (fun j => w.heap.size ≤ j) HBY.out).trans fL (fun j (e : j = _) => .inl (by show w.heap.size ≤ j; have := HSZ.out; omega))).below (Nat.le_refl _) (fun k e => e))
  have HFL : Hid ((lay11 Y X.heap.size ⟨0, 0, 0, po, 0, qp, qo, qr, qc, 0⟩ (.slice so sn sc)).cell? ⟨rb, k * 4, none⟩ = some (.int .u64 (qp : Int)) ∧ (lay11 Y X.heap.size ⟨0, 0, 0, po, 0, qp, qo, qr, qc, 0⟩ (.slice so sn sc)).cell? ⟨rb, k * 4 + 1, none⟩ = some (.int .u32 (qo : Int)) ∧ (lay11 Y X.heap.size ⟨0, 0, 0, po, 0, qp, qo, qr, qc, 0⟩ (.slice so sn sc)).cell? ⟨rb, k * 4 + 2, none⟩ = some (.int .u8 (qr : Int)) ∧ (lay11 Y X.heap.size ⟨0, 0, 0, po, 0, qp, qo, qr, qc, 0⟩ (.slice so sn sc)).cell? ⟨rb, k * 4 + 3, none⟩ = some (.int .u64 (qc : Int))) := by
    obtain ⟨f0, f1, f2, f3⟩ := HFY.out
    have hne : ¬ rb = X.heap.size := by have := HLT.out; omega
    exact ⟨(fL.cell _ (lt_of_cell f0) hne).trans f0, (fL.cell _ (lt_of_cell f1) hne).trans f1, (fL.cell _ (lt_of_cell f2) hne).trans f2, (fL.cell _ (lt_of_cell f3) hne).trans f3⟩
  obtain ⟨V, hV⟩ : ∃ V, lay11 Y X.heap.size ⟨0, 0, 0, po, 0, qp, qo, qr, qc, 0⟩ (.slice so sn sc) = V := ⟨_, rfl⟩
  rw [hV] at HML HAL HZL HBL HFL
  unfold lay11 at hV
  simp only [show (((0 : Nat)) : Int) = 0 from rfl] at hV
  obtain ⟨z0, z1x, z2, z3, z4, z5, z6, z7, z8, z9, z10⟩ := HMY.out.all
  simp only [Msg.zero, show (((0 : Nat)) : Int) = 0 from rfl] at z0 z1x z2 z3 z4 z5 z6 z7 z8 z9 z10
  have y0 := HMY.out.z 0
  have y1 := HMY.out.z 1
  have y2 := HMY.out.z 2
  have y3 := HMY.out.z 3
  have y4 := HMY.out.z 4
  have y5 := HMY.out.z 5
  have y6 := HMY.out.z 6
  have y7 := HMY.out.z 7
  have y8 := HMY.out.z 8
  have y9 := HMY.out.z 9
  have y10 := HMY.out.z 10
  clear g0 g1 g2 g3 g4 g5
  obtain ⟨g0, g1, g2, g3, g4, g5⟩ := HAL.out.all
  simp only at g0 g1 g2 g3 g4 g5
  refine wpAnyH_ready (rs := [18]) (by kernel_rfl) (by simp) ?_
  refine AllReadyH.cons (o := { dst := none, op := Go.Op.store 53 (Go.Operand.tmp 5) (Go.Operand.tmp 22), type := 0, pos := "law.go:38", after := #[{ on := 17, ground := Go.Ground.data }, { on := 16, ground := Go.Ground.data }, { on := 0, ground := Go.Ground.phase }, { on := 1, ground := Go.Ground.phase }, { on := 2, ground := Go.Ground.phase }, { on := 3, ground := Go.Ground.phase }, { on := 4, ground := Go.Ground.phase }, { on := 5, ground := Go.Ground.phase }, { on := 6, ground := Go.Ground.phase }, { on := 7, ground := Go.Ground.phase }, { on := 8, ground := Go.Ground.phase }, { on := 9, ground := Go.Ground.phase }, { on := 10, ground := Go.Ground.phase }, { on := 11, ground := Go.Ground.phase }, { on := 12, ground := Go.Ground.phase }, { on := 13, ground := Go.Ground.phase }, { on := 14, ground := Go.Ground.phase }, { on := 15, ground := Go.Ground.phase }, { on := 16, ground := Go.Ground.phase }, { on := 17, ground := Go.Ground.phase }], guard := none }) rfl (fun KK hKK => ?_) AllReadyH.nil
  go_simp
  have hS : Hid ((V.cell? ⟨w.heap.size, 0, none⟩ = some (.int .u8 (o : Int)) ∧ V.cell? ⟨w.heap.size, 1, none⟩ = some (.int .u8 (wh : Int)) ∧ V.cell? ⟨w.heap.size, 5, none⟩ = some (.slice so sn sc)) ∧ V.cell? ⟨rb, k * 4, none⟩ = some (.int .u64 (qp : Int)) ∧ V.cell? ⟨rb, k * 4 + 1, none⟩ = some (.int .u32 (qo : Int)) ∧ V.cell? ⟨rb, k * 4 + 2, none⟩ = some (.int .u8 (qr : Int)) ∧ V.cell? ⟨rb, k * 4 + 3, none⟩ = some (.int .u64 (qc : Int))) := ⟨⟨g0, g1, g5⟩, HFL.out⟩
  refine hKK.out _ _ hS.out (fun _ => ?_)
  clear hKK
  refine wpAnyH_done (by kernel_rfl) ?_ _
  clear z0 z1x z2 z3 z4 z5 z6 z7 z8 z9 z10 y0 y1 y2 y3 y4 y5 y6 y7 y8 y9 y10
  have HMB := hide HML.out
  have w0a := HMB.out.z 9
  have w0b := HMB.out.z 3
  obtain ⟨q00, q01, q02, q03, q04, q05, q06, q07, q08, q09, q010⟩ := HMB.out.all
  simp only [show (((0 : Nat)) : Int) = 0 from rfl] at q00 q01 q02 q04 q09
  obtain ⟨g00, g01, g02, g03, g04, g05⟩ := HAL.out.all
  simp only at g00 g01 g02 g03 g04 g05
  have f1x := foot_one V X.heap.size 9 (.int .u64 ((a4 : Nat) : Int))
  have HMB := hide (HMB.out.put9 (a4))
  have HAL := hide (HAL.out.foot f1x (fun (e : w.heap.size = X.heap.size) => by have := HSZ.out; omega))
  have HZL := hide (HZL.out.foot f1x (fun (e : w.heap.size + 1 = X.heap.size) => by have := HSZ.out; omega))
  have HBL : Hid (Below w.heap.size w _) := (((below_foot (fun j => w.heap.size ≤ j) HBL.out).trans f1x (fun j (e : j = _) => .inl (by show w.heap.size ≤ j; have := HSZ.out; omega))).below (Nat.le_refl _) (fun k e => e))
  obtain ⟨U1, hU1⟩ : ∃ U, V.setCell ⟨X.heap.size, 9, none⟩ (.int .u64 ((a4 : Nat) : Int)) = U := ⟨_, rfl⟩
  rw [hU1] at HMB HAL HZL HBL
  clear f1x
  have w1a := HMB.out.z 9
  have w1b := HMB.out.z 3
  obtain ⟨q10, q11, q12, q13, q14, q15, q16, q17, q18, q19, q110⟩ := HMB.out.all
  simp only [show (((0 : Nat)) : Int) = 0 from rfl] at q10 q11 q12 q14 q19
  obtain ⟨g10, g11, g12, g13, g14, g15⟩ := HAL.out.all
  simp only at g10 g11 g12 g13 g14 g15
  have HFIN : Hid (m2 = ⟨0, 0, 0, po, 0, qp, qo, qr, qc, a4⟩) := by show _ = _; rw [HMF.out]
  have HZZ := hide (HZL.out.lay (m := ⟨0, 0, 0, po, 0, qp, qo, qr, qc, a4⟩) (D := .slice so sn sc))
  have fZ := foot_lay11 U1 (w.heap.size + 1) ⟨0, 0, 0, po, 0, qp, qo, qr, qc, a4⟩ (.slice so sn sc)
  have HBZ : Hid (Below w.heap.size w (lay11 U1 (w.heap.size + 1) ⟨0, 0, 0, po, 0, qp, qo, qr, qc, a4⟩ (.slice so sn sc))) := (((below_foot (fun j => w.heap.size ≤ j) HBL.out).trans fZ (fun j (e : j = _) => .inl (by show w.heap.size ≤ j; omega))).below (Nat.le_refl _) (fun k e => e))
  obtain ⟨wz, hwz⟩ : ∃ wz, lay11 U1 (w.heap.size + 1) ⟨0, 0, 0, po, 0, qp, qo, qr, qc, a4⟩ (.slice so sn sc) = wz := ⟨_, rfl⟩
  rw [hwz] at HZZ HBZ
  unfold lay11 at hwz
  simp only [show (((0 : Nat)) : Int) = 0 from rfl] at hwz
  obtain ⟨r0, r1, r2, r3, r4, r5, r6, r7, r8, r9, r10⟩ := HZL.out.all
  simp only [Msg.zero, show (((0 : Nat)) : Int) = 0 from rfl] at r0 r1 r2 r3 r4 r5 r6 r7 r8 r9 r10
  have s0 := HZL.out.z 0
  have s1 := HZL.out.z 1
  have s2 := HZL.out.z 2
  have s3 := HZL.out.z 3
  have s4 := HZL.out.z 4
  have s5 := HZL.out.z 5
  have s6 := HZL.out.z 6
  have s7 := HZL.out.z 7
  have s8 := HZL.out.z 8
  have s9 := HZL.out.z 9
  have s10 := HZL.out.z 10
  obtain ⟨v0, v1, v2, v3, v4, v5, v6, v7, v8, v9, v10⟩ := HZZ.out.all
  simp only [show (((0 : Nat)) : Int) = 0 from rfl] at v0 v1 v2 v4
  go_wp2
  refine bodyPost_ret (by simp [results, Tryz.results16, go_sem, v0, v1, v2, v3, v4, v5, v6, v7, v8, v9, v10]; rfl) rfl ?_
  rw [HFIN.out]
  exact ⟨rfl, HBZ.out⟩
set_option maxRecDepth 20000 in
set_option maxHeartbeats 12800000 in
theorem msg_001 (x : Ac) (hx : x.ok) {B n : Nat} {v : Value} {L : List Cp} (w : World) (hr : w.ownsRow B 36 4 v n (cellsC L)) (hn : n = L.length) (h0 : 0 < n) (q : Cp) (hq : L.getD (x.wh % n) Cp.zero = q) (h1 : x.o % 6 ≠ 1) (h2 : x.fr = false) (h3 : x.o % 11 = 10) (m2 : Msg) (hm2 : msgF x q = m2) :
    Calls Tryz.prog 16 #[.agg #[.int .u8 (x.o : Int), .int .u8 (x.wh : Int), .int .u16 (x.a : Int), .int .u16 (x.b : Int), .bool x.fr, .slice x.so x.sn x.sc], v] w fun e w' => e = .returned (.agg #[.int .u64 m2.ta, .int .u64 m2.rp, .int .u32 m2.id, .int .u16 m2.op, .int .u16 m2.st, .int .u64 m2.p, .int .u32 m2.o, .int .u8 m2.r, .int .u64 m2.c, .int .u64 m2.ar, .slice x.so x.sn x.sc]) ∧ Below w.heap.size w w' := by
  have HM2 := hide hm2
  clear hm2
  obtain ⟨o, wh, a, b, fr, so, sn, sc, l⟩ := x
  obtain ⟨qp, qo, qr, qc⟩ := q
  simp only at h1 h2 h3 hq hx HM2 ⊢
  subst h2
  obtain ⟨k, hk⟩ : ∃ k, wh % n = k := ⟨_, rfl⟩
  have hkn : k < n := by rw [← hk]; exact Nat.mod_lt _ h0
  rw [hk] at hq
  obtain ⟨rb, cap, rfl, hnc, hcm, e0, e1, e2, e3⟩ := owns_cap hr hn k hkn qp qo qr qc hq
  unfold maxLen at hcm
  have hxo : o ≤ 255 ∧ wh ≤ 255 ∧ a ≤ 65535 ∧ b ≤ 65535 := hx
  have hk1 : (wh : Int) % (n : Int) = (k : Int) := by rw [← hk]; rfl
  have hk2 : (wh : Int).tmod (n : Int) = (k : Int) := by rw [Int.tmod_eq_emod_of_nonneg (by omega)]; exact hk1
  have hn0 : ¬ ((n : Int) = 0) := by omega
  have hn00 : ((n : Int) == 0) = false := by simp; omega
  have hn000 : ¬ n = 0 := by omega
  have hkl : (k : Int) < (n : Int) := by omega
  have hk0 : (0 : Int) ≤ (k : Int) := by omega
  have hwh : (wh : Int) ≤ 255 := by omega
  have hwk : IntKind.i64.wrap (wh : Int) = (wh : Int) := by rw [IntKind.wrap_i64]; omega
  have hwk2 : IntKind.i64.wrap (k : Int) = (k : Int) := by rw [IntKind.wrap_i64]; omega
  obtain ⟨o6, ho6⟩ : ∃ o6, o % 6 = o6 := ⟨_, rfl⟩
  have p1 : (o : Int) % 6 = (o6 : Int) := by omega
  have p2 : (o : Int).tmod 6 = (o6 : Int) := by rw [Int.tmod_eq_emod_of_nonneg (by omega)]; exact p1
  have p3 : IntKind.u16.wrap (o6 : Int) = (o6 : Int) := by rw [IntKind.wrap_u16]; omega
  have p3b : IntKind.u8.wrap (o6 : Int) = (o6 : Int) := by rw [IntKind.wrap_u8]; omega
  obtain ⟨po, hpo⟩ : ∃ po, 100 + o6 = po := ⟨_, rfl⟩
  have p4 : IntKind.u16.wrap (100 + (o6 : Int)) = (po : Int) := by rw [IntKind.wrap_u16]; omega
  obtain ⟨o11, ho11⟩ : ∃ o11, o % 11 = o11 := ⟨_, rfl⟩
  have p5 : (o : Int) % 11 = (o11 : Int) := by omega
  have p6 : (o : Int).tmod 11 = (o11 : Int) := by rw [Int.tmod_eq_emod_of_nonneg (by omega)]; exact p5
  have p6b : IntKind.u8.wrap (o11 : Int) = (o11 : Int) := by rw [IntKind.wrap_u8]; omega
  obtain ⟨a4, ha4⟩ : ∃ a4, a % 400 = a4 := ⟨_, rfl⟩
  have a1 : (a : Int) % 400 = (a4 : Int) := by omega
  have a2 : (a : Int).tmod 400 = (a4 : Int) := by rw [Int.tmod_eq_emod_of_nonneg (by omega)]; exact a1
  have a3 : IntKind.u64.wrap (a4 : Int) = (a4 : Int) := by rw [IntKind.wrap_u64]; omega
  have a3b : IntKind.u16.wrap (a4 : Int) = (a4 : Int) := by rw [IntKind.wrap_u16]; omega
  obtain ⟨b4, hb4⟩ : ∃ b4, b % 400 = b4 := ⟨_, rfl⟩
  have b1 : (b : Int) % 400 = (b4 : Int) := by omega
  have b2 : (b : Int).tmod 400 = (b4 : Int) := by rw [Int.tmod_eq_emod_of_nonneg (by omega)]; exact b1
  have b3 : IntKind.u64.wrap (b4 : Int) = (b4 : Int) := by rw [IntKind.wrap_u64]; omega
  have b3b : IntKind.u16.wrap (b4 : Int) = (b4 : Int) := by rw [IntKind.wrap_u16]; omega
  obtain ⟨b5, hb5⟩ : ∃ b5, b % 33 = b5 := ⟨_, rfl⟩
  have c1 : (b : Int) % 33 = (b5 : Int) := by omega
  have c2 : (b : Int).tmod 33 = (b5 : Int) := by rw [Int.tmod_eq_emod_of_nonneg (by omega)]; exact c1
  have c3 : IntKind.u16.wrap (31 + (b5 : Int)) = ((31 + b5 : Nat) : Int) := by rw [IntKind.wrap_u16]; omega
  have c3b : IntKind.u16.wrap (b5 : Int) = (b5 : Int) := by rw [IntKind.wrap_u16]; omega
  have c4 : b5 < 33 := by omega
  have HMF : Hid (m2 = ⟨0, 0, 0, 5, 0, qp, qo, qr, qc, a4⟩) := by
    show m2 = _
    rw [← HM2.out]
    unfold msgF arM ar1M opM
    simp only
    rw [if_pos h3, if_neg (by decide), if_neg h1]
    simp only [ha4]
  obtain ⟨z1, hz1⟩ : ∃ z1, a4 * 4294967296 + b4 = z1 := ⟨_, rfl⟩
  have d1 : IntKind.u64.wrap (IntKind.u64.wrap ((a4 : Int) * 4294967296) + (b4 : Int)) = (z1 : Int) := by rw [IntKind.wrap_u64, IntKind.wrap_u64]; omega
  have d1b : (a4 : Int) * 4294967296 + (b4 : Int) = (z1 : Int) := by omega
  have d1c : IntKind.u64.wrap (z1 : Int) = (z1 : Int) := by rw [IntKind.wrap_u64]; omega
  have t1 : ((o6 : Int) == 1) = false := by rw [beq_eq_false_iff_ne]; omega
  have t2 : ((o11 : Int) == 10) = true := by rw [show (o11 : Int) = 10 by omega]; rfl
  obtain ⟨X, hX⟩ : ∃ X, (w.alloc (.cells #[.int .u8 (o : Int), .int .u8 (wh : Int), .int .u16 (a : Int), .int .u16 (b : Int), .bool false, .slice so sn sc] 51)).alloc (.cells #[.int .u64 0, .int .u64 0, .int .u32 0, .int .u16 0, .int .u16 0, .int .u64 0, .int .u32 0, .int .u8 0, .int .u64 0, .int .u64 0, .slice none 0 0] 53) = X := ⟨_, rfl⟩
  have bX : Below w.heap.size w X := hX ▸ below_one (below_alloc w _) (below_alloc _ _)
  have HAB : Hid (AB X w.heap.size ⟨o, wh, a, b, false, so, sn, sc, l⟩) := hX ▸ (AB.new w ⟨o, wh, a, b, false, so, sn, sc, l⟩).grow (below_alloc _ _)
  have HZ : Hid (MB X (w.heap.size + 1) Msg.zero (.slice none 0 0)) := by
    show X.heap[w.heap.size + 1]? = _
    have h := heap_alloc_new (w.alloc (.cells #[.int .u8 (o : Int), .int .u8 (wh : Int), .int .u16 (a : Int), .int .u16 (b : Int), .bool false, .slice so sn sc] 51)) (.cells #[.int .u64 0, .int .u64 0, .int .u32 0, .int .u16 0, .int .u16 0, .int .u64 0, .int .u32 0, .int .u8 0, .int .u64 0, .int .u64 0, .slice none 0 0] 53)
    rw [hX, sz1] at h
    exact h
  have HBX := hide bX
  have HSZ : Hid (w.heap.size + 1 < X.heap.size) := lt_of_heap HZ.out
  have f0 : X.cell? ⟨rb, k * 4, none⟩ = some (.int .u64 (qp : Int)) := by rw [bX.cell (lt_of_cell e0), e0]
  have f1 : X.cell? ⟨rb, k * 4 + 1, none⟩ = some (.int .u32 (qo : Int)) := by rw [bX.cell (lt_of_cell e1), e1]
  have f2 : X.cell? ⟨rb, k * 4 + 2, none⟩ = some (.int .u8 (qr : Int)) := by rw [bX.cell (lt_of_cell e2), e2]
  have f3 : X.cell? ⟨rb, k * 4 + 3, none⟩ = some (.int .u64 (qc : Int)) := by rw [bX.cell (lt_of_cell e3), e3]
  have HF : Hid (X.cell? ⟨rb, k * 4, none⟩ = some (.int .u64 (qp : Int)) ∧ X.cell? ⟨rb, k * 4 + 1, none⟩ = some (.int .u32 (qo : Int)) ∧ X.cell? ⟨rb, k * 4 + 2, none⟩ = some (.int .u8 (qr : Int)) ∧ X.cell? ⟨rb, k * 4 + 3, none⟩ = some (.int .u64 (qc : Int))) := ⟨f0, f1, f2, f3⟩
  obtain ⟨g0, g1, g2, g3, g4, g5⟩ := HAB.out.all
  simp only at g0 g1 g2 g3 g4 g5
  clear hr hn h0 hq h1 h3 hx hxo hk bX e0 e1 e2 e3 HM2 ho6 ho11 ha4 hb4 hb5 hpo
  go_enter Tryz.func16, Tryz.ntmps16
  go_wp2_with fail
  have hS : Hid ((X.drew.cell? ⟨w.heap.size, 0, none⟩ = some (.int .u8 (o : Int)) ∧ X.drew.cell? ⟨w.heap.size, 1, none⟩ = some (.int .u8 (wh : Int)) ∧ X.drew.cell? ⟨w.heap.size, 5, none⟩ = some (.slice so sn sc)) ∧ X.drew.cell? ⟨rb, k * 4, none⟩ = some (.int .u64 (qp : Int)) ∧ X.drew.cell? ⟨rb, k * 4 + 1, none⟩ = some (.int .u32 (qo : Int)) ∧ X.drew.cell? ⟨rb, k * 4 + 2, none⟩ = some (.int .u8 (qr : Int)) ∧ X.drew.cell? ⟨rb, k * 4 + 3, none⟩ = some (.int .u64 (qc : Int))) := ⟨⟨g0, g1, g5⟩, f0, f1, f2, f3⟩
  refine wp_region_held_drew (S := fun U => (U.cell? ⟨w.heap.size, 0, none⟩ = some (.int .u8 (o : Int)) ∧ U.cell? ⟨w.heap.size, 1, none⟩ = some (.int .u8 (wh : Int)) ∧ U.cell? ⟨w.heap.size, 5, none⟩ = some (.slice so sn sc)) ∧ U.cell? ⟨rb, k * 4, none⟩ = some (.int .u64 (qp : Int)) ∧ U.cell? ⟨rb, k * 4 + 1, none⟩ = some (.int .u32 (qo : Int)) ∧ U.cell? ⟨rb, k * 4 + 2, none⟩ = some (.int .u8 (qr : Int)) ∧ U.cell? ⟨rb, k * 4 + 3, none⟩ = some (.int .u64 (qc : Int))) (by kernel_rfl) hS.out (fun _ => ?_)
  refine wpAnyH_take (i := 0) (oi := { dst := some 6, op := Go.Op.fieldAddr 51 (Go.Operand.tmp 2) 0, type := 0, pos := "law.go:38", after := #[], guard := none }) (v := (.pointer (some ⟨w.heap.size, 0, none⟩))) rfl (by kernel_rfl) (by kernel_rfl) (by kernel_rfl) (fun _ _ _ h => h) (Or.inl ⟨by kernel_rfl, fun w hC => by go_simp⟩) hS.out ?_
  simp only [Act.put, List.setIfInBounds_toArray, List.set_cons_zero, List.set_cons_succ]
  refine wpAnyH_take (i := 1) (oi := { dst := some 7, op := Go.Op.load 5 (Go.Operand.tmp 6), type := 5, pos := "law.go:38", after := #[{ on := 0, ground := Go.Ground.data }], guard := none }) (v := (.int .u8 (o : Int))) rfl (by kernel_rfl) (by kernel_rfl) (by kernel_rfl) (fun _ _ _ h => h) (Or.inl ⟨by kernel_rfl, fun w hC => by (obtain ⟨⟨g0, g1, g5⟩, f0, f1, f2, f3⟩ := hC; go_simp)⟩) hS.out ?_
  simp only [Act.put, List.setIfInBounds_toArray, List.set_cons_zero, List.set_cons_succ]
  refine wpAnyH_take (i := 2) (oi := { dst := some 8, op := Go.Op.binOp Go.BinOp.rem 5 (Go.Operand.tmp 7) (Go.Operand.const (Go.Value.int Go.IntKind.u8 6)) 5, type := 5, pos := "law.go:38", after := #[{ on := 1, ground := Go.Ground.data }], guard := none }) (v := (.int .u8 (o6 : Int))) rfl (by kernel_rfl) (by kernel_rfl) (by kernel_rfl) (fun _ _ _ h => h) (Or.inl ⟨by kernel_rfl, fun w hC => by go_simp⟩) hS.out ?_
  simp only [Act.put, List.setIfInBounds_toArray, List.set_cons_zero, List.set_cons_succ]
  refine wpAnyH_take (i := 3) (oi := { dst := some 9, op := Go.Op.convert 5 49 (Go.Operand.tmp 8), type := 49, pos := "law.go:38", after := #[{ on := 2, ground := Go.Ground.data }], guard := none }) (v := (.int .u16 (o6 : Int))) rfl (by kernel_rfl) (by kernel_rfl) (by kernel_rfl) (fun _ _ _ h => h) (Or.inl ⟨by kernel_rfl, fun w hC => by go_simp⟩) hS.out ?_
  simp only [Act.put, List.setIfInBounds_toArray, List.set_cons_zero, List.set_cons_succ]
  refine wpAnyH_take (i := 4) (oi := { dst := some 10, op := Go.Op.binOp Go.BinOp.add 49 (Go.Operand.const (Go.Value.int Go.IntKind.u16 100)) (Go.Operand.tmp 9) 49, type := 49, pos := "law.go:38", after := #[{ on := 3, ground := Go.Ground.data }], guard := none }) (v := (.int .u16 (po : Int))) rfl (by kernel_rfl) (by kernel_rfl) (by kernel_rfl) (fun _ _ _ h => h) (Or.inl ⟨by kernel_rfl, fun w hC => by go_simp⟩) hS.out ?_
  simp only [Act.put, List.setIfInBounds_toArray, List.set_cons_zero, List.set_cons_succ]
  refine wpAnyH_take (i := 5) (oi := { dst := some 11, op := Go.Op.move (Go.Operand.tmp 1), type := 47, pos := "law.go:38", after := #[], guard := none }) (v := (.slice (some ⟨rb, 0, none⟩) n cap)) rfl (by kernel_rfl) (by kernel_rfl) (by kernel_rfl) (fun _ _ _ h => h) (Or.inl ⟨by kernel_rfl, fun w hC => by go_simp⟩) hS.out ?_
  simp only [Act.put, List.setIfInBounds_toArray, List.set_cons_zero, List.set_cons_succ]
  refine wpAnyH_take (i := 6) (oi := { dst := some 12, op := Go.Op.fieldAddr 51 (Go.Operand.tmp 2) 1, type := 0, pos := "law.go:38", after := #[], guard := none }) (v := (.pointer (some ⟨w.heap.size, 1, none⟩))) rfl (by kernel_rfl) (by kernel_rfl) (by kernel_rfl) (fun _ _ _ h => h) (Or.inl ⟨by kernel_rfl, fun w hC => by go_simp⟩) hS.out ?_
  simp only [Act.put, List.setIfInBounds_toArray, List.set_cons_zero, List.set_cons_succ]
  refine wpAnyH_take (i := 7) (oi := { dst := some 13, op := Go.Op.load 5 (Go.Operand.tmp 12), type := 5, pos := "law.go:38", after := #[{ on := 6, ground := Go.Ground.data }], guard := none }) (v := (.int .u8 (wh : Int))) rfl (by kernel_rfl) (by kernel_rfl) (by kernel_rfl) (fun _ _ _ h => h) (Or.inl ⟨by kernel_rfl, fun w hC => by (obtain ⟨⟨g0, g1, g5⟩, f0, f1, f2, f3⟩ := hC; go_simp)⟩) hS.out ?_
  simp only [Act.put, List.setIfInBounds_toArray, List.set_cons_zero, List.set_cons_succ]
  refine wpAnyH_take (i := 8) (oi := { dst := some 14, op := Go.Op.convert 5 3 (Go.Operand.tmp 13), type := 3, pos := "law.go:38", after := #[{ on := 7, ground := Go.Ground.data }], guard := none }) (v := (.int .i64 (wh : Int))) rfl (by kernel_rfl) (by kernel_rfl) (by kernel_rfl) (fun _ _ _ h => h) (Or.inl ⟨by kernel_rfl, fun w hC => by go_simp⟩) hS.out ?_
  simp only [Act.put, List.setIfInBounds_toArray, List.set_cons_zero, List.set_cons_succ]
  refine wpAnyH_take (i := 9) (oi := { dst := some 15, op := Go.Op.move (Go.Operand.tmp 1), type := 47, pos := "law.go:38", after := #[], guard := none }) (v := (.slice (some ⟨rb, 0, none⟩) n cap)) rfl (by kernel_rfl) (by kernel_rfl) (by kernel_rfl) (fun _ _ _ h => h) (Or.inl ⟨by kernel_rfl, fun w hC => by go_simp⟩) hS.out ?_
  simp only [Act.put, List.setIfInBounds_toArray, List.set_cons_zero, List.set_cons_succ]
  refine wpAnyH_take (i := 10) (oi := { dst := some 16, op := Go.Op.call { callee := Go.Callee.builtin Go.Builtin.len, args := #[Go.Operand.tmp 15], argTypes := #[47] }, type := 3, pos := "law.go:38", after := #[{ on := 9, ground := Go.Ground.data }], guard := none }) (v := (.int .i64 (n : Int))) rfl (by kernel_rfl) (by kernel_rfl) (by kernel_rfl) (fun _ _ _ h => h) (Or.inl ⟨by kernel_rfl, fun w hC => by go_simp⟩) hS.out ?_
  simp only [Act.put, List.setIfInBounds_toArray, List.set_cons_zero, List.set_cons_succ]
  refine wpAnyH_take (i := 11) (oi := { dst := some 17, op := Go.Op.binOp Go.BinOp.rem 3 (Go.Operand.tmp 14) (Go.Operand.tmp 16) 3, type := 3, pos := "law.go:38", after := #[{ on := 8, ground := Go.Ground.data }, { on := 10, ground := Go.Ground.data }], guard := none }) (v := (.int .i64 (k : Int))) rfl (by kernel_rfl) (by kernel_rfl) (by kernel_rfl) (fun _ _ _ h => h) (Or.inl ⟨by kernel_rfl, fun w hC => by go_simp⟩) hS.out ?_
  simp only [Act.put, List.setIfInBounds_toArray, List.set_cons_zero, List.set_cons_succ]
  refine wpAnyH_take (i := 12) (oi := { dst := some 18, op := Go.Op.indexAddr 47 (Go.Operand.tmp 11) (Go.Operand.tmp 17), type := 0, pos := "law.go:38", after := #[{ on := 5, ground := Go.Ground.data }, { on := 11, ground := Go.Ground.data }], guard := none }) (v := (.pointer (some ⟨rb, k * 4, none⟩))) rfl (by kernel_rfl) (by kernel_rfl) (by kernel_rfl) (fun _ _ _ h => h) (Or.inl ⟨by kernel_rfl, fun w hC => by go_simp⟩) hS.out ?_
  simp only [Act.put, List.setIfInBounds_toArray, List.set_cons_zero, List.set_cons_succ]
  refine wpAnyH_take (i := 13) (oi := { dst := some 19, op := Go.Op.load 36 (Go.Operand.tmp 18), type := 36, pos := "law.go:38", after := #[{ on := 12, ground := Go.Ground.data }], guard := none }) (v := (.agg #[.int .u64 (qp : Int), .int .u32 (qo : Int), .int .u8 (qr : Int), .int .u64 (qc : Int)])) rfl (by kernel_rfl) (by kernel_rfl) (by kernel_rfl) (fun _ _ _ h => h) (Or.inl ⟨by kernel_rfl, fun w hC => by (obtain ⟨⟨g0, g1, g5⟩, f0, f1, f2, f3⟩ := hC; go_simp)⟩) hS.out ?_
  simp only [Act.put, List.setIfInBounds_toArray, List.set_cons_zero, List.set_cons_succ]
  refine wpAnyH_take (i := 14) (oi := { dst := some 20, op := Go.Op.fieldAddr 51 (Go.Operand.tmp 2) 5, type := 0, pos := "law.go:38", after := #[], guard := none }) (v := (.pointer (some ⟨w.heap.size, 5, none⟩))) rfl (by kernel_rfl) (by kernel_rfl) (by kernel_rfl) (fun _ _ _ h => h) (Or.inl ⟨by kernel_rfl, fun w hC => by go_simp⟩) hS.out ?_
  simp only [Act.put, List.setIfInBounds_toArray, List.set_cons_zero, List.set_cons_succ]
  refine wpAnyH_take (i := 15) (oi := { dst := some 21, op := Go.Op.load 23 (Go.Operand.tmp 20), type := 23, pos := "law.go:38", after := #[{ on := 14, ground := Go.Ground.data }], guard := none }) (v := (.slice so sn sc)) rfl (by kernel_rfl) (by kernel_rfl) (by kernel_rfl) (fun _ _ _ h => h) (Or.inl ⟨by kernel_rfl, fun w hC => by (obtain ⟨⟨g0, g1, g5⟩, f0, f1, f2, f3⟩ := hC; go_simp)⟩) hS.out ?_
  simp only [Act.put, List.setIfInBounds_toArray, List.set_cons_zero, List.set_cons_succ]
  refine wpAnyH_take (i := 16) (oi := { dst := some 22, op := Go.Op.build 53 #[(3, Go.Operand.tmp 10), (5, Go.Operand.tmp 19), (7, Go.Operand.tmp 21)], type := 53, pos := "law.go:38", after := #[{ on := 4, ground := Go.Ground.data }, { on := 13, ground := Go.Ground.data }, { on := 15, ground := Go.Ground.data }], guard := none }) (v := (.agg #[.int .u64 0, .int .u64 0, .int .u32 0, .int .u16 (po : Int), .int .u16 0, .int .u64 (qp : Int), .int .u32 (qo : Int), .int .u8 (qr : Int), .int .u64 (qc : Int), .int .u64 0, .slice so sn sc])) rfl (by kernel_rfl) (by kernel_rfl) (by kernel_rfl) (fun _ _ _ h => h) (Or.inl ⟨by kernel_rfl, fun w hC => by go_simp⟩) hS.out ?_
  simp only [Act.put, List.setIfInBounds_toArray, List.set_cons_zero, List.set_cons_succ]
  refine wpAnyH_ready (rs := [17]) (by kernel_rfl) (by simp) ?_
  refine AllReadyH.cons (o := { dst := some 5, op := Go.Op.alloc 53, type := 0, pos := "law.go:38", after := #[], guard := none }) rfl (fun KK hKK => ?_) AllReadyH.nil
  go_simp
  obtain ⟨Y, hY⟩ : ∃ Y, (X.alloc (.cells #[.int .u64 0, .int .u64 0, .int .u32 0, .int .u16 0, .int .u16 0, .int .u64 0, .int .u32 0, .int .u8 0, .int .u64 0, .int .u64 0, .slice none 0 0] 53)).drew = Y := ⟨_, rfl⟩
  try rw [hY]
  have bY : Below X.heap.size X Y := hY ▸ (below_alloc X _).drew
  have HMY : Hid (MB Y X.heap.size Msg.zero (.slice none 0 0)) := hY ▸ mb_new X Msg.zero _
  have HAY := hide (HAB.out.grow bY)
  have HZY := hide (HZ.out.grow bY)
  have HFY : Hid (Y.cell? ⟨rb, k * 4, none⟩ = some (.int .u64 (qp : Int)) ∧ Y.cell? ⟨rb, k * 4 + 1, none⟩ = some (.int .u32 (qo : Int)) ∧ Y.cell? ⟨rb, k * 4 + 2, none⟩ = some (.int .u8 (qr : Int)) ∧ Y.cell? ⟨rb, k * 4 + 3, none⟩ = some (.int .u64 (qc : Int))) := ⟨by rw [bY.cell (lt_of_cell f0), f0], by rw [bY.cell (lt_of_cell f1), f1], by rw [bY.cell (lt_of_cell f2), f2], by rw [bY.cell (lt_of_cell f3), f3]⟩
  have HLT : Hid (rb < X.heap.size) := lt_of_cell f0
  have HBY := hide (below_one HBX.out bY)
  clear g0 g1 g2 g3 g4 g5 f0 f1 f2 f3 bY
  obtain ⟨g0, g1, g2, g3, g4, g5⟩ := HAY.out.all
  simp only at g0 g1 g2 g3 g4 g5
  obtain ⟨m0, hm0⟩ : ∃ m0 : Msg, (⟨0, 0, 0, po, 0, qp, qo, qr, qc, 0⟩ : Msg) = m0 := ⟨_, rfl⟩
  have hS : Hid ((Y.cell? ⟨w.heap.size, 0, none⟩ = some (.int .u8 (o : Int)) ∧ Y.cell? ⟨w.heap.size, 1, none⟩ = some (.int .u8 (wh : Int)) ∧ Y.cell? ⟨w.heap.size, 5, none⟩ = some (.slice so sn sc)) ∧ Y.cell? ⟨rb, k * 4, none⟩ = some (.int .u64 (qp : Int)) ∧ Y.cell? ⟨rb, k * 4 + 1, none⟩ = some (.int .u32 (qo : Int)) ∧ Y.cell? ⟨rb, k * 4 + 2, none⟩ = some (.int .u8 (qr : Int)) ∧ Y.cell? ⟨rb, k * 4 + 3, none⟩ = some (.int .u64 (qc : Int))) := ⟨⟨g0, g1, g5⟩, HFY.out⟩
  refine hKK.out _ _ hS.out (fun _ => ?_)
  clear hKK
  have HML := hide (HMY.out.lay (m := ⟨0, 0, 0, po, 0, qp, qo, qr, qc, 0⟩) (D := .slice so sn sc))
  have fL := foot_lay11 Y X.heap.size ⟨0, 0, 0, po, 0, qp, qo, qr, qc, 0⟩ (.slice so sn sc)
  have HAL := hide (HAY.out.foot fL (fun (e : w.heap.size = X.heap.size) => by have := HSZ.out; omega))
  have HZL := hide (HZY.out.foot fL (fun (e : w.heap.size + 1 = X.heap.size) => by have := HSZ.out; omega))
  have HBL : Hid (Below w.heap.size w (lay11 Y X.heap.size ⟨0, 0, 0, po, 0, qp, qo, qr, qc, 0⟩ (.slice so sn sc))) := (((below_foot (fun j => w.heap.size ≤ j) HBY.out).trans fL (fun j (e : j = _) => .inl (by show w.heap.size ≤ j; have := HSZ.out; omega))).below (Nat.le_refl _) (fun k e => e))
  have HFL : Hid ((lay11 Y X.heap.size ⟨0, 0, 0, po, 0, qp, qo, qr, qc, 0⟩ (.slice so sn sc)).cell? ⟨rb, k * 4, none⟩ = some (.int .u64 (qp : Int)) ∧ (lay11 Y X.heap.size ⟨0, 0, 0, po, 0, qp, qo, qr, qc, 0⟩ (.slice so sn sc)).cell? ⟨rb, k * 4 + 1, none⟩ = some (.int .u32 (qo : Int)) ∧ (lay11 Y X.heap.size ⟨0, 0, 0, po, 0, qp, qo, qr, qc, 0⟩ (.slice so sn sc)).cell? ⟨rb, k * 4 + 2, none⟩ = some (.int .u8 (qr : Int)) ∧ (lay11 Y X.heap.size ⟨0, 0, 0, po, 0, qp, qo, qr, qc, 0⟩ (.slice so sn sc)).cell? ⟨rb, k * 4 + 3, none⟩ = some (.int .u64 (qc : Int))) := by
    obtain ⟨f0, f1, f2, f3⟩ := HFY.out
    have hne : ¬ rb = X.heap.size := by have := HLT.out; omega
    exact ⟨(fL.cell _ (lt_of_cell f0) hne).trans f0, (fL.cell _ (lt_of_cell f1) hne).trans f1, (fL.cell _ (lt_of_cell f2) hne).trans f2, (fL.cell _ (lt_of_cell f3) hne).trans f3⟩
  obtain ⟨V, hV⟩ : ∃ V, lay11 Y X.heap.size ⟨0, 0, 0, po, 0, qp, qo, qr, qc, 0⟩ (.slice so sn sc) = V := ⟨_, rfl⟩
  rw [hV] at HML HAL HZL HBL HFL
  unfold lay11 at hV
  simp only [show (((0 : Nat)) : Int) = 0 from rfl] at hV
  obtain ⟨z0, z1x, z2, z3, z4, z5, z6, z7, z8, z9, z10⟩ := HMY.out.all
  simp only [Msg.zero, show (((0 : Nat)) : Int) = 0 from rfl] at z0 z1x z2 z3 z4 z5 z6 z7 z8 z9 z10
  have y0 := HMY.out.z 0
  have y1 := HMY.out.z 1
  have y2 := HMY.out.z 2
  have y3 := HMY.out.z 3
  have y4 := HMY.out.z 4
  have y5 := HMY.out.z 5
  have y6 := HMY.out.z 6
  have y7 := HMY.out.z 7
  have y8 := HMY.out.z 8
  have y9 := HMY.out.z 9
  have y10 := HMY.out.z 10
  clear g0 g1 g2 g3 g4 g5
  obtain ⟨g0, g1, g2, g3, g4, g5⟩ := HAL.out.all
  simp only at g0 g1 g2 g3 g4 g5
  refine wpAnyH_ready (rs := [18]) (by kernel_rfl) (by simp) ?_
  refine AllReadyH.cons (o := { dst := none, op := Go.Op.store 53 (Go.Operand.tmp 5) (Go.Operand.tmp 22), type := 0, pos := "law.go:38", after := #[{ on := 17, ground := Go.Ground.data }, { on := 16, ground := Go.Ground.data }, { on := 0, ground := Go.Ground.phase }, { on := 1, ground := Go.Ground.phase }, { on := 2, ground := Go.Ground.phase }, { on := 3, ground := Go.Ground.phase }, { on := 4, ground := Go.Ground.phase }, { on := 5, ground := Go.Ground.phase }, { on := 6, ground := Go.Ground.phase }, { on := 7, ground := Go.Ground.phase }, { on := 8, ground := Go.Ground.phase }, { on := 9, ground := Go.Ground.phase }, { on := 10, ground := Go.Ground.phase }, { on := 11, ground := Go.Ground.phase }, { on := 12, ground := Go.Ground.phase }, { on := 13, ground := Go.Ground.phase }, { on := 14, ground := Go.Ground.phase }, { on := 15, ground := Go.Ground.phase }, { on := 16, ground := Go.Ground.phase }, { on := 17, ground := Go.Ground.phase }], guard := none }) rfl (fun KK hKK => ?_) AllReadyH.nil
  go_simp
  have hS : Hid ((V.cell? ⟨w.heap.size, 0, none⟩ = some (.int .u8 (o : Int)) ∧ V.cell? ⟨w.heap.size, 1, none⟩ = some (.int .u8 (wh : Int)) ∧ V.cell? ⟨w.heap.size, 5, none⟩ = some (.slice so sn sc)) ∧ V.cell? ⟨rb, k * 4, none⟩ = some (.int .u64 (qp : Int)) ∧ V.cell? ⟨rb, k * 4 + 1, none⟩ = some (.int .u32 (qo : Int)) ∧ V.cell? ⟨rb, k * 4 + 2, none⟩ = some (.int .u8 (qr : Int)) ∧ V.cell? ⟨rb, k * 4 + 3, none⟩ = some (.int .u64 (qc : Int))) := ⟨⟨g0, g1, g5⟩, HFL.out⟩
  refine hKK.out _ _ hS.out (fun _ => ?_)
  clear hKK
  refine wpAnyH_done (by kernel_rfl) ?_ _
  clear z0 z1x z2 z3 z4 z5 z6 z7 z8 z9 z10 y0 y1 y2 y3 y4 y5 y6 y7 y8 y9 y10
  have HMB := hide HML.out
  have w0a := HMB.out.z 9
  have w0b := HMB.out.z 3
  obtain ⟨q00, q01, q02, q03, q04, q05, q06, q07, q08, q09, q010⟩ := HMB.out.all
  simp only [show (((0 : Nat)) : Int) = 0 from rfl] at q00 q01 q02 q04 q09
  obtain ⟨g00, g01, g02, g03, g04, g05⟩ := HAL.out.all
  simp only at g00 g01 g02 g03 g04 g05
  have f1x := foot_one V X.heap.size 9 (.int .u64 ((a4 : Nat) : Int))
  have HMB := hide (HMB.out.put9 (a4))
  have HAL := hide (HAL.out.foot f1x (fun (e : w.heap.size = X.heap.size) => by have := HSZ.out; omega))
  have HZL := hide (HZL.out.foot f1x (fun (e : w.heap.size + 1 = X.heap.size) => by have := HSZ.out; omega))
  have HBL : Hid (Below w.heap.size w _) := (((below_foot (fun j => w.heap.size ≤ j) HBL.out).trans f1x (fun j (e : j = _) => .inl (by show w.heap.size ≤ j; have := HSZ.out; omega))).below (Nat.le_refl _) (fun k e => e))
  obtain ⟨U1, hU1⟩ : ∃ U, V.setCell ⟨X.heap.size, 9, none⟩ (.int .u64 ((a4 : Nat) : Int)) = U := ⟨_, rfl⟩
  rw [hU1] at HMB HAL HZL HBL
  clear f1x
  have w1a := HMB.out.z 9
  have w1b := HMB.out.z 3
  obtain ⟨q10, q11, q12, q13, q14, q15, q16, q17, q18, q19, q110⟩ := HMB.out.all
  simp only [show (((0 : Nat)) : Int) = 0 from rfl] at q10 q11 q12 q14 q19
  obtain ⟨g10, g11, g12, g13, g14, g15⟩ := HAL.out.all
  simp only at g10 g11 g12 g13 g14 g15
  have f2x := foot_one U1 X.heap.size 3 (.int .u16 5)
  have HMB : Hid (MB (U1.setCell ⟨X.heap.size, 3, none⟩ (.int .u16 5)) X.heap.size _ (.slice so sn sc)) := hide (HMB.out.put3 5)
  have HAL := hide (HAL.out.foot f2x (fun (e : w.heap.size = X.heap.size) => by have := HSZ.out; omega))
  have HZL := hide (HZL.out.foot f2x (fun (e : w.heap.size + 1 = X.heap.size) => by have := HSZ.out; omega))
  have HBL : Hid (Below w.heap.size w _) := (((below_foot (fun j => w.heap.size ≤ j) HBL.out).trans f2x (fun j (e : j = _) => .inl (by show w.heap.size ≤ j; have := HSZ.out; omega))).below (Nat.le_refl _) (fun k e => e))
  obtain ⟨U2, hU2⟩ : ∃ U, U1.setCell ⟨X.heap.size, 3, none⟩ (.int .u16 5) = U := ⟨_, rfl⟩
  rw [hU2] at HMB HAL HZL HBL
  clear f2x
  have w2a := HMB.out.z 9
  have w2b := HMB.out.z 3
  obtain ⟨q20, q21, q22, q23, q24, q25, q26, q27, q28, q29, q210⟩ := HMB.out.all
  simp only [show (((0 : Nat)) : Int) = 0 from rfl] at q20 q21 q22 q24 q29
  obtain ⟨g20, g21, g22, g23, g24, g25⟩ := HAL.out.all
  simp only at g20 g21 g22 g23 g24 g25
  simp only [show (((5 : Nat)) : Int) = 5 from rfl] at q23
  have HFIN : Hid (m2 = ⟨0, 0, 0, 5, 0, qp, qo, qr, qc, a4⟩) := by show _ = _; rw [HMF.out]
  have HZZ := hide (HZL.out.lay (m := ⟨0, 0, 0, 5, 0, qp, qo, qr, qc, a4⟩) (D := .slice so sn sc))
  have fZ := foot_lay11 U2 (w.heap.size + 1) ⟨0, 0, 0, 5, 0, qp, qo, qr, qc, a4⟩ (.slice so sn sc)
  have HBZ : Hid (Below w.heap.size w (lay11 U2 (w.heap.size + 1) ⟨0, 0, 0, 5, 0, qp, qo, qr, qc, a4⟩ (.slice so sn sc))) := (((below_foot (fun j => w.heap.size ≤ j) HBL.out).trans fZ (fun j (e : j = _) => .inl (by show w.heap.size ≤ j; omega))).below (Nat.le_refl _) (fun k e => e))
  obtain ⟨wz, hwz⟩ : ∃ wz, lay11 U2 (w.heap.size + 1) ⟨0, 0, 0, 5, 0, qp, qo, qr, qc, a4⟩ (.slice so sn sc) = wz := ⟨_, rfl⟩
  rw [hwz] at HZZ HBZ
  unfold lay11 at hwz
  simp only [show (((0 : Nat)) : Int) = 0 from rfl, show (((5 : Nat)) : Int) = 5 from rfl] at hwz
  obtain ⟨r0, r1, r2, r3, r4, r5, r6, r7, r8, r9, r10⟩ := HZL.out.all
  simp only [Msg.zero, show (((0 : Nat)) : Int) = 0 from rfl] at r0 r1 r2 r3 r4 r5 r6 r7 r8 r9 r10
  have s0 := HZL.out.z 0
  have s1 := HZL.out.z 1
  have s2 := HZL.out.z 2
  have s3 := HZL.out.z 3
  have s4 := HZL.out.z 4
  have s5 := HZL.out.z 5
  have s6 := HZL.out.z 6
  have s7 := HZL.out.z 7
  have s8 := HZL.out.z 8
  have s9 := HZL.out.z 9
  have s10 := HZL.out.z 10
  obtain ⟨v0, v1, v2, v3, v4, v5, v6, v7, v8, v9, v10⟩ := HZZ.out.all
  simp only [show (((0 : Nat)) : Int) = 0 from rfl] at v0 v1 v2 v4
  simp only [show (((5 : Nat)) : Int) = 5 from rfl] at v3
  go_wp2
  refine bodyPost_ret (by simp [results, Tryz.results16, go_sem, v0, v1, v2, v3, v4, v5, v6, v7, v8, v9, v10]; rfl) rfl ?_
  rw [HFIN.out]
  exact ⟨rfl, HBZ.out⟩
end
end Go.Proofs.YtpbkjmkdciiccaaGreatDoor
namespace Go.Proofs.YtpbkjmkdciiccaaGreatDoor
section
open Go.RowKit
set_option maxRecDepth 20000 in
set_option maxHeartbeats 12800000 in
theorem msg_010 (x : Ac) (hx : x.ok) {B n : Nat} {v : Value} {L : List Cp} (w : World) (hr : w.ownsRow B 36 4 v n (cellsC L)) (hn : n = L.length) (h0 : 0 < n) (q : Cp) (hq : L.getD (x.wh % n) Cp.zero = q) (h1 : x.o % 6 ≠ 1) (h2 : x.fr = true) (h3 : x.o % 11 ≠ 10) (m2 : Msg) (hm2 : msgF x q = m2) :
    Calls Tryz.prog 16 #[.agg #[.int .u8 (x.o : Int), .int .u8 (x.wh : Int), .int .u16 (x.a : Int), .int .u16 (x.b : Int), .bool x.fr, .slice x.so x.sn x.sc], v] w fun e w' => e = .returned (.agg #[.int .u64 m2.ta, .int .u64 m2.rp, .int .u32 m2.id, .int .u16 m2.op, .int .u16 m2.st, .int .u64 m2.p, .int .u32 m2.o, .int .u8 m2.r, .int .u64 m2.c, .int .u64 m2.ar, .slice x.so x.sn x.sc]) ∧ Below w.heap.size w w' := by
  have HM2 := hide hm2
  clear hm2
  obtain ⟨o, wh, a, b, fr, so, sn, sc, l⟩ := x
  obtain ⟨qp, qo, qr, qc⟩ := q
  simp only at h1 h2 h3 hq hx HM2 ⊢
  subst h2
  obtain ⟨k, hk⟩ : ∃ k, wh % n = k := ⟨_, rfl⟩
  have hkn : k < n := by rw [← hk]; exact Nat.mod_lt _ h0
  rw [hk] at hq
  obtain ⟨rb, cap, rfl, hnc, hcm, e0, e1, e2, e3⟩ := owns_cap hr hn k hkn qp qo qr qc hq
  unfold maxLen at hcm
  have hxo : o ≤ 255 ∧ wh ≤ 255 ∧ a ≤ 65535 ∧ b ≤ 65535 := hx
  have hk1 : (wh : Int) % (n : Int) = (k : Int) := by rw [← hk]; rfl
  have hk2 : (wh : Int).tmod (n : Int) = (k : Int) := by rw [Int.tmod_eq_emod_of_nonneg (by omega)]; exact hk1
  have hn0 : ¬ ((n : Int) = 0) := by omega
  have hn00 : ((n : Int) == 0) = false := by simp; omega
  have hn000 : ¬ n = 0 := by omega
  have hkl : (k : Int) < (n : Int) := by omega
  have hk0 : (0 : Int) ≤ (k : Int) := by omega
  have hwh : (wh : Int) ≤ 255 := by omega
  have hwk : IntKind.i64.wrap (wh : Int) = (wh : Int) := by rw [IntKind.wrap_i64]; omega
  have hwk2 : IntKind.i64.wrap (k : Int) = (k : Int) := by rw [IntKind.wrap_i64]; omega
  obtain ⟨o6, ho6⟩ : ∃ o6, o % 6 = o6 := ⟨_, rfl⟩
  have p1 : (o : Int) % 6 = (o6 : Int) := by omega
  have p2 : (o : Int).tmod 6 = (o6 : Int) := by rw [Int.tmod_eq_emod_of_nonneg (by omega)]; exact p1
  have p3 : IntKind.u16.wrap (o6 : Int) = (o6 : Int) := by rw [IntKind.wrap_u16]; omega
  have p3b : IntKind.u8.wrap (o6 : Int) = (o6 : Int) := by rw [IntKind.wrap_u8]; omega
  obtain ⟨po, hpo⟩ : ∃ po, 100 + o6 = po := ⟨_, rfl⟩
  have p4 : IntKind.u16.wrap (100 + (o6 : Int)) = (po : Int) := by rw [IntKind.wrap_u16]; omega
  obtain ⟨o11, ho11⟩ : ∃ o11, o % 11 = o11 := ⟨_, rfl⟩
  have p5 : (o : Int) % 11 = (o11 : Int) := by omega
  have p6 : (o : Int).tmod 11 = (o11 : Int) := by rw [Int.tmod_eq_emod_of_nonneg (by omega)]; exact p5
  have p6b : IntKind.u8.wrap (o11 : Int) = (o11 : Int) := by rw [IntKind.wrap_u8]; omega
  obtain ⟨a4, ha4⟩ : ∃ a4, a % 400 = a4 := ⟨_, rfl⟩
  have a1 : (a : Int) % 400 = (a4 : Int) := by omega
  have a2 : (a : Int).tmod 400 = (a4 : Int) := by rw [Int.tmod_eq_emod_of_nonneg (by omega)]; exact a1
  have a3 : IntKind.u64.wrap (a4 : Int) = (a4 : Int) := by rw [IntKind.wrap_u64]; omega
  have a3b : IntKind.u16.wrap (a4 : Int) = (a4 : Int) := by rw [IntKind.wrap_u16]; omega
  obtain ⟨b4, hb4⟩ : ∃ b4, b % 400 = b4 := ⟨_, rfl⟩
  have b1 : (b : Int) % 400 = (b4 : Int) := by omega
  have b2 : (b : Int).tmod 400 = (b4 : Int) := by rw [Int.tmod_eq_emod_of_nonneg (by omega)]; exact b1
  have b3 : IntKind.u64.wrap (b4 : Int) = (b4 : Int) := by rw [IntKind.wrap_u64]; omega
  have b3b : IntKind.u16.wrap (b4 : Int) = (b4 : Int) := by rw [IntKind.wrap_u16]; omega
  obtain ⟨b5, hb5⟩ : ∃ b5, b % 33 = b5 := ⟨_, rfl⟩
  have c1 : (b : Int) % 33 = (b5 : Int) := by omega
  have c2 : (b : Int).tmod 33 = (b5 : Int) := by rw [Int.tmod_eq_emod_of_nonneg (by omega)]; exact c1
  have c3 : IntKind.u16.wrap (31 + (b5 : Int)) = ((31 + b5 : Nat) : Int) := by rw [IntKind.wrap_u16]; omega
  have c3b : IntKind.u16.wrap (b5 : Int) = (b5 : Int) := by rw [IntKind.wrap_u16]; omega
  have c4 : b5 < 33 := by omega
  have HMF : Hid (m2 = ⟨0, 0, 0, po, 0, qp, qo, qr, qc, (a4 + 2 ^ (31 + b5)) % 18446744073709551616⟩) := by
    show m2 = _
    rw [← HM2.out]
    unfold msgF arM ar1M opM
    simp only
    rw [if_neg h3, if_pos trivial, if_neg h1]
    simp only [ho6, hpo, ha4, hb5]
  obtain ⟨z1, hz1⟩ : ∃ z1, a4 * 4294967296 + b4 = z1 := ⟨_, rfl⟩
  have d1 : IntKind.u64.wrap (IntKind.u64.wrap ((a4 : Int) * 4294967296) + (b4 : Int)) = (z1 : Int) := by rw [IntKind.wrap_u64, IntKind.wrap_u64]; omega
  have d1b : (a4 : Int) * 4294967296 + (b4 : Int) = (z1 : Int) := by omega
  have d1c : IntKind.u64.wrap (z1 : Int) = (z1 : Int) := by rw [IntKind.wrap_u64]; omega
  have t1 : ((o6 : Int) == 1) = false := by rw [beq_eq_false_iff_ne]; omega
  have t2 : ((o11 : Int) == 10) = false := by rw [beq_eq_false_iff_ne]; omega
  obtain ⟨X, hX⟩ : ∃ X, (w.alloc (.cells #[.int .u8 (o : Int), .int .u8 (wh : Int), .int .u16 (a : Int), .int .u16 (b : Int), .bool true, .slice so sn sc] 51)).alloc (.cells #[.int .u64 0, .int .u64 0, .int .u32 0, .int .u16 0, .int .u16 0, .int .u64 0, .int .u32 0, .int .u8 0, .int .u64 0, .int .u64 0, .slice none 0 0] 53) = X := ⟨_, rfl⟩
  have bX : Below w.heap.size w X := hX ▸ below_one (below_alloc w _) (below_alloc _ _)
  have HAB : Hid (AB X w.heap.size ⟨o, wh, a, b, true, so, sn, sc, l⟩) := hX ▸ (AB.new w ⟨o, wh, a, b, true, so, sn, sc, l⟩).grow (below_alloc _ _)
  have HZ : Hid (MB X (w.heap.size + 1) Msg.zero (.slice none 0 0)) := by
    show X.heap[w.heap.size + 1]? = _
    have h := heap_alloc_new (w.alloc (.cells #[.int .u8 (o : Int), .int .u8 (wh : Int), .int .u16 (a : Int), .int .u16 (b : Int), .bool true, .slice so sn sc] 51)) (.cells #[.int .u64 0, .int .u64 0, .int .u32 0, .int .u16 0, .int .u16 0, .int .u64 0, .int .u32 0, .int .u8 0, .int .u64 0, .int .u64 0, .slice none 0 0] 53)
    rw [hX, sz1] at h
    exact h
  have HBX := hide bX
  have HSZ : Hid (w.heap.size + 1 < X.heap.size) := lt_of_heap HZ.out
  have f0 : X.cell? ⟨rb, k * 4, none⟩ = some (.int .u64 (qp : Int)) := by rw [bX.cell (lt_of_cell e0), e0]
  have f1 : X.cell? ⟨rb, k * 4 + 1, none⟩ = some (.int .u32 (qo : Int)) := by rw [bX.cell (lt_of_cell e1), e1]
  have f2 : X.cell? ⟨rb, k * 4 + 2, none⟩ = some (.int .u8 (qr : Int)) := by rw [bX.cell (lt_of_cell e2), e2]
  have f3 : X.cell? ⟨rb, k * 4 + 3, none⟩ = some (.int .u64 (qc : Int)) := by rw [bX.cell (lt_of_cell e3), e3]
  have HF : Hid (X.cell? ⟨rb, k * 4, none⟩ = some (.int .u64 (qp : Int)) ∧ X.cell? ⟨rb, k * 4 + 1, none⟩ = some (.int .u32 (qo : Int)) ∧ X.cell? ⟨rb, k * 4 + 2, none⟩ = some (.int .u8 (qr : Int)) ∧ X.cell? ⟨rb, k * 4 + 3, none⟩ = some (.int .u64 (qc : Int))) := ⟨f0, f1, f2, f3⟩
  obtain ⟨g0, g1, g2, g3, g4, g5⟩ := HAB.out.all
  simp only at g0 g1 g2 g3 g4 g5
  clear hr hn h0 hq h1 h3 hx hxo hk bX e0 e1 e2 e3 HM2 ho6 ho11 ha4 hb4 hb5 hpo
  go_enter Tryz.func16, Tryz.ntmps16
  go_wp2_with fail
  have hS : Hid ((X.drew.cell? ⟨w.heap.size, 0, none⟩ = some (.int .u8 (o : Int)) ∧ X.drew.cell? ⟨w.heap.size, 1, none⟩ = some (.int .u8 (wh : Int)) ∧ X.drew.cell? ⟨w.heap.size, 5, none⟩ = some (.slice so sn sc)) ∧ X.drew.cell? ⟨rb, k * 4, none⟩ = some (.int .u64 (qp : Int)) ∧ X.drew.cell? ⟨rb, k * 4 + 1, none⟩ = some (.int .u32 (qo : Int)) ∧ X.drew.cell? ⟨rb, k * 4 + 2, none⟩ = some (.int .u8 (qr : Int)) ∧ X.drew.cell? ⟨rb, k * 4 + 3, none⟩ = some (.int .u64 (qc : Int))) := ⟨⟨g0, g1, g5⟩, f0, f1, f2, f3⟩
  refine wp_region_held_drew (S := fun U => (U.cell? ⟨w.heap.size, 0, none⟩ = some (.int .u8 (o : Int)) ∧ U.cell? ⟨w.heap.size, 1, none⟩ = some (.int .u8 (wh : Int)) ∧ U.cell? ⟨w.heap.size, 5, none⟩ = some (.slice so sn sc)) ∧ U.cell? ⟨rb, k * 4, none⟩ = some (.int .u64 (qp : Int)) ∧ U.cell? ⟨rb, k * 4 + 1, none⟩ = some (.int .u32 (qo : Int)) ∧ U.cell? ⟨rb, k * 4 + 2, none⟩ = some (.int .u8 (qr : Int)) ∧ U.cell? ⟨rb, k * 4 + 3, none⟩ = some (.int .u64 (qc : Int))) (by kernel_rfl) hS.out (fun _ => ?_)
  refine wpAnyH_take (i := 0) (oi := { dst := some 6, op := Go.Op.fieldAddr 51 (Go.Operand.tmp 2) 0, type := 0, pos := "law.go:38", after := #[], guard := none }) (v := (.pointer (some ⟨w.heap.size, 0, none⟩))) rfl (by kernel_rfl) (by kernel_rfl) (by kernel_rfl) (fun _ _ _ h => h) (Or.inl ⟨by kernel_rfl, fun w hC => by go_simp⟩) hS.out ?_
  simp only [Act.put, List.setIfInBounds_toArray, List.set_cons_zero, List.set_cons_succ]
  refine wpAnyH_take (i := 1) (oi := { dst := some 7, op := Go.Op.load 5 (Go.Operand.tmp 6), type := 5, pos := "law.go:38", after := #[{ on := 0, ground := Go.Ground.data }], guard := none }) (v := (.int .u8 (o : Int))) rfl (by kernel_rfl) (by kernel_rfl) (by kernel_rfl) (fun _ _ _ h => h) (Or.inl ⟨by kernel_rfl, fun w hC => by (obtain ⟨⟨g0, g1, g5⟩, f0, f1, f2, f3⟩ := hC; go_simp)⟩) hS.out ?_
  simp only [Act.put, List.setIfInBounds_toArray, List.set_cons_zero, List.set_cons_succ]
  refine wpAnyH_take (i := 2) (oi := { dst := some 8, op := Go.Op.binOp Go.BinOp.rem 5 (Go.Operand.tmp 7) (Go.Operand.const (Go.Value.int Go.IntKind.u8 6)) 5, type := 5, pos := "law.go:38", after := #[{ on := 1, ground := Go.Ground.data }], guard := none }) (v := (.int .u8 (o6 : Int))) rfl (by kernel_rfl) (by kernel_rfl) (by kernel_rfl) (fun _ _ _ h => h) (Or.inl ⟨by kernel_rfl, fun w hC => by go_simp⟩) hS.out ?_
  simp only [Act.put, List.setIfInBounds_toArray, List.set_cons_zero, List.set_cons_succ]
  refine wpAnyH_take (i := 3) (oi := { dst := some 9, op := Go.Op.convert 5 49 (Go.Operand.tmp 8), type := 49, pos := "law.go:38", after := #[{ on := 2, ground := Go.Ground.data }], guard := none }) (v := (.int .u16 (o6 : Int))) rfl (by kernel_rfl) (by kernel_rfl) (by kernel_rfl) (fun _ _ _ h => h) (Or.inl ⟨by kernel_rfl, fun w hC => by go_simp⟩) hS.out ?_
  simp only [Act.put, List.setIfInBounds_toArray, List.set_cons_zero, List.set_cons_succ]
  refine wpAnyH_take (i := 4) (oi := { dst := some 10, op := Go.Op.binOp Go.BinOp.add 49 (Go.Operand.const (Go.Value.int Go.IntKind.u16 100)) (Go.Operand.tmp 9) 49, type := 49, pos := "law.go:38", after := #[{ on := 3, ground := Go.Ground.data }], guard := none }) (v := (.int .u16 (po : Int))) rfl (by kernel_rfl) (by kernel_rfl) (by kernel_rfl) (fun _ _ _ h => h) (Or.inl ⟨by kernel_rfl, fun w hC => by go_simp⟩) hS.out ?_
  simp only [Act.put, List.setIfInBounds_toArray, List.set_cons_zero, List.set_cons_succ]
  refine wpAnyH_take (i := 5) (oi := { dst := some 11, op := Go.Op.move (Go.Operand.tmp 1), type := 47, pos := "law.go:38", after := #[], guard := none }) (v := (.slice (some ⟨rb, 0, none⟩) n cap)) rfl (by kernel_rfl) (by kernel_rfl) (by kernel_rfl) (fun _ _ _ h => h) (Or.inl ⟨by kernel_rfl, fun w hC => by go_simp⟩) hS.out ?_
  simp only [Act.put, List.setIfInBounds_toArray, List.set_cons_zero, List.set_cons_succ]
  refine wpAnyH_take (i := 6) (oi := { dst := some 12, op := Go.Op.fieldAddr 51 (Go.Operand.tmp 2) 1, type := 0, pos := "law.go:38", after := #[], guard := none }) (v := (.pointer (some ⟨w.heap.size, 1, none⟩))) rfl (by kernel_rfl) (by kernel_rfl) (by kernel_rfl) (fun _ _ _ h => h) (Or.inl ⟨by kernel_rfl, fun w hC => by go_simp⟩) hS.out ?_
  simp only [Act.put, List.setIfInBounds_toArray, List.set_cons_zero, List.set_cons_succ]
  refine wpAnyH_take (i := 7) (oi := { dst := some 13, op := Go.Op.load 5 (Go.Operand.tmp 12), type := 5, pos := "law.go:38", after := #[{ on := 6, ground := Go.Ground.data }], guard := none }) (v := (.int .u8 (wh : Int))) rfl (by kernel_rfl) (by kernel_rfl) (by kernel_rfl) (fun _ _ _ h => h) (Or.inl ⟨by kernel_rfl, fun w hC => by (obtain ⟨⟨g0, g1, g5⟩, f0, f1, f2, f3⟩ := hC; go_simp)⟩) hS.out ?_
  simp only [Act.put, List.setIfInBounds_toArray, List.set_cons_zero, List.set_cons_succ]
  refine wpAnyH_take (i := 8) (oi := { dst := some 14, op := Go.Op.convert 5 3 (Go.Operand.tmp 13), type := 3, pos := "law.go:38", after := #[{ on := 7, ground := Go.Ground.data }], guard := none }) (v := (.int .i64 (wh : Int))) rfl (by kernel_rfl) (by kernel_rfl) (by kernel_rfl) (fun _ _ _ h => h) (Or.inl ⟨by kernel_rfl, fun w hC => by go_simp⟩) hS.out ?_
  simp only [Act.put, List.setIfInBounds_toArray, List.set_cons_zero, List.set_cons_succ]
  refine wpAnyH_take (i := 9) (oi := { dst := some 15, op := Go.Op.move (Go.Operand.tmp 1), type := 47, pos := "law.go:38", after := #[], guard := none }) (v := (.slice (some ⟨rb, 0, none⟩) n cap)) rfl (by kernel_rfl) (by kernel_rfl) (by kernel_rfl) (fun _ _ _ h => h) (Or.inl ⟨by kernel_rfl, fun w hC => by go_simp⟩) hS.out ?_
  simp only [Act.put, List.setIfInBounds_toArray, List.set_cons_zero, List.set_cons_succ]
  refine wpAnyH_take (i := 10) (oi := { dst := some 16, op := Go.Op.call { callee := Go.Callee.builtin Go.Builtin.len, args := #[Go.Operand.tmp 15], argTypes := #[47] }, type := 3, pos := "law.go:38", after := #[{ on := 9, ground := Go.Ground.data }], guard := none }) (v := (.int .i64 (n : Int))) rfl (by kernel_rfl) (by kernel_rfl) (by kernel_rfl) (fun _ _ _ h => h) (Or.inl ⟨by kernel_rfl, fun w hC => by go_simp⟩) hS.out ?_
  simp only [Act.put, List.setIfInBounds_toArray, List.set_cons_zero, List.set_cons_succ]
  refine wpAnyH_take (i := 11) (oi := { dst := some 17, op := Go.Op.binOp Go.BinOp.rem 3 (Go.Operand.tmp 14) (Go.Operand.tmp 16) 3, type := 3, pos := "law.go:38", after := #[{ on := 8, ground := Go.Ground.data }, { on := 10, ground := Go.Ground.data }], guard := none }) (v := (.int .i64 (k : Int))) rfl (by kernel_rfl) (by kernel_rfl) (by kernel_rfl) (fun _ _ _ h => h) (Or.inl ⟨by kernel_rfl, fun w hC => by go_simp⟩) hS.out ?_
  simp only [Act.put, List.setIfInBounds_toArray, List.set_cons_zero, List.set_cons_succ]
  refine wpAnyH_take (i := 12) (oi := { dst := some 18, op := Go.Op.indexAddr 47 (Go.Operand.tmp 11) (Go.Operand.tmp 17), type := 0, pos := "law.go:38", after := #[{ on := 5, ground := Go.Ground.data }, { on := 11, ground := Go.Ground.data }], guard := none }) (v := (.pointer (some ⟨rb, k * 4, none⟩))) rfl (by kernel_rfl) (by kernel_rfl) (by kernel_rfl) (fun _ _ _ h => h) (Or.inl ⟨by kernel_rfl, fun w hC => by go_simp⟩) hS.out ?_
  simp only [Act.put, List.setIfInBounds_toArray, List.set_cons_zero, List.set_cons_succ]
  refine wpAnyH_take (i := 13) (oi := { dst := some 19, op := Go.Op.load 36 (Go.Operand.tmp 18), type := 36, pos := "law.go:38", after := #[{ on := 12, ground := Go.Ground.data }], guard := none }) (v := (.agg #[.int .u64 (qp : Int), .int .u32 (qo : Int), .int .u8 (qr : Int), .int .u64 (qc : Int)])) rfl (by kernel_rfl) (by kernel_rfl) (by kernel_rfl) (fun _ _ _ h => h) (Or.inl ⟨by kernel_rfl, fun w hC => by (obtain ⟨⟨g0, g1, g5⟩, f0, f1, f2, f3⟩ := hC; go_simp)⟩) hS.out ?_
  simp only [Act.put, List.setIfInBounds_toArray, List.set_cons_zero, List.set_cons_succ]
  refine wpAnyH_take (i := 14) (oi := { dst := some 20, op := Go.Op.fieldAddr 51 (Go.Operand.tmp 2) 5, type := 0, pos := "law.go:38", after := #[], guard := none }) (v := (.pointer (some ⟨w.heap.size, 5, none⟩))) rfl (by kernel_rfl) (by kernel_rfl) (by kernel_rfl) (fun _ _ _ h => h) (Or.inl ⟨by kernel_rfl, fun w hC => by go_simp⟩) hS.out ?_
  simp only [Act.put, List.setIfInBounds_toArray, List.set_cons_zero, List.set_cons_succ]
  refine wpAnyH_take (i := 15) (oi := { dst := some 21, op := Go.Op.load 23 (Go.Operand.tmp 20), type := 23, pos := "law.go:38", after := #[{ on := 14, ground := Go.Ground.data }], guard := none }) (v := (.slice so sn sc)) rfl (by kernel_rfl) (by kernel_rfl) (by kernel_rfl) (fun _ _ _ h => h) (Or.inl ⟨by kernel_rfl, fun w hC => by (obtain ⟨⟨g0, g1, g5⟩, f0, f1, f2, f3⟩ := hC; go_simp)⟩) hS.out ?_
  simp only [Act.put, List.setIfInBounds_toArray, List.set_cons_zero, List.set_cons_succ]
  refine wpAnyH_take (i := 16) (oi := { dst := some 22, op := Go.Op.build 53 #[(3, Go.Operand.tmp 10), (5, Go.Operand.tmp 19), (7, Go.Operand.tmp 21)], type := 53, pos := "law.go:38", after := #[{ on := 4, ground := Go.Ground.data }, { on := 13, ground := Go.Ground.data }, { on := 15, ground := Go.Ground.data }], guard := none }) (v := (.agg #[.int .u64 0, .int .u64 0, .int .u32 0, .int .u16 (po : Int), .int .u16 0, .int .u64 (qp : Int), .int .u32 (qo : Int), .int .u8 (qr : Int), .int .u64 (qc : Int), .int .u64 0, .slice so sn sc])) rfl (by kernel_rfl) (by kernel_rfl) (by kernel_rfl) (fun _ _ _ h => h) (Or.inl ⟨by kernel_rfl, fun w hC => by go_simp⟩) hS.out ?_
  simp only [Act.put, List.setIfInBounds_toArray, List.set_cons_zero, List.set_cons_succ]
  refine wpAnyH_ready (rs := [17]) (by kernel_rfl) (by simp) ?_
  refine AllReadyH.cons (o := { dst := some 5, op := Go.Op.alloc 53, type := 0, pos := "law.go:38", after := #[], guard := none }) rfl (fun KK hKK => ?_) AllReadyH.nil
  go_simp
  obtain ⟨Y, hY⟩ : ∃ Y, (X.alloc (.cells #[.int .u64 0, .int .u64 0, .int .u32 0, .int .u16 0, .int .u16 0, .int .u64 0, .int .u32 0, .int .u8 0, .int .u64 0, .int .u64 0, .slice none 0 0] 53)).drew = Y := ⟨_, rfl⟩
  try rw [hY]
  have bY : Below X.heap.size X Y := hY ▸ (below_alloc X _).drew
  have HMY : Hid (MB Y X.heap.size Msg.zero (.slice none 0 0)) := hY ▸ mb_new X Msg.zero _
  have HAY := hide (HAB.out.grow bY)
  have HZY := hide (HZ.out.grow bY)
  have HFY : Hid (Y.cell? ⟨rb, k * 4, none⟩ = some (.int .u64 (qp : Int)) ∧ Y.cell? ⟨rb, k * 4 + 1, none⟩ = some (.int .u32 (qo : Int)) ∧ Y.cell? ⟨rb, k * 4 + 2, none⟩ = some (.int .u8 (qr : Int)) ∧ Y.cell? ⟨rb, k * 4 + 3, none⟩ = some (.int .u64 (qc : Int))) := ⟨by rw [bY.cell (lt_of_cell f0), f0], by rw [bY.cell (lt_of_cell f1), f1], by rw [bY.cell (lt_of_cell f2), f2], by rw [bY.cell (lt_of_cell f3), f3]⟩
  have HLT : Hid (rb < X.heap.size) := lt_of_cell f0
  have HBY := hide (below_one HBX.out bY)
  clear g0 g1 g2 g3 g4 g5 f0 f1 f2 f3 bY
  obtain ⟨g0, g1, g2, g3, g4, g5⟩ := HAY.out.all
  simp only at g0 g1 g2 g3 g4 g5
  obtain ⟨m0, hm0⟩ : ∃ m0 : Msg, (⟨0, 0, 0, po, 0, qp, qo, qr, qc, 0⟩ : Msg) = m0 := ⟨_, rfl⟩
  have hS : Hid ((Y.cell? ⟨w.heap.size, 0, none⟩ = some (.int .u8 (o : Int)) ∧ Y.cell? ⟨w.heap.size, 1, none⟩ = some (.int .u8 (wh : Int)) ∧ Y.cell? ⟨w.heap.size, 5, none⟩ = some (.slice so sn sc)) ∧ Y.cell? ⟨rb, k * 4, none⟩ = some (.int .u64 (qp : Int)) ∧ Y.cell? ⟨rb, k * 4 + 1, none⟩ = some (.int .u32 (qo : Int)) ∧ Y.cell? ⟨rb, k * 4 + 2, none⟩ = some (.int .u8 (qr : Int)) ∧ Y.cell? ⟨rb, k * 4 + 3, none⟩ = some (.int .u64 (qc : Int))) := ⟨⟨g0, g1, g5⟩, HFY.out⟩
  refine hKK.out _ _ hS.out (fun _ => ?_)
  clear hKK
  have HML := hide (HMY.out.lay (m := ⟨0, 0, 0, po, 0, qp, qo, qr, qc, 0⟩) (D := .slice so sn sc))
  have fL := foot_lay11 Y X.heap.size ⟨0, 0, 0, po, 0, qp, qo, qr, qc, 0⟩ (.slice so sn sc)
  have HAL := hide (HAY.out.foot fL (fun (e : w.heap.size = X.heap.size) => by have := HSZ.out; omega))
  have HZL := hide (HZY.out.foot fL (fun (e : w.heap.size + 1 = X.heap.size) => by have := HSZ.out; omega))
  have HBL : Hid (Below w.heap.size w (lay11 Y X.heap.size ⟨0, 0, 0, po, 0, qp, qo, qr, qc, 0⟩ (.slice so sn sc))) := (((below_foot (fun j => w.heap.size ≤ j) HBY.out).trans fL (fun j (e : j = _) => .inl (by show w.heap.size ≤ j; have := HSZ.out; omega))).below (Nat.le_refl _) (fun k e => e))
  have HFL : Hid ((lay11 Y X.heap.size ⟨0, 0, 0, po, 0, qp, qo, qr, qc, 0⟩ (.slice so sn sc)).cell? ⟨rb, k * 4, none⟩ = some (.int .u64 (qp : Int)) ∧ (lay11 Y X.heap.size ⟨0, 0, 0, po, 0, qp, qo, qr, qc, 0⟩ (.slice so sn sc)).cell? ⟨rb, k * 4 + 1, none⟩ = some (.int .u32 (qo : Int)) ∧ (lay11 Y X.heap.size ⟨0, 0, 0, po, 0, qp, qo, qr, qc, 0⟩ (.slice so sn sc)).cell? ⟨rb, k * 4 + 2, none⟩ = some (.int .u8 (qr : Int)) ∧ (lay11 Y X.heap.size ⟨0, 0, 0, po, 0, qp, qo, qr, qc, 0⟩ (.slice so sn sc)).cell? ⟨rb, k * 4 + 3, none⟩ = some (.int .u64 (qc : Int))) := by
    obtain ⟨f0, f1, f2, f3⟩ := HFY.out
    have hne : ¬ rb = X.heap.size := by have := HLT.out; omega
    exact ⟨(fL.cell _ (lt_of_cell f0) hne).trans f0, (fL.cell _ (lt_of_cell f1) hne).trans f1, (fL.cell _ (lt_of_cell f2) hne).trans f2, (fL.cell _ (lt_of_cell f3) hne).trans f3⟩
  obtain ⟨V, hV⟩ : ∃ V, lay11 Y X.heap.size ⟨0, 0, 0, po, 0, qp, qo, qr, qc, 0⟩ (.slice so sn sc) = V := ⟨_, rfl⟩
  rw [hV] at HML HAL HZL HBL HFL
  unfold lay11 at hV
  simp only [show (((0 : Nat)) : Int) = 0 from rfl] at hV
  obtain ⟨z0, z1x, z2, z3, z4, z5, z6, z7, z8, z9, z10⟩ := HMY.out.all
  simp only [Msg.zero, show (((0 : Nat)) : Int) = 0 from rfl] at z0 z1x z2 z3 z4 z5 z6 z7 z8 z9 z10
  have y0 := HMY.out.z 0
  have y1 := HMY.out.z 1
  have y2 := HMY.out.z 2
  have y3 := HMY.out.z 3
  have y4 := HMY.out.z 4
  have y5 := HMY.out.z 5
  have y6 := HMY.out.z 6
  have y7 := HMY.out.z 7
  have y8 := HMY.out.z 8
  have y9 := HMY.out.z 9
  have y10 := HMY.out.z 10
  clear g0 g1 g2 g3 g4 g5
  obtain ⟨g0, g1, g2, g3, g4, g5⟩ := HAL.out.all
  simp only at g0 g1 g2 g3 g4 g5
  refine wpAnyH_ready (rs := [18]) (by kernel_rfl) (by simp) ?_
  refine AllReadyH.cons (o := { dst := none, op := Go.Op.store 53 (Go.Operand.tmp 5) (Go.Operand.tmp 22), type := 0, pos := "law.go:38", after := #[{ on := 17, ground := Go.Ground.data }, { on := 16, ground := Go.Ground.data }, { on := 0, ground := Go.Ground.phase }, { on := 1, ground := Go.Ground.phase }, { on := 2, ground := Go.Ground.phase }, { on := 3, ground := Go.Ground.phase }, { on := 4, ground := Go.Ground.phase }, { on := 5, ground := Go.Ground.phase }, { on := 6, ground := Go.Ground.phase }, { on := 7, ground := Go.Ground.phase }, { on := 8, ground := Go.Ground.phase }, { on := 9, ground := Go.Ground.phase }, { on := 10, ground := Go.Ground.phase }, { on := 11, ground := Go.Ground.phase }, { on := 12, ground := Go.Ground.phase }, { on := 13, ground := Go.Ground.phase }, { on := 14, ground := Go.Ground.phase }, { on := 15, ground := Go.Ground.phase }, { on := 16, ground := Go.Ground.phase }, { on := 17, ground := Go.Ground.phase }], guard := none }) rfl (fun KK hKK => ?_) AllReadyH.nil
  go_simp
  have hS : Hid ((V.cell? ⟨w.heap.size, 0, none⟩ = some (.int .u8 (o : Int)) ∧ V.cell? ⟨w.heap.size, 1, none⟩ = some (.int .u8 (wh : Int)) ∧ V.cell? ⟨w.heap.size, 5, none⟩ = some (.slice so sn sc)) ∧ V.cell? ⟨rb, k * 4, none⟩ = some (.int .u64 (qp : Int)) ∧ V.cell? ⟨rb, k * 4 + 1, none⟩ = some (.int .u32 (qo : Int)) ∧ V.cell? ⟨rb, k * 4 + 2, none⟩ = some (.int .u8 (qr : Int)) ∧ V.cell? ⟨rb, k * 4 + 3, none⟩ = some (.int .u64 (qc : Int))) := ⟨⟨g0, g1, g5⟩, HFL.out⟩
  refine hKK.out _ _ hS.out (fun _ => ?_)
  clear hKK
  refine wpAnyH_done (by kernel_rfl) ?_ _
  clear z0 z1x z2 z3 z4 z5 z6 z7 z8 z9 z10 y0 y1 y2 y3 y4 y5 y6 y7 y8 y9 y10
  have HMB := hide HML.out
  have w0a := HMB.out.z 9
  have w0b := HMB.out.z 3
  obtain ⟨q00, q01, q02, q03, q04, q05, q06, q07, q08, q09, q010⟩ := HMB.out.all
  simp only [show (((0 : Nat)) : Int) = 0 from rfl] at q00 q01 q02 q04 q09
  obtain ⟨g00, g01, g02, g03, g04, g05⟩ := HAL.out.all
  simp only at g00 g01 g02 g03 g04 g05
  have f1x := foot_one V X.heap.size 9 (.int .u64 ((a4 : Nat) : Int))
  have HMB := hide (HMB.out.put9 (a4))
  have HAL := hide (HAL.out.foot f1x (fun (e : w.heap.size = X.heap.size) => by have := HSZ.out; omega))
  have HZL := hide (HZL.out.foot f1x (fun (e : w.heap.size + 1 = X.heap.size) => by have := HSZ.out; omega))
  have HBL : Hid (Below w.heap.size w _) := (((below_foot (fun j => w.heap.size ≤ j) HBL.out).trans f1x (fun j (e : j = _) => .inl (by show w.heap.size ≤ j; have := HSZ.out; omega))).below (Nat.le_refl _) (fun k e => e))
  obtain ⟨U1, hU1⟩ : ∃ U, V.setCell ⟨X.heap.size, 9, none⟩ (.int .u64 ((a4 : Nat) : Int)) = U := ⟨_, rfl⟩
  rw [hU1] at HMB HAL HZL HBL
  clear f1x
  have w1a := HMB.out.z 9
  have w1b := HMB.out.z 3
  obtain ⟨q10, q11, q12, q13, q14, q15, q16, q17, q18, q19, q110⟩ := HMB.out.all
  simp only [show (((0 : Nat)) : Int) = 0 from rfl] at q10 q11 q12 q14 q19
  obtain ⟨g10, g11, g12, g13, g14, g15⟩ := HAL.out.all
  simp only at g10 g11 g12 g13 g14 g15
  obtain ⟨z2, hz2⟩ : ∃ z2, (a4 + 2 ^ (31 + b5)) % 18446744073709551616 = z2 := ⟨_, rfl⟩
  have d2 := shl_add (x := a4) hz2
  rw [show ((2 ^ (31 + b5) : Nat) : Int) = (2 : Int) ^ (31 + b5) from by simp] at d2
  have f2x := foot_one U1 X.heap.size 9 (.int .u64 ((z2 : Nat) : Int))
  have HMB := hide (HMB.out.put9 (z2))
  have HAL := hide (HAL.out.foot f2x (fun (e : w.heap.size = X.heap.size) => by have := HSZ.out; omega))
  have HZL := hide (HZL.out.foot f2x (fun (e : w.heap.size + 1 = X.heap.size) => by have := HSZ.out; omega))
  have HBL : Hid (Below w.heap.size w _) := (((below_foot (fun j => w.heap.size ≤ j) HBL.out).trans f2x (fun j (e : j = _) => .inl (by show w.heap.size ≤ j; have := HSZ.out; omega))).below (Nat.le_refl _) (fun k e => e))
  obtain ⟨U2, hU2⟩ : ∃ U, U1.setCell ⟨X.heap.size, 9, none⟩ (.int .u64 ((z2 : Nat) : Int)) = U := ⟨_, rfl⟩
  rw [hU2] at HMB HAL HZL HBL
  clear f2x
  have w2a := HMB.out.z 9
  have w2b := HMB.out.z 3
  obtain ⟨q20, q21, q22, q23, q24, q25, q26, q27, q28, q29, q210⟩ := HMB.out.all
  simp only [show (((0 : Nat)) : Int) = 0 from rfl] at q20 q21 q22 q24 q29
  obtain ⟨g20, g21, g22, g23, g24, g25⟩ := HAL.out.all
  simp only at g20 g21 g22 g23 g24 g25
  have HFIN : Hid (m2 = ⟨0, 0, 0, po, 0, qp, qo, qr, qc, z2⟩) := by show _ = _; rw [HMF.out]; rw [← hz2]
  have HZZ := hide (HZL.out.lay (m := ⟨0, 0, 0, po, 0, qp, qo, qr, qc, z2⟩) (D := .slice so sn sc))
  have fZ := foot_lay11 U2 (w.heap.size + 1) ⟨0, 0, 0, po, 0, qp, qo, qr, qc, z2⟩ (.slice so sn sc)
  have HBZ : Hid (Below w.heap.size w (lay11 U2 (w.heap.size + 1) ⟨0, 0, 0, po, 0, qp, qo, qr, qc, z2⟩ (.slice so sn sc))) := (((below_foot (fun j => w.heap.size ≤ j) HBL.out).trans fZ (fun j (e : j = _) => .inl (by show w.heap.size ≤ j; omega))).below (Nat.le_refl _) (fun k e => e))
  obtain ⟨wz, hwz⟩ : ∃ wz, lay11 U2 (w.heap.size + 1) ⟨0, 0, 0, po, 0, qp, qo, qr, qc, z2⟩ (.slice so sn sc) = wz := ⟨_, rfl⟩
  rw [hwz] at HZZ HBZ
  unfold lay11 at hwz
  simp only [show (((0 : Nat)) : Int) = 0 from rfl] at hwz
  obtain ⟨r0, r1, r2, r3, r4, r5, r6, r7, r8, r9, r10⟩ := HZL.out.all
  simp only [Msg.zero, show (((0 : Nat)) : Int) = 0 from rfl] at r0 r1 r2 r3 r4 r5 r6 r7 r8 r9 r10
  have s0 := HZL.out.z 0
  have s1 := HZL.out.z 1
  have s2 := HZL.out.z 2
  have s3 := HZL.out.z 3
  have s4 := HZL.out.z 4
  have s5 := HZL.out.z 5
  have s6 := HZL.out.z 6
  have s7 := HZL.out.z 7
  have s8 := HZL.out.z 8
  have s9 := HZL.out.z 9
  have s10 := HZL.out.z 10
  obtain ⟨v0, v1, v2, v3, v4, v5, v6, v7, v8, v9, v10⟩ := HZZ.out.all
  simp only [show (((0 : Nat)) : Int) = 0 from rfl] at v0 v1 v2 v4
  go_wp2
  refine bodyPost_ret (by simp [results, Tryz.results16, go_sem, v0, v1, v2, v3, v4, v5, v6, v7, v8, v9, v10]; rfl) rfl ?_
  rw [HFIN.out]
  exact ⟨rfl, HBZ.out⟩
set_option maxRecDepth 20000 in
set_option maxHeartbeats 12800000 in
theorem msg_011 (x : Ac) (hx : x.ok) {B n : Nat} {v : Value} {L : List Cp} (w : World) (hr : w.ownsRow B 36 4 v n (cellsC L)) (hn : n = L.length) (h0 : 0 < n) (q : Cp) (hq : L.getD (x.wh % n) Cp.zero = q) (h1 : x.o % 6 ≠ 1) (h2 : x.fr = true) (h3 : x.o % 11 = 10) (m2 : Msg) (hm2 : msgF x q = m2) :
    Calls Tryz.prog 16 #[.agg #[.int .u8 (x.o : Int), .int .u8 (x.wh : Int), .int .u16 (x.a : Int), .int .u16 (x.b : Int), .bool x.fr, .slice x.so x.sn x.sc], v] w fun e w' => e = .returned (.agg #[.int .u64 m2.ta, .int .u64 m2.rp, .int .u32 m2.id, .int .u16 m2.op, .int .u16 m2.st, .int .u64 m2.p, .int .u32 m2.o, .int .u8 m2.r, .int .u64 m2.c, .int .u64 m2.ar, .slice x.so x.sn x.sc]) ∧ Below w.heap.size w w' := by
  have HM2 := hide hm2
  clear hm2
  obtain ⟨o, wh, a, b, fr, so, sn, sc, l⟩ := x
  obtain ⟨qp, qo, qr, qc⟩ := q
  simp only at h1 h2 h3 hq hx HM2 ⊢
  subst h2
  obtain ⟨k, hk⟩ : ∃ k, wh % n = k := ⟨_, rfl⟩
  have hkn : k < n := by rw [← hk]; exact Nat.mod_lt _ h0
  rw [hk] at hq
  obtain ⟨rb, cap, rfl, hnc, hcm, e0, e1, e2, e3⟩ := owns_cap hr hn k hkn qp qo qr qc hq
  unfold maxLen at hcm
  have hxo : o ≤ 255 ∧ wh ≤ 255 ∧ a ≤ 65535 ∧ b ≤ 65535 := hx
  have hk1 : (wh : Int) % (n : Int) = (k : Int) := by rw [← hk]; rfl
  have hk2 : (wh : Int).tmod (n : Int) = (k : Int) := by rw [Int.tmod_eq_emod_of_nonneg (by omega)]; exact hk1
  have hn0 : ¬ ((n : Int) = 0) := by omega
  have hn00 : ((n : Int) == 0) = false := by simp; omega
  have hn000 : ¬ n = 0 := by omega
  have hkl : (k : Int) < (n : Int) := by omega
  have hk0 : (0 : Int) ≤ (k : Int) := by omega
  have hwh : (wh : Int) ≤ 255 := by omega
  have hwk : IntKind.i64.wrap (wh : Int) = (wh : Int) := by rw [IntKind.wrap_i64]; omega
  have hwk2 : IntKind.i64.wrap (k : Int) = (k : Int) := by rw [IntKind.wrap_i64]; omega
  obtain ⟨o6, ho6⟩ : ∃ o6, o % 6 = o6 := ⟨_, rfl⟩
  have p1 : (o : Int) % 6 = (o6 : Int) := by omega
  have p2 : (o : Int).tmod 6 = (o6 : Int) := by rw [Int.tmod_eq_emod_of_nonneg (by omega)]; exact p1
  have p3 : IntKind.u16.wrap (o6 : Int) = (o6 : Int) := by rw [IntKind.wrap_u16]; omega
  have p3b : IntKind.u8.wrap (o6 : Int) = (o6 : Int) := by rw [IntKind.wrap_u8]; omega
  obtain ⟨po, hpo⟩ : ∃ po, 100 + o6 = po := ⟨_, rfl⟩
  have p4 : IntKind.u16.wrap (100 + (o6 : Int)) = (po : Int) := by rw [IntKind.wrap_u16]; omega
  obtain ⟨o11, ho11⟩ : ∃ o11, o % 11 = o11 := ⟨_, rfl⟩
  have p5 : (o : Int) % 11 = (o11 : Int) := by omega
  have p6 : (o : Int).tmod 11 = (o11 : Int) := by rw [Int.tmod_eq_emod_of_nonneg (by omega)]; exact p5
  have p6b : IntKind.u8.wrap (o11 : Int) = (o11 : Int) := by rw [IntKind.wrap_u8]; omega
  obtain ⟨a4, ha4⟩ : ∃ a4, a % 400 = a4 := ⟨_, rfl⟩
  have a1 : (a : Int) % 400 = (a4 : Int) := by omega
  have a2 : (a : Int).tmod 400 = (a4 : Int) := by rw [Int.tmod_eq_emod_of_nonneg (by omega)]; exact a1
  have a3 : IntKind.u64.wrap (a4 : Int) = (a4 : Int) := by rw [IntKind.wrap_u64]; omega
  have a3b : IntKind.u16.wrap (a4 : Int) = (a4 : Int) := by rw [IntKind.wrap_u16]; omega
  obtain ⟨b4, hb4⟩ : ∃ b4, b % 400 = b4 := ⟨_, rfl⟩
  have b1 : (b : Int) % 400 = (b4 : Int) := by omega
  have b2 : (b : Int).tmod 400 = (b4 : Int) := by rw [Int.tmod_eq_emod_of_nonneg (by omega)]; exact b1
  have b3 : IntKind.u64.wrap (b4 : Int) = (b4 : Int) := by rw [IntKind.wrap_u64]; omega
  have b3b : IntKind.u16.wrap (b4 : Int) = (b4 : Int) := by rw [IntKind.wrap_u16]; omega
  obtain ⟨b5, hb5⟩ : ∃ b5, b % 33 = b5 := ⟨_, rfl⟩
  have c1 : (b : Int) % 33 = (b5 : Int) := by omega
  have c2 : (b : Int).tmod 33 = (b5 : Int) := by rw [Int.tmod_eq_emod_of_nonneg (by omega)]; exact c1
  have c3 : IntKind.u16.wrap (31 + (b5 : Int)) = ((31 + b5 : Nat) : Int) := by rw [IntKind.wrap_u16]; omega
  have c3b : IntKind.u16.wrap (b5 : Int) = (b5 : Int) := by rw [IntKind.wrap_u16]; omega
  have c4 : b5 < 33 := by omega
  have HMF : Hid (m2 = ⟨0, 0, 0, 5, 0, qp, qo, qr, qc, (a4 + 2 ^ (31 + b5)) % 18446744073709551616⟩) := by
    show m2 = _
    rw [← HM2.out]
    unfold msgF arM ar1M opM
    simp only
    rw [if_pos h3, if_pos trivial, if_neg h1]
    simp only [ha4, hb5]
  obtain ⟨z1, hz1⟩ : ∃ z1, a4 * 4294967296 + b4 = z1 := ⟨_, rfl⟩
  have d1 : IntKind.u64.wrap (IntKind.u64.wrap ((a4 : Int) * 4294967296) + (b4 : Int)) = (z1 : Int) := by rw [IntKind.wrap_u64, IntKind.wrap_u64]; omega
  have d1b : (a4 : Int) * 4294967296 + (b4 : Int) = (z1 : Int) := by omega
  have d1c : IntKind.u64.wrap (z1 : Int) = (z1 : Int) := by rw [IntKind.wrap_u64]; omega
  have t1 : ((o6 : Int) == 1) = false := by rw [beq_eq_false_iff_ne]; omega
  have t2 : ((o11 : Int) == 10) = true := by rw [show (o11 : Int) = 10 by omega]; rfl
  obtain ⟨X, hX⟩ : ∃ X, (w.alloc (.cells #[.int .u8 (o : Int), .int .u8 (wh : Int), .int .u16 (a : Int), .int .u16 (b : Int), .bool true, .slice so sn sc] 51)).alloc (.cells #[.int .u64 0, .int .u64 0, .int .u32 0, .int .u16 0, .int .u16 0, .int .u64 0, .int .u32 0, .int .u8 0, .int .u64 0, .int .u64 0, .slice none 0 0] 53) = X := ⟨_, rfl⟩
  have bX : Below w.heap.size w X := hX ▸ below_one (below_alloc w _) (below_alloc _ _)
  have HAB : Hid (AB X w.heap.size ⟨o, wh, a, b, true, so, sn, sc, l⟩) := hX ▸ (AB.new w ⟨o, wh, a, b, true, so, sn, sc, l⟩).grow (below_alloc _ _)
  have HZ : Hid (MB X (w.heap.size + 1) Msg.zero (.slice none 0 0)) := by
    show X.heap[w.heap.size + 1]? = _
    have h := heap_alloc_new (w.alloc (.cells #[.int .u8 (o : Int), .int .u8 (wh : Int), .int .u16 (a : Int), .int .u16 (b : Int), .bool true, .slice so sn sc] 51)) (.cells #[.int .u64 0, .int .u64 0, .int .u32 0, .int .u16 0, .int .u16 0, .int .u64 0, .int .u32 0, .int .u8 0, .int .u64 0, .int .u64 0, .slice none 0 0] 53)
    rw [hX, sz1] at h
    exact h
  have HBX := hide bX
  have HSZ : Hid (w.heap.size + 1 < X.heap.size) := lt_of_heap HZ.out
  have f0 : X.cell? ⟨rb, k * 4, none⟩ = some (.int .u64 (qp : Int)) := by rw [bX.cell (lt_of_cell e0), e0]
  have f1 : X.cell? ⟨rb, k * 4 + 1, none⟩ = some (.int .u32 (qo : Int)) := by rw [bX.cell (lt_of_cell e1), e1]
  have f2 : X.cell? ⟨rb, k * 4 + 2, none⟩ = some (.int .u8 (qr : Int)) := by rw [bX.cell (lt_of_cell e2), e2]
  have f3 : X.cell? ⟨rb, k * 4 + 3, none⟩ = some (.int .u64 (qc : Int)) := by rw [bX.cell (lt_of_cell e3), e3]
  have HF : Hid (X.cell? ⟨rb, k * 4, none⟩ = some (.int .u64 (qp : Int)) ∧ X.cell? ⟨rb, k * 4 + 1, none⟩ = some (.int .u32 (qo : Int)) ∧ X.cell? ⟨rb, k * 4 + 2, none⟩ = some (.int .u8 (qr : Int)) ∧ X.cell? ⟨rb, k * 4 + 3, none⟩ = some (.int .u64 (qc : Int))) := ⟨f0, f1, f2, f3⟩
  obtain ⟨g0, g1, g2, g3, g4, g5⟩ := HAB.out.all
  simp only at g0 g1 g2 g3 g4 g5
  clear hr hn h0 hq h1 h3 hx hxo hk bX e0 e1 e2 e3 HM2 ho6 ho11 ha4 hb4 hb5 hpo
  go_enter Tryz.func16, Tryz.ntmps16
  go_wp2_with fail
  have hS : Hid ((X.drew.cell? ⟨w.heap.size, 0, none⟩ = some (.int .u8 (o : Int)) ∧ X.drew.cell? ⟨w.heap.size, 1, none⟩ = some (.int .u8 (wh : Int)) ∧ X.drew.cell? ⟨w.heap.size, 5, none⟩ = some (.slice so sn sc)) ∧ X.drew.cell? ⟨rb, k * 4, none⟩ = some (.int .u64 (qp : Int)) ∧ X.drew.cell? ⟨rb, k * 4 + 1, none⟩ = some (.int .u32 (qo : Int)) ∧ X.drew.cell? ⟨rb, k * 4 + 2, none⟩ = some (.int .u8 (qr : Int)) ∧ X.drew.cell? ⟨rb, k * 4 + 3, none⟩ = some (.int .u64 (qc : Int))) := ⟨⟨g0, g1, g5⟩, f0, f1, f2, f3⟩
  refine wp_region_held_drew (S := fun U => (U.cell? ⟨w.heap.size, 0, none⟩ = some (.int .u8 (o : Int)) ∧ U.cell? ⟨w.heap.size, 1, none⟩ = some (.int .u8 (wh : Int)) ∧ U.cell? ⟨w.heap.size, 5, none⟩ = some (.slice so sn sc)) ∧ U.cell? ⟨rb, k * 4, none⟩ = some (.int .u64 (qp : Int)) ∧ U.cell? ⟨rb, k * 4 + 1, none⟩ = some (.int .u32 (qo : Int)) ∧ U.cell? ⟨rb, k * 4 + 2, none⟩ = some (.int .u8 (qr : Int)) ∧ U.cell? ⟨rb, k * 4 + 3, none⟩ = some (.int .u64 (qc : Int))) (by kernel_rfl) hS.out (fun _ => ?_)
  refine wpAnyH_take (i := 0) (oi := { dst := some 6, op := Go.Op.fieldAddr 51 (Go.Operand.tmp 2) 0, type := 0, pos := "law.go:38", after := #[], guard := none }) (v := (.pointer (some ⟨w.heap.size, 0, none⟩))) rfl (by kernel_rfl) (by kernel_rfl) (by kernel_rfl) (fun _ _ _ h => h) (Or.inl ⟨by kernel_rfl, fun w hC => by go_simp⟩) hS.out ?_
  simp only [Act.put, List.setIfInBounds_toArray, List.set_cons_zero, List.set_cons_succ]
  refine wpAnyH_take (i := 1) (oi := { dst := some 7, op := Go.Op.load 5 (Go.Operand.tmp 6), type := 5, pos := "law.go:38", after := #[{ on := 0, ground := Go.Ground.data }], guard := none }) (v := (.int .u8 (o : Int))) rfl (by kernel_rfl) (by kernel_rfl) (by kernel_rfl) (fun _ _ _ h => h) (Or.inl ⟨by kernel_rfl, fun w hC => by (obtain ⟨⟨g0, g1, g5⟩, f0, f1, f2, f3⟩ := hC; go_simp)⟩) hS.out ?_
  simp only [Act.put, List.setIfInBounds_toArray, List.set_cons_zero, List.set_cons_succ]
  refine wpAnyH_take (i := 2) (oi := { dst := some 8, op := Go.Op.binOp Go.BinOp.rem 5 (Go.Operand.tmp 7) (Go.Operand.const (Go.Value.int Go.IntKind.u8 6)) 5, type := 5, pos := "law.go:38", after := #[{ on := 1, ground := Go.Ground.data }], guard := none }) (v := (.int .u8 (o6 : Int))) rfl (by kernel_rfl) (by kernel_rfl) (by kernel_rfl) (fun _ _ _ h => h) (Or.inl ⟨by kernel_rfl, fun w hC => by go_simp⟩) hS.out ?_
  simp only [Act.put, List.setIfInBounds_toArray, List.set_cons_zero, List.set_cons_succ]
  refine wpAnyH_take (i := 3) (oi := { dst := some 9, op := Go.Op.convert 5 49 (Go.Operand.tmp 8), type := 49, pos := "law.go:38", after := #[{ on := 2, ground := Go.Ground.data }], guard := none }) (v := (.int .u16 (o6 : Int))) rfl (by kernel_rfl) (by kernel_rfl) (by kernel_rfl) (fun _ _ _ h => h) (Or.inl ⟨by kernel_rfl, fun w hC => by go_simp⟩) hS.out ?_
  simp only [Act.put, List.setIfInBounds_toArray, List.set_cons_zero, List.set_cons_succ]
  refine wpAnyH_take (i := 4) (oi := { dst := some 10, op := Go.Op.binOp Go.BinOp.add 49 (Go.Operand.const (Go.Value.int Go.IntKind.u16 100)) (Go.Operand.tmp 9) 49, type := 49, pos := "law.go:38", after := #[{ on := 3, ground := Go.Ground.data }], guard := none }) (v := (.int .u16 (po : Int))) rfl (by kernel_rfl) (by kernel_rfl) (by kernel_rfl) (fun _ _ _ h => h) (Or.inl ⟨by kernel_rfl, fun w hC => by go_simp⟩) hS.out ?_
  simp only [Act.put, List.setIfInBounds_toArray, List.set_cons_zero, List.set_cons_succ]
  refine wpAnyH_take (i := 5) (oi := { dst := some 11, op := Go.Op.move (Go.Operand.tmp 1), type := 47, pos := "law.go:38", after := #[], guard := none }) (v := (.slice (some ⟨rb, 0, none⟩) n cap)) rfl (by kernel_rfl) (by kernel_rfl) (by kernel_rfl) (fun _ _ _ h => h) (Or.inl ⟨by kernel_rfl, fun w hC => by go_simp⟩) hS.out ?_
  simp only [Act.put, List.setIfInBounds_toArray, List.set_cons_zero, List.set_cons_succ]
  refine wpAnyH_take (i := 6) (oi := { dst := some 12, op := Go.Op.fieldAddr 51 (Go.Operand.tmp 2) 1, type := 0, pos := "law.go:38", after := #[], guard := none }) (v := (.pointer (some ⟨w.heap.size, 1, none⟩))) rfl (by kernel_rfl) (by kernel_rfl) (by kernel_rfl) (fun _ _ _ h => h) (Or.inl ⟨by kernel_rfl, fun w hC => by go_simp⟩) hS.out ?_
  simp only [Act.put, List.setIfInBounds_toArray, List.set_cons_zero, List.set_cons_succ]
  refine wpAnyH_take (i := 7) (oi := { dst := some 13, op := Go.Op.load 5 (Go.Operand.tmp 12), type := 5, pos := "law.go:38", after := #[{ on := 6, ground := Go.Ground.data }], guard := none }) (v := (.int .u8 (wh : Int))) rfl (by kernel_rfl) (by kernel_rfl) (by kernel_rfl) (fun _ _ _ h => h) (Or.inl ⟨by kernel_rfl, fun w hC => by (obtain ⟨⟨g0, g1, g5⟩, f0, f1, f2, f3⟩ := hC; go_simp)⟩) hS.out ?_
  simp only [Act.put, List.setIfInBounds_toArray, List.set_cons_zero, List.set_cons_succ]
  refine wpAnyH_take (i := 8) (oi := { dst := some 14, op := Go.Op.convert 5 3 (Go.Operand.tmp 13), type := 3, pos := "law.go:38", after := #[{ on := 7, ground := Go.Ground.data }], guard := none }) (v := (.int .i64 (wh : Int))) rfl (by kernel_rfl) (by kernel_rfl) (by kernel_rfl) (fun _ _ _ h => h) (Or.inl ⟨by kernel_rfl, fun w hC => by go_simp⟩) hS.out ?_
  simp only [Act.put, List.setIfInBounds_toArray, List.set_cons_zero, List.set_cons_succ]
  refine wpAnyH_take (i := 9) (oi := { dst := some 15, op := Go.Op.move (Go.Operand.tmp 1), type := 47, pos := "law.go:38", after := #[], guard := none }) (v := (.slice (some ⟨rb, 0, none⟩) n cap)) rfl (by kernel_rfl) (by kernel_rfl) (by kernel_rfl) (fun _ _ _ h => h) (Or.inl ⟨by kernel_rfl, fun w hC => by go_simp⟩) hS.out ?_
  simp only [Act.put, List.setIfInBounds_toArray, List.set_cons_zero, List.set_cons_succ]
  refine wpAnyH_take (i := 10) (oi := { dst := some 16, op := Go.Op.call { callee := Go.Callee.builtin Go.Builtin.len, args := #[Go.Operand.tmp 15], argTypes := #[47] }, type := 3, pos := "law.go:38", after := #[{ on := 9, ground := Go.Ground.data }], guard := none }) (v := (.int .i64 (n : Int))) rfl (by kernel_rfl) (by kernel_rfl) (by kernel_rfl) (fun _ _ _ h => h) (Or.inl ⟨by kernel_rfl, fun w hC => by go_simp⟩) hS.out ?_
  simp only [Act.put, List.setIfInBounds_toArray, List.set_cons_zero, List.set_cons_succ]
  refine wpAnyH_take (i := 11) (oi := { dst := some 17, op := Go.Op.binOp Go.BinOp.rem 3 (Go.Operand.tmp 14) (Go.Operand.tmp 16) 3, type := 3, pos := "law.go:38", after := #[{ on := 8, ground := Go.Ground.data }, { on := 10, ground := Go.Ground.data }], guard := none }) (v := (.int .i64 (k : Int))) rfl (by kernel_rfl) (by kernel_rfl) (by kernel_rfl) (fun _ _ _ h => h) (Or.inl ⟨by kernel_rfl, fun w hC => by go_simp⟩) hS.out ?_
  simp only [Act.put, List.setIfInBounds_toArray, List.set_cons_zero, List.set_cons_succ]
  refine wpAnyH_take (i := 12) (oi := { dst := some 18, op := Go.Op.indexAddr 47 (Go.Operand.tmp 11) (Go.Operand.tmp 17), type := 0, pos := "law.go:38", after := #[{ on := 5, ground := Go.Ground.data }, { on := 11, ground := Go.Ground.data }], guard := none }) (v := (.pointer (some ⟨rb, k * 4, none⟩))) rfl (by kernel_rfl) (by kernel_rfl) (by kernel_rfl) (fun _ _ _ h => h) (Or.inl ⟨by kernel_rfl, fun w hC => by go_simp⟩) hS.out ?_
  simp only [Act.put, List.setIfInBounds_toArray, List.set_cons_zero, List.set_cons_succ]
  refine wpAnyH_take (i := 13) (oi := { dst := some 19, op := Go.Op.load 36 (Go.Operand.tmp 18), type := 36, pos := "law.go:38", after := #[{ on := 12, ground := Go.Ground.data }], guard := none }) (v := (.agg #[.int .u64 (qp : Int), .int .u32 (qo : Int), .int .u8 (qr : Int), .int .u64 (qc : Int)])) rfl (by kernel_rfl) (by kernel_rfl) (by kernel_rfl) (fun _ _ _ h => h) (Or.inl ⟨by kernel_rfl, fun w hC => by (obtain ⟨⟨g0, g1, g5⟩, f0, f1, f2, f3⟩ := hC; go_simp)⟩) hS.out ?_
  simp only [Act.put, List.setIfInBounds_toArray, List.set_cons_zero, List.set_cons_succ]
  refine wpAnyH_take (i := 14) (oi := { dst := some 20, op := Go.Op.fieldAddr 51 (Go.Operand.tmp 2) 5, type := 0, pos := "law.go:38", after := #[], guard := none }) (v := (.pointer (some ⟨w.heap.size, 5, none⟩))) rfl (by kernel_rfl) (by kernel_rfl) (by kernel_rfl) (fun _ _ _ h => h) (Or.inl ⟨by kernel_rfl, fun w hC => by go_simp⟩) hS.out ?_
  simp only [Act.put, List.setIfInBounds_toArray, List.set_cons_zero, List.set_cons_succ]
  refine wpAnyH_take (i := 15) (oi := { dst := some 21, op := Go.Op.load 23 (Go.Operand.tmp 20), type := 23, pos := "law.go:38", after := #[{ on := 14, ground := Go.Ground.data }], guard := none }) (v := (.slice so sn sc)) rfl (by kernel_rfl) (by kernel_rfl) (by kernel_rfl) (fun _ _ _ h => h) (Or.inl ⟨by kernel_rfl, fun w hC => by (obtain ⟨⟨g0, g1, g5⟩, f0, f1, f2, f3⟩ := hC; go_simp)⟩) hS.out ?_
  simp only [Act.put, List.setIfInBounds_toArray, List.set_cons_zero, List.set_cons_succ]
  refine wpAnyH_take (i := 16) (oi := { dst := some 22, op := Go.Op.build 53 #[(3, Go.Operand.tmp 10), (5, Go.Operand.tmp 19), (7, Go.Operand.tmp 21)], type := 53, pos := "law.go:38", after := #[{ on := 4, ground := Go.Ground.data }, { on := 13, ground := Go.Ground.data }, { on := 15, ground := Go.Ground.data }], guard := none }) (v := (.agg #[.int .u64 0, .int .u64 0, .int .u32 0, .int .u16 (po : Int), .int .u16 0, .int .u64 (qp : Int), .int .u32 (qo : Int), .int .u8 (qr : Int), .int .u64 (qc : Int), .int .u64 0, .slice so sn sc])) rfl (by kernel_rfl) (by kernel_rfl) (by kernel_rfl) (fun _ _ _ h => h) (Or.inl ⟨by kernel_rfl, fun w hC => by go_simp⟩) hS.out ?_
  simp only [Act.put, List.setIfInBounds_toArray, List.set_cons_zero, List.set_cons_succ]
  refine wpAnyH_ready (rs := [17]) (by kernel_rfl) (by simp) ?_
  refine AllReadyH.cons (o := { dst := some 5, op := Go.Op.alloc 53, type := 0, pos := "law.go:38", after := #[], guard := none }) rfl (fun KK hKK => ?_) AllReadyH.nil
  go_simp
  obtain ⟨Y, hY⟩ : ∃ Y, (X.alloc (.cells #[.int .u64 0, .int .u64 0, .int .u32 0, .int .u16 0, .int .u16 0, .int .u64 0, .int .u32 0, .int .u8 0, .int .u64 0, .int .u64 0, .slice none 0 0] 53)).drew = Y := ⟨_, rfl⟩
  try rw [hY]
  have bY : Below X.heap.size X Y := hY ▸ (below_alloc X _).drew
  have HMY : Hid (MB Y X.heap.size Msg.zero (.slice none 0 0)) := hY ▸ mb_new X Msg.zero _
  have HAY := hide (HAB.out.grow bY)
  have HZY := hide (HZ.out.grow bY)
  have HFY : Hid (Y.cell? ⟨rb, k * 4, none⟩ = some (.int .u64 (qp : Int)) ∧ Y.cell? ⟨rb, k * 4 + 1, none⟩ = some (.int .u32 (qo : Int)) ∧ Y.cell? ⟨rb, k * 4 + 2, none⟩ = some (.int .u8 (qr : Int)) ∧ Y.cell? ⟨rb, k * 4 + 3, none⟩ = some (.int .u64 (qc : Int))) := ⟨by rw [bY.cell (lt_of_cell f0), f0], by rw [bY.cell (lt_of_cell f1), f1], by rw [bY.cell (lt_of_cell f2), f2], by rw [bY.cell (lt_of_cell f3), f3]⟩
  have HLT : Hid (rb < X.heap.size) := lt_of_cell f0
  have HBY := hide (below_one HBX.out bY)
  clear g0 g1 g2 g3 g4 g5 f0 f1 f2 f3 bY
  obtain ⟨g0, g1, g2, g3, g4, g5⟩ := HAY.out.all
  simp only at g0 g1 g2 g3 g4 g5
  obtain ⟨m0, hm0⟩ : ∃ m0 : Msg, (⟨0, 0, 0, po, 0, qp, qo, qr, qc, 0⟩ : Msg) = m0 := ⟨_, rfl⟩
  have hS : Hid ((Y.cell? ⟨w.heap.size, 0, none⟩ = some (.int .u8 (o : Int)) ∧ Y.cell? ⟨w.heap.size, 1, none⟩ = some (.int .u8 (wh : Int)) ∧ Y.cell? ⟨w.heap.size, 5, none⟩ = some (.slice so sn sc)) ∧ Y.cell? ⟨rb, k * 4, none⟩ = some (.int .u64 (qp : Int)) ∧ Y.cell? ⟨rb, k * 4 + 1, none⟩ = some (.int .u32 (qo : Int)) ∧ Y.cell? ⟨rb, k * 4 + 2, none⟩ = some (.int .u8 (qr : Int)) ∧ Y.cell? ⟨rb, k * 4 + 3, none⟩ = some (.int .u64 (qc : Int))) := ⟨⟨g0, g1, g5⟩, HFY.out⟩
  refine hKK.out _ _ hS.out (fun _ => ?_)
  clear hKK
  have HML := hide (HMY.out.lay (m := ⟨0, 0, 0, po, 0, qp, qo, qr, qc, 0⟩) (D := .slice so sn sc))
  have fL := foot_lay11 Y X.heap.size ⟨0, 0, 0, po, 0, qp, qo, qr, qc, 0⟩ (.slice so sn sc)
  have HAL := hide (HAY.out.foot fL (fun (e : w.heap.size = X.heap.size) => by have := HSZ.out; omega))
  have HZL := hide (HZY.out.foot fL (fun (e : w.heap.size + 1 = X.heap.size) => by have := HSZ.out; omega))
  have HBL : Hid (Below w.heap.size w (lay11 Y X.heap.size ⟨0, 0, 0, po, 0, qp, qo, qr, qc, 0⟩ (.slice so sn sc))) := (((below_foot (fun j => w.heap.size ≤ j) HBY.out).trans fL (fun j (e : j = _) => .inl (by show w.heap.size ≤ j; have := HSZ.out; omega))).below (Nat.le_refl _) (fun k e => e))
  have HFL : Hid ((lay11 Y X.heap.size ⟨0, 0, 0, po, 0, qp, qo, qr, qc, 0⟩ (.slice so sn sc)).cell? ⟨rb, k * 4, none⟩ = some (.int .u64 (qp : Int)) ∧ (lay11 Y X.heap.size ⟨0, 0, 0, po, 0, qp, qo, qr, qc, 0⟩ (.slice so sn sc)).cell? ⟨rb, k * 4 + 1, none⟩ = some (.int .u32 (qo : Int)) ∧ (lay11 Y X.heap.size ⟨0, 0, 0, po, 0, qp, qo, qr, qc, 0⟩ (.slice so sn sc)).cell? ⟨rb, k * 4 + 2, none⟩ = some (.int .u8 (qr : Int)) ∧ (lay11 Y X.heap.size ⟨0, 0, 0, po, 0, qp, qo, qr, qc, 0⟩ (.slice so sn sc)).cell? ⟨rb, k * 4 + 3, none⟩ = some (.int .u64 (qc : Int))) := by
    obtain ⟨f0, f1, f2, f3⟩ := HFY.out
    have hne : ¬ rb = X.heap.size := by have := HLT.out; omega
    exact ⟨(fL.cell _ (lt_of_cell f0) hne).trans f0, (fL.cell _ (lt_of_cell f1) hne).trans f1, (fL.cell _ (lt_of_cell f2) hne).trans f2, (fL.cell _ (lt_of_cell f3) hne).trans f3⟩
  obtain ⟨V, hV⟩ : ∃ V, lay11 Y X.heap.size ⟨0, 0, 0, po, 0, qp, qo, qr, qc, 0⟩ (.slice so sn sc) = V := ⟨_, rfl⟩
  rw [hV] at HML HAL HZL HBL HFL
  unfold lay11 at hV
  simp only [show (((0 : Nat)) : Int) = 0 from rfl] at hV
  obtain ⟨z0, z1x, z2, z3, z4, z5, z6, z7, z8, z9, z10⟩ := HMY.out.all
  simp only [Msg.zero, show (((0 : Nat)) : Int) = 0 from rfl] at z0 z1x z2 z3 z4 z5 z6 z7 z8 z9 z10
  have y0 := HMY.out.z 0
  have y1 := HMY.out.z 1
  have y2 := HMY.out.z 2
  have y3 := HMY.out.z 3
  have y4 := HMY.out.z 4
  have y5 := HMY.out.z 5
  have y6 := HMY.out.z 6
  have y7 := HMY.out.z 7
  have y8 := HMY.out.z 8
  have y9 := HMY.out.z 9
  have y10 := HMY.out.z 10
  clear g0 g1 g2 g3 g4 g5
  obtain ⟨g0, g1, g2, g3, g4, g5⟩ := HAL.out.all
  simp only at g0 g1 g2 g3 g4 g5
  refine wpAnyH_ready (rs := [18]) (by kernel_rfl) (by simp) ?_
  refine AllReadyH.cons (o := { dst := none, op := Go.Op.store 53 (Go.Operand.tmp 5) (Go.Operand.tmp 22), type := 0, pos := "law.go:38", after := #[{ on := 17, ground := Go.Ground.data }, { on := 16, ground := Go.Ground.data }, { on := 0, ground := Go.Ground.phase }, { on := 1, ground := Go.Ground.phase }, { on := 2, ground := Go.Ground.phase }, { on := 3, ground := Go.Ground.phase }, { on := 4, ground := Go.Ground.phase }, { on := 5, ground := Go.Ground.phase }, { on := 6, ground := Go.Ground.phase }, { on := 7, ground := Go.Ground.phase }, { on := 8, ground := Go.Ground.phase }, { on := 9, ground := Go.Ground.phase }, { on := 10, ground := Go.Ground.phase }, { on := 11, ground := Go.Ground.phase }, { on := 12, ground := Go.Ground.phase }, { on := 13, ground := Go.Ground.phase }, { on := 14, ground := Go.Ground.phase }, { on := 15, ground := Go.Ground.phase }, { on := 16, ground := Go.Ground.phase }, { on := 17, ground := Go.Ground.phase }], guard := none }) rfl (fun KK hKK => ?_) AllReadyH.nil
  go_simp
  have hS : Hid ((V.cell? ⟨w.heap.size, 0, none⟩ = some (.int .u8 (o : Int)) ∧ V.cell? ⟨w.heap.size, 1, none⟩ = some (.int .u8 (wh : Int)) ∧ V.cell? ⟨w.heap.size, 5, none⟩ = some (.slice so sn sc)) ∧ V.cell? ⟨rb, k * 4, none⟩ = some (.int .u64 (qp : Int)) ∧ V.cell? ⟨rb, k * 4 + 1, none⟩ = some (.int .u32 (qo : Int)) ∧ V.cell? ⟨rb, k * 4 + 2, none⟩ = some (.int .u8 (qr : Int)) ∧ V.cell? ⟨rb, k * 4 + 3, none⟩ = some (.int .u64 (qc : Int))) := ⟨⟨g0, g1, g5⟩, HFL.out⟩
  refine hKK.out _ _ hS.out (fun _ => ?_)
  clear hKK
  refine wpAnyH_done (by kernel_rfl) ?_ _
  clear z0 z1x z2 z3 z4 z5 z6 z7 z8 z9 z10 y0 y1 y2 y3 y4 y5 y6 y7 y8 y9 y10
  have HMB := hide HML.out
  have w0a := HMB.out.z 9
  have w0b := HMB.out.z 3
  obtain ⟨q00, q01, q02, q03, q04, q05, q06, q07, q08, q09, q010⟩ := HMB.out.all
  simp only [show (((0 : Nat)) : Int) = 0 from rfl] at q00 q01 q02 q04 q09
  obtain ⟨g00, g01, g02, g03, g04, g05⟩ := HAL.out.all
  simp only at g00 g01 g02 g03 g04 g05
  have f1x := foot_one V X.heap.size 9 (.int .u64 ((a4 : Nat) : Int))
  have HMB := hide (HMB.out.put9 (a4))
  have HAL := hide (HAL.out.foot f1x (fun (e : w.heap.size = X.heap.size) => by have := HSZ.out; omega))
  have HZL := hide (HZL.out.foot f1x (fun (e : w.heap.size + 1 = X.heap.size) => by have := HSZ.out; omega))
  have HBL : Hid (Below w.heap.size w _) := (((below_foot (fun j => w.heap.size ≤ j) HBL.out).trans f1x (fun j (e : j = _) => .inl (by show w.heap.size ≤ j; have := HSZ.out; omega))).below (Nat.le_refl _) (fun k e => e))
  obtain ⟨U1, hU1⟩ : ∃ U, V.setCell ⟨X.heap.size, 9, none⟩ (.int .u64 ((a4 : Nat) : Int)) = U := ⟨_, rfl⟩
  rw [hU1] at HMB HAL HZL HBL
  clear f1x
  have w1a := HMB.out.z 9
  have w1b := HMB.out.z 3
  obtain ⟨q10, q11, q12, q13, q14, q15, q16, q17, q18, q19, q110⟩ := HMB.out.all
  simp only [show (((0 : Nat)) : Int) = 0 from rfl] at q10 q11 q12 q14 q19
  obtain ⟨g10, g11, g12, g13, g14, g15⟩ := HAL.out.all
  simp only at g10 g11 g12 g13 g14 g15
  obtain ⟨z2, hz2⟩ : ∃ z2, (a4 + 2 ^ (31 + b5)) % 18446744073709551616 = z2 := ⟨_, rfl⟩
  have d2 := shl_add (x := a4) hz2
  rw [show ((2 ^ (31 + b5) : Nat) : Int) = (2 : Int) ^ (31 + b5) from by simp] at d2
  have f2x := foot_one U1 X.heap.size 9 (.int .u64 ((z2 : Nat) : Int))
  have HMB := hide (HMB.out.put9 (z2))
  have HAL := hide (HAL.out.foot f2x (fun (e : w.heap.size = X.heap.size) => by have := HSZ.out; omega))
  have HZL := hide (HZL.out.foot f2x (fun (e : w.heap.size + 1 = X.heap.size) => by have := HSZ.out; omega))
  have HBL : Hid (Below w.heap.size w _) := (((below_foot (fun j => w.heap.size ≤ j) HBL.out).trans f2x (fun j (e : j = _) => .inl (by show w.heap.size ≤ j; have := HSZ.out; omega))).below (Nat.le_refl _) (fun k e => e))
  obtain ⟨U2, hU2⟩ : ∃ U, U1.setCell ⟨X.heap.size, 9, none⟩ (.int .u64 ((z2 : Nat) : Int)) = U := ⟨_, rfl⟩
  rw [hU2] at HMB HAL HZL HBL
  clear f2x
  have w2a := HMB.out.z 9
  have w2b := HMB.out.z 3
  obtain ⟨q20, q21, q22, q23, q24, q25, q26, q27, q28, q29, q210⟩ := HMB.out.all
  simp only [show (((0 : Nat)) : Int) = 0 from rfl] at q20 q21 q22 q24 q29
  obtain ⟨g20, g21, g22, g23, g24, g25⟩ := HAL.out.all
  simp only at g20 g21 g22 g23 g24 g25
  have f3x := foot_one U2 X.heap.size 3 (.int .u16 5)
  have HMB : Hid (MB (U2.setCell ⟨X.heap.size, 3, none⟩ (.int .u16 5)) X.heap.size _ (.slice so sn sc)) := hide (HMB.out.put3 5)
  have HAL := hide (HAL.out.foot f3x (fun (e : w.heap.size = X.heap.size) => by have := HSZ.out; omega))
  have HZL := hide (HZL.out.foot f3x (fun (e : w.heap.size + 1 = X.heap.size) => by have := HSZ.out; omega))
  have HBL : Hid (Below w.heap.size w _) := (((below_foot (fun j => w.heap.size ≤ j) HBL.out).trans f3x (fun j (e : j = _) => .inl (by show w.heap.size ≤ j; have := HSZ.out; omega))).below (Nat.le_refl _) (fun k e => e))
  obtain ⟨U3, hU3⟩ : ∃ U, U2.setCell ⟨X.heap.size, 3, none⟩ (.int .u16 5) = U := ⟨_, rfl⟩
  rw [hU3] at HMB HAL HZL HBL
  clear f3x
  have w3a := HMB.out.z 9
  have w3b := HMB.out.z 3
  obtain ⟨q30, q31, q32, q33, q34, q35, q36, q37, q38, q39, q310⟩ := HMB.out.all
  simp only [show (((0 : Nat)) : Int) = 0 from rfl] at q30 q31 q32 q34 q39
  obtain ⟨g30, g31, g32, g33, g34, g35⟩ := HAL.out.all
  simp only at g30 g31 g32 g33 g34 g35
  simp only [show (((5 : Nat)) : Int) = 5 from rfl] at q33
  have HFIN : Hid (m2 = ⟨0, 0, 0, 5, 0, qp, qo, qr, qc, z2⟩) := by show _ = _; rw [HMF.out]; rw [← hz2]
  have HZZ := hide (HZL.out.lay (m := ⟨0, 0, 0, 5, 0, qp, qo, qr, qc, z2⟩) (D := .slice so sn sc))
  have fZ := foot_lay11 U3 (w.heap.size + 1) ⟨0, 0, 0, 5, 0, qp, qo, qr, qc, z2⟩ (.slice so sn sc)
  have HBZ : Hid (Below w.heap.size w (lay11 U3 (w.heap.size + 1) ⟨0, 0, 0, 5, 0, qp, qo, qr, qc, z2⟩ (.slice so sn sc))) := (((below_foot (fun j => w.heap.size ≤ j) HBL.out).trans fZ (fun j (e : j = _) => .inl (by show w.heap.size ≤ j; omega))).below (Nat.le_refl _) (fun k e => e))
  obtain ⟨wz, hwz⟩ : ∃ wz, lay11 U3 (w.heap.size + 1) ⟨0, 0, 0, 5, 0, qp, qo, qr, qc, z2⟩ (.slice so sn sc) = wz := ⟨_, rfl⟩
  rw [hwz] at HZZ HBZ
  unfold lay11 at hwz
  simp only [show (((0 : Nat)) : Int) = 0 from rfl, show (((5 : Nat)) : Int) = 5 from rfl] at hwz
  obtain ⟨r0, r1, r2, r3, r4, r5, r6, r7, r8, r9, r10⟩ := HZL.out.all
  simp only [Msg.zero, show (((0 : Nat)) : Int) = 0 from rfl] at r0 r1 r2 r3 r4 r5 r6 r7 r8 r9 r10
  have s0 := HZL.out.z 0
  have s1 := HZL.out.z 1
  have s2 := HZL.out.z 2
  have s3 := HZL.out.z 3
  have s4 := HZL.out.z 4
  have s5 := HZL.out.z 5
  have s6 := HZL.out.z 6
  have s7 := HZL.out.z 7
  have s8 := HZL.out.z 8
  have s9 := HZL.out.z 9
  have s10 := HZL.out.z 10
  obtain ⟨v0, v1, v2, v3, v4, v5, v6, v7, v8, v9, v10⟩ := HZZ.out.all
  simp only [show (((0 : Nat)) : Int) = 0 from rfl] at v0 v1 v2 v4
  simp only [show (((5 : Nat)) : Int) = 5 from rfl] at v3
  go_wp2
  refine bodyPost_ret (by simp [results, Tryz.results16, go_sem, v0, v1, v2, v3, v4, v5, v6, v7, v8, v9, v10]; rfl) rfl ?_
  rw [HFIN.out]
  exact ⟨rfl, HBZ.out⟩
end
end Go.Proofs.YtpbkjmkdciiccaaGreatDoor
namespace Go.Proofs.YtpbkjmkdciiccaaGreatDoor
section
open Go.RowKit
set_option maxRecDepth 20000 in
set_option maxHeartbeats 12800000 in
theorem msg_100 (x : Ac) (hx : x.ok) {B n : Nat} {v : Value} {L : List Cp} (w : World) (hr : w.ownsRow B 36 4 v n (cellsC L)) (hn : n = L.length) (h0 : 0 < n) (q : Cp) (hq : L.getD (x.wh % n) Cp.zero = q) (h1 : x.o % 6 = 1) (h2 : x.fr = false) (h3 : x.o % 11 ≠ 10) (m2 : Msg) (hm2 : msgF x q = m2) :
    Calls Tryz.prog 16 #[.agg #[.int .u8 (x.o : Int), .int .u8 (x.wh : Int), .int .u16 (x.a : Int), .int .u16 (x.b : Int), .bool x.fr, .slice x.so x.sn x.sc], v] w fun e w' => e = .returned (.agg #[.int .u64 m2.ta, .int .u64 m2.rp, .int .u32 m2.id, .int .u16 m2.op, .int .u16 m2.st, .int .u64 m2.p, .int .u32 m2.o, .int .u8 m2.r, .int .u64 m2.c, .int .u64 m2.ar, .slice x.so x.sn x.sc]) ∧ Below w.heap.size w w' := by
  have HM2 := hide hm2
  clear hm2
  obtain ⟨o, wh, a, b, fr, so, sn, sc, l⟩ := x
  obtain ⟨qp, qo, qr, qc⟩ := q
  simp only at h1 h2 h3 hq hx HM2 ⊢
  subst h2
  obtain ⟨k, hk⟩ : ∃ k, wh % n = k := ⟨_, rfl⟩
  have hkn : k < n := by rw [← hk]; exact Nat.mod_lt _ h0
  rw [hk] at hq
  obtain ⟨rb, cap, rfl, hnc, hcm, e0, e1, e2, e3⟩ := owns_cap hr hn k hkn qp qo qr qc hq
  unfold maxLen at hcm
  have hxo : o ≤ 255 ∧ wh ≤ 255 ∧ a ≤ 65535 ∧ b ≤ 65535 := hx
  have hk1 : (wh : Int) % (n : Int) = (k : Int) := by rw [← hk]; rfl
  have hk2 : (wh : Int).tmod (n : Int) = (k : Int) := by rw [Int.tmod_eq_emod_of_nonneg (by omega)]; exact hk1
  have hn0 : ¬ ((n : Int) = 0) := by omega
  have hn00 : ((n : Int) == 0) = false := by simp; omega
  have hn000 : ¬ n = 0 := by omega
  have hkl : (k : Int) < (n : Int) := by omega
  have hk0 : (0 : Int) ≤ (k : Int) := by omega
  have hwh : (wh : Int) ≤ 255 := by omega
  have hwk : IntKind.i64.wrap (wh : Int) = (wh : Int) := by rw [IntKind.wrap_i64]; omega
  have hwk2 : IntKind.i64.wrap (k : Int) = (k : Int) := by rw [IntKind.wrap_i64]; omega
  obtain ⟨o6, ho6⟩ : ∃ o6, o % 6 = o6 := ⟨_, rfl⟩
  have p1 : (o : Int) % 6 = (o6 : Int) := by omega
  have p2 : (o : Int).tmod 6 = (o6 : Int) := by rw [Int.tmod_eq_emod_of_nonneg (by omega)]; exact p1
  have p3 : IntKind.u16.wrap (o6 : Int) = (o6 : Int) := by rw [IntKind.wrap_u16]; omega
  have p3b : IntKind.u8.wrap (o6 : Int) = (o6 : Int) := by rw [IntKind.wrap_u8]; omega
  obtain ⟨po, hpo⟩ : ∃ po, 100 + o6 = po := ⟨_, rfl⟩
  have p4 : IntKind.u16.wrap (100 + (o6 : Int)) = (po : Int) := by rw [IntKind.wrap_u16]; omega
  obtain ⟨o11, ho11⟩ : ∃ o11, o % 11 = o11 := ⟨_, rfl⟩
  have p5 : (o : Int) % 11 = (o11 : Int) := by omega
  have p6 : (o : Int).tmod 11 = (o11 : Int) := by rw [Int.tmod_eq_emod_of_nonneg (by omega)]; exact p5
  have p6b : IntKind.u8.wrap (o11 : Int) = (o11 : Int) := by rw [IntKind.wrap_u8]; omega
  obtain ⟨a4, ha4⟩ : ∃ a4, a % 400 = a4 := ⟨_, rfl⟩
  have a1 : (a : Int) % 400 = (a4 : Int) := by omega
  have a2 : (a : Int).tmod 400 = (a4 : Int) := by rw [Int.tmod_eq_emod_of_nonneg (by omega)]; exact a1
  have a3 : IntKind.u64.wrap (a4 : Int) = (a4 : Int) := by rw [IntKind.wrap_u64]; omega
  have a3b : IntKind.u16.wrap (a4 : Int) = (a4 : Int) := by rw [IntKind.wrap_u16]; omega
  obtain ⟨b4, hb4⟩ : ∃ b4, b % 400 = b4 := ⟨_, rfl⟩
  have b1 : (b : Int) % 400 = (b4 : Int) := by omega
  have b2 : (b : Int).tmod 400 = (b4 : Int) := by rw [Int.tmod_eq_emod_of_nonneg (by omega)]; exact b1
  have b3 : IntKind.u64.wrap (b4 : Int) = (b4 : Int) := by rw [IntKind.wrap_u64]; omega
  have b3b : IntKind.u16.wrap (b4 : Int) = (b4 : Int) := by rw [IntKind.wrap_u16]; omega
  obtain ⟨b5, hb5⟩ : ∃ b5, b % 33 = b5 := ⟨_, rfl⟩
  have c1 : (b : Int) % 33 = (b5 : Int) := by omega
  have c2 : (b : Int).tmod 33 = (b5 : Int) := by rw [Int.tmod_eq_emod_of_nonneg (by omega)]; exact c1
  have c3 : IntKind.u16.wrap (31 + (b5 : Int)) = ((31 + b5 : Nat) : Int) := by rw [IntKind.wrap_u16]; omega
  have c3b : IntKind.u16.wrap (b5 : Int) = (b5 : Int) := by rw [IntKind.wrap_u16]; omega
  have c4 : b5 < 33 := by omega
  have HMF : Hid (m2 = ⟨0, 0, 0, po, 0, qp, qo, qr, qc, a4 * 4294967296 + b4⟩) := by
    show m2 = _
    rw [← HM2.out]
    unfold msgF arM ar1M opM
    simp only
    rw [if_neg h3, if_neg (by decide), if_pos h1]
    simp only [ho6, hpo, ha4, hb4]
  obtain ⟨z1, hz1⟩ : ∃ z1, a4 * 4294967296 + b4 = z1 := ⟨_, rfl⟩
  have d1 : IntKind.u64.wrap (IntKind.u64.wrap ((a4 : Int) * 4294967296) + (b4 : Int)) = (z1 : Int) := by rw [IntKind.wrap_u64, IntKind.wrap_u64]; omega
  have d1b : (a4 : Int) * 4294967296 + (b4 : Int) = (z1 : Int) := by omega
  have d1c : IntKind.u64.wrap (z1 : Int) = (z1 : Int) := by rw [IntKind.wrap_u64]; omega
  have t1 : ((o6 : Int) == 1) = true := by rw [show (o6 : Int) = 1 by omega]; rfl
  have t2 : ((o11 : Int) == 10) = false := by rw [beq_eq_false_iff_ne]; omega
  obtain ⟨X, hX⟩ : ∃ X, (w.alloc (.cells #[.int .u8 (o : Int), .int .u8 (wh : Int), .int .u16 (a : Int), .int .u16 (b : Int), .bool false, .slice so sn sc] 51)).alloc (.cells #[.int .u64 0, .int .u64 0, .int .u32 0, .int .u16 0, .int .u16 0, .int .u64 0, .int .u32 0, .int .u8 0, .int .u64 0, .int .u64 0, .slice none 0 0] 53) = X := ⟨_, rfl⟩
  have bX : Below w.heap.size w X := hX ▸ below_one (below_alloc w _) (below_alloc _ _)
  have HAB : Hid (AB X w.heap.size ⟨o, wh, a, b, false, so, sn, sc, l⟩) := hX ▸ (AB.new w ⟨o, wh, a, b, false, so, sn, sc, l⟩).grow (below_alloc _ _)
  have HZ : Hid (MB X (w.heap.size + 1) Msg.zero (.slice none 0 0)) := by
    show X.heap[w.heap.size + 1]? = _
    have h := heap_alloc_new (w.alloc (.cells #[.int .u8 (o : Int), .int .u8 (wh : Int), .int .u16 (a : Int), .int .u16 (b : Int), .bool false, .slice so sn sc] 51)) (.cells #[.int .u64 0, .int .u64 0, .int .u32 0, .int .u16 0, .int .u16 0, .int .u64 0, .int .u32 0, .int .u8 0, .int .u64 0, .int .u64 0, .slice none 0 0] 53)
    rw [hX, sz1] at h
    exact h
  have HBX := hide bX
  have HSZ : Hid (w.heap.size + 1 < X.heap.size) := lt_of_heap HZ.out
  have f0 : X.cell? ⟨rb, k * 4, none⟩ = some (.int .u64 (qp : Int)) := by rw [bX.cell (lt_of_cell e0), e0]
  have f1 : X.cell? ⟨rb, k * 4 + 1, none⟩ = some (.int .u32 (qo : Int)) := by rw [bX.cell (lt_of_cell e1), e1]
  have f2 : X.cell? ⟨rb, k * 4 + 2, none⟩ = some (.int .u8 (qr : Int)) := by rw [bX.cell (lt_of_cell e2), e2]
  have f3 : X.cell? ⟨rb, k * 4 + 3, none⟩ = some (.int .u64 (qc : Int)) := by rw [bX.cell (lt_of_cell e3), e3]
  have HF : Hid (X.cell? ⟨rb, k * 4, none⟩ = some (.int .u64 (qp : Int)) ∧ X.cell? ⟨rb, k * 4 + 1, none⟩ = some (.int .u32 (qo : Int)) ∧ X.cell? ⟨rb, k * 4 + 2, none⟩ = some (.int .u8 (qr : Int)) ∧ X.cell? ⟨rb, k * 4 + 3, none⟩ = some (.int .u64 (qc : Int))) := ⟨f0, f1, f2, f3⟩
  obtain ⟨g0, g1, g2, g3, g4, g5⟩ := HAB.out.all
  simp only at g0 g1 g2 g3 g4 g5
  clear hr hn h0 hq h1 h3 hx hxo hk bX e0 e1 e2 e3 HM2 ho6 ho11 ha4 hb4 hb5 hpo
  go_enter Tryz.func16, Tryz.ntmps16
  go_wp2_with fail
  have hS : Hid ((X.drew.cell? ⟨w.heap.size, 0, none⟩ = some (.int .u8 (o : Int)) ∧ X.drew.cell? ⟨w.heap.size, 1, none⟩ = some (.int .u8 (wh : Int)) ∧ X.drew.cell? ⟨w.heap.size, 5, none⟩ = some (.slice so sn sc)) ∧ X.drew.cell? ⟨rb, k * 4, none⟩ = some (.int .u64 (qp : Int)) ∧ X.drew.cell? ⟨rb, k * 4 + 1, none⟩ = some (.int .u32 (qo : Int)) ∧ X.drew.cell? ⟨rb, k * 4 + 2, none⟩ = some (.int .u8 (qr : Int)) ∧ X.drew.cell? ⟨rb, k * 4 + 3, none⟩ = some (.int .u64 (qc : Int))) := ⟨⟨g0, g1, g5⟩, f0, f1, f2, f3⟩
  refine wp_region_held_drew (S := fun U => (U.cell? ⟨w.heap.size, 0, none⟩ = some (.int .u8 (o : Int)) ∧ U.cell? ⟨w.heap.size, 1, none⟩ = some (.int .u8 (wh : Int)) ∧ U.cell? ⟨w.heap.size, 5, none⟩ = some (.slice so sn sc)) ∧ U.cell? ⟨rb, k * 4, none⟩ = some (.int .u64 (qp : Int)) ∧ U.cell? ⟨rb, k * 4 + 1, none⟩ = some (.int .u32 (qo : Int)) ∧ U.cell? ⟨rb, k * 4 + 2, none⟩ = some (.int .u8 (qr : Int)) ∧ U.cell? ⟨rb, k * 4 + 3, none⟩ = some (.int .u64 (qc : Int))) (by kernel_rfl) hS.out (fun _ => ?_)
  refine wpAnyH_take (i := 0) (oi := { dst := some 6, op := Go.Op.fieldAddr 51 (Go.Operand.tmp 2) 0, type := 0, pos := "law.go:38", after := #[], guard := none }) (v := (.pointer (some ⟨w.heap.size, 0, none⟩))) rfl (by kernel_rfl) (by kernel_rfl) (by kernel_rfl) (fun _ _ _ h => h) (Or.inl ⟨by kernel_rfl, fun w hC => by go_simp⟩) hS.out ?_
  simp only [Act.put, List.setIfInBounds_toArray, List.set_cons_zero, List.set_cons_succ]
  refine wpAnyH_take (i := 1) (oi := { dst := some 7, op := Go.Op.load 5 (Go.Operand.tmp 6), type := 5, pos := "law.go:38", after := #[{ on := 0, ground := Go.Ground.data }], guard := none }) (v := (.int .u8 (o : Int))) rfl (by kernel_rfl) (by kernel_rfl) (by kernel_rfl) (fun _ _ _ h => h) (Or.inl ⟨by kernel_rfl, fun w hC => by (obtain ⟨⟨g0, g1, g5⟩, f0, f1, f2, f3⟩ := hC; go_simp)⟩) hS.out ?_
  simp only [Act.put, List.setIfInBounds_toArray, List.set_cons_zero, List.set_cons_succ]
  refine wpAnyH_take (i := 2) (oi := { dst := some 8, op := Go.Op.binOp Go.BinOp.rem 5 (Go.Operand.tmp 7) (Go.Operand.const (Go.Value.int Go.IntKind.u8 6)) 5, type := 5, pos := "law.go:38", after := #[{ on := 1, ground := Go.Ground.data }], guard := none }) (v := (.int .u8 (o6 : Int))) rfl (by kernel_rfl) (by kernel_rfl) (by kernel_rfl) (fun _ _ _ h => h) (Or.inl ⟨by kernel_rfl, fun w hC => by go_simp⟩) hS.out ?_
  simp only [Act.put, List.setIfInBounds_toArray, List.set_cons_zero, List.set_cons_succ]
  refine wpAnyH_take (i := 3) (oi := { dst := some 9, op := Go.Op.convert 5 49 (Go.Operand.tmp 8), type := 49, pos := "law.go:38", after := #[{ on := 2, ground := Go.Ground.data }], guard := none }) (v := (.int .u16 (o6 : Int))) rfl (by kernel_rfl) (by kernel_rfl) (by kernel_rfl) (fun _ _ _ h => h) (Or.inl ⟨by kernel_rfl, fun w hC => by go_simp⟩) hS.out ?_
  simp only [Act.put, List.setIfInBounds_toArray, List.set_cons_zero, List.set_cons_succ]
  refine wpAnyH_take (i := 4) (oi := { dst := some 10, op := Go.Op.binOp Go.BinOp.add 49 (Go.Operand.const (Go.Value.int Go.IntKind.u16 100)) (Go.Operand.tmp 9) 49, type := 49, pos := "law.go:38", after := #[{ on := 3, ground := Go.Ground.data }], guard := none }) (v := (.int .u16 (po : Int))) rfl (by kernel_rfl) (by kernel_rfl) (by kernel_rfl) (fun _ _ _ h => h) (Or.inl ⟨by kernel_rfl, fun w hC => by go_simp⟩) hS.out ?_
  simp only [Act.put, List.setIfInBounds_toArray, List.set_cons_zero, List.set_cons_succ]
  refine wpAnyH_take (i := 5) (oi := { dst := some 11, op := Go.Op.move (Go.Operand.tmp 1), type := 47, pos := "law.go:38", after := #[], guard := none }) (v := (.slice (some ⟨rb, 0, none⟩) n cap)) rfl (by kernel_rfl) (by kernel_rfl) (by kernel_rfl) (fun _ _ _ h => h) (Or.inl ⟨by kernel_rfl, fun w hC => by go_simp⟩) hS.out ?_
  simp only [Act.put, List.setIfInBounds_toArray, List.set_cons_zero, List.set_cons_succ]
  refine wpAnyH_take (i := 6) (oi := { dst := some 12, op := Go.Op.fieldAddr 51 (Go.Operand.tmp 2) 1, type := 0, pos := "law.go:38", after := #[], guard := none }) (v := (.pointer (some ⟨w.heap.size, 1, none⟩))) rfl (by kernel_rfl) (by kernel_rfl) (by kernel_rfl) (fun _ _ _ h => h) (Or.inl ⟨by kernel_rfl, fun w hC => by go_simp⟩) hS.out ?_
  simp only [Act.put, List.setIfInBounds_toArray, List.set_cons_zero, List.set_cons_succ]
  refine wpAnyH_take (i := 7) (oi := { dst := some 13, op := Go.Op.load 5 (Go.Operand.tmp 12), type := 5, pos := "law.go:38", after := #[{ on := 6, ground := Go.Ground.data }], guard := none }) (v := (.int .u8 (wh : Int))) rfl (by kernel_rfl) (by kernel_rfl) (by kernel_rfl) (fun _ _ _ h => h) (Or.inl ⟨by kernel_rfl, fun w hC => by (obtain ⟨⟨g0, g1, g5⟩, f0, f1, f2, f3⟩ := hC; go_simp)⟩) hS.out ?_
  simp only [Act.put, List.setIfInBounds_toArray, List.set_cons_zero, List.set_cons_succ]
  refine wpAnyH_take (i := 8) (oi := { dst := some 14, op := Go.Op.convert 5 3 (Go.Operand.tmp 13), type := 3, pos := "law.go:38", after := #[{ on := 7, ground := Go.Ground.data }], guard := none }) (v := (.int .i64 (wh : Int))) rfl (by kernel_rfl) (by kernel_rfl) (by kernel_rfl) (fun _ _ _ h => h) (Or.inl ⟨by kernel_rfl, fun w hC => by go_simp⟩) hS.out ?_
  simp only [Act.put, List.setIfInBounds_toArray, List.set_cons_zero, List.set_cons_succ]
  refine wpAnyH_take (i := 9) (oi := { dst := some 15, op := Go.Op.move (Go.Operand.tmp 1), type := 47, pos := "law.go:38", after := #[], guard := none }) (v := (.slice (some ⟨rb, 0, none⟩) n cap)) rfl (by kernel_rfl) (by kernel_rfl) (by kernel_rfl) (fun _ _ _ h => h) (Or.inl ⟨by kernel_rfl, fun w hC => by go_simp⟩) hS.out ?_
  simp only [Act.put, List.setIfInBounds_toArray, List.set_cons_zero, List.set_cons_succ]
  refine wpAnyH_take (i := 10) (oi := { dst := some 16, op := Go.Op.call { callee := Go.Callee.builtin Go.Builtin.len, args := #[Go.Operand.tmp 15], argTypes := #[47] }, type := 3, pos := "law.go:38", after := #[{ on := 9, ground := Go.Ground.data }], guard := none }) (v := (.int .i64 (n : Int))) rfl (by kernel_rfl) (by kernel_rfl) (by kernel_rfl) (fun _ _ _ h => h) (Or.inl ⟨by kernel_rfl, fun w hC => by go_simp⟩) hS.out ?_
  simp only [Act.put, List.setIfInBounds_toArray, List.set_cons_zero, List.set_cons_succ]
  refine wpAnyH_take (i := 11) (oi := { dst := some 17, op := Go.Op.binOp Go.BinOp.rem 3 (Go.Operand.tmp 14) (Go.Operand.tmp 16) 3, type := 3, pos := "law.go:38", after := #[{ on := 8, ground := Go.Ground.data }, { on := 10, ground := Go.Ground.data }], guard := none }) (v := (.int .i64 (k : Int))) rfl (by kernel_rfl) (by kernel_rfl) (by kernel_rfl) (fun _ _ _ h => h) (Or.inl ⟨by kernel_rfl, fun w hC => by go_simp⟩) hS.out ?_
  simp only [Act.put, List.setIfInBounds_toArray, List.set_cons_zero, List.set_cons_succ]
  refine wpAnyH_take (i := 12) (oi := { dst := some 18, op := Go.Op.indexAddr 47 (Go.Operand.tmp 11) (Go.Operand.tmp 17), type := 0, pos := "law.go:38", after := #[{ on := 5, ground := Go.Ground.data }, { on := 11, ground := Go.Ground.data }], guard := none }) (v := (.pointer (some ⟨rb, k * 4, none⟩))) rfl (by kernel_rfl) (by kernel_rfl) (by kernel_rfl) (fun _ _ _ h => h) (Or.inl ⟨by kernel_rfl, fun w hC => by go_simp⟩) hS.out ?_
  simp only [Act.put, List.setIfInBounds_toArray, List.set_cons_zero, List.set_cons_succ]
  refine wpAnyH_take (i := 13) (oi := { dst := some 19, op := Go.Op.load 36 (Go.Operand.tmp 18), type := 36, pos := "law.go:38", after := #[{ on := 12, ground := Go.Ground.data }], guard := none }) (v := (.agg #[.int .u64 (qp : Int), .int .u32 (qo : Int), .int .u8 (qr : Int), .int .u64 (qc : Int)])) rfl (by kernel_rfl) (by kernel_rfl) (by kernel_rfl) (fun _ _ _ h => h) (Or.inl ⟨by kernel_rfl, fun w hC => by (obtain ⟨⟨g0, g1, g5⟩, f0, f1, f2, f3⟩ := hC; go_simp)⟩) hS.out ?_
  simp only [Act.put, List.setIfInBounds_toArray, List.set_cons_zero, List.set_cons_succ]
  refine wpAnyH_take (i := 14) (oi := { dst := some 20, op := Go.Op.fieldAddr 51 (Go.Operand.tmp 2) 5, type := 0, pos := "law.go:38", after := #[], guard := none }) (v := (.pointer (some ⟨w.heap.size, 5, none⟩))) rfl (by kernel_rfl) (by kernel_rfl) (by kernel_rfl) (fun _ _ _ h => h) (Or.inl ⟨by kernel_rfl, fun w hC => by go_simp⟩) hS.out ?_
  simp only [Act.put, List.setIfInBounds_toArray, List.set_cons_zero, List.set_cons_succ]
  refine wpAnyH_take (i := 15) (oi := { dst := some 21, op := Go.Op.load 23 (Go.Operand.tmp 20), type := 23, pos := "law.go:38", after := #[{ on := 14, ground := Go.Ground.data }], guard := none }) (v := (.slice so sn sc)) rfl (by kernel_rfl) (by kernel_rfl) (by kernel_rfl) (fun _ _ _ h => h) (Or.inl ⟨by kernel_rfl, fun w hC => by (obtain ⟨⟨g0, g1, g5⟩, f0, f1, f2, f3⟩ := hC; go_simp)⟩) hS.out ?_
  simp only [Act.put, List.setIfInBounds_toArray, List.set_cons_zero, List.set_cons_succ]
  refine wpAnyH_take (i := 16) (oi := { dst := some 22, op := Go.Op.build 53 #[(3, Go.Operand.tmp 10), (5, Go.Operand.tmp 19), (7, Go.Operand.tmp 21)], type := 53, pos := "law.go:38", after := #[{ on := 4, ground := Go.Ground.data }, { on := 13, ground := Go.Ground.data }, { on := 15, ground := Go.Ground.data }], guard := none }) (v := (.agg #[.int .u64 0, .int .u64 0, .int .u32 0, .int .u16 (po : Int), .int .u16 0, .int .u64 (qp : Int), .int .u32 (qo : Int), .int .u8 (qr : Int), .int .u64 (qc : Int), .int .u64 0, .slice so sn sc])) rfl (by kernel_rfl) (by kernel_rfl) (by kernel_rfl) (fun _ _ _ h => h) (Or.inl ⟨by kernel_rfl, fun w hC => by go_simp⟩) hS.out ?_
  simp only [Act.put, List.setIfInBounds_toArray, List.set_cons_zero, List.set_cons_succ]
  refine wpAnyH_ready (rs := [17]) (by kernel_rfl) (by simp) ?_
  refine AllReadyH.cons (o := { dst := some 5, op := Go.Op.alloc 53, type := 0, pos := "law.go:38", after := #[], guard := none }) rfl (fun KK hKK => ?_) AllReadyH.nil
  go_simp
  obtain ⟨Y, hY⟩ : ∃ Y, (X.alloc (.cells #[.int .u64 0, .int .u64 0, .int .u32 0, .int .u16 0, .int .u16 0, .int .u64 0, .int .u32 0, .int .u8 0, .int .u64 0, .int .u64 0, .slice none 0 0] 53)).drew = Y := ⟨_, rfl⟩
  try rw [hY]
  have bY : Below X.heap.size X Y := hY ▸ (below_alloc X _).drew
  have HMY : Hid (MB Y X.heap.size Msg.zero (.slice none 0 0)) := hY ▸ mb_new X Msg.zero _
  have HAY := hide (HAB.out.grow bY)
  have HZY := hide (HZ.out.grow bY)
  have HFY : Hid (Y.cell? ⟨rb, k * 4, none⟩ = some (.int .u64 (qp : Int)) ∧ Y.cell? ⟨rb, k * 4 + 1, none⟩ = some (.int .u32 (qo : Int)) ∧ Y.cell? ⟨rb, k * 4 + 2, none⟩ = some (.int .u8 (qr : Int)) ∧ Y.cell? ⟨rb, k * 4 + 3, none⟩ = some (.int .u64 (qc : Int))) := ⟨by rw [bY.cell (lt_of_cell f0), f0], by rw [bY.cell (lt_of_cell f1), f1], by rw [bY.cell (lt_of_cell f2), f2], by rw [bY.cell (lt_of_cell f3), f3]⟩
  have HLT : Hid (rb < X.heap.size) := lt_of_cell f0
  have HBY := hide (below_one HBX.out bY)
  clear g0 g1 g2 g3 g4 g5 f0 f1 f2 f3 bY
  obtain ⟨g0, g1, g2, g3, g4, g5⟩ := HAY.out.all
  simp only at g0 g1 g2 g3 g4 g5
  obtain ⟨m0, hm0⟩ : ∃ m0 : Msg, (⟨0, 0, 0, po, 0, qp, qo, qr, qc, 0⟩ : Msg) = m0 := ⟨_, rfl⟩
  have hS : Hid ((Y.cell? ⟨w.heap.size, 0, none⟩ = some (.int .u8 (o : Int)) ∧ Y.cell? ⟨w.heap.size, 1, none⟩ = some (.int .u8 (wh : Int)) ∧ Y.cell? ⟨w.heap.size, 5, none⟩ = some (.slice so sn sc)) ∧ Y.cell? ⟨rb, k * 4, none⟩ = some (.int .u64 (qp : Int)) ∧ Y.cell? ⟨rb, k * 4 + 1, none⟩ = some (.int .u32 (qo : Int)) ∧ Y.cell? ⟨rb, k * 4 + 2, none⟩ = some (.int .u8 (qr : Int)) ∧ Y.cell? ⟨rb, k * 4 + 3, none⟩ = some (.int .u64 (qc : Int))) := ⟨⟨g0, g1, g5⟩, HFY.out⟩
  refine hKK.out _ _ hS.out (fun _ => ?_)
  clear hKK
  have HML := hide (HMY.out.lay (m := ⟨0, 0, 0, po, 0, qp, qo, qr, qc, 0⟩) (D := .slice so sn sc))
  have fL := foot_lay11 Y X.heap.size ⟨0, 0, 0, po, 0, qp, qo, qr, qc, 0⟩ (.slice so sn sc)
  have HAL := hide (HAY.out.foot fL (fun (e : w.heap.size = X.heap.size) => by have := HSZ.out; omega))
  have HZL := hide (HZY.out.foot fL (fun (e : w.heap.size + 1 = X.heap.size) => by have := HSZ.out; omega))
  have HBL : Hid (Below w.heap.size w (lay11 Y X.heap.size ⟨0, 0, 0, po, 0, qp, qo, qr, qc, 0⟩ (.slice so sn sc))) := (((below_foot (fun j => w.heap.size ≤ j) HBY.out).trans fL (fun j (e : j = _) => .inl (by show w.heap.size ≤ j; have := HSZ.out; omega))).below (Nat.le_refl _) (fun k e => e))
  have HFL : Hid ((lay11 Y X.heap.size ⟨0, 0, 0, po, 0, qp, qo, qr, qc, 0⟩ (.slice so sn sc)).cell? ⟨rb, k * 4, none⟩ = some (.int .u64 (qp : Int)) ∧ (lay11 Y X.heap.size ⟨0, 0, 0, po, 0, qp, qo, qr, qc, 0⟩ (.slice so sn sc)).cell? ⟨rb, k * 4 + 1, none⟩ = some (.int .u32 (qo : Int)) ∧ (lay11 Y X.heap.size ⟨0, 0, 0, po, 0, qp, qo, qr, qc, 0⟩ (.slice so sn sc)).cell? ⟨rb, k * 4 + 2, none⟩ = some (.int .u8 (qr : Int)) ∧ (lay11 Y X.heap.size ⟨0, 0, 0, po, 0, qp, qo, qr, qc, 0⟩ (.slice so sn sc)).cell? ⟨rb, k * 4 + 3, none⟩ = some (.int .u64 (qc : Int))) := by
    obtain ⟨f0, f1, f2, f3⟩ := HFY.out
    have hne : ¬ rb = X.heap.size := by have := HLT.out; omega
    exact ⟨(fL.cell _ (lt_of_cell f0) hne).trans f0, (fL.cell _ (lt_of_cell f1) hne).trans f1, (fL.cell _ (lt_of_cell f2) hne).trans f2, (fL.cell _ (lt_of_cell f3) hne).trans f3⟩
  obtain ⟨V, hV⟩ : ∃ V, lay11 Y X.heap.size ⟨0, 0, 0, po, 0, qp, qo, qr, qc, 0⟩ (.slice so sn sc) = V := ⟨_, rfl⟩
  rw [hV] at HML HAL HZL HBL HFL
  unfold lay11 at hV
  simp only [show (((0 : Nat)) : Int) = 0 from rfl] at hV
  obtain ⟨z0, z1x, z2, z3, z4, z5, z6, z7, z8, z9, z10⟩ := HMY.out.all
  simp only [Msg.zero, show (((0 : Nat)) : Int) = 0 from rfl] at z0 z1x z2 z3 z4 z5 z6 z7 z8 z9 z10
  have y0 := HMY.out.z 0
  have y1 := HMY.out.z 1
  have y2 := HMY.out.z 2
  have y3 := HMY.out.z 3
  have y4 := HMY.out.z 4
  have y5 := HMY.out.z 5
  have y6 := HMY.out.z 6
  have y7 := HMY.out.z 7
  have y8 := HMY.out.z 8
  have y9 := HMY.out.z 9
  have y10 := HMY.out.z 10
  clear g0 g1 g2 g3 g4 g5
  obtain ⟨g0, g1, g2, g3, g4, g5⟩ := HAL.out.all
  simp only at g0 g1 g2 g3 g4 g5
  refine wpAnyH_ready (rs := [18]) (by kernel_rfl) (by simp) ?_
  refine AllReadyH.cons (o := { dst := none, op := Go.Op.store 53 (Go.Operand.tmp 5) (Go.Operand.tmp 22), type := 0, pos := "law.go:38", after := #[{ on := 17, ground := Go.Ground.data }, { on := 16, ground := Go.Ground.data }, { on := 0, ground := Go.Ground.phase }, { on := 1, ground := Go.Ground.phase }, { on := 2, ground := Go.Ground.phase }, { on := 3, ground := Go.Ground.phase }, { on := 4, ground := Go.Ground.phase }, { on := 5, ground := Go.Ground.phase }, { on := 6, ground := Go.Ground.phase }, { on := 7, ground := Go.Ground.phase }, { on := 8, ground := Go.Ground.phase }, { on := 9, ground := Go.Ground.phase }, { on := 10, ground := Go.Ground.phase }, { on := 11, ground := Go.Ground.phase }, { on := 12, ground := Go.Ground.phase }, { on := 13, ground := Go.Ground.phase }, { on := 14, ground := Go.Ground.phase }, { on := 15, ground := Go.Ground.phase }, { on := 16, ground := Go.Ground.phase }, { on := 17, ground := Go.Ground.phase }], guard := none }) rfl (fun KK hKK => ?_) AllReadyH.nil
  go_simp
  have hS : Hid ((V.cell? ⟨w.heap.size, 0, none⟩ = some (.int .u8 (o : Int)) ∧ V.cell? ⟨w.heap.size, 1, none⟩ = some (.int .u8 (wh : Int)) ∧ V.cell? ⟨w.heap.size, 5, none⟩ = some (.slice so sn sc)) ∧ V.cell? ⟨rb, k * 4, none⟩ = some (.int .u64 (qp : Int)) ∧ V.cell? ⟨rb, k * 4 + 1, none⟩ = some (.int .u32 (qo : Int)) ∧ V.cell? ⟨rb, k * 4 + 2, none⟩ = some (.int .u8 (qr : Int)) ∧ V.cell? ⟨rb, k * 4 + 3, none⟩ = some (.int .u64 (qc : Int))) := ⟨⟨g0, g1, g5⟩, HFL.out⟩
  refine hKK.out _ _ hS.out (fun _ => ?_)
  clear hKK
  refine wpAnyH_done (by kernel_rfl) ?_ _
  clear z0 z1x z2 z3 z4 z5 z6 z7 z8 z9 z10 y0 y1 y2 y3 y4 y5 y6 y7 y8 y9 y10
  have HMB := hide HML.out
  have w0a := HMB.out.z 9
  have w0b := HMB.out.z 3
  obtain ⟨q00, q01, q02, q03, q04, q05, q06, q07, q08, q09, q010⟩ := HMB.out.all
  simp only [show (((0 : Nat)) : Int) = 0 from rfl] at q00 q01 q02 q04 q09
  obtain ⟨g00, g01, g02, g03, g04, g05⟩ := HAL.out.all
  simp only at g00 g01 g02 g03 g04 g05
  have f1x := foot_one V X.heap.size 9 (.int .u64 ((a4 : Nat) : Int))
  have HMB := hide (HMB.out.put9 (a4))
  have HAL := hide (HAL.out.foot f1x (fun (e : w.heap.size = X.heap.size) => by have := HSZ.out; omega))
  have HZL := hide (HZL.out.foot f1x (fun (e : w.heap.size + 1 = X.heap.size) => by have := HSZ.out; omega))
  have HBL : Hid (Below w.heap.size w _) := (((below_foot (fun j => w.heap.size ≤ j) HBL.out).trans f1x (fun j (e : j = _) => .inl (by show w.heap.size ≤ j; have := HSZ.out; omega))).below (Nat.le_refl _) (fun k e => e))
  obtain ⟨U1, hU1⟩ : ∃ U, V.setCell ⟨X.heap.size, 9, none⟩ (.int .u64 ((a4 : Nat) : Int)) = U := ⟨_, rfl⟩
  rw [hU1] at HMB HAL HZL HBL
  clear f1x
  have w1a := HMB.out.z 9
  have w1b := HMB.out.z 3
  obtain ⟨q10, q11, q12, q13, q14, q15, q16, q17, q18, q19, q110⟩ := HMB.out.all
  simp only [show (((0 : Nat)) : Int) = 0 from rfl] at q10 q11 q12 q14 q19
  obtain ⟨g10, g11, g12, g13, g14, g15⟩ := HAL.out.all
  simp only at g10 g11 g12 g13 g14 g15
  have f2x := foot_one U1 X.heap.size 9 (.int .u64 ((z1 : Nat) : Int))
  have HMB := hide (HMB.out.put9 (z1))
  have HAL := hide (HAL.out.foot f2x (fun (e : w.heap.size = X.heap.size) => by have := HSZ.out; omega))
  have HZL := hide (HZL.out.foot f2x (fun (e : w.heap.size + 1 = X.heap.size) => by have := HSZ.out; omega))
  have HBL : Hid (Below w.heap.size w _) := (((below_foot (fun j => w.heap.size ≤ j) HBL.out).trans f2x (fun j (e : j = _) => .inl (by show w.heap.size ≤ j; have := HSZ.out; omega))).below (Nat.le_refl _) (fun k e => e))
  obtain ⟨U2, hU2⟩ : ∃ U, U1.setCell ⟨X.heap.size, 9, none⟩ (.int .u64 ((z1 : Nat) : Int)) = U := ⟨_, rfl⟩
  rw [hU2] at HMB HAL HZL HBL
  clear f2x
  have w2a := HMB.out.z 9
  have w2b := HMB.out.z 3
  obtain ⟨q20, q21, q22, q23, q24, q25, q26, q27, q28, q29, q210⟩ := HMB.out.all
  simp only [show (((0 : Nat)) : Int) = 0 from rfl] at q20 q21 q22 q24 q29
  obtain ⟨g20, g21, g22, g23, g24, g25⟩ := HAL.out.all
  simp only at g20 g21 g22 g23 g24 g25
  have HFIN : Hid (m2 = ⟨0, 0, 0, po, 0, qp, qo, qr, qc, z1⟩) := by show _ = _; rw [HMF.out]; rw [← hz1]
  have HZZ := hide (HZL.out.lay (m := ⟨0, 0, 0, po, 0, qp, qo, qr, qc, z1⟩) (D := .slice so sn sc))
  have fZ := foot_lay11 U2 (w.heap.size + 1) ⟨0, 0, 0, po, 0, qp, qo, qr, qc, z1⟩ (.slice so sn sc)
  have HBZ : Hid (Below w.heap.size w (lay11 U2 (w.heap.size + 1) ⟨0, 0, 0, po, 0, qp, qo, qr, qc, z1⟩ (.slice so sn sc))) := (((below_foot (fun j => w.heap.size ≤ j) HBL.out).trans fZ (fun j (e : j = _) => .inl (by show w.heap.size ≤ j; omega))).below (Nat.le_refl _) (fun k e => e))
  obtain ⟨wz, hwz⟩ : ∃ wz, lay11 U2 (w.heap.size + 1) ⟨0, 0, 0, po, 0, qp, qo, qr, qc, z1⟩ (.slice so sn sc) = wz := ⟨_, rfl⟩
  rw [hwz] at HZZ HBZ
  unfold lay11 at hwz
  simp only [show (((0 : Nat)) : Int) = 0 from rfl] at hwz
  obtain ⟨r0, r1, r2, r3, r4, r5, r6, r7, r8, r9, r10⟩ := HZL.out.all
  simp only [Msg.zero, show (((0 : Nat)) : Int) = 0 from rfl] at r0 r1 r2 r3 r4 r5 r6 r7 r8 r9 r10
  have s0 := HZL.out.z 0
  have s1 := HZL.out.z 1
  have s2 := HZL.out.z 2
  have s3 := HZL.out.z 3
  have s4 := HZL.out.z 4
  have s5 := HZL.out.z 5
  have s6 := HZL.out.z 6
  have s7 := HZL.out.z 7
  have s8 := HZL.out.z 8
  have s9 := HZL.out.z 9
  have s10 := HZL.out.z 10
  obtain ⟨v0, v1, v2, v3, v4, v5, v6, v7, v8, v9, v10⟩ := HZZ.out.all
  simp only [show (((0 : Nat)) : Int) = 0 from rfl] at v0 v1 v2 v4
  go_wp2
  refine bodyPost_ret (by simp [results, Tryz.results16, go_sem, v0, v1, v2, v3, v4, v5, v6, v7, v8, v9, v10]; rfl) rfl ?_
  rw [HFIN.out]
  exact ⟨rfl, HBZ.out⟩
set_option maxRecDepth 20000 in
set_option maxHeartbeats 12800000 in
theorem msg_101 (x : Ac) (hx : x.ok) {B n : Nat} {v : Value} {L : List Cp} (w : World) (hr : w.ownsRow B 36 4 v n (cellsC L)) (hn : n = L.length) (h0 : 0 < n) (q : Cp) (hq : L.getD (x.wh % n) Cp.zero = q) (h1 : x.o % 6 = 1) (h2 : x.fr = false) (h3 : x.o % 11 = 10) (m2 : Msg) (hm2 : msgF x q = m2) :
    Calls Tryz.prog 16 #[.agg #[.int .u8 (x.o : Int), .int .u8 (x.wh : Int), .int .u16 (x.a : Int), .int .u16 (x.b : Int), .bool x.fr, .slice x.so x.sn x.sc], v] w fun e w' => e = .returned (.agg #[.int .u64 m2.ta, .int .u64 m2.rp, .int .u32 m2.id, .int .u16 m2.op, .int .u16 m2.st, .int .u64 m2.p, .int .u32 m2.o, .int .u8 m2.r, .int .u64 m2.c, .int .u64 m2.ar, .slice x.so x.sn x.sc]) ∧ Below w.heap.size w w' := by
  have HM2 := hide hm2
  clear hm2
  obtain ⟨o, wh, a, b, fr, so, sn, sc, l⟩ := x
  obtain ⟨qp, qo, qr, qc⟩ := q
  simp only at h1 h2 h3 hq hx HM2 ⊢
  subst h2
  obtain ⟨k, hk⟩ : ∃ k, wh % n = k := ⟨_, rfl⟩
  have hkn : k < n := by rw [← hk]; exact Nat.mod_lt _ h0
  rw [hk] at hq
  obtain ⟨rb, cap, rfl, hnc, hcm, e0, e1, e2, e3⟩ := owns_cap hr hn k hkn qp qo qr qc hq
  unfold maxLen at hcm
  have hxo : o ≤ 255 ∧ wh ≤ 255 ∧ a ≤ 65535 ∧ b ≤ 65535 := hx
  have hk1 : (wh : Int) % (n : Int) = (k : Int) := by rw [← hk]; rfl
  have hk2 : (wh : Int).tmod (n : Int) = (k : Int) := by rw [Int.tmod_eq_emod_of_nonneg (by omega)]; exact hk1
  have hn0 : ¬ ((n : Int) = 0) := by omega
  have hn00 : ((n : Int) == 0) = false := by simp; omega
  have hn000 : ¬ n = 0 := by omega
  have hkl : (k : Int) < (n : Int) := by omega
  have hk0 : (0 : Int) ≤ (k : Int) := by omega
  have hwh : (wh : Int) ≤ 255 := by omega
  have hwk : IntKind.i64.wrap (wh : Int) = (wh : Int) := by rw [IntKind.wrap_i64]; omega
  have hwk2 : IntKind.i64.wrap (k : Int) = (k : Int) := by rw [IntKind.wrap_i64]; omega
  obtain ⟨o6, ho6⟩ : ∃ o6, o % 6 = o6 := ⟨_, rfl⟩
  have p1 : (o : Int) % 6 = (o6 : Int) := by omega
  have p2 : (o : Int).tmod 6 = (o6 : Int) := by rw [Int.tmod_eq_emod_of_nonneg (by omega)]; exact p1
  have p3 : IntKind.u16.wrap (o6 : Int) = (o6 : Int) := by rw [IntKind.wrap_u16]; omega
  have p3b : IntKind.u8.wrap (o6 : Int) = (o6 : Int) := by rw [IntKind.wrap_u8]; omega
  obtain ⟨po, hpo⟩ : ∃ po, 100 + o6 = po := ⟨_, rfl⟩
  have p4 : IntKind.u16.wrap (100 + (o6 : Int)) = (po : Int) := by rw [IntKind.wrap_u16]; omega
  obtain ⟨o11, ho11⟩ : ∃ o11, o % 11 = o11 := ⟨_, rfl⟩
  have p5 : (o : Int) % 11 = (o11 : Int) := by omega
  have p6 : (o : Int).tmod 11 = (o11 : Int) := by rw [Int.tmod_eq_emod_of_nonneg (by omega)]; exact p5
  have p6b : IntKind.u8.wrap (o11 : Int) = (o11 : Int) := by rw [IntKind.wrap_u8]; omega
  obtain ⟨a4, ha4⟩ : ∃ a4, a % 400 = a4 := ⟨_, rfl⟩
  have a1 : (a : Int) % 400 = (a4 : Int) := by omega
  have a2 : (a : Int).tmod 400 = (a4 : Int) := by rw [Int.tmod_eq_emod_of_nonneg (by omega)]; exact a1
  have a3 : IntKind.u64.wrap (a4 : Int) = (a4 : Int) := by rw [IntKind.wrap_u64]; omega
  have a3b : IntKind.u16.wrap (a4 : Int) = (a4 : Int) := by rw [IntKind.wrap_u16]; omega
  obtain ⟨b4, hb4⟩ : ∃ b4, b % 400 = b4 := ⟨_, rfl⟩
  have b1 : (b : Int) % 400 = (b4 : Int) := by omega
  have b2 : (b : Int).tmod 400 = (b4 : Int) := by rw [Int.tmod_eq_emod_of_nonneg (by omega)]; exact b1
  have b3 : IntKind.u64.wrap (b4 : Int) = (b4 : Int) := by rw [IntKind.wrap_u64]; omega
  have b3b : IntKind.u16.wrap (b4 : Int) = (b4 : Int) := by rw [IntKind.wrap_u16]; omega
  obtain ⟨b5, hb5⟩ : ∃ b5, b % 33 = b5 := ⟨_, rfl⟩
  have c1 : (b : Int) % 33 = (b5 : Int) := by omega
  have c2 : (b : Int).tmod 33 = (b5 : Int) := by rw [Int.tmod_eq_emod_of_nonneg (by omega)]; exact c1
  have c3 : IntKind.u16.wrap (31 + (b5 : Int)) = ((31 + b5 : Nat) : Int) := by rw [IntKind.wrap_u16]; omega
  have c3b : IntKind.u16.wrap (b5 : Int) = (b5 : Int) := by rw [IntKind.wrap_u16]; omega
  have c4 : b5 < 33 := by omega
  have HMF : Hid (m2 = ⟨0, 0, 0, 5, 0, qp, qo, qr, qc, a4 * 4294967296 + b4⟩) := by
    show m2 = _
    rw [← HM2.out]
    unfold msgF arM ar1M opM
    simp only
    rw [if_pos h3, if_neg (by decide), if_pos h1]
    simp only [ha4, hb4]
  obtain ⟨z1, hz1⟩ : ∃ z1, a4 * 4294967296 + b4 = z1 := ⟨_, rfl⟩
  have d1 : IntKind.u64.wrap (IntKind.u64.wrap ((a4 : Int) * 4294967296) + (b4 : Int)) = (z1 : Int) := by rw [IntKind.wrap_u64, IntKind.wrap_u64]; omega
  have d1b : (a4 : Int) * 4294967296 + (b4 : Int) = (z1 : Int) := by omega
  have d1c : IntKind.u64.wrap (z1 : Int) = (z1 : Int) := by rw [IntKind.wrap_u64]; omega
  have t1 : ((o6 : Int) == 1) = true := by rw [show (o6 : Int) = 1 by omega]; rfl
  have t2 : ((o11 : Int) == 10) = true := by rw [show (o11 : Int) = 10 by omega]; rfl
  obtain ⟨X, hX⟩ : ∃ X, (w.alloc (.cells #[.int .u8 (o : Int), .int .u8 (wh : Int), .int .u16 (a : Int), .int .u16 (b : Int), .bool false, .slice so sn sc] 51)).alloc (.cells #[.int .u64 0, .int .u64 0, .int .u32 0, .int .u16 0, .int .u16 0, .int .u64 0, .int .u32 0, .int .u8 0, .int .u64 0, .int .u64 0, .slice none 0 0] 53) = X := ⟨_, rfl⟩
  have bX : Below w.heap.size w X := hX ▸ below_one (below_alloc w _) (below_alloc _ _)
  have HAB : Hid (AB X w.heap.size ⟨o, wh, a, b, false, so, sn, sc, l⟩) := hX ▸ (AB.new w ⟨o, wh, a, b, false, so, sn, sc, l⟩).grow (below_alloc _ _)
  have HZ : Hid (MB X (w.heap.size + 1) Msg.zero (.slice none 0 0)) := by
    show X.heap[w.heap.size + 1]? = _
    have h := heap_alloc_new (w.alloc (.cells #[.int .u8 (o : Int), .int .u8 (wh : Int), .int .u16 (a : Int), .int .u16 (b : Int), .bool false, .slice so sn sc] 51)) (.cells #[.int .u64 0, .int .u64 0, .int .u32 0, .int .u16 0, .int .u16 0, .int .u64 0, .int .u32 0, .int .u8 0, .int .u64 0, .int .u64 0, .slice none 0 0] 53)
    rw [hX, sz1] at h
    exact h
  have HBX := hide bX
  have HSZ : Hid (w.heap.size + 1 < X.heap.size) := lt_of_heap HZ.out
  have f0 : X.cell? ⟨rb, k * 4, none⟩ = some (.int .u64 (qp : Int)) := by rw [bX.cell (lt_of_cell e0), e0]
  have f1 : X.cell? ⟨rb, k * 4 + 1, none⟩ = some (.int .u32 (qo : Int)) := by rw [bX.cell (lt_of_cell e1), e1]
  have f2 : X.cell? ⟨rb, k * 4 + 2, none⟩ = some (.int .u8 (qr : Int)) := by rw [bX.cell (lt_of_cell e2), e2]
  have f3 : X.cell? ⟨rb, k * 4 + 3, none⟩ = some (.int .u64 (qc : Int)) := by rw [bX.cell (lt_of_cell e3), e3]
  have HF : Hid (X.cell? ⟨rb, k * 4, none⟩ = some (.int .u64 (qp : Int)) ∧ X.cell? ⟨rb, k * 4 + 1, none⟩ = some (.int .u32 (qo : Int)) ∧ X.cell? ⟨rb, k * 4 + 2, none⟩ = some (.int .u8 (qr : Int)) ∧ X.cell? ⟨rb, k * 4 + 3, none⟩ = some (.int .u64 (qc : Int))) := ⟨f0, f1, f2, f3⟩
  obtain ⟨g0, g1, g2, g3, g4, g5⟩ := HAB.out.all
  simp only at g0 g1 g2 g3 g4 g5
  clear hr hn h0 hq h1 h3 hx hxo hk bX e0 e1 e2 e3 HM2 ho6 ho11 ha4 hb4 hb5 hpo
  go_enter Tryz.func16, Tryz.ntmps16
  go_wp2_with fail
  have hS : Hid ((X.drew.cell? ⟨w.heap.size, 0, none⟩ = some (.int .u8 (o : Int)) ∧ X.drew.cell? ⟨w.heap.size, 1, none⟩ = some (.int .u8 (wh : Int)) ∧ X.drew.cell? ⟨w.heap.size, 5, none⟩ = some (.slice so sn sc)) ∧ X.drew.cell? ⟨rb, k * 4, none⟩ = some (.int .u64 (qp : Int)) ∧ X.drew.cell? ⟨rb, k * 4 + 1, none⟩ = some (.int .u32 (qo : Int)) ∧ X.drew.cell? ⟨rb, k * 4 + 2, none⟩ = some (.int .u8 (qr : Int)) ∧ X.drew.cell? ⟨rb, k * 4 + 3, none⟩ = some (.int .u64 (qc : Int))) := ⟨⟨g0, g1, g5⟩, f0, f1, f2, f3⟩
  refine wp_region_held_drew (S := fun U => (U.cell? ⟨w.heap.size, 0, none⟩ = some (.int .u8 (o : Int)) ∧ U.cell? ⟨w.heap.size, 1, none⟩ = some (.int .u8 (wh : Int)) ∧ U.cell? ⟨w.heap.size, 5, none⟩ = some (.slice so sn sc)) ∧ U.cell? ⟨rb, k * 4, none⟩ = some (.int .u64 (qp : Int)) ∧ U.cell? ⟨rb, k * 4 + 1, none⟩ = some (.int .u32 (qo : Int)) ∧ U.cell? ⟨rb, k * 4 + 2, none⟩ = some (.int .u8 (qr : Int)) ∧ U.cell? ⟨rb, k * 4 + 3, none⟩ = some (.int .u64 (qc : Int))) (by kernel_rfl) hS.out (fun _ => ?_)
  refine wpAnyH_take (i := 0) (oi := { dst := some 6, op := Go.Op.fieldAddr 51 (Go.Operand.tmp 2) 0, type := 0, pos := "law.go:38", after := #[], guard := none }) (v := (.pointer (some ⟨w.heap.size, 0, none⟩))) rfl (by kernel_rfl) (by kernel_rfl) (by kernel_rfl) (fun _ _ _ h => h) (Or.inl ⟨by kernel_rfl, fun w hC => by go_simp⟩) hS.out ?_
  simp only [Act.put, List.setIfInBounds_toArray, List.set_cons_zero, List.set_cons_succ]
  refine wpAnyH_take (i := 1) (oi := { dst := some 7, op := Go.Op.load 5 (Go.Operand.tmp 6), type := 5, pos := "law.go:38", after := #[{ on := 0, ground := Go.Ground.data }], guard := none }) (v := (.int .u8 (o : Int))) rfl (by kernel_rfl) (by kernel_rfl) (by kernel_rfl) (fun _ _ _ h => h) (Or.inl ⟨by kernel_rfl, fun w hC => by (obtain ⟨⟨g0, g1, g5⟩, f0, f1, f2, f3⟩ := hC; go_simp)⟩) hS.out ?_
  simp only [Act.put, List.setIfInBounds_toArray, List.set_cons_zero, List.set_cons_succ]
  refine wpAnyH_take (i := 2) (oi := { dst := some 8, op := Go.Op.binOp Go.BinOp.rem 5 (Go.Operand.tmp 7) (Go.Operand.const (Go.Value.int Go.IntKind.u8 6)) 5, type := 5, pos := "law.go:38", after := #[{ on := 1, ground := Go.Ground.data }], guard := none }) (v := (.int .u8 (o6 : Int))) rfl (by kernel_rfl) (by kernel_rfl) (by kernel_rfl) (fun _ _ _ h => h) (Or.inl ⟨by kernel_rfl, fun w hC => by go_simp⟩) hS.out ?_
  simp only [Act.put, List.setIfInBounds_toArray, List.set_cons_zero, List.set_cons_succ]
  refine wpAnyH_take (i := 3) (oi := { dst := some 9, op := Go.Op.convert 5 49 (Go.Operand.tmp 8), type := 49, pos := "law.go:38", after := #[{ on := 2, ground := Go.Ground.data }], guard := none }) (v := (.int .u16 (o6 : Int))) rfl (by kernel_rfl) (by kernel_rfl) (by kernel_rfl) (fun _ _ _ h => h) (Or.inl ⟨by kernel_rfl, fun w hC => by go_simp⟩) hS.out ?_
  simp only [Act.put, List.setIfInBounds_toArray, List.set_cons_zero, List.set_cons_succ]
  refine wpAnyH_take (i := 4) (oi := { dst := some 10, op := Go.Op.binOp Go.BinOp.add 49 (Go.Operand.const (Go.Value.int Go.IntKind.u16 100)) (Go.Operand.tmp 9) 49, type := 49, pos := "law.go:38", after := #[{ on := 3, ground := Go.Ground.data }], guard := none }) (v := (.int .u16 (po : Int))) rfl (by kernel_rfl) (by kernel_rfl) (by kernel_rfl) (fun _ _ _ h => h) (Or.inl ⟨by kernel_rfl, fun w hC => by go_simp⟩) hS.out ?_
  simp only [Act.put, List.setIfInBounds_toArray, List.set_cons_zero, List.set_cons_succ]
  refine wpAnyH_take (i := 5) (oi := { dst := some 11, op := Go.Op.move (Go.Operand.tmp 1), type := 47, pos := "law.go:38", after := #[], guard := none }) (v := (.slice (some ⟨rb, 0, none⟩) n cap)) rfl (by kernel_rfl) (by kernel_rfl) (by kernel_rfl) (fun _ _ _ h => h) (Or.inl ⟨by kernel_rfl, fun w hC => by go_simp⟩) hS.out ?_
  simp only [Act.put, List.setIfInBounds_toArray, List.set_cons_zero, List.set_cons_succ]
  refine wpAnyH_take (i := 6) (oi := { dst := some 12, op := Go.Op.fieldAddr 51 (Go.Operand.tmp 2) 1, type := 0, pos := "law.go:38", after := #[], guard := none }) (v := (.pointer (some ⟨w.heap.size, 1, none⟩))) rfl (by kernel_rfl) (by kernel_rfl) (by kernel_rfl) (fun _ _ _ h => h) (Or.inl ⟨by kernel_rfl, fun w hC => by go_simp⟩) hS.out ?_
  simp only [Act.put, List.setIfInBounds_toArray, List.set_cons_zero, List.set_cons_succ]
  refine wpAnyH_take (i := 7) (oi := { dst := some 13, op := Go.Op.load 5 (Go.Operand.tmp 12), type := 5, pos := "law.go:38", after := #[{ on := 6, ground := Go.Ground.data }], guard := none }) (v := (.int .u8 (wh : Int))) rfl (by kernel_rfl) (by kernel_rfl) (by kernel_rfl) (fun _ _ _ h => h) (Or.inl ⟨by kernel_rfl, fun w hC => by (obtain ⟨⟨g0, g1, g5⟩, f0, f1, f2, f3⟩ := hC; go_simp)⟩) hS.out ?_
  simp only [Act.put, List.setIfInBounds_toArray, List.set_cons_zero, List.set_cons_succ]
  refine wpAnyH_take (i := 8) (oi := { dst := some 14, op := Go.Op.convert 5 3 (Go.Operand.tmp 13), type := 3, pos := "law.go:38", after := #[{ on := 7, ground := Go.Ground.data }], guard := none }) (v := (.int .i64 (wh : Int))) rfl (by kernel_rfl) (by kernel_rfl) (by kernel_rfl) (fun _ _ _ h => h) (Or.inl ⟨by kernel_rfl, fun w hC => by go_simp⟩) hS.out ?_
  simp only [Act.put, List.setIfInBounds_toArray, List.set_cons_zero, List.set_cons_succ]
  refine wpAnyH_take (i := 9) (oi := { dst := some 15, op := Go.Op.move (Go.Operand.tmp 1), type := 47, pos := "law.go:38", after := #[], guard := none }) (v := (.slice (some ⟨rb, 0, none⟩) n cap)) rfl (by kernel_rfl) (by kernel_rfl) (by kernel_rfl) (fun _ _ _ h => h) (Or.inl ⟨by kernel_rfl, fun w hC => by go_simp⟩) hS.out ?_
  simp only [Act.put, List.setIfInBounds_toArray, List.set_cons_zero, List.set_cons_succ]
  refine wpAnyH_take (i := 10) (oi := { dst := some 16, op := Go.Op.call { callee := Go.Callee.builtin Go.Builtin.len, args := #[Go.Operand.tmp 15], argTypes := #[47] }, type := 3, pos := "law.go:38", after := #[{ on := 9, ground := Go.Ground.data }], guard := none }) (v := (.int .i64 (n : Int))) rfl (by kernel_rfl) (by kernel_rfl) (by kernel_rfl) (fun _ _ _ h => h) (Or.inl ⟨by kernel_rfl, fun w hC => by go_simp⟩) hS.out ?_
  simp only [Act.put, List.setIfInBounds_toArray, List.set_cons_zero, List.set_cons_succ]
  refine wpAnyH_take (i := 11) (oi := { dst := some 17, op := Go.Op.binOp Go.BinOp.rem 3 (Go.Operand.tmp 14) (Go.Operand.tmp 16) 3, type := 3, pos := "law.go:38", after := #[{ on := 8, ground := Go.Ground.data }, { on := 10, ground := Go.Ground.data }], guard := none }) (v := (.int .i64 (k : Int))) rfl (by kernel_rfl) (by kernel_rfl) (by kernel_rfl) (fun _ _ _ h => h) (Or.inl ⟨by kernel_rfl, fun w hC => by go_simp⟩) hS.out ?_
  simp only [Act.put, List.setIfInBounds_toArray, List.set_cons_zero, List.set_cons_succ]
  refine wpAnyH_take (i := 12) (oi := { dst := some 18, op := Go.Op.indexAddr 47 (Go.Operand.tmp 11) (Go.Operand.tmp 17), type := 0, pos := "law.go:38", after := #[{ on := 5, ground := Go.Ground.data }, { on := 11, ground := Go.Ground.data }], guard := none }) (v := (.pointer (some ⟨rb, k * 4, none⟩))) rfl (by kernel_rfl) (by kernel_rfl) (by kernel_rfl) (fun _ _ _ h => h) (Or.inl ⟨by kernel_rfl, fun w hC => by go_simp⟩) hS.out ?_
  simp only [Act.put, List.setIfInBounds_toArray, List.set_cons_zero, List.set_cons_succ]
  refine wpAnyH_take (i := 13) (oi := { dst := some 19, op := Go.Op.load 36 (Go.Operand.tmp 18), type := 36, pos := "law.go:38", after := #[{ on := 12, ground := Go.Ground.data }], guard := none }) (v := (.agg #[.int .u64 (qp : Int), .int .u32 (qo : Int), .int .u8 (qr : Int), .int .u64 (qc : Int)])) rfl (by kernel_rfl) (by kernel_rfl) (by kernel_rfl) (fun _ _ _ h => h) (Or.inl ⟨by kernel_rfl, fun w hC => by (obtain ⟨⟨g0, g1, g5⟩, f0, f1, f2, f3⟩ := hC; go_simp)⟩) hS.out ?_
  simp only [Act.put, List.setIfInBounds_toArray, List.set_cons_zero, List.set_cons_succ]
  refine wpAnyH_take (i := 14) (oi := { dst := some 20, op := Go.Op.fieldAddr 51 (Go.Operand.tmp 2) 5, type := 0, pos := "law.go:38", after := #[], guard := none }) (v := (.pointer (some ⟨w.heap.size, 5, none⟩))) rfl (by kernel_rfl) (by kernel_rfl) (by kernel_rfl) (fun _ _ _ h => h) (Or.inl ⟨by kernel_rfl, fun w hC => by go_simp⟩) hS.out ?_
  simp only [Act.put, List.setIfInBounds_toArray, List.set_cons_zero, List.set_cons_succ]
  refine wpAnyH_take (i := 15) (oi := { dst := some 21, op := Go.Op.load 23 (Go.Operand.tmp 20), type := 23, pos := "law.go:38", after := #[{ on := 14, ground := Go.Ground.data }], guard := none }) (v := (.slice so sn sc)) rfl (by kernel_rfl) (by kernel_rfl) (by kernel_rfl) (fun _ _ _ h => h) (Or.inl ⟨by kernel_rfl, fun w hC => by (obtain ⟨⟨g0, g1, g5⟩, f0, f1, f2, f3⟩ := hC; go_simp)⟩) hS.out ?_
  simp only [Act.put, List.setIfInBounds_toArray, List.set_cons_zero, List.set_cons_succ]
  refine wpAnyH_take (i := 16) (oi := { dst := some 22, op := Go.Op.build 53 #[(3, Go.Operand.tmp 10), (5, Go.Operand.tmp 19), (7, Go.Operand.tmp 21)], type := 53, pos := "law.go:38", after := #[{ on := 4, ground := Go.Ground.data }, { on := 13, ground := Go.Ground.data }, { on := 15, ground := Go.Ground.data }], guard := none }) (v := (.agg #[.int .u64 0, .int .u64 0, .int .u32 0, .int .u16 (po : Int), .int .u16 0, .int .u64 (qp : Int), .int .u32 (qo : Int), .int .u8 (qr : Int), .int .u64 (qc : Int), .int .u64 0, .slice so sn sc])) rfl (by kernel_rfl) (by kernel_rfl) (by kernel_rfl) (fun _ _ _ h => h) (Or.inl ⟨by kernel_rfl, fun w hC => by go_simp⟩) hS.out ?_
  simp only [Act.put, List.setIfInBounds_toArray, List.set_cons_zero, List.set_cons_succ]
  refine wpAnyH_ready (rs := [17]) (by kernel_rfl) (by simp) ?_
  refine AllReadyH.cons (o := { dst := some 5, op := Go.Op.alloc 53, type := 0, pos := "law.go:38", after := #[], guard := none }) rfl (fun KK hKK => ?_) AllReadyH.nil
  go_simp
  obtain ⟨Y, hY⟩ : ∃ Y, (X.alloc (.cells #[.int .u64 0, .int .u64 0, .int .u32 0, .int .u16 0, .int .u16 0, .int .u64 0, .int .u32 0, .int .u8 0, .int .u64 0, .int .u64 0, .slice none 0 0] 53)).drew = Y := ⟨_, rfl⟩
  try rw [hY]
  have bY : Below X.heap.size X Y := hY ▸ (below_alloc X _).drew
  have HMY : Hid (MB Y X.heap.size Msg.zero (.slice none 0 0)) := hY ▸ mb_new X Msg.zero _
  have HAY := hide (HAB.out.grow bY)
  have HZY := hide (HZ.out.grow bY)
  have HFY : Hid (Y.cell? ⟨rb, k * 4, none⟩ = some (.int .u64 (qp : Int)) ∧ Y.cell? ⟨rb, k * 4 + 1, none⟩ = some (.int .u32 (qo : Int)) ∧ Y.cell? ⟨rb, k * 4 + 2, none⟩ = some (.int .u8 (qr : Int)) ∧ Y.cell? ⟨rb, k * 4 + 3, none⟩ = some (.int .u64 (qc : Int))) := ⟨by rw [bY.cell (lt_of_cell f0), f0], by rw [bY.cell (lt_of_cell f1), f1], by rw [bY.cell (lt_of_cell f2), f2], by rw [bY.cell (lt_of_cell f3), f3]⟩
  have HLT : Hid (rb < X.heap.size) := lt_of_cell f0
  have HBY := hide (below_one HBX.out bY)
  clear g0 g1 g2 g3 g4 g5 f0 f1 f2 f3 bY
  obtain ⟨g0, g1, g2, g3, g4, g5⟩ := HAY.out.all
  simp only at g0 g1 g2 g3 g4 g5
  obtain ⟨m0, hm0⟩ : ∃ m0 : Msg, (⟨0, 0, 0, po, 0, qp, qo, qr, qc, 0⟩ : Msg) = m0 := ⟨_, rfl⟩
  have hS : Hid ((Y.cell? ⟨w.heap.size, 0, none⟩ = some (.int .u8 (o : Int)) ∧ Y.cell? ⟨w.heap.size, 1, none⟩ = some (.int .u8 (wh : Int)) ∧ Y.cell? ⟨w.heap.size, 5, none⟩ = some (.slice so sn sc)) ∧ Y.cell? ⟨rb, k * 4, none⟩ = some (.int .u64 (qp : Int)) ∧ Y.cell? ⟨rb, k * 4 + 1, none⟩ = some (.int .u32 (qo : Int)) ∧ Y.cell? ⟨rb, k * 4 + 2, none⟩ = some (.int .u8 (qr : Int)) ∧ Y.cell? ⟨rb, k * 4 + 3, none⟩ = some (.int .u64 (qc : Int))) := ⟨⟨g0, g1, g5⟩, HFY.out⟩
  refine hKK.out _ _ hS.out (fun _ => ?_)
  clear hKK
  have HML := hide (HMY.out.lay (m := ⟨0, 0, 0, po, 0, qp, qo, qr, qc, 0⟩) (D := .slice so sn sc))
  have fL := foot_lay11 Y X.heap.size ⟨0, 0, 0, po, 0, qp, qo, qr, qc, 0⟩ (.slice so sn sc)
  have HAL := hide (HAY.out.foot fL (fun (e : w.heap.size = X.heap.size) => by have := HSZ.out; omega))
  have HZL := hide (HZY.out.foot fL (fun (e : w.heap.size + 1 = X.heap.size) => by have := HSZ.out; omega))
  have HBL : Hid (Below w.heap.size w (lay11 Y X.heap.size ⟨0, 0, 0, po, 0, qp, qo, qr, qc, 0⟩ (.slice so sn sc))) := (((below_foot (fun j => w.heap.size ≤ j) HBY.out).trans fL (fun j (e : j = _) => .inl (by show w.heap.size ≤ j; have := HSZ.out; omega))).below (Nat.le_refl _) (fun k e => e))
  have HFL : Hid ((lay11 Y X.heap.size ⟨0, 0, 0, po, 0, qp, qo, qr, qc, 0⟩ (.slice so sn sc)).cell? ⟨rb, k * 4, none⟩ = some (.int .u64 (qp : Int)) ∧ (lay11 Y X.heap.size ⟨0, 0, 0, po, 0, qp, qo, qr, qc, 0⟩ (.slice so sn sc)).cell? ⟨rb, k * 4 + 1, none⟩ = some (.int .u32 (qo : Int)) ∧ (lay11 Y X.heap.size ⟨0, 0, 0, po, 0, qp, qo, qr, qc, 0⟩ (.slice so sn sc)).cell? ⟨rb, k * 4 + 2, none⟩ = some (.int .u8 (qr : Int)) ∧ (lay11 Y X.heap.size ⟨0, 0, 0, po, 0, qp, qo, qr, qc, 0⟩ (.slice so sn sc)).cell? ⟨rb, k * 4 + 3, none⟩ = some (.int .u64 (qc : Int))) := by
    obtain ⟨f0, f1, f2, f3⟩ := HFY.out
    have hne : ¬ rb = X.heap.size := by have := HLT.out; omega
    exact ⟨(fL.cell _ (lt_of_cell f0) hne).trans f0, (fL.cell _ (lt_of_cell f1) hne).trans f1, (fL.cell _ (lt_of_cell f2) hne).trans f2, (fL.cell _ (lt_of_cell f3) hne).trans f3⟩
  obtain ⟨V, hV⟩ : ∃ V, lay11 Y X.heap.size ⟨0, 0, 0, po, 0, qp, qo, qr, qc, 0⟩ (.slice so sn sc) = V := ⟨_, rfl⟩
  rw [hV] at HML HAL HZL HBL HFL
  unfold lay11 at hV
  simp only [show (((0 : Nat)) : Int) = 0 from rfl] at hV
  obtain ⟨z0, z1x, z2, z3, z4, z5, z6, z7, z8, z9, z10⟩ := HMY.out.all
  simp only [Msg.zero, show (((0 : Nat)) : Int) = 0 from rfl] at z0 z1x z2 z3 z4 z5 z6 z7 z8 z9 z10
  have y0 := HMY.out.z 0
  have y1 := HMY.out.z 1
  have y2 := HMY.out.z 2
  have y3 := HMY.out.z 3
  have y4 := HMY.out.z 4
  have y5 := HMY.out.z 5
  have y6 := HMY.out.z 6
  have y7 := HMY.out.z 7
  have y8 := HMY.out.z 8
  have y9 := HMY.out.z 9
  have y10 := HMY.out.z 10
  clear g0 g1 g2 g3 g4 g5
  obtain ⟨g0, g1, g2, g3, g4, g5⟩ := HAL.out.all
  simp only at g0 g1 g2 g3 g4 g5
  refine wpAnyH_ready (rs := [18]) (by kernel_rfl) (by simp) ?_
  refine AllReadyH.cons (o := { dst := none, op := Go.Op.store 53 (Go.Operand.tmp 5) (Go.Operand.tmp 22), type := 0, pos := "law.go:38", after := #[{ on := 17, ground := Go.Ground.data }, { on := 16, ground := Go.Ground.data }, { on := 0, ground := Go.Ground.phase }, { on := 1, ground := Go.Ground.phase }, { on := 2, ground := Go.Ground.phase }, { on := 3, ground := Go.Ground.phase }, { on := 4, ground := Go.Ground.phase }, { on := 5, ground := Go.Ground.phase }, { on := 6, ground := Go.Ground.phase }, { on := 7, ground := Go.Ground.phase }, { on := 8, ground := Go.Ground.phase }, { on := 9, ground := Go.Ground.phase }, { on := 10, ground := Go.Ground.phase }, { on := 11, ground := Go.Ground.phase }, { on := 12, ground := Go.Ground.phase }, { on := 13, ground := Go.Ground.phase }, { on := 14, ground := Go.Ground.phase }, { on := 15, ground := Go.Ground.phase }, { on := 16, ground := Go.Ground.phase }, { on := 17, ground := Go.Ground.phase }], guard := none }) rfl (fun KK hKK => ?_) AllReadyH.nil
  go_simp
  have hS : Hid ((V.cell? ⟨w.heap.size, 0, none⟩ = some (.int .u8 (o : Int)) ∧ V.cell? ⟨w.heap.size, 1, none⟩ = some (.int .u8 (wh : Int)) ∧ V.cell? ⟨w.heap.size, 5, none⟩ = some (.slice so sn sc)) ∧ V.cell? ⟨rb, k * 4, none⟩ = some (.int .u64 (qp : Int)) ∧ V.cell? ⟨rb, k * 4 + 1, none⟩ = some (.int .u32 (qo : Int)) ∧ V.cell? ⟨rb, k * 4 + 2, none⟩ = some (.int .u8 (qr : Int)) ∧ V.cell? ⟨rb, k * 4 + 3, none⟩ = some (.int .u64 (qc : Int))) := ⟨⟨g0, g1, g5⟩, HFL.out⟩
  refine hKK.out _ _ hS.out (fun _ => ?_)
  clear hKK
  refine wpAnyH_done (by kernel_rfl) ?_ _
  clear z0 z1x z2 z3 z4 z5 z6 z7 z8 z9 z10 y0 y1 y2 y3 y4 y5 y6 y7 y8 y9 y10
  have HMB := hide HML.out
  have w0a := HMB.out.z 9
  have w0b := HMB.out.z 3
  obtain ⟨q00, q01, q02, q03, q04, q05, q06, q07, q08, q09, q010⟩ := HMB.out.all
  simp only [show (((0 : Nat)) : Int) = 0 from rfl] at q00 q01 q02 q04 q09
  obtain ⟨g00, g01, g02, g03, g04, g05⟩ := HAL.out.all
  simp only at g00 g01 g02 g03 g04 g05
  have f1x := foot_one V X.heap.size 9 (.int .u64 ((a4 : Nat) : Int))
  have HMB := hide (HMB.out.put9 (a4))
  have HAL := hide (HAL.out.foot f1x (fun (e : w.heap.size = X.heap.size) => by have := HSZ.out; omega))
  have HZL := hide (HZL.out.foot f1x (fun (e : w.heap.size + 1 = X.heap.size) => by have := HSZ.out; omega))
  have HBL : Hid (Below w.heap.size w _) := (((below_foot (fun j => w.heap.size ≤ j) HBL.out).trans f1x (fun j (e : j = _) => .inl (by show w.heap.size ≤ j; have := HSZ.out; omega))).below (Nat.le_refl _) (fun k e => e))
  obtain ⟨U1, hU1⟩ : ∃ U, V.setCell ⟨X.heap.size, 9, none⟩ (.int .u64 ((a4 : Nat) : Int)) = U := ⟨_, rfl⟩
  rw [hU1] at HMB HAL HZL HBL
  clear f1x
  have w1a := HMB.out.z 9
  have w1b := HMB.out.z 3
  obtain ⟨q10, q11, q12, q13, q14, q15, q16, q17, q18, q19, q110⟩ := HMB.out.all
  simp only [show (((0 : Nat)) : Int) = 0 from rfl] at q10 q11 q12 q14 q19
  obtain ⟨g10, g11, g12, g13, g14, g15⟩ := HAL.out.all
  simp only at g10 g11 g12 g13 g14 g15
  have f2x := foot_one U1 X.heap.size 9 (.int .u64 ((z1 : Nat) : Int))
  have HMB := hide (HMB.out.put9 (z1))
  have HAL := hide (HAL.out.foot f2x (fun (e : w.heap.size = X.heap.size) => by have := HSZ.out; omega))
  have HZL := hide (HZL.out.foot f2x (fun (e : w.heap.size + 1 = X.heap.size) => by have := HSZ.out; omega))
  have HBL : Hid (Below w.heap.size w _) := (((below_foot (fun j => w.heap.size ≤ j) HBL.out).trans f2x (fun j (e : j = _) => .inl (by show w.heap.size ≤ j; have := HSZ.out; omega))).below (Nat.le_refl _) (fun k e => e))
  obtain ⟨U2, hU2⟩ : ∃ U, U1.setCell ⟨X.heap.size, 9, none⟩ (.int .u64 ((z1 : Nat) : Int)) = U := ⟨_, rfl⟩
  rw [hU2] at HMB HAL HZL HBL
  clear f2x
  have w2a := HMB.out.z 9
  have w2b := HMB.out.z 3
  obtain ⟨q20, q21, q22, q23, q24, q25, q26, q27, q28, q29, q210⟩ := HMB.out.all
  simp only [show (((0 : Nat)) : Int) = 0 from rfl] at q20 q21 q22 q24 q29
  obtain ⟨g20, g21, g22, g23, g24, g25⟩ := HAL.out.all
  simp only at g20 g21 g22 g23 g24 g25
  have f3x := foot_one U2 X.heap.size 3 (.int .u16 5)
  have HMB : Hid (MB (U2.setCell ⟨X.heap.size, 3, none⟩ (.int .u16 5)) X.heap.size _ (.slice so sn sc)) := hide (HMB.out.put3 5)
  have HAL := hide (HAL.out.foot f3x (fun (e : w.heap.size = X.heap.size) => by have := HSZ.out; omega))
  have HZL := hide (HZL.out.foot f3x (fun (e : w.heap.size + 1 = X.heap.size) => by have := HSZ.out; omega))
  have HBL : Hid (Below w.heap.size w _) := (((below_foot (fun j => w.heap.size ≤ j) HBL.out).trans f3x (fun j (e : j = _) => .inl (by show w.heap.size ≤ j; have := HSZ.out; omega))).below (Nat.le_refl _) (fun k e => e))
  obtain ⟨U3, hU3⟩ : ∃ U, U2.setCell ⟨X.heap.size, 3, none⟩ (.int .u16 5) = U := ⟨_, rfl⟩
  rw [hU3] at HMB HAL HZL HBL
  clear f3x
  have w3a := HMB.out.z 9
  have w3b := HMB.out.z 3
  obtain ⟨q30, q31, q32, q33, q34, q35, q36, q37, q38, q39, q310⟩ := HMB.out.all
  simp only [show (((0 : Nat)) : Int) = 0 from rfl] at q30 q31 q32 q34 q39
  obtain ⟨g30, g31, g32, g33, g34, g35⟩ := HAL.out.all
  simp only at g30 g31 g32 g33 g34 g35
  simp only [show (((5 : Nat)) : Int) = 5 from rfl] at q33
  have HFIN : Hid (m2 = ⟨0, 0, 0, 5, 0, qp, qo, qr, qc, z1⟩) := by show _ = _; rw [HMF.out]; rw [← hz1]
  have HZZ := hide (HZL.out.lay (m := ⟨0, 0, 0, 5, 0, qp, qo, qr, qc, z1⟩) (D := .slice so sn sc))
  have fZ := foot_lay11 U3 (w.heap.size + 1) ⟨0, 0, 0, 5, 0, qp, qo, qr, qc, z1⟩ (.slice so sn sc)
  have HBZ : Hid (Below w.heap.size w (lay11 U3 (w.heap.size + 1) ⟨0, 0, 0, 5, 0, qp, qo, qr, qc, z1⟩ (.slice so sn sc))) := (((below_foot (fun j => w.heap.size ≤ j) HBL.out).trans fZ (fun j (e : j = _) => .inl (by show w.heap.size ≤ j; omega))).below (Nat.le_refl _) (fun k e => e))
  obtain ⟨wz, hwz⟩ : ∃ wz, lay11 U3 (w.heap.size + 1) ⟨0, 0, 0, 5, 0, qp, qo, qr, qc, z1⟩ (.slice so sn sc) = wz := ⟨_, rfl⟩
  rw [hwz] at HZZ HBZ
  unfold lay11 at hwz
  simp only [show (((0 : Nat)) : Int) = 0 from rfl, show (((5 : Nat)) : Int) = 5 from rfl] at hwz
  obtain ⟨r0, r1, r2, r3, r4, r5, r6, r7, r8, r9, r10⟩ := HZL.out.all
  simp only [Msg.zero, show (((0 : Nat)) : Int) = 0 from rfl] at r0 r1 r2 r3 r4 r5 r6 r7 r8 r9 r10
  have s0 := HZL.out.z 0
  have s1 := HZL.out.z 1
  have s2 := HZL.out.z 2
  have s3 := HZL.out.z 3
  have s4 := HZL.out.z 4
  have s5 := HZL.out.z 5
  have s6 := HZL.out.z 6
  have s7 := HZL.out.z 7
  have s8 := HZL.out.z 8
  have s9 := HZL.out.z 9
  have s10 := HZL.out.z 10
  obtain ⟨v0, v1, v2, v3, v4, v5, v6, v7, v8, v9, v10⟩ := HZZ.out.all
  simp only [show (((0 : Nat)) : Int) = 0 from rfl] at v0 v1 v2 v4
  simp only [show (((5 : Nat)) : Int) = 5 from rfl] at v3
  go_wp2
  refine bodyPost_ret (by simp [results, Tryz.results16, go_sem, v0, v1, v2, v3, v4, v5, v6, v7, v8, v9, v10]; rfl) rfl ?_
  rw [HFIN.out]
  exact ⟨rfl, HBZ.out⟩
end
end Go.Proofs.YtpbkjmkdciiccaaGreatDoor
namespace Go.Proofs.YtpbkjmkdciiccaaGreatDoor
section
open Go.RowKit
set_option maxRecDepth 20000 in
set_option maxHeartbeats 12800000 in
theorem msg_110 (x : Ac) (hx : x.ok) {B n : Nat} {v : Value} {L : List Cp} (w : World) (hr : w.ownsRow B 36 4 v n (cellsC L)) (hn : n = L.length) (h0 : 0 < n) (q : Cp) (hq : L.getD (x.wh % n) Cp.zero = q) (h1 : x.o % 6 = 1) (h2 : x.fr = true) (h3 : x.o % 11 ≠ 10) (m2 : Msg) (hm2 : msgF x q = m2) :
    Calls Tryz.prog 16 #[.agg #[.int .u8 (x.o : Int), .int .u8 (x.wh : Int), .int .u16 (x.a : Int), .int .u16 (x.b : Int), .bool x.fr, .slice x.so x.sn x.sc], v] w fun e w' => e = .returned (.agg #[.int .u64 m2.ta, .int .u64 m2.rp, .int .u32 m2.id, .int .u16 m2.op, .int .u16 m2.st, .int .u64 m2.p, .int .u32 m2.o, .int .u8 m2.r, .int .u64 m2.c, .int .u64 m2.ar, .slice x.so x.sn x.sc]) ∧ Below w.heap.size w w' := by
  have HM2 := hide hm2
  clear hm2
  obtain ⟨o, wh, a, b, fr, so, sn, sc, l⟩ := x
  obtain ⟨qp, qo, qr, qc⟩ := q
  simp only at h1 h2 h3 hq hx HM2 ⊢
  subst h2
  obtain ⟨k, hk⟩ : ∃ k, wh % n = k := ⟨_, rfl⟩
  have hkn : k < n := by rw [← hk]; exact Nat.mod_lt _ h0
  rw [hk] at hq
  obtain ⟨rb, cap, rfl, hnc, hcm, e0, e1, e2, e3⟩ := owns_cap hr hn k hkn qp qo qr qc hq
  unfold maxLen at hcm
  have hxo : o ≤ 255 ∧ wh ≤ 255 ∧ a ≤ 65535 ∧ b ≤ 65535 := hx
  have hk1 : (wh : Int) % (n : Int) = (k : Int) := by rw [← hk]; rfl
  have hk2 : (wh : Int).tmod (n : Int) = (k : Int) := by rw [Int.tmod_eq_emod_of_nonneg (by omega)]; exact hk1
  have hn0 : ¬ ((n : Int) = 0) := by omega
  have hn00 : ((n : Int) == 0) = false := by simp; omega
  have hn000 : ¬ n = 0 := by omega
  have hkl : (k : Int) < (n : Int) := by omega
  have hk0 : (0 : Int) ≤ (k : Int) := by omega
  have hwh : (wh : Int) ≤ 255 := by omega
  have hwk : IntKind.i64.wrap (wh : Int) = (wh : Int) := by rw [IntKind.wrap_i64]; omega
  have hwk2 : IntKind.i64.wrap (k : Int) = (k : Int) := by rw [IntKind.wrap_i64]; omega
  obtain ⟨o6, ho6⟩ : ∃ o6, o % 6 = o6 := ⟨_, rfl⟩
  have p1 : (o : Int) % 6 = (o6 : Int) := by omega
  have p2 : (o : Int).tmod 6 = (o6 : Int) := by rw [Int.tmod_eq_emod_of_nonneg (by omega)]; exact p1
  have p3 : IntKind.u16.wrap (o6 : Int) = (o6 : Int) := by rw [IntKind.wrap_u16]; omega
  have p3b : IntKind.u8.wrap (o6 : Int) = (o6 : Int) := by rw [IntKind.wrap_u8]; omega
  obtain ⟨po, hpo⟩ : ∃ po, 100 + o6 = po := ⟨_, rfl⟩
  have p4 : IntKind.u16.wrap (100 + (o6 : Int)) = (po : Int) := by rw [IntKind.wrap_u16]; omega
  obtain ⟨o11, ho11⟩ : ∃ o11, o % 11 = o11 := ⟨_, rfl⟩
  have p5 : (o : Int) % 11 = (o11 : Int) := by omega
  have p6 : (o : Int).tmod 11 = (o11 : Int) := by rw [Int.tmod_eq_emod_of_nonneg (by omega)]; exact p5
  have p6b : IntKind.u8.wrap (o11 : Int) = (o11 : Int) := by rw [IntKind.wrap_u8]; omega
  obtain ⟨a4, ha4⟩ : ∃ a4, a % 400 = a4 := ⟨_, rfl⟩
  have a1 : (a : Int) % 400 = (a4 : Int) := by omega
  have a2 : (a : Int).tmod 400 = (a4 : Int) := by rw [Int.tmod_eq_emod_of_nonneg (by omega)]; exact a1
  have a3 : IntKind.u64.wrap (a4 : Int) = (a4 : Int) := by rw [IntKind.wrap_u64]; omega
  have a3b : IntKind.u16.wrap (a4 : Int) = (a4 : Int) := by rw [IntKind.wrap_u16]; omega
  obtain ⟨b4, hb4⟩ : ∃ b4, b % 400 = b4 := ⟨_, rfl⟩
  have b1 : (b : Int) % 400 = (b4 : Int) := by omega
  have b2 : (b : Int).tmod 400 = (b4 : Int) := by rw [Int.tmod_eq_emod_of_nonneg (by omega)]; exact b1
  have b3 : IntKind.u64.wrap (b4 : Int) = (b4 : Int) := by rw [IntKind.wrap_u64]; omega
  have b3b : IntKind.u16.wrap (b4 : Int) = (b4 : Int) := by rw [IntKind.wrap_u16]; omega
  obtain ⟨b5, hb5⟩ : ∃ b5, b % 33 = b5 := ⟨_, rfl⟩
  have c1 : (b : Int) % 33 = (b5 : Int) := by omega
  have c2 : (b : Int).tmod 33 = (b5 : Int) := by rw [Int.tmod_eq_emod_of_nonneg (by omega)]; exact c1
  have c3 : IntKind.u16.wrap (31 + (b5 : Int)) = ((31 + b5 : Nat) : Int) := by rw [IntKind.wrap_u16]; omega
  have c3b : IntKind.u16.wrap (b5 : Int) = (b5 : Int) := by rw [IntKind.wrap_u16]; omega
  have c4 : b5 < 33 := by omega
  have HMF : Hid (m2 = ⟨0, 0, 0, po, 0, qp, qo, qr, qc, (a4 * 4294967296 + b4 + 2 ^ (31 + b5)) % 18446744073709551616⟩) := by
    show m2 = _
    rw [← HM2.out]
    unfold msgF arM ar1M opM
    simp only
    rw [if_neg h3, if_pos trivial, if_pos h1]
    simp only [ho6, hpo, ha4, hb4, hb5]
  obtain ⟨z1, hz1⟩ : ∃ z1, a4 * 4294967296 + b4 = z1 := ⟨_, rfl⟩
  have d1 : IntKind.u64.wrap (IntKind.u64.wrap ((a4 : Int) * 4294967296) + (b4 : Int)) = (z1 : Int) := by rw [IntKind.wrap_u64, IntKind.wrap_u64]; omega
  have d1b : (a4 : Int) * 4294967296 + (b4 : Int) = (z1 : Int) := by omega
  have d1c : IntKind.u64.wrap (z1 : Int) = (z1 : Int) := by rw [IntKind.wrap_u64]; omega
  have t1 : ((o6 : Int) == 1) = true := by rw [show (o6 : Int) = 1 by omega]; rfl
  have t2 : ((o11 : Int) == 10) = false := by rw [beq_eq_false_iff_ne]; omega
  obtain ⟨X, hX⟩ : ∃ X, (w.alloc (.cells #[.int .u8 (o : Int), .int .u8 (wh : Int), .int .u16 (a : Int), .int .u16 (b : Int), .bool true, .slice so sn sc] 51)).alloc (.cells #[.int .u64 0, .int .u64 0, .int .u32 0, .int .u16 0, .int .u16 0, .int .u64 0, .int .u32 0, .int .u8 0, .int .u64 0, .int .u64 0, .slice none 0 0] 53) = X := ⟨_, rfl⟩
  have bX : Below w.heap.size w X := hX ▸ below_one (below_alloc w _) (below_alloc _ _)
  have HAB : Hid (AB X w.heap.size ⟨o, wh, a, b, true, so, sn, sc, l⟩) := hX ▸ (AB.new w ⟨o, wh, a, b, true, so, sn, sc, l⟩).grow (below_alloc _ _)
  have HZ : Hid (MB X (w.heap.size + 1) Msg.zero (.slice none 0 0)) := by
    show X.heap[w.heap.size + 1]? = _
    have h := heap_alloc_new (w.alloc (.cells #[.int .u8 (o : Int), .int .u8 (wh : Int), .int .u16 (a : Int), .int .u16 (b : Int), .bool true, .slice so sn sc] 51)) (.cells #[.int .u64 0, .int .u64 0, .int .u32 0, .int .u16 0, .int .u16 0, .int .u64 0, .int .u32 0, .int .u8 0, .int .u64 0, .int .u64 0, .slice none 0 0] 53)
    rw [hX, sz1] at h
    exact h
  have HBX := hide bX
  have HSZ : Hid (w.heap.size + 1 < X.heap.size) := lt_of_heap HZ.out
  have f0 : X.cell? ⟨rb, k * 4, none⟩ = some (.int .u64 (qp : Int)) := by rw [bX.cell (lt_of_cell e0), e0]
  have f1 : X.cell? ⟨rb, k * 4 + 1, none⟩ = some (.int .u32 (qo : Int)) := by rw [bX.cell (lt_of_cell e1), e1]
  have f2 : X.cell? ⟨rb, k * 4 + 2, none⟩ = some (.int .u8 (qr : Int)) := by rw [bX.cell (lt_of_cell e2), e2]
  have f3 : X.cell? ⟨rb, k * 4 + 3, none⟩ = some (.int .u64 (qc : Int)) := by rw [bX.cell (lt_of_cell e3), e3]
  have HF : Hid (X.cell? ⟨rb, k * 4, none⟩ = some (.int .u64 (qp : Int)) ∧ X.cell? ⟨rb, k * 4 + 1, none⟩ = some (.int .u32 (qo : Int)) ∧ X.cell? ⟨rb, k * 4 + 2, none⟩ = some (.int .u8 (qr : Int)) ∧ X.cell? ⟨rb, k * 4 + 3, none⟩ = some (.int .u64 (qc : Int))) := ⟨f0, f1, f2, f3⟩
  obtain ⟨g0, g1, g2, g3, g4, g5⟩ := HAB.out.all
  simp only at g0 g1 g2 g3 g4 g5
  clear hr hn h0 hq h1 h3 hx hxo hk bX e0 e1 e2 e3 HM2 ho6 ho11 ha4 hb4 hb5 hpo
  go_enter Tryz.func16, Tryz.ntmps16
  go_wp2_with fail
  have hS : Hid ((X.drew.cell? ⟨w.heap.size, 0, none⟩ = some (.int .u8 (o : Int)) ∧ X.drew.cell? ⟨w.heap.size, 1, none⟩ = some (.int .u8 (wh : Int)) ∧ X.drew.cell? ⟨w.heap.size, 5, none⟩ = some (.slice so sn sc)) ∧ X.drew.cell? ⟨rb, k * 4, none⟩ = some (.int .u64 (qp : Int)) ∧ X.drew.cell? ⟨rb, k * 4 + 1, none⟩ = some (.int .u32 (qo : Int)) ∧ X.drew.cell? ⟨rb, k * 4 + 2, none⟩ = some (.int .u8 (qr : Int)) ∧ X.drew.cell? ⟨rb, k * 4 + 3, none⟩ = some (.int .u64 (qc : Int))) := ⟨⟨g0, g1, g5⟩, f0, f1, f2, f3⟩
  refine wp_region_held_drew (S := fun U => (U.cell? ⟨w.heap.size, 0, none⟩ = some (.int .u8 (o : Int)) ∧ U.cell? ⟨w.heap.size, 1, none⟩ = some (.int .u8 (wh : Int)) ∧ U.cell? ⟨w.heap.size, 5, none⟩ = some (.slice so sn sc)) ∧ U.cell? ⟨rb, k * 4, none⟩ = some (.int .u64 (qp : Int)) ∧ U.cell? ⟨rb, k * 4 + 1, none⟩ = some (.int .u32 (qo : Int)) ∧ U.cell? ⟨rb, k * 4 + 2, none⟩ = some (.int .u8 (qr : Int)) ∧ U.cell? ⟨rb, k * 4 + 3, none⟩ = some (.int .u64 (qc : Int))) (by kernel_rfl) hS.out (fun _ => ?_)
  refine wpAnyH_take (i := 0) (oi := { dst := some 6, op := Go.Op.fieldAddr 51 (Go.Operand.tmp 2) 0, type := 0, pos := "law.go:38", after := #[], guard := none }) (v := (.pointer (some ⟨w.heap.size, 0, none⟩))) rfl (by kernel_rfl) (by kernel_rfl) (by kernel_rfl) (fun _ _ _ h => h) (Or.inl ⟨by kernel_rfl, fun w hC => by go_simp⟩) hS.out ?_
  simp only [Act.put, List.setIfInBounds_toArray, List.set_cons_zero, List.set_cons_succ]
  refine wpAnyH_take (i := 1) (oi := { dst := some 7, op := Go.Op.load 5 (Go.Operand.tmp 6), type := 5, pos := "law.go:38", after := #[{ on := 0, ground := Go.Ground.data }], guard := none }) (v := (.int .u8 (o : Int))) rfl (by kernel_rfl) (by kernel_rfl) (by kernel_rfl) (fun _ _ _ h => h) (Or.inl ⟨by kernel_rfl, fun w hC => by (obtain ⟨⟨g0, g1, g5⟩, f0, f1, f2, f3⟩ := hC; go_simp)⟩) hS.out ?_
  simp only [Act.put, List.setIfInBounds_toArray, List.set_cons_zero, List.set_cons_succ]
  refine wpAnyH_take (i := 2) (oi := { dst := some 8, op := Go.Op.binOp Go.BinOp.rem 5 (Go.Operand.tmp 7) (Go.Operand.const (Go.Value.int Go.IntKind.u8 6)) 5, type := 5, pos := "law.go:38", after := #[{ on := 1, ground := Go.Ground.data }], guard := none }) (v := (.int .u8 (o6 : Int))) rfl (by kernel_rfl) (by kernel_rfl) (by kernel_rfl) (fun _ _ _ h => h) (Or.inl ⟨by kernel_rfl, fun w hC => by go_simp⟩) hS.out ?_
  simp only [Act.put, List.setIfInBounds_toArray, List.set_cons_zero, List.set_cons_succ]
  refine wpAnyH_take (i := 3) (oi := { dst := some 9, op := Go.Op.convert 5 49 (Go.Operand.tmp 8), type := 49, pos := "law.go:38", after := #[{ on := 2, ground := Go.Ground.data }], guard := none }) (v := (.int .u16 (o6 : Int))) rfl (by kernel_rfl) (by kernel_rfl) (by kernel_rfl) (fun _ _ _ h => h) (Or.inl ⟨by kernel_rfl, fun w hC => by go_simp⟩) hS.out ?_
  simp only [Act.put, List.setIfInBounds_toArray, List.set_cons_zero, List.set_cons_succ]
  refine wpAnyH_take (i := 4) (oi := { dst := some 10, op := Go.Op.binOp Go.BinOp.add 49 (Go.Operand.const (Go.Value.int Go.IntKind.u16 100)) (Go.Operand.tmp 9) 49, type := 49, pos := "law.go:38", after := #[{ on := 3, ground := Go.Ground.data }], guard := none }) (v := (.int .u16 (po : Int))) rfl (by kernel_rfl) (by kernel_rfl) (by kernel_rfl) (fun _ _ _ h => h) (Or.inl ⟨by kernel_rfl, fun w hC => by go_simp⟩) hS.out ?_
  simp only [Act.put, List.setIfInBounds_toArray, List.set_cons_zero, List.set_cons_succ]
  refine wpAnyH_take (i := 5) (oi := { dst := some 11, op := Go.Op.move (Go.Operand.tmp 1), type := 47, pos := "law.go:38", after := #[], guard := none }) (v := (.slice (some ⟨rb, 0, none⟩) n cap)) rfl (by kernel_rfl) (by kernel_rfl) (by kernel_rfl) (fun _ _ _ h => h) (Or.inl ⟨by kernel_rfl, fun w hC => by go_simp⟩) hS.out ?_
  simp only [Act.put, List.setIfInBounds_toArray, List.set_cons_zero, List.set_cons_succ]
  refine wpAnyH_take (i := 6) (oi := { dst := some 12, op := Go.Op.fieldAddr 51 (Go.Operand.tmp 2) 1, type := 0, pos := "law.go:38", after := #[], guard := none }) (v := (.pointer (some ⟨w.heap.size, 1, none⟩))) rfl (by kernel_rfl) (by kernel_rfl) (by kernel_rfl) (fun _ _ _ h => h) (Or.inl ⟨by kernel_rfl, fun w hC => by go_simp⟩) hS.out ?_
  simp only [Act.put, List.setIfInBounds_toArray, List.set_cons_zero, List.set_cons_succ]
  refine wpAnyH_take (i := 7) (oi := { dst := some 13, op := Go.Op.load 5 (Go.Operand.tmp 12), type := 5, pos := "law.go:38", after := #[{ on := 6, ground := Go.Ground.data }], guard := none }) (v := (.int .u8 (wh : Int))) rfl (by kernel_rfl) (by kernel_rfl) (by kernel_rfl) (fun _ _ _ h => h) (Or.inl ⟨by kernel_rfl, fun w hC => by (obtain ⟨⟨g0, g1, g5⟩, f0, f1, f2, f3⟩ := hC; go_simp)⟩) hS.out ?_
  simp only [Act.put, List.setIfInBounds_toArray, List.set_cons_zero, List.set_cons_succ]
  refine wpAnyH_take (i := 8) (oi := { dst := some 14, op := Go.Op.convert 5 3 (Go.Operand.tmp 13), type := 3, pos := "law.go:38", after := #[{ on := 7, ground := Go.Ground.data }], guard := none }) (v := (.int .i64 (wh : Int))) rfl (by kernel_rfl) (by kernel_rfl) (by kernel_rfl) (fun _ _ _ h => h) (Or.inl ⟨by kernel_rfl, fun w hC => by go_simp⟩) hS.out ?_
  simp only [Act.put, List.setIfInBounds_toArray, List.set_cons_zero, List.set_cons_succ]
  refine wpAnyH_take (i := 9) (oi := { dst := some 15, op := Go.Op.move (Go.Operand.tmp 1), type := 47, pos := "law.go:38", after := #[], guard := none }) (v := (.slice (some ⟨rb, 0, none⟩) n cap)) rfl (by kernel_rfl) (by kernel_rfl) (by kernel_rfl) (fun _ _ _ h => h) (Or.inl ⟨by kernel_rfl, fun w hC => by go_simp⟩) hS.out ?_
  simp only [Act.put, List.setIfInBounds_toArray, List.set_cons_zero, List.set_cons_succ]
  refine wpAnyH_take (i := 10) (oi := { dst := some 16, op := Go.Op.call { callee := Go.Callee.builtin Go.Builtin.len, args := #[Go.Operand.tmp 15], argTypes := #[47] }, type := 3, pos := "law.go:38", after := #[{ on := 9, ground := Go.Ground.data }], guard := none }) (v := (.int .i64 (n : Int))) rfl (by kernel_rfl) (by kernel_rfl) (by kernel_rfl) (fun _ _ _ h => h) (Or.inl ⟨by kernel_rfl, fun w hC => by go_simp⟩) hS.out ?_
  simp only [Act.put, List.setIfInBounds_toArray, List.set_cons_zero, List.set_cons_succ]
  refine wpAnyH_take (i := 11) (oi := { dst := some 17, op := Go.Op.binOp Go.BinOp.rem 3 (Go.Operand.tmp 14) (Go.Operand.tmp 16) 3, type := 3, pos := "law.go:38", after := #[{ on := 8, ground := Go.Ground.data }, { on := 10, ground := Go.Ground.data }], guard := none }) (v := (.int .i64 (k : Int))) rfl (by kernel_rfl) (by kernel_rfl) (by kernel_rfl) (fun _ _ _ h => h) (Or.inl ⟨by kernel_rfl, fun w hC => by go_simp⟩) hS.out ?_
  simp only [Act.put, List.setIfInBounds_toArray, List.set_cons_zero, List.set_cons_succ]
  refine wpAnyH_take (i := 12) (oi := { dst := some 18, op := Go.Op.indexAddr 47 (Go.Operand.tmp 11) (Go.Operand.tmp 17), type := 0, pos := "law.go:38", after := #[{ on := 5, ground := Go.Ground.data }, { on := 11, ground := Go.Ground.data }], guard := none }) (v := (.pointer (some ⟨rb, k * 4, none⟩))) rfl (by kernel_rfl) (by kernel_rfl) (by kernel_rfl) (fun _ _ _ h => h) (Or.inl ⟨by kernel_rfl, fun w hC => by go_simp⟩) hS.out ?_
  simp only [Act.put, List.setIfInBounds_toArray, List.set_cons_zero, List.set_cons_succ]
  refine wpAnyH_take (i := 13) (oi := { dst := some 19, op := Go.Op.load 36 (Go.Operand.tmp 18), type := 36, pos := "law.go:38", after := #[{ on := 12, ground := Go.Ground.data }], guard := none }) (v := (.agg #[.int .u64 (qp : Int), .int .u32 (qo : Int), .int .u8 (qr : Int), .int .u64 (qc : Int)])) rfl (by kernel_rfl) (by kernel_rfl) (by kernel_rfl) (fun _ _ _ h => h) (Or.inl ⟨by kernel_rfl, fun w hC => by (obtain ⟨⟨g0, g1, g5⟩, f0, f1, f2, f3⟩ := hC; go_simp)⟩) hS.out ?_
  simp only [Act.put, List.setIfInBounds_toArray, List.set_cons_zero, List.set_cons_succ]
  refine wpAnyH_take (i := 14) (oi := { dst := some 20, op := Go.Op.fieldAddr 51 (Go.Operand.tmp 2) 5, type := 0, pos := "law.go:38", after := #[], guard := none }) (v := (.pointer (some ⟨w.heap.size, 5, none⟩))) rfl (by kernel_rfl) (by kernel_rfl) (by kernel_rfl) (fun _ _ _ h => h) (Or.inl ⟨by kernel_rfl, fun w hC => by go_simp⟩) hS.out ?_
  simp only [Act.put, List.setIfInBounds_toArray, List.set_cons_zero, List.set_cons_succ]
  refine wpAnyH_take (i := 15) (oi := { dst := some 21, op := Go.Op.load 23 (Go.Operand.tmp 20), type := 23, pos := "law.go:38", after := #[{ on := 14, ground := Go.Ground.data }], guard := none }) (v := (.slice so sn sc)) rfl (by kernel_rfl) (by kernel_rfl) (by kernel_rfl) (fun _ _ _ h => h) (Or.inl ⟨by kernel_rfl, fun w hC => by (obtain ⟨⟨g0, g1, g5⟩, f0, f1, f2, f3⟩ := hC; go_simp)⟩) hS.out ?_
  simp only [Act.put, List.setIfInBounds_toArray, List.set_cons_zero, List.set_cons_succ]
  refine wpAnyH_take (i := 16) (oi := { dst := some 22, op := Go.Op.build 53 #[(3, Go.Operand.tmp 10), (5, Go.Operand.tmp 19), (7, Go.Operand.tmp 21)], type := 53, pos := "law.go:38", after := #[{ on := 4, ground := Go.Ground.data }, { on := 13, ground := Go.Ground.data }, { on := 15, ground := Go.Ground.data }], guard := none }) (v := (.agg #[.int .u64 0, .int .u64 0, .int .u32 0, .int .u16 (po : Int), .int .u16 0, .int .u64 (qp : Int), .int .u32 (qo : Int), .int .u8 (qr : Int), .int .u64 (qc : Int), .int .u64 0, .slice so sn sc])) rfl (by kernel_rfl) (by kernel_rfl) (by kernel_rfl) (fun _ _ _ h => h) (Or.inl ⟨by kernel_rfl, fun w hC => by go_simp⟩) hS.out ?_
  simp only [Act.put, List.setIfInBounds_toArray, List.set_cons_zero, List.set_cons_succ]
  refine wpAnyH_ready (rs := [17]) (by kernel_rfl) (by simp) ?_
  refine AllReadyH.cons (o := { dst := some 5, op := Go.Op.alloc 53, type := 0, pos := "law.go:38", after := #[], guard := none }) rfl (fun KK hKK => ?_) AllReadyH.nil
  go_simp
  obtain ⟨Y, hY⟩ : ∃ Y, (X.alloc (.cells #[.int .u64 0, .int .u64 0, .int .u32 0, .int .u16 0, .int .u16 0, .int .u64 0, .int .u32 0, .int .u8 0, .int .u64 0, .int .u64 0, .slice none 0 0] 53)).drew = Y := ⟨_, rfl⟩
  try rw [hY]
  have bY : Below X.heap.size X Y := hY ▸ (below_alloc X _).drew
  have HMY : Hid (MB Y X.heap.size Msg.zero (.slice none 0 0)) := hY ▸ mb_new X Msg.zero _
  have HAY := hide (HAB.out.grow bY)
  have HZY := hide (HZ.out.grow bY)
  have HFY : Hid (Y.cell? ⟨rb, k * 4, none⟩ = some (.int .u64 (qp : Int)) ∧ Y.cell? ⟨rb, k * 4 + 1, none⟩ = some (.int .u32 (qo : Int)) ∧ Y.cell? ⟨rb, k * 4 + 2, none⟩ = some (.int .u8 (qr : Int)) ∧ Y.cell? ⟨rb, k * 4 + 3, none⟩ = some (.int .u64 (qc : Int))) := ⟨by rw [bY.cell (lt_of_cell f0), f0], by rw [bY.cell (lt_of_cell f1), f1], by rw [bY.cell (lt_of_cell f2), f2], by rw [bY.cell (lt_of_cell f3), f3]⟩
  have HLT : Hid (rb < X.heap.size) := lt_of_cell f0
  have HBY := hide (below_one HBX.out bY)
  clear g0 g1 g2 g3 g4 g5 f0 f1 f2 f3 bY
  obtain ⟨g0, g1, g2, g3, g4, g5⟩ := HAY.out.all
  simp only at g0 g1 g2 g3 g4 g5
  obtain ⟨m0, hm0⟩ : ∃ m0 : Msg, (⟨0, 0, 0, po, 0, qp, qo, qr, qc, 0⟩ : Msg) = m0 := ⟨_, rfl⟩
  have hS : Hid ((Y.cell? ⟨w.heap.size, 0, none⟩ = some (.int .u8 (o : Int)) ∧ Y.cell? ⟨w.heap.size, 1, none⟩ = some (.int .u8 (wh : Int)) ∧ Y.cell? ⟨w.heap.size, 5, none⟩ = some (.slice so sn sc)) ∧ Y.cell? ⟨rb, k * 4, none⟩ = some (.int .u64 (qp : Int)) ∧ Y.cell? ⟨rb, k * 4 + 1, none⟩ = some (.int .u32 (qo : Int)) ∧ Y.cell? ⟨rb, k * 4 + 2, none⟩ = some (.int .u8 (qr : Int)) ∧ Y.cell? ⟨rb, k * 4 + 3, none⟩ = some (.int .u64 (qc : Int))) := ⟨⟨g0, g1, g5⟩, HFY.out⟩
  refine hKK.out _ _ hS.out (fun _ => ?_)
  clear hKK
  have HML := hide (HMY.out.lay (m := ⟨0, 0, 0, po, 0, qp, qo, qr, qc, 0⟩) (D := .slice so sn sc))
  have fL := foot_lay11 Y X.heap.size ⟨0, 0, 0, po, 0, qp, qo, qr, qc, 0⟩ (.slice so sn sc)
  have HAL := hide (HAY.out.foot fL (fun (e : w.heap.size = X.heap.size) => by have := HSZ.out; omega))
  have HZL := hide (HZY.out.foot fL (fun (e : w.heap.size + 1 = X.heap.size) => by have := HSZ.out; omega))
  have HBL : Hid (Below w.heap.size w (lay11 Y X.heap.size ⟨0, 0, 0, po, 0, qp, qo, qr, qc, 0⟩ (.slice so sn sc))) := (((below_foot (fun j => w.heap.size ≤ j) HBY.out).trans fL (fun j (e : j = _) => .inl (by show w.heap.size ≤ j; have := HSZ.out; omega))).below (Nat.le_refl _) (fun k e => e))
  have HFL : Hid ((lay11 Y X.heap.size ⟨0, 0, 0, po, 0, qp, qo, qr, qc, 0⟩ (.slice so sn sc)).cell? ⟨rb, k * 4, none⟩ = some (.int .u64 (qp : Int)) ∧ (lay11 Y X.heap.size ⟨0, 0, 0, po, 0, qp, qo, qr, qc, 0⟩ (.slice so sn sc)).cell? ⟨rb, k * 4 + 1, none⟩ = some (.int .u32 (qo : Int)) ∧ (lay11 Y X.heap.size ⟨0, 0, 0, po, 0, qp, qo, qr, qc, 0⟩ (.slice so sn sc)).cell? ⟨rb, k * 4 + 2, none⟩ = some (.int .u8 (qr : Int)) ∧ (lay11 Y X.heap.size ⟨0, 0, 0, po, 0, qp, qo, qr, qc, 0⟩ (.slice so sn sc)).cell? ⟨rb, k * 4 + 3, none⟩ = some (.int .u64 (qc : Int))) := by
    obtain ⟨f0, f1, f2, f3⟩ := HFY.out
    have hne : ¬ rb = X.heap.size := by have := HLT.out; omega
    exact ⟨(fL.cell _ (lt_of_cell f0) hne).trans f0, (fL.cell _ (lt_of_cell f1) hne).trans f1, (fL.cell _ (lt_of_cell f2) hne).trans f2, (fL.cell _ (lt_of_cell f3) hne).trans f3⟩
  obtain ⟨V, hV⟩ : ∃ V, lay11 Y X.heap.size ⟨0, 0, 0, po, 0, qp, qo, qr, qc, 0⟩ (.slice so sn sc) = V := ⟨_, rfl⟩
  rw [hV] at HML HAL HZL HBL HFL
  unfold lay11 at hV
  simp only [show (((0 : Nat)) : Int) = 0 from rfl] at hV
  obtain ⟨z0, z1x, z2, z3, z4, z5, z6, z7, z8, z9, z10⟩ := HMY.out.all
  simp only [Msg.zero, show (((0 : Nat)) : Int) = 0 from rfl] at z0 z1x z2 z3 z4 z5 z6 z7 z8 z9 z10
  have y0 := HMY.out.z 0
  have y1 := HMY.out.z 1
  have y2 := HMY.out.z 2
  have y3 := HMY.out.z 3
  have y4 := HMY.out.z 4
  have y5 := HMY.out.z 5
  have y6 := HMY.out.z 6
  have y7 := HMY.out.z 7
  have y8 := HMY.out.z 8
  have y9 := HMY.out.z 9
  have y10 := HMY.out.z 10
  clear g0 g1 g2 g3 g4 g5
  obtain ⟨g0, g1, g2, g3, g4, g5⟩ := HAL.out.all
  simp only at g0 g1 g2 g3 g4 g5
  refine wpAnyH_ready (rs := [18]) (by kernel_rfl) (by simp) ?_
  refine AllReadyH.cons (o := { dst := none, op := Go.Op.store 53 (Go.Operand.tmp 5) (Go.Operand.tmp 22), type := 0, pos := "law.go:38", after := #[{ on := 17, ground := Go.Ground.data }, { on := 16, ground := Go.Ground.data }, { on := 0, ground := Go.Ground.phase }, { on := 1, ground := Go.Ground.phase }, { on := 2, ground := Go.Ground.phase }, { on := 3, ground := Go.Ground.phase }, { on := 4, ground := Go.Ground.phase }, { on := 5, ground := Go.Ground.phase }, { on := 6, ground := Go.Ground.phase }, { on := 7, ground := Go.Ground.phase }, { on := 8, ground := Go.Ground.phase }, { on := 9, ground := Go.Ground.phase }, { on := 10, ground := Go.Ground.phase }, { on := 11, ground := Go.Ground.phase }, { on := 12, ground := Go.Ground.phase }, { on := 13, ground := Go.Ground.phase }, { on := 14, ground := Go.Ground.phase }, { on := 15, ground := Go.Ground.phase }, { on := 16, ground := Go.Ground.phase }, { on := 17, ground := Go.Ground.phase }], guard := none }) rfl (fun KK hKK => ?_) AllReadyH.nil
  go_simp
  have hS : Hid ((V.cell? ⟨w.heap.size, 0, none⟩ = some (.int .u8 (o : Int)) ∧ V.cell? ⟨w.heap.size, 1, none⟩ = some (.int .u8 (wh : Int)) ∧ V.cell? ⟨w.heap.size, 5, none⟩ = some (.slice so sn sc)) ∧ V.cell? ⟨rb, k * 4, none⟩ = some (.int .u64 (qp : Int)) ∧ V.cell? ⟨rb, k * 4 + 1, none⟩ = some (.int .u32 (qo : Int)) ∧ V.cell? ⟨rb, k * 4 + 2, none⟩ = some (.int .u8 (qr : Int)) ∧ V.cell? ⟨rb, k * 4 + 3, none⟩ = some (.int .u64 (qc : Int))) := ⟨⟨g0, g1, g5⟩, HFL.out⟩
  refine hKK.out _ _ hS.out (fun _ => ?_)
  clear hKK
  refine wpAnyH_done (by kernel_rfl) ?_ _
  clear z0 z1x z2 z3 z4 z5 z6 z7 z8 z9 z10 y0 y1 y2 y3 y4 y5 y6 y7 y8 y9 y10
  have HMB := hide HML.out
  have w0a := HMB.out.z 9
  have w0b := HMB.out.z 3
  obtain ⟨q00, q01, q02, q03, q04, q05, q06, q07, q08, q09, q010⟩ := HMB.out.all
  simp only [show (((0 : Nat)) : Int) = 0 from rfl] at q00 q01 q02 q04 q09
  obtain ⟨g00, g01, g02, g03, g04, g05⟩ := HAL.out.all
  simp only at g00 g01 g02 g03 g04 g05
  have f1x := foot_one V X.heap.size 9 (.int .u64 ((a4 : Nat) : Int))
  have HMB := hide (HMB.out.put9 (a4))
  have HAL := hide (HAL.out.foot f1x (fun (e : w.heap.size = X.heap.size) => by have := HSZ.out; omega))
  have HZL := hide (HZL.out.foot f1x (fun (e : w.heap.size + 1 = X.heap.size) => by have := HSZ.out; omega))
  have HBL : Hid (Below w.heap.size w _) := (((below_foot (fun j => w.heap.size ≤ j) HBL.out).trans f1x (fun j (e : j = _) => .inl (by show w.heap.size ≤ j; have := HSZ.out; omega))).below (Nat.le_refl _) (fun k e => e))
  obtain ⟨U1, hU1⟩ : ∃ U, V.setCell ⟨X.heap.size, 9, none⟩ (.int .u64 ((a4 : Nat) : Int)) = U := ⟨_, rfl⟩
  rw [hU1] at HMB HAL HZL HBL
  clear f1x
  have w1a := HMB.out.z 9
  have w1b := HMB.out.z 3
  obtain ⟨q10, q11, q12, q13, q14, q15, q16, q17, q18, q19, q110⟩ := HMB.out.all
  simp only [show (((0 : Nat)) : Int) = 0 from rfl] at q10 q11 q12 q14 q19
  obtain ⟨g10, g11, g12, g13, g14, g15⟩ := HAL.out.all
  simp only at g10 g11 g12 g13 g14 g15
  have f2x := foot_one U1 X.heap.size 9 (.int .u64 ((z1 : Nat) : Int))
  have HMB := hide (HMB.out.put9 (z1))
  have HAL := hide (HAL.out.foot f2x (fun (e : w.heap.size = X.heap.size) => by have := HSZ.out; omega))
  have HZL := hide (HZL.out.foot f2x (fun (e : w.heap.size + 1 = X.heap.size) => by have := HSZ.out; omega))
  have HBL : Hid (Below w.heap.size w _) := (((below_foot (fun j => w.heap.size ≤ j) HBL.out).trans f2x (fun j (e : j = _) => .inl (by show w.heap.size ≤ j; have := HSZ.out; omega))).below (Nat.le_refl _) (fun k e => e))
  obtain ⟨U2, hU2⟩ : ∃ U, U1.setCell ⟨X.heap.size, 9, none⟩ (.int .u64 ((z1 : Nat) : Int)) = U := ⟨_, rfl⟩
  rw [hU2] at HMB HAL HZL HBL
  clear f2x
  have w2a := HMB.out.z 9
  have w2b := HMB.out.z 3
  obtain ⟨q20, q21, q22, q23, q24, q25, q26, q27, q28, q29, q210⟩ := HMB.out.all
  simp only [show (((0 : Nat)) : Int) = 0 from rfl] at q20 q21 q22 q24 q29
  obtain ⟨g20, g21, g22, g23, g24, g25⟩ := HAL.out.all
  simp only at g20 g21 g22 g23 g24 g25
  obtain ⟨z2, hz2⟩ : ∃ z2, (z1 + 2 ^ (31 + b5)) % 18446744073709551616 = z2 := ⟨_, rfl⟩
  have d2 := shl_add (x := z1) hz2
  rw [show ((2 ^ (31 + b5) : Nat) : Int) = (2 : Int) ^ (31 + b5) from by simp] at d2
  have f3x := foot_one U2 X.heap.size 9 (.int .u64 ((z2 : Nat) : Int))
  have HMB := hide (HMB.out.put9 (z2))
  have HAL := hide (HAL.out.foot f3x (fun (e : w.heap.size = X.heap.size) => by have := HSZ.out; omega))
  have HZL := hide (HZL.out.foot f3x (fun (e : w.heap.size + 1 = X.heap.size) => by have := HSZ.out; omega))
  have HBL : Hid (Below w.heap.size w _) := (((below_foot (fun j => w.heap.size ≤ j) HBL.out).trans f3x (fun j (e : j = _) => .inl (by show w.heap.size ≤ j; have := HSZ.out; omega))).below (Nat.le_refl _) (fun k e => e))
  obtain ⟨U3, hU3⟩ : ∃ U, U2.setCell ⟨X.heap.size, 9, none⟩ (.int .u64 ((z2 : Nat) : Int)) = U := ⟨_, rfl⟩
  rw [hU3] at HMB HAL HZL HBL
  clear f3x
  have w3a := HMB.out.z 9
  have w3b := HMB.out.z 3
  obtain ⟨q30, q31, q32, q33, q34, q35, q36, q37, q38, q39, q310⟩ := HMB.out.all
  simp only [show (((0 : Nat)) : Int) = 0 from rfl] at q30 q31 q32 q34 q39
  obtain ⟨g30, g31, g32, g33, g34, g35⟩ := HAL.out.all
  simp only at g30 g31 g32 g33 g34 g35
  have HFIN : Hid (m2 = ⟨0, 0, 0, po, 0, qp, qo, qr, qc, z2⟩) := by show _ = _; rw [HMF.out]; rw [← hz2]; rw [← hz1]
  have HZZ := hide (HZL.out.lay (m := ⟨0, 0, 0, po, 0, qp, qo, qr, qc, z2⟩) (D := .slice so sn sc))
  have fZ := foot_lay11 U3 (w.heap.size + 1) ⟨0, 0, 0, po, 0, qp, qo, qr, qc, z2⟩ (.slice so sn sc)
  have HBZ : Hid (Below w.heap.size w (lay11 U3 (w.heap.size + 1) ⟨0, 0, 0, po, 0, qp, qo, qr, qc, z2⟩ (.slice so sn sc))) := (((below_foot (fun j => w.heap.size ≤ j) HBL.out).trans fZ (fun j (e : j = _) => .inl (by show w.heap.size ≤ j; omega))).below (Nat.le_refl _) (fun k e => e))
  obtain ⟨wz, hwz⟩ : ∃ wz, lay11 U3 (w.heap.size + 1) ⟨0, 0, 0, po, 0, qp, qo, qr, qc, z2⟩ (.slice so sn sc) = wz := ⟨_, rfl⟩
  rw [hwz] at HZZ HBZ
  unfold lay11 at hwz
  simp only [show (((0 : Nat)) : Int) = 0 from rfl] at hwz
  obtain ⟨r0, r1, r2, r3, r4, r5, r6, r7, r8, r9, r10⟩ := HZL.out.all
  simp only [Msg.zero, show (((0 : Nat)) : Int) = 0 from rfl] at r0 r1 r2 r3 r4 r5 r6 r7 r8 r9 r10
  have s0 := HZL.out.z 0
  have s1 := HZL.out.z 1
  have s2 := HZL.out.z 2
  have s3 := HZL.out.z 3
  have s4 := HZL.out.z 4
  have s5 := HZL.out.z 5
  have s6 := HZL.out.z 6
  have s7 := HZL.out.z 7
  have s8 := HZL.out.z 8
  have s9 := HZL.out.z 9
  have s10 := HZL.out.z 10
  obtain ⟨v0, v1, v2, v3, v4, v5, v6, v7, v8, v9, v10⟩ := HZZ.out.all
  simp only [show (((0 : Nat)) : Int) = 0 from rfl] at v0 v1 v2 v4
  go_wp2
  refine bodyPost_ret (by simp [results, Tryz.results16, go_sem, v0, v1, v2, v3, v4, v5, v6, v7, v8, v9, v10]; rfl) rfl ?_
  rw [HFIN.out]
  exact ⟨rfl, HBZ.out⟩
set_option maxRecDepth 20000 in
set_option maxHeartbeats 12800000 in
theorem msg_111 (x : Ac) (hx : x.ok) {B n : Nat} {v : Value} {L : List Cp} (w : World) (hr : w.ownsRow B 36 4 v n (cellsC L)) (hn : n = L.length) (h0 : 0 < n) (q : Cp) (hq : L.getD (x.wh % n) Cp.zero = q) (h1 : x.o % 6 = 1) (h2 : x.fr = true) (h3 : x.o % 11 = 10) (m2 : Msg) (hm2 : msgF x q = m2) :
    Calls Tryz.prog 16 #[.agg #[.int .u8 (x.o : Int), .int .u8 (x.wh : Int), .int .u16 (x.a : Int), .int .u16 (x.b : Int), .bool x.fr, .slice x.so x.sn x.sc], v] w fun e w' => e = .returned (.agg #[.int .u64 m2.ta, .int .u64 m2.rp, .int .u32 m2.id, .int .u16 m2.op, .int .u16 m2.st, .int .u64 m2.p, .int .u32 m2.o, .int .u8 m2.r, .int .u64 m2.c, .int .u64 m2.ar, .slice x.so x.sn x.sc]) ∧ Below w.heap.size w w' := by
  have HM2 := hide hm2
  clear hm2
  obtain ⟨o, wh, a, b, fr, so, sn, sc, l⟩ := x
  obtain ⟨qp, qo, qr, qc⟩ := q
  simp only at h1 h2 h3 hq hx HM2 ⊢
  subst h2
  obtain ⟨k, hk⟩ : ∃ k, wh % n = k := ⟨_, rfl⟩
  have hkn : k < n := by rw [← hk]; exact Nat.mod_lt _ h0
  rw [hk] at hq
  obtain ⟨rb, cap, rfl, hnc, hcm, e0, e1, e2, e3⟩ := owns_cap hr hn k hkn qp qo qr qc hq
  unfold maxLen at hcm
  have hxo : o ≤ 255 ∧ wh ≤ 255 ∧ a ≤ 65535 ∧ b ≤ 65535 := hx
  have hk1 : (wh : Int) % (n : Int) = (k : Int) := by rw [← hk]; rfl
  have hk2 : (wh : Int).tmod (n : Int) = (k : Int) := by rw [Int.tmod_eq_emod_of_nonneg (by omega)]; exact hk1
  have hn0 : ¬ ((n : Int) = 0) := by omega
  have hn00 : ((n : Int) == 0) = false := by simp; omega
  have hn000 : ¬ n = 0 := by omega
  have hkl : (k : Int) < (n : Int) := by omega
  have hk0 : (0 : Int) ≤ (k : Int) := by omega
  have hwh : (wh : Int) ≤ 255 := by omega
  have hwk : IntKind.i64.wrap (wh : Int) = (wh : Int) := by rw [IntKind.wrap_i64]; omega
  have hwk2 : IntKind.i64.wrap (k : Int) = (k : Int) := by rw [IntKind.wrap_i64]; omega
  obtain ⟨o6, ho6⟩ : ∃ o6, o % 6 = o6 := ⟨_, rfl⟩
  have p1 : (o : Int) % 6 = (o6 : Int) := by omega
  have p2 : (o : Int).tmod 6 = (o6 : Int) := by rw [Int.tmod_eq_emod_of_nonneg (by omega)]; exact p1
  have p3 : IntKind.u16.wrap (o6 : Int) = (o6 : Int) := by rw [IntKind.wrap_u16]; omega
  have p3b : IntKind.u8.wrap (o6 : Int) = (o6 : Int) := by rw [IntKind.wrap_u8]; omega
  obtain ⟨po, hpo⟩ : ∃ po, 100 + o6 = po := ⟨_, rfl⟩
  have p4 : IntKind.u16.wrap (100 + (o6 : Int)) = (po : Int) := by rw [IntKind.wrap_u16]; omega
  obtain ⟨o11, ho11⟩ : ∃ o11, o % 11 = o11 := ⟨_, rfl⟩
  have p5 : (o : Int) % 11 = (o11 : Int) := by omega
  have p6 : (o : Int).tmod 11 = (o11 : Int) := by rw [Int.tmod_eq_emod_of_nonneg (by omega)]; exact p5
  have p6b : IntKind.u8.wrap (o11 : Int) = (o11 : Int) := by rw [IntKind.wrap_u8]; omega
  obtain ⟨a4, ha4⟩ : ∃ a4, a % 400 = a4 := ⟨_, rfl⟩
  have a1 : (a : Int) % 400 = (a4 : Int) := by omega
  have a2 : (a : Int).tmod 400 = (a4 : Int) := by rw [Int.tmod_eq_emod_of_nonneg (by omega)]; exact a1
  have a3 : IntKind.u64.wrap (a4 : Int) = (a4 : Int) := by rw [IntKind.wrap_u64]; omega
  have a3b : IntKind.u16.wrap (a4 : Int) = (a4 : Int) := by rw [IntKind.wrap_u16]; omega
  obtain ⟨b4, hb4⟩ : ∃ b4, b % 400 = b4 := ⟨_, rfl⟩
  have b1 : (b : Int) % 400 = (b4 : Int) := by omega
  have b2 : (b : Int).tmod 400 = (b4 : Int) := by rw [Int.tmod_eq_emod_of_nonneg (by omega)]; exact b1
  have b3 : IntKind.u64.wrap (b4 : Int) = (b4 : Int) := by rw [IntKind.wrap_u64]; omega
  have b3b : IntKind.u16.wrap (b4 : Int) = (b4 : Int) := by rw [IntKind.wrap_u16]; omega
  obtain ⟨b5, hb5⟩ : ∃ b5, b % 33 = b5 := ⟨_, rfl⟩
  have c1 : (b : Int) % 33 = (b5 : Int) := by omega
  have c2 : (b : Int).tmod 33 = (b5 : Int) := by rw [Int.tmod_eq_emod_of_nonneg (by omega)]; exact c1
  have c3 : IntKind.u16.wrap (31 + (b5 : Int)) = ((31 + b5 : Nat) : Int) := by rw [IntKind.wrap_u16]; omega
  have c3b : IntKind.u16.wrap (b5 : Int) = (b5 : Int) := by rw [IntKind.wrap_u16]; omega
  have c4 : b5 < 33 := by omega
  have HMF : Hid (m2 = ⟨0, 0, 0, 5, 0, qp, qo, qr, qc, (a4 * 4294967296 + b4 + 2 ^ (31 + b5)) % 18446744073709551616⟩) := by
    show m2 = _
    rw [← HM2.out]
    unfold msgF arM ar1M opM
    simp only
    rw [if_pos h3, if_pos trivial, if_pos h1]
    simp only [ha4, hb4, hb5]
  obtain ⟨z1, hz1⟩ : ∃ z1, a4 * 4294967296 + b4 = z1 := ⟨_, rfl⟩
  have d1 : IntKind.u64.wrap (IntKind.u64.wrap ((a4 : Int) * 4294967296) + (b4 : Int)) = (z1 : Int) := by rw [IntKind.wrap_u64, IntKind.wrap_u64]; omega
  have d1b : (a4 : Int) * 4294967296 + (b4 : Int) = (z1 : Int) := by omega
  have d1c : IntKind.u64.wrap (z1 : Int) = (z1 : Int) := by rw [IntKind.wrap_u64]; omega
  have t1 : ((o6 : Int) == 1) = true := by rw [show (o6 : Int) = 1 by omega]; rfl
  have t2 : ((o11 : Int) == 10) = true := by rw [show (o11 : Int) = 10 by omega]; rfl
  obtain ⟨X, hX⟩ : ∃ X, (w.alloc (.cells #[.int .u8 (o : Int), .int .u8 (wh : Int), .int .u16 (a : Int), .int .u16 (b : Int), .bool true, .slice so sn sc] 51)).alloc (.cells #[.int .u64 0, .int .u64 0, .int .u32 0, .int .u16 0, .int .u16 0, .int .u64 0, .int .u32 0, .int .u8 0, .int .u64 0, .int .u64 0, .slice none 0 0] 53) = X := ⟨_, rfl⟩
  have bX : Below w.heap.size w X := hX ▸ below_one (below_alloc w _) (below_alloc _ _)
  have HAB : Hid (AB X w.heap.size ⟨o, wh, a, b, true, so, sn, sc, l⟩) := hX ▸ (AB.new w ⟨o, wh, a, b, true, so, sn, sc, l⟩).grow (below_alloc _ _)
  have HZ : Hid (MB X (w.heap.size + 1) Msg.zero (.slice none 0 0)) := by
    show X.heap[w.heap.size + 1]? = _
    have h := heap_alloc_new (w.alloc (.cells #[.int .u8 (o : Int), .int .u8 (wh : Int), .int .u16 (a : Int), .int .u16 (b : Int), .bool true, .slice so sn sc] 51)) (.cells #[.int .u64 0, .int .u64 0, .int .u32 0, .int .u16 0, .int .u16 0, .int .u64 0, .int .u32 0, .int .u8 0, .int .u64 0, .int .u64 0, .slice none 0 0] 53)
    rw [hX, sz1] at h
    exact h
  have HBX := hide bX
  have HSZ : Hid (w.heap.size + 1 < X.heap.size) := lt_of_heap HZ.out
  have f0 : X.cell? ⟨rb, k * 4, none⟩ = some (.int .u64 (qp : Int)) := by rw [bX.cell (lt_of_cell e0), e0]
  have f1 : X.cell? ⟨rb, k * 4 + 1, none⟩ = some (.int .u32 (qo : Int)) := by rw [bX.cell (lt_of_cell e1), e1]
  have f2 : X.cell? ⟨rb, k * 4 + 2, none⟩ = some (.int .u8 (qr : Int)) := by rw [bX.cell (lt_of_cell e2), e2]
  have f3 : X.cell? ⟨rb, k * 4 + 3, none⟩ = some (.int .u64 (qc : Int)) := by rw [bX.cell (lt_of_cell e3), e3]
  have HF : Hid (X.cell? ⟨rb, k * 4, none⟩ = some (.int .u64 (qp : Int)) ∧ X.cell? ⟨rb, k * 4 + 1, none⟩ = some (.int .u32 (qo : Int)) ∧ X.cell? ⟨rb, k * 4 + 2, none⟩ = some (.int .u8 (qr : Int)) ∧ X.cell? ⟨rb, k * 4 + 3, none⟩ = some (.int .u64 (qc : Int))) := ⟨f0, f1, f2, f3⟩
  obtain ⟨g0, g1, g2, g3, g4, g5⟩ := HAB.out.all
  simp only at g0 g1 g2 g3 g4 g5
  clear hr hn h0 hq h1 h3 hx hxo hk bX e0 e1 e2 e3 HM2 ho6 ho11 ha4 hb4 hb5 hpo
  go_enter Tryz.func16, Tryz.ntmps16
  go_wp2_with fail
  have hS : Hid ((X.drew.cell? ⟨w.heap.size, 0, none⟩ = some (.int .u8 (o : Int)) ∧ X.drew.cell? ⟨w.heap.size, 1, none⟩ = some (.int .u8 (wh : Int)) ∧ X.drew.cell? ⟨w.heap.size, 5, none⟩ = some (.slice so sn sc)) ∧ X.drew.cell? ⟨rb, k * 4, none⟩ = some (.int .u64 (qp : Int)) ∧ X.drew.cell? ⟨rb, k * 4 + 1, none⟩ = some (.int .u32 (qo : Int)) ∧ X.drew.cell? ⟨rb, k * 4 + 2, none⟩ = some (.int .u8 (qr : Int)) ∧ X.drew.cell? ⟨rb, k * 4 + 3, none⟩ = some (.int .u64 (qc : Int))) := ⟨⟨g0, g1, g5⟩, f0, f1, f2, f3⟩
  refine wp_region_held_drew (S := fun U => (U.cell? ⟨w.heap.size, 0, none⟩ = some (.int .u8 (o : Int)) ∧ U.cell? ⟨w.heap.size, 1, none⟩ = some (.int .u8 (wh : Int)) ∧ U.cell? ⟨w.heap.size, 5, none⟩ = some (.slice so sn sc)) ∧ U.cell? ⟨rb, k * 4, none⟩ = some (.int .u64 (qp : Int)) ∧ U.cell? ⟨rb, k * 4 + 1, none⟩ = some (.int .u32 (qo : Int)) ∧ U.cell? ⟨rb, k * 4 + 2, none⟩ = some (.int .u8 (qr : Int)) ∧ U.cell? ⟨rb, k * 4 + 3, none⟩ = some (.int .u64 (qc : Int))) (by kernel_rfl) hS.out (fun _ => ?_)
  refine wpAnyH_take (i := 0) (oi := { dst := some 6, op := Go.Op.fieldAddr 51 (Go.Operand.tmp 2) 0, type := 0, pos := "law.go:38", after := #[], guard := none }) (v := (.pointer (some ⟨w.heap.size, 0, none⟩))) rfl (by kernel_rfl) (by kernel_rfl) (by kernel_rfl) (fun _ _ _ h => h) (Or.inl ⟨by kernel_rfl, fun w hC => by go_simp⟩) hS.out ?_
  simp only [Act.put, List.setIfInBounds_toArray, List.set_cons_zero, List.set_cons_succ]
  refine wpAnyH_take (i := 1) (oi := { dst := some 7, op := Go.Op.load 5 (Go.Operand.tmp 6), type := 5, pos := "law.go:38", after := #[{ on := 0, ground := Go.Ground.data }], guard := none }) (v := (.int .u8 (o : Int))) rfl (by kernel_rfl) (by kernel_rfl) (by kernel_rfl) (fun _ _ _ h => h) (Or.inl ⟨by kernel_rfl, fun w hC => by (obtain ⟨⟨g0, g1, g5⟩, f0, f1, f2, f3⟩ := hC; go_simp)⟩) hS.out ?_
  simp only [Act.put, List.setIfInBounds_toArray, List.set_cons_zero, List.set_cons_succ]
  refine wpAnyH_take (i := 2) (oi := { dst := some 8, op := Go.Op.binOp Go.BinOp.rem 5 (Go.Operand.tmp 7) (Go.Operand.const (Go.Value.int Go.IntKind.u8 6)) 5, type := 5, pos := "law.go:38", after := #[{ on := 1, ground := Go.Ground.data }], guard := none }) (v := (.int .u8 (o6 : Int))) rfl (by kernel_rfl) (by kernel_rfl) (by kernel_rfl) (fun _ _ _ h => h) (Or.inl ⟨by kernel_rfl, fun w hC => by go_simp⟩) hS.out ?_
  simp only [Act.put, List.setIfInBounds_toArray, List.set_cons_zero, List.set_cons_succ]
  refine wpAnyH_take (i := 3) (oi := { dst := some 9, op := Go.Op.convert 5 49 (Go.Operand.tmp 8), type := 49, pos := "law.go:38", after := #[{ on := 2, ground := Go.Ground.data }], guard := none }) (v := (.int .u16 (o6 : Int))) rfl (by kernel_rfl) (by kernel_rfl) (by kernel_rfl) (fun _ _ _ h => h) (Or.inl ⟨by kernel_rfl, fun w hC => by go_simp⟩) hS.out ?_
  simp only [Act.put, List.setIfInBounds_toArray, List.set_cons_zero, List.set_cons_succ]
  refine wpAnyH_take (i := 4) (oi := { dst := some 10, op := Go.Op.binOp Go.BinOp.add 49 (Go.Operand.const (Go.Value.int Go.IntKind.u16 100)) (Go.Operand.tmp 9) 49, type := 49, pos := "law.go:38", after := #[{ on := 3, ground := Go.Ground.data }], guard := none }) (v := (.int .u16 (po : Int))) rfl (by kernel_rfl) (by kernel_rfl) (by kernel_rfl) (fun _ _ _ h => h) (Or.inl ⟨by kernel_rfl, fun w hC => by go_simp⟩) hS.out ?_
  simp only [Act.put, List.setIfInBounds_toArray, List.set_cons_zero, List.set_cons_succ]
  refine wpAnyH_take (i := 5) (oi := { dst := some 11, op := Go.Op.move (Go.Operand.tmp 1), type := 47, pos := "law.go:38", after := #[], guard := none }) (v := (.slice (some ⟨rb, 0, none⟩) n cap)) rfl (by kernel_rfl) (by kernel_rfl) (by kernel_rfl) (fun _ _ _ h => h) (Or.inl ⟨by kernel_rfl, fun w hC => by go_simp⟩) hS.out ?_
  simp only [Act.put, List.setIfInBounds_toArray, List.set_cons_zero, List.set_cons_succ]
  refine wpAnyH_take (i := 6) (oi := { dst := some 12, op := Go.Op.fieldAddr 51 (Go.Operand.tmp 2) 1, type := 0, pos := "law.go:38", after := #[], guard := none }) (v := (.pointer (some ⟨w.heap.size, 1, none⟩))) rfl (by kernel_rfl) (by kernel_rfl) (by kernel_rfl) (fun _ _ _ h => h) (Or.inl ⟨by kernel_rfl, fun w hC => by go_simp⟩) hS.out ?_
  simp only [Act.put, List.setIfInBounds_toArray, List.set_cons_zero, List.set_cons_succ]
  refine wpAnyH_take (i := 7) (oi := { dst := some 13, op := Go.Op.load 5 (Go.Operand.tmp 12), type := 5, pos := "law.go:38", after := #[{ on := 6, ground := Go.Ground.data }], guard := none }) (v := (.int .u8 (wh : Int))) rfl (by kernel_rfl) (by kernel_rfl) (by kernel_rfl) (fun _ _ _ h => h) (Or.inl ⟨by kernel_rfl, fun w hC => by (obtain ⟨⟨g0, g1, g5⟩, f0, f1, f2, f3⟩ := hC; go_simp)⟩) hS.out ?_
  simp only [Act.put, List.setIfInBounds_toArray, List.set_cons_zero, List.set_cons_succ]
  refine wpAnyH_take (i := 8) (oi := { dst := some 14, op := Go.Op.convert 5 3 (Go.Operand.tmp 13), type := 3, pos := "law.go:38", after := #[{ on := 7, ground := Go.Ground.data }], guard := none }) (v := (.int .i64 (wh : Int))) rfl (by kernel_rfl) (by kernel_rfl) (by kernel_rfl) (fun _ _ _ h => h) (Or.inl ⟨by kernel_rfl, fun w hC => by go_simp⟩) hS.out ?_
  simp only [Act.put, List.setIfInBounds_toArray, List.set_cons_zero, List.set_cons_succ]
  refine wpAnyH_take (i := 9) (oi := { dst := some 15, op := Go.Op.move (Go.Operand.tmp 1), type := 47, pos := "law.go:38", after := #[], guard := none }) (v := (.slice (some ⟨rb, 0, none⟩) n cap)) rfl (by kernel_rfl) (by kernel_rfl) (by kernel_rfl) (fun _ _ _ h => h) (Or.inl ⟨by kernel_rfl, fun w hC => by go_simp⟩) hS.out ?_
  simp only [Act.put, List.setIfInBounds_toArray, List.set_cons_zero, List.set_cons_succ]
  refine wpAnyH_take (i := 10) (oi := { dst := some 16, op := Go.Op.call { callee := Go.Callee.builtin Go.Builtin.len, args := #[Go.Operand.tmp 15], argTypes := #[47] }, type := 3, pos := "law.go:38", after := #[{ on := 9, ground := Go.Ground.data }], guard := none }) (v := (.int .i64 (n : Int))) rfl (by kernel_rfl) (by kernel_rfl) (by kernel_rfl) (fun _ _ _ h => h) (Or.inl ⟨by kernel_rfl, fun w hC => by go_simp⟩) hS.out ?_
  simp only [Act.put, List.setIfInBounds_toArray, List.set_cons_zero, List.set_cons_succ]
  refine wpAnyH_take (i := 11) (oi := { dst := some 17, op := Go.Op.binOp Go.BinOp.rem 3 (Go.Operand.tmp 14) (Go.Operand.tmp 16) 3, type := 3, pos := "law.go:38", after := #[{ on := 8, ground := Go.Ground.data }, { on := 10, ground := Go.Ground.data }], guard := none }) (v := (.int .i64 (k : Int))) rfl (by kernel_rfl) (by kernel_rfl) (by kernel_rfl) (fun _ _ _ h => h) (Or.inl ⟨by kernel_rfl, fun w hC => by go_simp⟩) hS.out ?_
  simp only [Act.put, List.setIfInBounds_toArray, List.set_cons_zero, List.set_cons_succ]
  refine wpAnyH_take (i := 12) (oi := { dst := some 18, op := Go.Op.indexAddr 47 (Go.Operand.tmp 11) (Go.Operand.tmp 17), type := 0, pos := "law.go:38", after := #[{ on := 5, ground := Go.Ground.data }, { on := 11, ground := Go.Ground.data }], guard := none }) (v := (.pointer (some ⟨rb, k * 4, none⟩))) rfl (by kernel_rfl) (by kernel_rfl) (by kernel_rfl) (fun _ _ _ h => h) (Or.inl ⟨by kernel_rfl, fun w hC => by go_simp⟩) hS.out ?_
  simp only [Act.put, List.setIfInBounds_toArray, List.set_cons_zero, List.set_cons_succ]
  refine wpAnyH_take (i := 13) (oi := { dst := some 19, op := Go.Op.load 36 (Go.Operand.tmp 18), type := 36, pos := "law.go:38", after := #[{ on := 12, ground := Go.Ground.data }], guard := none }) (v := (.agg #[.int .u64 (qp : Int), .int .u32 (qo : Int), .int .u8 (qr : Int), .int .u64 (qc : Int)])) rfl (by kernel_rfl) (by kernel_rfl) (by kernel_rfl) (fun _ _ _ h => h) (Or.inl ⟨by kernel_rfl, fun w hC => by (obtain ⟨⟨g0, g1, g5⟩, f0, f1, f2, f3⟩ := hC; go_simp)⟩) hS.out ?_
  simp only [Act.put, List.setIfInBounds_toArray, List.set_cons_zero, List.set_cons_succ]
  refine wpAnyH_take (i := 14) (oi := { dst := some 20, op := Go.Op.fieldAddr 51 (Go.Operand.tmp 2) 5, type := 0, pos := "law.go:38", after := #[], guard := none }) (v := (.pointer (some ⟨w.heap.size, 5, none⟩))) rfl (by kernel_rfl) (by kernel_rfl) (by kernel_rfl) (fun _ _ _ h => h) (Or.inl ⟨by kernel_rfl, fun w hC => by go_simp⟩) hS.out ?_
  simp only [Act.put, List.setIfInBounds_toArray, List.set_cons_zero, List.set_cons_succ]
  refine wpAnyH_take (i := 15) (oi := { dst := some 21, op := Go.Op.load 23 (Go.Operand.tmp 20), type := 23, pos := "law.go:38", after := #[{ on := 14, ground := Go.Ground.data }], guard := none }) (v := (.slice so sn sc)) rfl (by kernel_rfl) (by kernel_rfl) (by kernel_rfl) (fun _ _ _ h => h) (Or.inl ⟨by kernel_rfl, fun w hC => by (obtain ⟨⟨g0, g1, g5⟩, f0, f1, f2, f3⟩ := hC; go_simp)⟩) hS.out ?_
  simp only [Act.put, List.setIfInBounds_toArray, List.set_cons_zero, List.set_cons_succ]
  refine wpAnyH_take (i := 16) (oi := { dst := some 22, op := Go.Op.build 53 #[(3, Go.Operand.tmp 10), (5, Go.Operand.tmp 19), (7, Go.Operand.tmp 21)], type := 53, pos := "law.go:38", after := #[{ on := 4, ground := Go.Ground.data }, { on := 13, ground := Go.Ground.data }, { on := 15, ground := Go.Ground.data }], guard := none }) (v := (.agg #[.int .u64 0, .int .u64 0, .int .u32 0, .int .u16 (po : Int), .int .u16 0, .int .u64 (qp : Int), .int .u32 (qo : Int), .int .u8 (qr : Int), .int .u64 (qc : Int), .int .u64 0, .slice so sn sc])) rfl (by kernel_rfl) (by kernel_rfl) (by kernel_rfl) (fun _ _ _ h => h) (Or.inl ⟨by kernel_rfl, fun w hC => by go_simp⟩) hS.out ?_
  simp only [Act.put, List.setIfInBounds_toArray, List.set_cons_zero, List.set_cons_succ]
  refine wpAnyH_ready (rs := [17]) (by kernel_rfl) (by simp) ?_
  refine AllReadyH.cons (o := { dst := some 5, op := Go.Op.alloc 53, type := 0, pos := "law.go:38", after := #[], guard := none }) rfl (fun KK hKK => ?_) AllReadyH.nil
  go_simp
  obtain ⟨Y, hY⟩ : ∃ Y, (X.alloc (.cells #[.int .u64 0, .int .u64 0, .int .u32 0, .int .u16 0, .int .u16 0, .int .u64 0, .int .u32 0, .int .u8 0, .int .u64 0, .int .u64 0, .slice none 0 0] 53)).drew = Y := ⟨_, rfl⟩
  try rw [hY]
  have bY : Below X.heap.size X Y := hY ▸ (below_alloc X _).drew
  have HMY : Hid (MB Y X.heap.size Msg.zero (.slice none 0 0)) := hY ▸ mb_new X Msg.zero _
  have HAY := hide (HAB.out.grow bY)
  have HZY := hide (HZ.out.grow bY)
  have HFY : Hid (Y.cell? ⟨rb, k * 4, none⟩ = some (.int .u64 (qp : Int)) ∧ Y.cell? ⟨rb, k * 4 + 1, none⟩ = some (.int .u32 (qo : Int)) ∧ Y.cell? ⟨rb, k * 4 + 2, none⟩ = some (.int .u8 (qr : Int)) ∧ Y.cell? ⟨rb, k * 4 + 3, none⟩ = some (.int .u64 (qc : Int))) := ⟨by rw [bY.cell (lt_of_cell f0), f0], by rw [bY.cell (lt_of_cell f1), f1], by rw [bY.cell (lt_of_cell f2), f2], by rw [bY.cell (lt_of_cell f3), f3]⟩
  have HLT : Hid (rb < X.heap.size) := lt_of_cell f0
  have HBY := hide (below_one HBX.out bY)
  clear g0 g1 g2 g3 g4 g5 f0 f1 f2 f3 bY
  obtain ⟨g0, g1, g2, g3, g4, g5⟩ := HAY.out.all
  simp only at g0 g1 g2 g3 g4 g5
  obtain ⟨m0, hm0⟩ : ∃ m0 : Msg, (⟨0, 0, 0, po, 0, qp, qo, qr, qc, 0⟩ : Msg) = m0 := ⟨_, rfl⟩
  have hS : Hid ((Y.cell? ⟨w.heap.size, 0, none⟩ = some (.int .u8 (o : Int)) ∧ Y.cell? ⟨w.heap.size, 1, none⟩ = some (.int .u8 (wh : Int)) ∧ Y.cell? ⟨w.heap.size, 5, none⟩ = some (.slice so sn sc)) ∧ Y.cell? ⟨rb, k * 4, none⟩ = some (.int .u64 (qp : Int)) ∧ Y.cell? ⟨rb, k * 4 + 1, none⟩ = some (.int .u32 (qo : Int)) ∧ Y.cell? ⟨rb, k * 4 + 2, none⟩ = some (.int .u8 (qr : Int)) ∧ Y.cell? ⟨rb, k * 4 + 3, none⟩ = some (.int .u64 (qc : Int))) := ⟨⟨g0, g1, g5⟩, HFY.out⟩
  refine hKK.out _ _ hS.out (fun _ => ?_)
  clear hKK
  have HML := hide (HMY.out.lay (m := ⟨0, 0, 0, po, 0, qp, qo, qr, qc, 0⟩) (D := .slice so sn sc))
  have fL := foot_lay11 Y X.heap.size ⟨0, 0, 0, po, 0, qp, qo, qr, qc, 0⟩ (.slice so sn sc)
  have HAL := hide (HAY.out.foot fL (fun (e : w.heap.size = X.heap.size) => by have := HSZ.out; omega))
  have HZL := hide (HZY.out.foot fL (fun (e : w.heap.size + 1 = X.heap.size) => by have := HSZ.out; omega))
  have HBL : Hid (Below w.heap.size w (lay11 Y X.heap.size ⟨0, 0, 0, po, 0, qp, qo, qr, qc, 0⟩ (.slice so sn sc))) := (((below_foot (fun j => w.heap.size ≤ j) HBY.out).trans fL (fun j (e : j = _) => .inl (by show w.heap.size ≤ j; have := HSZ.out; omega))).below (Nat.le_refl _) (fun k e => e))
  have HFL : Hid ((lay11 Y X.heap.size ⟨0, 0, 0, po, 0, qp, qo, qr, qc, 0⟩ (.slice so sn sc)).cell? ⟨rb, k * 4, none⟩ = some (.int .u64 (qp : Int)) ∧ (lay11 Y X.heap.size ⟨0, 0, 0, po, 0, qp, qo, qr, qc, 0⟩ (.slice so sn sc)).cell? ⟨rb, k * 4 + 1, none⟩ = some (.int .u32 (qo : Int)) ∧ (lay11 Y X.heap.size ⟨0, 0, 0, po, 0, qp, qo, qr, qc, 0⟩ (.slice so sn sc)).cell? ⟨rb, k * 4 + 2, none⟩ = some (.int .u8 (qr : Int)) ∧ (lay11 Y X.heap.size ⟨0, 0, 0, po, 0, qp, qo, qr, qc, 0⟩ (.slice so sn sc)).cell? ⟨rb, k * 4 + 3, none⟩ = some (.int .u64 (qc : Int))) := by
    obtain ⟨f0, f1, f2, f3⟩ := HFY.out
    have hne : ¬ rb = X.heap.size := by have := HLT.out; omega
    exact ⟨(fL.cell _ (lt_of_cell f0) hne).trans f0, (fL.cell _ (lt_of_cell f1) hne).trans f1, (fL.cell _ (lt_of_cell f2) hne).trans f2, (fL.cell _ (lt_of_cell f3) hne).trans f3⟩
  obtain ⟨V, hV⟩ : ∃ V, lay11 Y X.heap.size ⟨0, 0, 0, po, 0, qp, qo, qr, qc, 0⟩ (.slice so sn sc) = V := ⟨_, rfl⟩
  rw [hV] at HML HAL HZL HBL HFL
  unfold lay11 at hV
  simp only [show (((0 : Nat)) : Int) = 0 from rfl] at hV
  obtain ⟨z0, z1x, z2, z3, z4, z5, z6, z7, z8, z9, z10⟩ := HMY.out.all
  simp only [Msg.zero, show (((0 : Nat)) : Int) = 0 from rfl] at z0 z1x z2 z3 z4 z5 z6 z7 z8 z9 z10
  have y0 := HMY.out.z 0
  have y1 := HMY.out.z 1
  have y2 := HMY.out.z 2
  have y3 := HMY.out.z 3
  have y4 := HMY.out.z 4
  have y5 := HMY.out.z 5
  have y6 := HMY.out.z 6
  have y7 := HMY.out.z 7
  have y8 := HMY.out.z 8
  have y9 := HMY.out.z 9
  have y10 := HMY.out.z 10
  clear g0 g1 g2 g3 g4 g5
  obtain ⟨g0, g1, g2, g3, g4, g5⟩ := HAL.out.all
  simp only at g0 g1 g2 g3 g4 g5
  refine wpAnyH_ready (rs := [18]) (by kernel_rfl) (by simp) ?_
  refine AllReadyH.cons (o := { dst := none, op := Go.Op.store 53 (Go.Operand.tmp 5) (Go.Operand.tmp 22), type := 0, pos := "law.go:38", after := #[{ on := 17, ground := Go.Ground.data }, { on := 16, ground := Go.Ground.data }, { on := 0, ground := Go.Ground.phase }, { on := 1, ground := Go.Ground.phase }, { on := 2, ground := Go.Ground.phase }, { on := 3, ground := Go.Ground.phase }, { on := 4, ground := Go.Ground.phase }, { on := 5, ground := Go.Ground.phase }, { on := 6, ground := Go.Ground.phase }, { on := 7, ground := Go.Ground.phase }, { on := 8, ground := Go.Ground.phase }, { on := 9, ground := Go.Ground.phase }, { on := 10, ground := Go.Ground.phase }, { on := 11, ground := Go.Ground.phase }, { on := 12, ground := Go.Ground.phase }, { on := 13, ground := Go.Ground.phase }, { on := 14, ground := Go.Ground.phase }, { on := 15, ground := Go.Ground.phase }, { on := 16, ground := Go.Ground.phase }, { on := 17, ground := Go.Ground.phase }], guard := none }) rfl (fun KK hKK => ?_) AllReadyH.nil
  go_simp
  have hS : Hid ((V.cell? ⟨w.heap.size, 0, none⟩ = some (.int .u8 (o : Int)) ∧ V.cell? ⟨w.heap.size, 1, none⟩ = some (.int .u8 (wh : Int)) ∧ V.cell? ⟨w.heap.size, 5, none⟩ = some (.slice so sn sc)) ∧ V.cell? ⟨rb, k * 4, none⟩ = some (.int .u64 (qp : Int)) ∧ V.cell? ⟨rb, k * 4 + 1, none⟩ = some (.int .u32 (qo : Int)) ∧ V.cell? ⟨rb, k * 4 + 2, none⟩ = some (.int .u8 (qr : Int)) ∧ V.cell? ⟨rb, k * 4 + 3, none⟩ = some (.int .u64 (qc : Int))) := ⟨⟨g0, g1, g5⟩, HFL.out⟩
  refine hKK.out _ _ hS.out (fun _ => ?_)
  clear hKK
  refine wpAnyH_done (by kernel_rfl) ?_ _
  clear z0 z1x z2 z3 z4 z5 z6 z7 z8 z9 z10 y0 y1 y2 y3 y4 y5 y6 y7 y8 y9 y10
  have HMB := hide HML.out
  have w0a := HMB.out.z 9
  have w0b := HMB.out.z 3
  obtain ⟨q00, q01, q02, q03, q04, q05, q06, q07, q08, q09, q010⟩ := HMB.out.all
  simp only [show (((0 : Nat)) : Int) = 0 from rfl] at q00 q01 q02 q04 q09
  obtain ⟨g00, g01, g02, g03, g04, g05⟩ := HAL.out.all
  simp only at g00 g01 g02 g03 g04 g05
  have f1x := foot_one V X.heap.size 9 (.int .u64 ((a4 : Nat) : Int))
  have HMB := hide (HMB.out.put9 (a4))
  have HAL := hide (HAL.out.foot f1x (fun (e : w.heap.size = X.heap.size) => by have := HSZ.out; omega))
  have HZL := hide (HZL.out.foot f1x (fun (e : w.heap.size + 1 = X.heap.size) => by have := HSZ.out; omega))
  have HBL : Hid (Below w.heap.size w _) := (((below_foot (fun j => w.heap.size ≤ j) HBL.out).trans f1x (fun j (e : j = _) => .inl (by show w.heap.size ≤ j; have := HSZ.out; omega))).below (Nat.le_refl _) (fun k e => e))
  obtain ⟨U1, hU1⟩ : ∃ U, V.setCell ⟨X.heap.size, 9, none⟩ (.int .u64 ((a4 : Nat) : Int)) = U := ⟨_, rfl⟩
  rw [hU1] at HMB HAL HZL HBL
  clear f1x
  have w1a := HMB.out.z 9
  have w1b := HMB.out.z 3
  obtain ⟨q10, q11, q12, q13, q14, q15, q16, q17, q18, q19, q110⟩ := HMB.out.all
  simp only [show (((0 : Nat)) : Int) = 0 from rfl] at q10 q11 q12 q14 q19
  obtain ⟨g10, g11, g12, g13, g14, g15⟩ := HAL.out.all
  simp only at g10 g11 g12 g13 g14 g15
  have f2x := foot_one U1 X.heap.size 9 (.int .u64 ((z1 : Nat) : Int))
  have HMB := hide (HMB.out.put9 (z1))
  have HAL := hide (HAL.out.foot f2x (fun (e : w.heap.size = X.heap.size) => by have := HSZ.out; omega))
  have HZL := hide (HZL.out.foot f2x (fun (e : w.heap.size + 1 = X.heap.size) => by have := HSZ.out; omega))
  have HBL : Hid (Below w.heap.size w _) := (((below_foot (fun j => w.heap.size ≤ j) HBL.out).trans f2x (fun j (e : j = _) => .inl (by show w.heap.size ≤ j; have := HSZ.out; omega))).below (Nat.le_refl _) (fun k e => e))
  obtain ⟨U2, hU2⟩ : ∃ U, U1.setCell ⟨X.heap.size, 9, none⟩ (.int .u64 ((z1 : Nat) : Int)) = U := ⟨_, rfl⟩
  rw [hU2] at HMB HAL HZL HBL
  clear f2x
  have w2a := HMB.out.z 9
  have w2b := HMB.out.z 3
  obtain ⟨q20, q21, q22, q23, q24, q25, q26, q27, q28, q29, q210⟩ := HMB.out.all
  simp only [show (((0 : Nat)) : Int) = 0 from rfl] at q20 q21 q22 q24 q29
  obtain ⟨g20, g21, g22, g23, g24, g25⟩ := HAL.out.all
  simp only at g20 g21 g22 g23 g24 g25
  obtain ⟨z2, hz2⟩ : ∃ z2, (z1 + 2 ^ (31 + b5)) % 18446744073709551616 = z2 := ⟨_, rfl⟩
  have d2 := shl_add (x := z1) hz2
  rw [show ((2 ^ (31 + b5) : Nat) : Int) = (2 : Int) ^ (31 + b5) from by simp] at d2
  have f3x := foot_one U2 X.heap.size 9 (.int .u64 ((z2 : Nat) : Int))
  have HMB := hide (HMB.out.put9 (z2))
  have HAL := hide (HAL.out.foot f3x (fun (e : w.heap.size = X.heap.size) => by have := HSZ.out; omega))
  have HZL := hide (HZL.out.foot f3x (fun (e : w.heap.size + 1 = X.heap.size) => by have := HSZ.out; omega))
  have HBL : Hid (Below w.heap.size w _) := (((below_foot (fun j => w.heap.size ≤ j) HBL.out).trans f3x (fun j (e : j = _) => .inl (by show w.heap.size ≤ j; have := HSZ.out; omega))).below (Nat.le_refl _) (fun k e => e))
  obtain ⟨U3, hU3⟩ : ∃ U, U2.setCell ⟨X.heap.size, 9, none⟩ (.int .u64 ((z2 : Nat) : Int)) = U := ⟨_, rfl⟩
  rw [hU3] at HMB HAL HZL HBL
  clear f3x
  have w3a := HMB.out.z 9
  have w3b := HMB.out.z 3
  obtain ⟨q30, q31, q32, q33, q34, q35, q36, q37, q38, q39, q310⟩ := HMB.out.all
  simp only [show (((0 : Nat)) : Int) = 0 from rfl] at q30 q31 q32 q34 q39
  obtain ⟨g30, g31, g32, g33, g34, g35⟩ := HAL.out.all
  simp only at g30 g31 g32 g33 g34 g35
  have f4x := foot_one U3 X.heap.size 3 (.int .u16 5)
  have HMB : Hid (MB (U3.setCell ⟨X.heap.size, 3, none⟩ (.int .u16 5)) X.heap.size _ (.slice so sn sc)) := hide (HMB.out.put3 5)
  have HAL := hide (HAL.out.foot f4x (fun (e : w.heap.size = X.heap.size) => by have := HSZ.out; omega))
  have HZL := hide (HZL.out.foot f4x (fun (e : w.heap.size + 1 = X.heap.size) => by have := HSZ.out; omega))
  have HBL : Hid (Below w.heap.size w _) := (((below_foot (fun j => w.heap.size ≤ j) HBL.out).trans f4x (fun j (e : j = _) => .inl (by show w.heap.size ≤ j; have := HSZ.out; omega))).below (Nat.le_refl _) (fun k e => e))
  obtain ⟨U4, hU4⟩ : ∃ U, U3.setCell ⟨X.heap.size, 3, none⟩ (.int .u16 5) = U := ⟨_, rfl⟩
  rw [hU4] at HMB HAL HZL HBL
  clear f4x
  have w4a := HMB.out.z 9
  have w4b := HMB.out.z 3
  obtain ⟨q40, q41, q42, q43, q44, q45, q46, q47, q48, q49, q410⟩ := HMB.out.all
  simp only [show (((0 : Nat)) : Int) = 0 from rfl] at q40 q41 q42 q44 q49
  obtain ⟨g40, g41, g42, g43, g44, g45⟩ := HAL.out.all
  simp only at g40 g41 g42 g43 g44 g45
  simp only [show (((5 : Nat)) : Int) = 5 from rfl] at q43
  have HFIN : Hid (m2 = ⟨0, 0, 0, 5, 0, qp, qo, qr, qc, z2⟩) := by show _ = _; rw [HMF.out]; rw [← hz2]; rw [← hz1]
  have HZZ := hide (HZL.out.lay (m := ⟨0, 0, 0, 5, 0, qp, qo, qr, qc, z2⟩) (D := .slice so sn sc))
  have fZ := foot_lay11 U4 (w.heap.size + 1) ⟨0, 0, 0, 5, 0, qp, qo, qr, qc, z2⟩ (.slice so sn sc)
  have HBZ : Hid (Below w.heap.size w (lay11 U4 (w.heap.size + 1) ⟨0, 0, 0, 5, 0, qp, qo, qr, qc, z2⟩ (.slice so sn sc))) := (((below_foot (fun j => w.heap.size ≤ j) HBL.out).trans fZ (fun j (e : j = _) => .inl (by show w.heap.size ≤ j; omega))).below (Nat.le_refl _) (fun k e => e))
  obtain ⟨wz, hwz⟩ : ∃ wz, lay11 U4 (w.heap.size + 1) ⟨0, 0, 0, 5, 0, qp, qo, qr, qc, z2⟩ (.slice so sn sc) = wz := ⟨_, rfl⟩
  rw [hwz] at HZZ HBZ
  unfold lay11 at hwz
  simp only [show (((0 : Nat)) : Int) = 0 from rfl, show (((5 : Nat)) : Int) = 5 from rfl] at hwz
  obtain ⟨r0, r1, r2, r3, r4, r5, r6, r7, r8, r9, r10⟩ := HZL.out.all
  simp only [Msg.zero, show (((0 : Nat)) : Int) = 0 from rfl] at r0 r1 r2 r3 r4 r5 r6 r7 r8 r9 r10
  have s0 := HZL.out.z 0
  have s1 := HZL.out.z 1
  have s2 := HZL.out.z 2
  have s3 := HZL.out.z 3
  have s4 := HZL.out.z 4
  have s5 := HZL.out.z 5
  have s6 := HZL.out.z 6
  have s7 := HZL.out.z 7
  have s8 := HZL.out.z 8
  have s9 := HZL.out.z 9
  have s10 := HZL.out.z 10
  obtain ⟨v0, v1, v2, v3, v4, v5, v6, v7, v8, v9, v10⟩ := HZZ.out.all
  simp only [show (((0 : Nat)) : Int) = 0 from rfl] at v0 v1 v2 v4
  simp only [show (((5 : Nat)) : Int) = 5 from rfl] at v3
  go_wp2
  refine bodyPost_ret (by simp [results, Tryz.results16, go_sem, v0, v1, v2, v3, v4, v5, v6, v7, v8, v9, v10]; rfl) rfl ?_
  rw [HFIN.out]
  exact ⟨rfl, HBZ.out⟩
end
end Go.Proofs.YtpbkjmkdciiccaaGreatDoor
namespace Go.Proofs.YtpbkjmkdciiccaaGreatDoor
section
open Go.RowKit
theorem msg_any (x : Ac) (hx : x.ok) {B n : Nat} {v : Value} {L : List Cp} (w : World) (hr : w.ownsRow B 36 4 v n (cellsC L)) (hn : n = L.length) (h0 : 0 < n) (q : Cp) (hq : L.getD (x.wh % n) Cp.zero = q) (m2 : Msg) (hm2 : msgF x q = m2) :
    Calls Tryz.prog 16 #[.agg #[.int .u8 (x.o : Int), .int .u8 (x.wh : Int), .int .u16 (x.a : Int), .int .u16 (x.b : Int), .bool x.fr, .slice x.so x.sn x.sc], v] w fun e w' => e = .returned (.agg #[.int .u64 m2.ta, .int .u64 m2.rp, .int .u32 m2.id, .int .u16 m2.op, .int .u16 m2.st, .int .u64 m2.p, .int .u32 m2.o, .int .u8 m2.r, .int .u64 m2.c, .int .u64 m2.ar, .slice x.so x.sn x.sc]) ∧ Below w.heap.size w w' := by
  by_cases h1 : x.o % 6 = 1 <;> cases h2 : x.fr <;> by_cases h3 : x.o % 11 = 10
  all_goals rw [← h2]
  · exact msg_101 x hx w hr hn h0 q hq h1 h2 h3 m2 hm2
  · exact msg_100 x hx w hr hn h0 q hq h1 h2 h3 m2 hm2
  · exact msg_111 x hx w hr hn h0 q hq h1 h2 h3 m2 hm2
  · exact msg_110 x hx w hr hn h0 q hq h1 h2 h3 m2 hm2
  · exact msg_001 x hx w hr hn h0 q hq h1 h2 h3 m2 hm2
  · exact msg_000 x hx w hr hn h0 q hq h1 h2 h3 m2 hm2
  · exact msg_011 x hx w hr hn h0 q hq h1 h2 h3 m2 hm2
  · exact msg_010 x hx w hr hn h0 q hq h1 h2 h3 m2 hm2
end
end Go.Proofs.YtpbkjmkdciiccaaGreatDoor
