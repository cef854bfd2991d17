/-
  What api.Number, errors.New, header.Answer and header.Fault answer, as contracts.
-/
import Derived.Test.YtmgbcnlnikchbaaDoorHNumber
namespace Go.Proofs.YtmgbcnlnikchbaaDoor
open Go.RowKit
set_option maxHeartbeats 800000 in
theorem number_errno (a : Int) (w : World) (hg : Glob w) :
    Calls Tryd.prog 13 #[.iface 32 (.int .i64 a)] w fun e w' => e = .returned (.int .i64 a) ∧ Below w.heap.size w w' := by
  have HG : Hid (Glob (w.alloc (.cells #[.int .i64 0] 32))) := hg.carry (below_alloc _ _)
  clear hg
  go_enter Tryd.func13, Tryd.ntmps13
  go_wp2_with fail
  refine (as_hit a ⟨w.heap.size, 0, none⟩ (.int .i64 0) _ HG.out (by simp) (by simp)).mono ?_; rintro e w1 ⟨rfl, hw1⟩
  have hc : w1.cell? ⟨w.heap.size, 0, none⟩ = some (.int .i64 a) := by rw [hw1]; simp [go_sem]
  have b1 : Below w.heap.size w w1 := by rw [hw1]; go_grown
  clear hw1
  go_wp2
  go_ret
  exact ⟨rfl, b1⟩
set_option maxHeartbeats 800000 in
theorem number_other (s : Addr) (w : World) (hg : Glob w) :
    Calls Tryd.prog 13 #[.iface 46 (.pointer (some s))] w fun e w' => e = .returned (.int .i64 0) ∧ Below w.heap.size w w' := by
  have HT : Hid (Below w.heap.size w (w.alloc (.cells #[.int .i64 0] 32))) := below_alloc _ _
  have HG : Hid (Glob (w.alloc (.cells #[.int .i64 0] 32))) := hg.carry (below_alloc _ _)
  clear hg
  go_enter Tryd.func13, Tryd.ntmps13
  go_wp2_with fail
  refine (as_miss s ⟨w.heap.size, 0, none⟩ _ HG.out).mono ?_; rintro e w1 ⟨rfl, bel1⟩
  go_wp2
  go_ret
  exact ⟨rfl, below_one HT.out bel1⟩
theorem new_any (x : ByteArray) (w : World) :
    Calls Tryd.prog 7 #[.string x] w fun e w' => ∃ g, e = .returned (.iface 46 (.pointer (some ⟨g, 0, none⟩))) ∧ Below w.heap.size w w' := by
  go_enter Tryd.func7, Tryd.ntmps7
  go_wp2
  go_ret
  exact ⟨_, rfl, by go_grown⟩
theorem box_carry' {w w' : World} {g p o r c : Nat} (h : Box w g p o r c) (b : Below w.heap.size w w') : Box w' g p o r c := h.carry b
theorem apart0 {W : World} {ao : Option Addr} (hn : New W ao) : ∀ g, g < W.heap.size → ∀ ad, ao = some ad → ad.block ≠ g := fun g hg ad e h => by have := hn ad e; omega
theorem MBox.four {w : World} {g : Nat} {m : Msg} {D : Value} (h : MBox w g m D) : w.cell? ⟨g, 0, none⟩ = some (.int .u64 m.ta) ∧ w.cell? ⟨g, 1, none⟩ = some (.int .u64 m.rp) ∧ w.cell? ⟨g, 2, none⟩ = some (.int .u32 m.id) ∧ w.cell? ⟨g, 3, none⟩ = some (.int .u16 m.op) := ⟨h.1, h.2.1, h.2.2.1, h.2.2.2.1⟩
theorem wrap16 (v : Nat) (h : v ≤ 65535) : IntKind.u16.wrap (v : Int) = (v : Int) := by
  rw [IntKind.wrap_u16]; omega
set_option maxHeartbeats 4000000 in
theorem answer_any (m : Msg) (D : Value) (s p o r c ar : Nat) (ao : Option Addr) (n cap : Nat) (l : List UInt8) (w : World) (hs : s ≤ 65535) (hb : Bts w ao n cap l) (hn : n ≤ 140737488355328) (m2 : Msg) (h2 : (⟨m.rp, m.ta, m.id, m.op, s, p, o, r, c, ar⟩ : Msg) = m2) :
    Calls Tryd.prog 5 #[.agg #[.int .u64 m.ta, .int .u64 m.rp, .int .u32 m.id, .int .u16 m.op, .int .u16 m.st, .int .u64 m.p, .int .u32 m.o, .int .u8 m.r, .int .u64 m.c, .int .u64 m.ar, D], .int .i64 s, .agg #[.int .u64 p, .int .u32 o, .int .u8 r, .int .u64 c], .int .u64 ar, .slice ao n cap] w fun e w' => ∃ co cc, e = .returned (.agg #[.int .u64 m2.ta, .int .u64 m2.rp, .int .u32 m2.id, .int .u16 m2.op, .int .u16 m2.st, .int .u64 m2.p, .int .u32 m2.o, .int .u8 m2.r, .int .u64 m2.c, .int .u64 m2.ar, .slice co n cc]) ∧ Bts w' co n cc l ∧ New w co ∧ Below w.heap.size w w' := by
  subst h2
  have hw := wrap16 s hs
  have HB : Hid (Bts w ao n cap l) := hb
  clear hb
  have b1 : Below w.heap.size w (w.alloc (.cells #[.int .u64 m.ta, .int .u64 m.rp, .int .u32 m.id, .int .u16 m.op, .int .u16 m.st, .int .u64 m.p, .int .u32 m.o, .int .u8 m.r, .int .u64 m.c, .int .u64 m.ar, D] 29)) := below_alloc _ _
  have z1 : (w.alloc (.cells #[.int .u64 m.ta, .int .u64 m.rp, .int .u32 m.id, .int .u16 m.op, .int .u16 m.st, .int .u64 m.p, .int .u32 m.o, .int .u8 m.r, .int .u64 m.c, .int .u64 m.ar, D] 29)).heap.size = w.heap.size + 1 := by simp
  have x1 := mbox_new w m D
  have c2 := box_new (w.alloc (.cells #[.int .u64 m.ta, .int .u64 m.rp, .int .u32 m.id, .int .u16 m.op, .int .u16 m.st, .int .u64 m.p, .int .u32 m.o, .int .u8 m.r, .int .u64 m.c, .int .u64 m.ar, D] 29)) p o r c
  have b2 := below_alloc (w.alloc (.cells #[.int .u64 m.ta, .int .u64 m.rp, .int .u32 m.id, .int .u16 m.op, .int .u16 m.st, .int .u64 m.p, .int .u32 m.o, .int .u8 m.r, .int .u64 m.c, .int .u64 m.ar, D] 29)) (.cells #[.int .u64 p, .int .u32 o, .int .u8 r, .int .u64 c] 26)
  have x2 := x1.carry b2
  have z2 : ((w.alloc (.cells #[.int .u64 m.ta, .int .u64 m.rp, .int .u32 m.id, .int .u16 m.op, .int .u16 m.st, .int .u64 m.p, .int .u32 m.o, .int .u8 m.r, .int .u64 m.c, .int .u64 m.ar, D] 29)).alloc (.cells #[.int .u64 p, .int .u32 o, .int .u8 r, .int .u64 c] 26)).heap.size = w.heap.size + 1 + 1 := by simp
  have x3 := zero_new ((w.alloc (.cells #[.int .u64 m.ta, .int .u64 m.rp, .int .u32 m.id, .int .u16 m.op, .int .u16 m.st, .int .u64 m.p, .int .u32 m.o, .int .u8 m.r, .int .u64 m.c, .int .u64 m.ar, D] 29)).alloc (.cells #[.int .u64 p, .int .u32 o, .int .u8 r, .int .u64 c] 26))
  have f3 := mfree_new ((w.alloc (.cells #[.int .u64 m.ta, .int .u64 m.rp, .int .u32 m.id, .int .u16 m.op, .int .u16 m.st, .int .u64 m.p, .int .u32 m.o, .int .u8 m.r, .int .u64 m.c, .int .u64 m.ar, D] 29)).alloc (.cells #[.int .u64 p, .int .u32 o, .int .u8 r, .int .u64 c] 26)) #[.int .u64 0, .int .u64 0, .int .u32 0, .int .u16 0, .int .u16 0, .int .u64 0, .int .u32 0, .int .u8 0, .int .u64 0, .int .u64 0, .slice none 0 0]
  rw [z1] at c2
  rw [z2] at x3 f3
  have HX := hide x2
  have HC := hide c2
  have HZ := hide x3
  have HF := hide f3
  have HS2 := hide z2
  have HBB := hide (below_one b1 b2)
  clear x1 x2 c2 x3 f3 z1 z2 b1 b2
  go_enter Tryd.func5, Tryd.ntmps5
  go_wp2_with fail
  generalize hW : (w.alloc (.cells #[.int .u64 m.ta, .int .u64 m.rp, .int .u32 m.id, .int .u16 m.op, .int .u16 m.st, .int .u64 m.p, .int .u32 m.o, .int .u8 m.r, .int .u64 m.c, .int .u64 m.ar, D] 29)).alloc (.cells #[.int .u64 p, .int .u32 o, .int .u8 r, .int .u64 c] 26) = W at *
  have hle : W.heap.size ≤ w.heap.size + 1 + 1 := by have := HS2.out; omega
  have hlw : w.heap.size ≤ W.heap.size := HBB.out.size
  have bb : Below W.heap.size W (W.alloc (.cells #[.int .u64 0, .int .u64 0, .int .u32 0, .int .u16 0, .int .u16 0, .int .u64 0, .int .u32 0, .int .u8 0, .int .u64 0, .int .u64 0, .slice none 0 0] 29)).drew := (below_alloc _ _).drew
  have HZ1 := hide HZ.out.drew
  have HF1 : Hid (MFree (W.alloc (.cells #[.int .u64 0, .int .u64 0, .int .u32 0, .int .u16 0, .int .u16 0, .int .u64 0, .int .u32 0, .int .u8 0, .int .u64 0, .int .u64 0, .slice none 0 0] 29)).drew (w.heap.size + 1 + 1)) := HF.out
  have HBW := hide (HB.out.carry HBB.out)
  clear hW HZ HF HB
  go_region_held (fun w' => (w'.cell? ⟨w.heap.size, 0, none⟩ = some (.int .u64 m.ta) ∧ w'.cell? ⟨w.heap.size, 1, none⟩ = some (.int .u64 m.rp) ∧ w'.cell? ⟨w.heap.size, 2, none⟩ = some (.int .u32 m.id) ∧ w'.cell? ⟨w.heap.size, 3, none⟩ = some (.int .u16 m.op)) ∧
      (w'.cell? ⟨w.heap.size + 1, 0, none⟩ = some (.int .u64 p) ∧ w'.cell? ⟨w.heap.size + 1, 1, none⟩ = some (.int .u32 o) ∧ w'.cell? ⟨w.heap.size + 1, 2, none⟩ = some (.int .u8 r) ∧ w'.cell? ⟨w.heap.size + 1, 3, none⟩ = some (.int .u64 c)))
    (exact ⟨(HX.out.carry (by go_grown)).four, HC.out.carry (by go_grown)⟩)
    (first
      | (go_at_call 12; refine (clone_any ao n cap l _ (HBW.out.carry (by go_grown)) hn).mono ?_; rintro e wx ⟨co, cc, rfl, hbx, hnx, bel⟩; have HN1 := hide (hnx.le (w := w) (by have h1 := bb.size; omega)); have HP1 := hide (apart0 hnx); have bb : Below W.heap.size W wx := below_one bb bel; obtain ⟨k0, k1, k2, k3, k4, k5, k6, k7, k8, k9, k10⟩ := HZ1.out.carry bel; obtain ⟨z0, z1, z2, z3, z4, z5, z6, z7, z8, z9, z10⟩ := HF1.out.carry HZ1.out.lt bel; have HBX := hide hbx; clear bel hbx hnx))
  go_wp2
  have HP2 : Hid (∀ ad, co = some ad → ad.block ≠ w.heap.size + 1 + 1) := HP1.out _ (by have := HS2.out; simp; omega)
  have b9 := below_one HBB.out bb
  have h9 : w.heap.size ≤ w.heap.size + 1 + 1 := by omega
  refine bodyPost_ret (by simp [results, Tryd.results5, go_sem, k0, k1, k2, k3, k4, k5, k6, k7, k8, k9, k10]; rfl) rfl ?_
  exact ⟨co, cc, rfl, ((((((((((HBX.out.set _ _ HP2.out).set _ _ HP2.out).set _ _ HP2.out).set _ _ HP2.out).set _ _ HP2.out).set _ _ HP2.out).set _ _ HP2.out).set _ _ HP2.out).set _ _ HP2.out).set _ _ HP2.out).set _ _ HP2.out, HN1.out, ((((((((((b9.setCell h9 _).setCell h9 _).setCell h9 _).setCell h9 _).setCell h9 _).setCell h9 _).setCell h9 _).setCell h9 _).setCell h9 _).setCell h9 _).setCell h9 _⟩
set_option maxHeartbeats 4000000 in
theorem fault_gen (m : Msg) (D v : Value) (a : Nat) (w : World) (ha : a ≤ 65535) (hg : Glob w) (hN : ∀ W, Glob W → Calls Tryd.prog 13 #[v] W fun e w' => e = .returned (.int .i64 (a : Int)) ∧ Below W.heap.size W w') (m2 : Msg) (h2 : (⟨m.rp, m.ta, m.id, m.op, a, 0, 0, 0, 0, 0⟩ : Msg) = m2) :
    Calls Tryd.prog 6 #[.agg #[.int .u64 m.ta, .int .u64 m.rp, .int .u32 m.id, .int .u16 m.op, .int .u16 m.st, .int .u64 m.p, .int .u32 m.o, .int .u8 m.r, .int .u64 m.c, .int .u64 m.ar, D], v] w fun e w' => ∃ co cc, e = .returned (.agg #[.int .u64 m2.ta, .int .u64 m2.rp, .int .u32 m2.id, .int .u16 m2.op, .int .u16 m2.st, .int .u64 m2.p, .int .u32 m2.o, .int .u8 m2.r, .int .u64 m2.c, .int .u64 m2.ar, .slice co 0 cc]) ∧ Bts w' co 0 cc [] ∧ Below w.heap.size w w' := by
  have HN : Hid _ := hN
  have H2 : Hid _ := h2
  have HG : Hid (Glob w) := hg
  have b1 : Below w.heap.size w (w.alloc (.cells #[.int .u64 m.ta, .int .u64 m.rp, .int .u32 m.id, .int .u16 m.op, .int .u16 m.st, .int .u64 m.p, .int .u32 m.o, .int .u8 m.r, .int .u64 m.c, .int .u64 m.ar, D] 29)) := below_alloc _ _
  have z1 : (w.alloc (.cells #[.int .u64 m.ta, .int .u64 m.rp, .int .u32 m.id, .int .u16 m.op, .int .u16 m.st, .int .u64 m.p, .int .u32 m.o, .int .u8 m.r, .int .u64 m.c, .int .u64 m.ar, D] 29)).heap.size = w.heap.size + 1 := by simp
  have x1 := mbox_new w m D
  have x3 := zero_new (w.alloc (.cells #[.int .u64 m.ta, .int .u64 m.rp, .int .u32 m.id, .int .u16 m.op, .int .u16 m.st, .int .u64 m.p, .int .u32 m.o, .int .u8 m.r, .int .u64 m.c, .int .u64 m.ar, D] 29))
  have f3 := mfree_new (w.alloc (.cells #[.int .u64 m.ta, .int .u64 m.rp, .int .u32 m.id, .int .u16 m.op, .int .u16 m.st, .int .u64 m.p, .int .u32 m.o, .int .u8 m.r, .int .u64 m.c, .int .u64 m.ar, D] 29)) #[.int .u64 0, .int .u64 0, .int .u32 0, .int .u16 0, .int .u16 0, .int .u64 0, .int .u32 0, .int .u8 0, .int .u64 0, .int .u64 0, .slice none 0 0]
  rw [z1] at x3 f3
  have HX := hide x1
  have HZ := hide x3
  have HF := hide f3
  have HS2 := hide z1
  have HBB := hide b1
  clear x1 x3 f3 z1 b1 hg hN h2
  go_enter Tryd.func6, Tryd.ntmps6
  go_wp2_with fail
  generalize hW : w.alloc (.cells #[.int .u64 m.ta, .int .u64 m.rp, .int .u32 m.id, .int .u16 m.op, .int .u16 m.st, .int .u64 m.p, .int .u32 m.o, .int .u8 m.r, .int .u64 m.c, .int .u64 m.ar, D] 29) = W at *
  have hle : W.heap.size ≤ w.heap.size + 1 := by have := HS2.out; omega
  have hlw : w.heap.size ≤ W.heap.size := HBB.out.size
  have bb : Below W.heap.size W (W.alloc (.cells #[.int .u64 0, .int .u64 0, .int .u32 0, .int .u16 0, .int .u16 0, .int .u64 0, .int .u32 0, .int .u8 0, .int .u64 0, .int .u64 0, .slice none 0 0] 29)).drew := (below_alloc _ _).drew
  have HZ1 := hide HZ.out.drew
  have HF1 : Hid (MFree (W.alloc (.cells #[.int .u64 0, .int .u64 0, .int .u32 0, .int .u16 0, .int .u16 0, .int .u64 0, .int .u32 0, .int .u8 0, .int .u64 0, .int .u64 0, .slice none 0 0] 29)).drew (w.heap.size + 1)) := HF.out
  have HGW := hide (HG.out.carry HBB.out)
  clear hW HZ HF HG
  go_region_held (fun w' => (w'.cell? ⟨w.heap.size, 0, none⟩ = some (.int .u64 m.ta) ∧ w'.cell? ⟨w.heap.size, 1, none⟩ = some (.int .u64 m.rp) ∧ w'.cell? ⟨w.heap.size, 2, none⟩ = some (.int .u32 m.id) ∧ w'.cell? ⟨w.heap.size, 3, none⟩ = some (.int .u16 m.op) ∧ w'.cell? ⟨w.heap.size, 4, none⟩ = some (.int .u16 m.st) ∧ w'.cell? ⟨w.heap.size, 5, none⟩ = some (.int .u64 m.p) ∧ w'.cell? ⟨w.heap.size, 6, none⟩ = some (.int .u32 m.o) ∧ w'.cell? ⟨w.heap.size, 7, none⟩ = some (.int .u8 m.r) ∧ w'.cell? ⟨w.heap.size, 8, none⟩ = some (.int .u64 m.c) ∧ w'.cell? ⟨w.heap.size, 9, none⟩ = some (.int .u64 m.ar) ∧ w'.cell? ⟨w.heap.size, 10, none⟩ = some (D)))
    (exact HX.out.carry (by go_grown))
    (first
      | (go_at_call 13; refine (HN.out _ (HGW.out.carry (by go_grown))).mono ?_; rintro e wx ⟨rfl, bel⟩; have HZ1 := hide (HZ1.out.carry bel); have HF1 := hide (HF1.out.carry (by have h1 := bb.size; have h2 := HS2.out; simp at h1 ⊢; omega) bel); have bb : Below W.heap.size W wx := below_one bb bel; clear bel)
      | (go_at_call 5; refine (answer_any m D a 0 0 0 0 0 none 0 0 [] _ ha (bts_nil _) (by omega) m2 H2.out).mono ?_; rintro e wy ⟨co, cc, rfl, hbx, hnx, bel⟩; have HP1 := hide (apart0 hnx); have HL1 := hide HZ1.out.lt; have bb : Below W.heap.size W wy := below_one bb bel; obtain ⟨k0, k1, k2, k3, k4, k5, k6, k7, k8, k9, k10⟩ := HZ1.out.carry bel; obtain ⟨z0, z1, z2, z3, z4, z5, z6, z7, z8, z9, z10⟩ := HF1.out.carry HZ1.out.lt bel; have HBX := hide hbx; clear bel hbx hnx))
  go_wp2
  have HP2 : Hid (∀ ad, co = some ad → ad.block ≠ w.heap.size + 1) := HP1.out _ HL1.out
  have b9 := below_one HBB.out bb
  have h9 : w.heap.size ≤ w.heap.size + 1 := by omega
  refine bodyPost_ret (by simp [results, Tryd.results6, go_sem, k0, k1, k2, k3, k4, k5, k6, k7, k8, k9, k10]; rfl) rfl ?_
  exact ⟨co, cc, rfl, ((((((((((HBX.out.set _ _ HP2.out).set _ _ HP2.out).set _ _ HP2.out).set _ _ HP2.out).set _ _ HP2.out).set _ _ HP2.out).set _ _ HP2.out).set _ _ HP2.out).set _ _ HP2.out).set _ _ HP2.out).set _ _ HP2.out, ((((((((((b9.setCell h9 _).setCell h9 _).setCell h9 _).setCell h9 _).setCell h9 _).setCell h9 _).setCell h9 _).setCell h9 _).setCell h9 _).setCell h9 _).setCell h9 _⟩
end Go.Proofs.YtmgbcnlnikchbaaDoor
