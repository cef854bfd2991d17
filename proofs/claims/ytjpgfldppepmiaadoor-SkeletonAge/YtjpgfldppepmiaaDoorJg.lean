/-
  What the server's part 'do' answers, and what it leaves, as contracts.
  A table's deeds in a half, as contracts; what comes of a request, as a function.
  What the server's parts info, destroy, own answer, and what they leave, as contracts.
  What the server's part destroy answers, and what it leaves, as a contract.
  What the server's part own answers, and what it leaves, as a contract.
-/
import Derived.Test.YtjpgfldppepmiaaDoorJf
import Derived.Deep.RegionHeld
import Derived.Test.YtjpgfldppepmiaaDoorJe
namespace Go.Proofs.YtjpgfldppepmiaaDoor
section
open Go.RowKit
variable {w0 w w1 w2 w' : World} {A A' : Ad} {p : Nat} {ws : List Nat} {s s' s1 : Hs} {r g sb : Nat}
/- an error in a variable -/
def EB (w : World) (g : Nat) (v : Value) : Prop := w.heap[g]? = some (.cells #[v] 43 (0, 0))
theorem err_odd3 : Odd3 43 := ⟨⟨by decide, by decide, by decide, by decide⟩, by decide, by decide, by decide⟩
theorem EB.c {v : Value} (h : EB w g v) : w.cell? ⟨g, 0, none⟩ = some v := by rw [cell_of_row w g _ _ _ _ h]; rfl
theorem EB.z {v : Value} (h : EB w g v) : w.frozen? ⟨g, 0, none⟩ = false := frozen_of_row w g 0 _ _ h
theorem EB.kh {v : Value} (h : EB w g v) (k : Kh w w') : EB w' g v := (k.block _ _ _ h err_odd3).trans h
theorem EB.grow {v : Value} (h : EB w g v) (b : Below w.heap.size w w') : EB w' g v := h.kh (below_kh b)
theorem EB.foot {v : Value} {S : Nat → Prop} (h : EB w g v) (f : Foot S w w') (hS : ¬ S g) : EB w' g v := (f.block g (lt_of_heap h) hS).trans h
theorem EB.set {v : Value} (h : EB w g v) (u : Value) : EB (w.setCell ⟨g, 0, none⟩ u) g u := by
  have := heap_setCell_same w g 0 _ _ u h
  exact this
theorem MB.put10 {g : Nat} {m : Msg} {D : Value} (h : MB w g m D) (D' : Value) : MB (w.setCell ⟨g, 10, none⟩ D') g m D' := by
  unfold MB
  rw [heap_setCell_same w g 10 _ _ _ h]; rfl
theorem SvEnd.err (x : SvEnd w0 w A p ws w1 s) (hw : w0.heap.size ≤ w.heap.size) {g : Nat} {v : Value} (h : EB w1 g v) (hg : w.heap.size ≤ g) (f : Foot (fun j => j = g) w1 w2) : SvEnd w0 w A p ws w2 s :=
  x.off hw f (fun b e => ⟨by omega, .inr ⟨_, _, e ▸ h, err_odd3⟩⟩)
theorem Sv.mine (x : Sv w0 w A p ws s) {g : Nat} {m : Msg} {D : Value} (h : MB w g m D) (hg : w0.heap.size ≤ g) (f : Foot (fun j => j = g) w w1) : Sv w0 w1 A p ws s :=
  x.off f (fun b e => ⟨by omega, .inr ⟨_, _, e ▸ h, msg_odd3⟩⟩)
theorem sz2 (w : World) (a b : Obj) : ((w.alloc a).alloc b).heap.size = w.heap.size + 1 + 1 := by simp
/- the variables of 'do' -/
theorem do_vars (w : World) (m : Msg) (D : Value) : ∃ X, ((w.alloc (.cells #[.int .u64 m.ta, .int .u64 m.rp, .int .u32 m.id, .int .u16 m.op, .int .u16 m.st, .int .u64 m.p, .int .u32 m.o, .int .u8 m.r, .int .u64 m.c, .int .u64 m.ar, D] 49)).alloc (.cells resZ 90)).alloc (.cells #[.nilIface] 43) = X ∧
    MB X w.heap.size m D ∧ RB X (w.heap.size + 1) Cp.zero 0 (.slice none 0 0) ∧ EB X (w.heap.size + 1 + 1) .nilIface ∧ Below w.heap.size w X := by
  have b1 := below_alloc w (.cells #[.int .u64 m.ta, .int .u64 m.rp, .int .u32 m.id, .int .u16 m.op, .int .u16 m.st, .int .u64 m.p, .int .u32 m.o, .int .u8 m.r, .int .u64 m.c, .int .u64 m.ar, D] 49)
  have b2 := below_alloc (w.alloc (.cells #[.int .u64 m.ta, .int .u64 m.rp, .int .u32 m.id, .int .u16 m.op, .int .u16 m.st, .int .u64 m.p, .int .u32 m.o, .int .u8 m.r, .int .u64 m.c, .int .u64 m.ar, D] 49)) (.cells resZ 90)
  have b3 := below_alloc ((w.alloc (.cells #[.int .u64 m.ta, .int .u64 m.rp, .int .u32 m.id, .int .u16 m.op, .int .u16 m.st, .int .u64 m.p, .int .u32 m.o, .int .u8 m.r, .int .u64 m.c, .int .u64 m.ar, D] 49)).alloc (.cells resZ 90)) (.cells #[.nilIface] 43)
  refine ⟨_, rfl, ((mb_new w m D).grow b2).grow b3, ?_, ?_, below_one (below_one b1 b2) b3⟩
  · have h := heap_alloc_new (w.alloc (.cells #[.int .u64 m.ta, .int .u64 m.rp, .int .u32 m.id, .int .u16 m.op, .int .u16 m.st, .int .u64 m.p, .int .u32 m.o, .int .u8 m.r, .int .u64 m.c, .int .u64 m.ar, D] 49)) (.cells resZ 90)
    rw [show (w.alloc (.cells #[.int .u64 m.ta, .int .u64 m.rp, .int .u32 m.id, .int .u16 m.op, .int .u16 m.st, .int .u64 m.p, .int .u32 m.o, .int .u8 m.r, .int .u64 m.c, .int .u64 m.ar, D] 49)).heap.size = w.heap.size + 1 by simp] at h
    exact RB.grow (show RB _ _ Cp.zero 0 (.slice none 0 0) from h) b3
  · have h := heap_alloc_new ((w.alloc (.cells #[.int .u64 m.ta, .int .u64 m.rp, .int .u32 m.id, .int .u16 m.op, .int .u16 m.st, .int .u64 m.p, .int .u32 m.o, .int .u8 m.r, .int .u64 m.c, .int .u64 m.ar, D] 49)).alloc (.cells resZ 90)) (.cells #[.nilIface] 43)
    rw [sz2] at h
    exact h
theorem SvEnd.glob (x : SvEnd w0 w A p ws w1 s) (hg : Glob w0) : Glob w1 := by
  obtain ⟨v, dv, nv, S, _⟩ := x
  exact S.glob hg
/- a function that defers, and in which nothing panics -/
def calmD (P : Program) (fn : Func) (R : Ending → World → Prop) : Exit → Act → World → Prop
  | .panic _, _, _ => False
  | e, a, w => bodyPostD P fn R e a w
theorem calls_of_calm {P : Program} {f : FuncId} {fn : Func} {c : Code} {args : Array Value} {w : World} {R : Ending → World → Prop} (hf : P.funcs[f]? = some fn) (hb : fn.body = some c)
    (h : c.wp P (calmD P fn R) { tmps := args ++ Array.replicate (fn.ntmps - args.size) undef, defers := [] } w) : Calls P f args w R :=
  calls_of_wp_defers hf hb (Code.wp_mono (fun e a w h => by cases e <;> first | exact h | exact h.elim) h)
set_option maxRecDepth 20000 in
set_option maxHeartbeats 6400000 in
theorem do_yes (z : Int) (m : Msg) (so : Option Addr) (sn sc : Nat) (l : List UInt8) (w : World) (h : Sr w r A.g A.sb) (x : Sv w0 w A p ws s) (hl : s.D.length ≤ 5000000000000) (hop : m.op ≠ 103) (ho : m.op ≤ 65535) (hb : Bts w so sn sc l) (hn : sn ≤ 140737488355328) :
    Calls Tryd.prog 61 #[.pointer (some ⟨r, 0, none⟩), .int .i64 z, .agg #[.int .u64 m.ta, .int .u64 m.rp, .int .u32 m.id, .int .u16 m.op, .int .u16 m.st, .int .u64 m.p, .int .u32 m.o, .int .u8 m.r, .int .u64 m.c, .int .u64 m.ar, .slice so sn sc]] w fun e w' =>
      ∃ co cc, e = .returned (.tuple #[.agg #[.int .u64 (m.p : Int), .int .u32 (m.o : Int), .int .u8 (m.r : Int), .int .u64 (m.c : Int), .int .u64 (IntKind.u64.wrap ((m.ar : Int) + 1)), .slice co sn cc], .nilIface]) ∧ Bts w' co sn cc l ∧ New w co ∧ SvEnd w0 w A p ws w' ⟨s.t, s.es, s.T, s.D ++ [doneF m.op z], s.G⟩ := by
  obtain ⟨q, hq⟩ : ∃ q, doneF m.op z = q := ⟨_, rfl⟩
  have HQ := hide hq
  rw [hq]
  clear hq
  obtain ⟨ar, har⟩ : ∃ ar, IntKind.u64.wrap ((m.ar : Int) + 1) = ar := ⟨_, rfl⟩
  have HAR := hide har
  rw [har]
  clear har
  have hmf : ∀ (fn : Fn) (first cap : Array Value) (w : World), (Instr.makeFunc fn first cap).run Tryd.prog w = .ok (.func fn first cap) w := fun _ _ _ _ => rfl
  have hmd := Tryd.mDo
  obtain ⟨X, hX, bm, br, be, bX⟩ := do_vars w m (.slice so sn sc)
  unfold resZ at hX
  have HS := hide (h.grow bX)
  have HX := hide (x.grow bX)
  have HUP : Hid (∀ j, SvS A j → j < w.heap.size) := fun j e => (x.up e).2
  have HB := hide (hb.carry bX)
  have HM := hide bm
  have HR := hide br
  have HE := hide be
  have HBX := hide bX
  have HW0 : Hid (w0.heap.size ≤ w.heap.size) := x.bel.size
  have HL := hide hl
  have HOP := hide hop
  have HO := hide ho
  
  have k10 : X.cell? ⟨w.heap.size, 10, none⟩ = some (.slice so sn sc) := bm.all.2.2.2.2.2.2.2.2.2.2
  clear bm br be bX h x hb hl hop ho
  refine calls_of_calm Tryd.func61 rfl ?_
  simp only [Tryd.ntmps61, List.size_toArray, List.length_cons, List.length_nil, Nat.reduceAdd, Nat.reduceSub, Array.replicate_succ, Array.replicate_zero, List.push_toArray, List.append_toArray, List.nil_append, List.cons_append]
  go_wp2_with fail
  refine (clone_any so sn sc l _ HB.out hn).mono ?_; rintro e w2 ⟨co, cc, rfl, B2, N2, b2⟩
  have hm2 := HM.out.grow b2
  have hr2 := HR.out.grow b2
  have he2 := HE.out.grow b2
  have z10 : w2.frozen? ⟨w.heap.size, 10, none⟩ = false := hm2.z 10
  have d10 : w2.cell? ⟨w.heap.size, 10, none⟩ = some (.slice so sn sc) := hm2.all.2.2.2.2.2.2.2.2.2.2
  have hm3 := hm2.put10 (.slice co sn cc)
  have f3 := foot_set w2 ⟨w.heap.size, 10, none⟩ (.slice co sn cc)
  have hs3 := (HS.out.grow b2).foot f3 (fun e => two_types (HS.out.grow b2) hm2 (by decide) e)
  have hr3 := hr2.foot f3 (by show ¬ w.heap.size + 1 = w.heap.size; omega)
  have he3 := he2.foot f3 (by show ¬ w.heap.size + 1 + 1 = w.heap.size; omega)
  have hx3 := (HX.out.grow b2).mine hm2 HW0.out f3
  have HNX := hide N2
  have HXS : Hid (w.heap.size + 1 + 1 < X.heap.size) := lt_of_heap HE.out
  have hN : New w co := N2.le HBX.out.size
  have hb3 : Bts (w2.setCell ⟨w.heap.size, 10, none⟩ (.slice co sn cc)) co sn cc l := Bts.foot B2 f3 (fun ad e _ => by
    have := N2 ad e
    have := lt_of_heap HM.out
    show ¬ ad.block = w.heap.size
    omega)
  have F3 : Foot (fun j => w.heap.size ≤ j) w (w2.setCell ⟨w.heap.size, 10, none⟩ (.slice co sn cc)) := ((below_foot _ (below_one HBX.out b2)).trans f3 (fun j (e : j = w.heap.size) => .inl (by show w.heap.size ≤ j; omega)))
  have BW3 := F3.below (Nat.le_refl _) (fun k e => e)
  obtain ⟨w3, hw3⟩ : ∃ w3, w2.setCell ⟨w.heap.size, 10, none⟩ (.slice co sn cc) = w3 := ⟨_, rfl⟩
  rw [hw3] at hm3 hs3 hr3 he3 hx3 hb3 BW3
  have HM3 := hide hm3
  have HR3 := hide hr3
  have HE3 := hide he3
  have HS3 := hide hs3
  have HX3 := hide hx3
  have HB3 := hide hb3
  have HN := hide hN
  have HND : Hid (∀ ad, co = some ad → ¬ (ad.block ≤ w.heap.size + 1 + 1)) := fun ad e => by have := HNX.out ad e; have := HXS.out; omega
  have HBW3 := hide BW3
  have HGT : Hid (w.heap.size + 1 + 1 < w3.heap.size) := lt_of_heap he3
  clear hm3 hr3 he3 hs3 hx3 hb3 hN BW3 F3 f3 hm2 hr2 he2 B2 N2 b2 HB HM HR HE HS HX
  have HK3 : Hid ((w3.drew.cell? ⟨r, 1, none⟩ = some (.iface 32 (.pointer (some ⟨A.sb, 0, none⟩)))) ∧ (w3.drew.cell? ⟨w.heap.size, 0, none⟩ = some (.int .u64 m.ta) ∧ w3.drew.cell? ⟨w.heap.size, 1, none⟩ = some (.int .u64 m.rp) ∧ w3.drew.cell? ⟨w.heap.size, 2, none⟩ = some (.int .u32 m.id) ∧ w3.drew.cell? ⟨w.heap.size, 3, none⟩ = some (.int .u16 m.op) ∧ w3.drew.cell? ⟨w.heap.size, 4, none⟩ = some (.int .u16 m.st) ∧ w3.drew.cell? ⟨w.heap.size, 5, none⟩ = some (.int .u64 m.p) ∧ w3.drew.cell? ⟨w.heap.size, 6, none⟩ = some (.int .u32 m.o) ∧ w3.drew.cell? ⟨w.heap.size, 7, none⟩ = some (.int .u8 m.r) ∧ w3.drew.cell? ⟨w.heap.size, 8, none⟩ = some (.int .u64 m.c) ∧ w3.drew.cell? ⟨w.heap.size, 9, none⟩ = some (.int .u64 m.ar) ∧ w3.drew.cell? ⟨w.heap.size, 10, none⟩ = some (.slice co sn cc))) := ⟨HS3.out.c1, HM3.out.all⟩
  go_wp2
  have hS : Hid ((w3.drew.cell? ⟨r, 1, none⟩ = some (.iface 32 (.pointer (some ⟨A.sb, 0, none⟩)))) ∧ (w3.drew.cell? ⟨w.heap.size, 0, none⟩ = some (.int .u64 m.ta) ∧ w3.drew.cell? ⟨w.heap.size, 1, none⟩ = some (.int .u64 m.rp) ∧ w3.drew.cell? ⟨w.heap.size, 2, none⟩ = some (.int .u32 m.id) ∧ w3.drew.cell? ⟨w.heap.size, 3, none⟩ = some (.int .u16 m.op) ∧ w3.drew.cell? ⟨w.heap.size, 4, none⟩ = some (.int .u16 m.st) ∧ w3.drew.cell? ⟨w.heap.size, 5, none⟩ = some (.int .u64 m.p) ∧ w3.drew.cell? ⟨w.heap.size, 6, none⟩ = some (.int .u32 m.o) ∧ w3.drew.cell? ⟨w.heap.size, 7, none⟩ = some (.int .u8 m.r) ∧ w3.drew.cell? ⟨w.heap.size, 8, none⟩ = some (.int .u64 m.c) ∧ w3.drew.cell? ⟨w.heap.size, 9, none⟩ = some (.int .u64 m.ar) ∧ w3.drew.cell? ⟨w.heap.size, 10, none⟩ = some (.slice co sn cc))) := HK3.out
  refine wp_region_held_drew (S := fun W => (W.cell? ⟨r, 1, none⟩ = some (.iface 32 (.pointer (some ⟨A.sb, 0, none⟩)))) ∧ (W.cell? ⟨w.heap.size, 0, none⟩ = some (.int .u64 m.ta) ∧ W.cell? ⟨w.heap.size, 1, none⟩ = some (.int .u64 m.rp) ∧ W.cell? ⟨w.heap.size, 2, none⟩ = some (.int .u32 m.id) ∧ W.cell? ⟨w.heap.size, 3, none⟩ = some (.int .u16 m.op) ∧ W.cell? ⟨w.heap.size, 4, none⟩ = some (.int .u16 m.st) ∧ W.cell? ⟨w.heap.size, 5, none⟩ = some (.int .u64 m.p) ∧ W.cell? ⟨w.heap.size, 6, none⟩ = some (.int .u32 m.o) ∧ W.cell? ⟨w.heap.size, 7, none⟩ = some (.int .u8 m.r) ∧ W.cell? ⟨w.heap.size, 8, none⟩ = some (.int .u64 m.c) ∧ W.cell? ⟨w.heap.size, 9, none⟩ = some (.int .u64 m.ar) ∧ W.cell? ⟨w.heap.size, 10, none⟩ = some (.slice co sn cc))) (by kernel_rfl) hS.out (fun _ => ?_)
  refine wpAnyH_take (i := 0) (oi := { dst := some 14, op := Op.move (Operand.tmp 0), type := 36, pos := "skeleton.go:155", after := #[], guard := none }) (v := (.pointer (some ⟨r, 0, none⟩))) rfl (by kernel_rfl) (by kernel_rfl) (by kernel_rfl) (fun _ _ _ h => h) (Or.inl ⟨by kernel_rfl, fun w hC => by go_simp⟩) hS.out ?_
  simp only [Act.put, List.setIfInBounds_toArray, List.set_cons_zero, List.set_cons_succ]
  refine wpAnyH_take (i := 1) (oi := { dst := some 15, op := Op.nilCheck (Operand.tmp 14), type := 0, pos := "skeleton.go:155", after := #[{ on := 0, ground := Ground.data }], guard := none }) (v := (.pointer (some ⟨r, 0, none⟩))) rfl (by kernel_rfl) (by kernel_rfl) (by kernel_rfl) (fun _ _ _ h => h) (Or.inl ⟨by kernel_rfl, fun w hC => by go_simp⟩) hS.out ?_
  simp only [Act.put, List.setIfInBounds_toArray, List.set_cons_zero, List.set_cons_succ]
  refine wpAnyH_take (i := 2) (oi := { dst := some 16, op := Op.fieldAddr 81 (Operand.tmp 15) 1, type := 0, pos := "skeleton.go:155", after := #[{ on := 1, ground := Ground.data }], guard := none }) (v := (.pointer (some ⟨r, 1, none⟩))) rfl (by kernel_rfl) (by kernel_rfl) (by kernel_rfl) (fun _ _ _ h => h) (Or.inl ⟨by kernel_rfl, fun w hC => by go_simp⟩) hS.out ?_
  simp only [Act.put, List.setIfInBounds_toArray, List.set_cons_zero, List.set_cons_succ]
  refine wpAnyH_take (i := 3) (oi := { dst := some 17, op := Op.load 79 (Operand.tmp 16), type := 79, pos := "skeleton.go:155", after := #[{ on := 2, ground := Ground.data }], guard := none }) (v := (.iface 32 (.pointer (some ⟨A.sb, 0, none⟩)))) rfl (by kernel_rfl) (by kernel_rfl) (by kernel_rfl) (fun _ _ _ h => h) (Or.inl ⟨by kernel_rfl, fun w hC => by (obtain ⟨c1, k0, k1, k2, k3, k4, k5, k6, k7, k8, k9, k10⟩ := hC; go_simp)⟩) hS.out ?_
  simp only [Act.put, List.setIfInBounds_toArray, List.set_cons_zero, List.set_cons_succ]
  refine wpAnyH_take (i := 4) (oi := { dst := some 18, op := Op.fieldAddr 49 (Operand.tmp 5) 3, type := 0, pos := "skeleton.go:155", after := #[], guard := none }) (v := (.pointer (some ⟨w.heap.size, 3, none⟩))) rfl (by kernel_rfl) (by kernel_rfl) (by kernel_rfl) (fun _ _ _ h => h) (Or.inl ⟨by kernel_rfl, fun w hC => by go_simp⟩) hS.out ?_
  simp only [Act.put, List.setIfInBounds_toArray, List.set_cons_zero, List.set_cons_succ]
  refine wpAnyH_take (i := 5) (oi := { dst := some 19, op := Op.load 46 (Operand.tmp 18), type := 46, pos := "skeleton.go:155", after := #[{ on := 4, ground := Ground.data }], guard := none }) (v := (.int .u16 (m.op : Int))) rfl (by kernel_rfl) (by kernel_rfl) (by kernel_rfl) (fun _ _ _ h => h) (Or.inl ⟨by kernel_rfl, fun w hC => by (obtain ⟨c1, k0, k1, k2, k3, k4, k5, k6, k7, k8, k9, k10⟩ := hC; go_simp)⟩) hS.out ?_
  simp only [Act.put, List.setIfInBounds_toArray, List.set_cons_zero, List.set_cons_succ]
  refine wpAnyH_take (i := 6) (oi := { dst := some 20, op := Op.move (Operand.tmp 1), type := 3, pos := "skeleton.go:155", after := #[], guard := none }) (v := (.int .i64 z)) rfl (by kernel_rfl) (by kernel_rfl) (by kernel_rfl) (fun _ _ _ h => h) (Or.inl ⟨by kernel_rfl, fun w hC => by go_simp⟩) hS.out ?_
  simp only [Act.put, List.setIfInBounds_toArray, List.set_cons_zero, List.set_cons_succ]
  refine wpAnyH_take (i := 7) (oi := { dst := some 21, op := Op.load 49 (Operand.tmp 5), type := 49, pos := "skeleton.go:155", after := #[], guard := none }) (v := (.agg #[.int .u64 m.ta, .int .u64 m.rp, .int .u32 m.id, .int .u16 m.op, .int .u16 m.st, .int .u64 m.p, .int .u32 m.o, .int .u8 m.r, .int .u64 m.c, .int .u64 m.ar, .slice co sn cc])) rfl (by kernel_rfl) (by kernel_rfl) (by kernel_rfl) (fun _ _ _ h => h) (Or.inl ⟨by kernel_rfl, fun w hC => by (obtain ⟨c1, k0, k1, k2, k3, k4, k5, k6, k7, k8, k9, k10⟩ := hC; go_simp)⟩) hS.out ?_
  simp only [Act.put, List.setIfInBounds_toArray, List.set_cons_zero, List.set_cons_succ]
  refine wpAnyH_ready (rs := [8]) (by kernel_rfl) (by simp) ?_
  refine AllReadyH.cons (o := { dst := some 22, op := Op.call { callee := Callee.invoke (Operand.tmp 17) "Do", args := #[Operand.tmp 19, Operand.tmp 20, Operand.tmp 21], argTypes := #[46, 3, 49] }, type := 91, pos := "skeleton.go:155", after := #[{ on := 3, ground := Ground.data }, { on := 5, ground := Ground.data }, { on := 6, ground := Ground.data }, { on := 7, ground := Ground.data }], guard := none }) rfl (fun KK hKK => ?_) AllReadyH.nil
  go_simp
  refine (svc_do_yes m.op z m co sn cc _ (HX3.out.drewN 1) HL.out HOP.out HO.out).mono ?_; rw [HQ.out, HAR.out]; rintro e w4 ⟨rfl, E⟩
  have kh4 := (HX3.out.drewN 1).kh E
  have HS4 := hide ((show Sr w3.drew r A.g A.sb from HS3.out).kh kh4)
  have HM4 := hide ((show MB w3.drew w.heap.size m (.slice co sn cc) from HM3.out).kh kh4)
  have HR4 := hide ((show RB w3.drew _ _ _ _ from HR3.out).kh kh4)
  have HE4 := hide ((show EB w3.drew _ _ from HE3.out).kh kh4)
  have HB4 : Hid (Bts w4 co sn cc l) := (by obtain ⟨v, dv, nv, _, F, _⟩ := E; exact Bts.foot (show Bts w3.drew co sn cc l from HB3.out) F (fun ad e _ h => by have := HN.out ad e; have := HUP.out _ h; omega))
  have HEN := hide (E.from (below_one HBW3.out (below_d w3 1)))
  clear kh4 E
  have hS : Hid ((w4.cell? ⟨r, 1, none⟩ = some (.iface 32 (.pointer (some ⟨A.sb, 0, none⟩)))) ∧ (w4.cell? ⟨w.heap.size, 0, none⟩ = some (.int .u64 m.ta) ∧ w4.cell? ⟨w.heap.size, 1, none⟩ = some (.int .u64 m.rp) ∧ w4.cell? ⟨w.heap.size, 2, none⟩ = some (.int .u32 m.id) ∧ w4.cell? ⟨w.heap.size, 3, none⟩ = some (.int .u16 m.op) ∧ w4.cell? ⟨w.heap.size, 4, none⟩ = some (.int .u16 m.st) ∧ w4.cell? ⟨w.heap.size, 5, none⟩ = some (.int .u64 m.p) ∧ w4.cell? ⟨w.heap.size, 6, none⟩ = some (.int .u32 m.o) ∧ w4.cell? ⟨w.heap.size, 7, none⟩ = some (.int .u8 m.r) ∧ w4.cell? ⟨w.heap.size, 8, none⟩ = some (.int .u64 m.c) ∧ w4.cell? ⟨w.heap.size, 9, none⟩ = some (.int .u64 m.ar) ∧ w4.cell? ⟨w.heap.size, 10, none⟩ = some (.slice co sn cc))) := ⟨HS4.out.c1, HM4.out.all⟩
  refine hKK.out _ _ hS.out (fun _ => ?_)
  clear hKK
  refine wpAnyH_take (i := 9) (oi := { dst := some 13, op := Op.move (Operand.tmp 22), type := 91, pos := "skeleton.go:155", after := #[{ on := 8, ground := Ground.data }], guard := none }) (v := (.tuple #[.agg #[.int .u64 (m.p : Int), .int .u32 (m.o : Int), .int .u8 (m.r : Int), .int .u64 (m.c : Int), .int .u64 ar, .slice co sn cc], .nilIface])) rfl (by kernel_rfl) (by kernel_rfl) (by kernel_rfl) (fun _ _ _ h => h) (Or.inl ⟨by kernel_rfl, fun w hC => by go_simp⟩) hS.out ?_
  simp only [Act.put, List.setIfInBounds_toArray, List.set_cons_zero, List.set_cons_succ]
  refine wpAnyH_take (i := 10) (oi := { dst := some 23, op := Op.extract (Operand.tmp 13) 0, type := 90, pos := "skeleton.go:155", after := #[{ on := 9, ground := Ground.data }], guard := none }) (v := (.agg #[.int .u64 (m.p : Int), .int .u32 (m.o : Int), .int .u8 (m.r : Int), .int .u64 (m.c : Int), .int .u64 ar, .slice co sn cc])) rfl (by kernel_rfl) (by kernel_rfl) (by kernel_rfl) (fun _ _ _ h => h) (Or.inl ⟨by kernel_rfl, fun w hC => by go_simp⟩) hS.out ?_
  simp only [Act.put, List.setIfInBounds_toArray, List.set_cons_zero, List.set_cons_succ]
  refine wpAnyH_take (i := 11) (oi := { dst := some 24, op := Op.extract (Operand.tmp 13) 1, type := 43, pos := "skeleton.go:155", after := #[{ on := 9, ground := Ground.data }], guard := none }) (v := (.nilIface)) rfl (by kernel_rfl) (by kernel_rfl) (by kernel_rfl) (fun _ _ _ h => h) (Or.inl ⟨by kernel_rfl, fun w hC => by go_simp⟩) hS.out ?_
  simp only [Act.put, List.setIfInBounds_toArray, List.set_cons_zero, List.set_cons_succ]
  obtain ⟨y0, y1, y2, y3, y4, y5⟩ := HR4.out.all
  have z0 := HR4.out.z 0
  have z1 := HR4.out.z 1
  have z2 := HR4.out.z 2
  have z3 := HR4.out.z 3
  have z4 := HR4.out.z 4
  have z5 := HR4.out.z 5
  have HR5 := hide (HR4.out.lay ⟨m.p, m.o, m.r, m.c⟩ ar (.slice co sn cc))
  have f5 := foot_lay6 w4 (w.heap.size + 1) ⟨m.p, m.o, m.r, m.c⟩ ar (.slice co sn cc)
  have HE5 := hide (HE4.out.foot f5 (by show ¬ w.heap.size + 1 + 1 = w.heap.size + 1; omega))
  have HM5 := hide (HM4.out.foot f5 (by show ¬ w.heap.size = w.heap.size + 1; omega))
  have HS5 := hide (HS4.out.foot f5 (fun e => two_types HS4.out HR4.out (by decide) e))
  have HB5 := hide (Bts.foot HB4.out f5 (fun ad e _ (h : ad.block = w.heap.size + 1) => HND.out ad e (by omega)))
  have HEN5 := hide (HEN.out.res HW0.out HR4.out (by omega) f5)
  clear f5
  obtain ⟨w5, hw5⟩ : ∃ w5, lay6 w4 (w.heap.size + 1) ⟨m.p, m.o, m.r, m.c⟩ ar (.slice co sn cc) = w5 := ⟨_, rfl⟩
  rw [hw5] at HR5 HE5 HM5 HS5 HB5 HEN5
  unfold lay6 at hw5
  
  refine wpAnyH_ready (rs := [12]) (by kernel_rfl) (by simp) ?_
  refine AllReadyH.cons (o := { dst := none, op := Op.store 90 (Operand.tmp 6) (Operand.tmp 23), type := 0, pos := "skeleton.go:155", after := #[{ on := 10, ground := Ground.data }, { on := 8, ground := Ground.chain }, { on := 0, ground := Ground.phase }, { on := 1, ground := Ground.phase }, { on := 2, ground := Ground.phase }, { on := 3, ground := Ground.phase }, { on := 4, ground := Ground.phase }, { on := 5, ground := Ground.phase }, { on := 6, ground := Ground.phase }, { on := 7, ground := Ground.phase }, { on := 8, ground := Ground.phase }, { on := 9, ground := Ground.phase }, { on := 10, ground := Ground.phase }, { on := 11, ground := Ground.textOnly Departure.lateStoresUnsure }], guard := none }) rfl (fun KK hKK => ?_) AllReadyH.nil
  go_simp
  have hS : Hid ((w5.cell? ⟨r, 1, none⟩ = some (.iface 32 (.pointer (some ⟨A.sb, 0, none⟩)))) ∧ (w5.cell? ⟨w.heap.size, 0, none⟩ = some (.int .u64 m.ta) ∧ w5.cell? ⟨w.heap.size, 1, none⟩ = some (.int .u64 m.rp) ∧ w5.cell? ⟨w.heap.size, 2, none⟩ = some (.int .u32 m.id) ∧ w5.cell? ⟨w.heap.size, 3, none⟩ = some (.int .u16 m.op) ∧ w5.cell? ⟨w.heap.size, 4, none⟩ = some (.int .u16 m.st) ∧ w5.cell? ⟨w.heap.size, 5, none⟩ = some (.int .u64 m.p) ∧ w5.cell? ⟨w.heap.size, 6, none⟩ = some (.int .u32 m.o) ∧ w5.cell? ⟨w.heap.size, 7, none⟩ = some (.int .u8 m.r) ∧ w5.cell? ⟨w.heap.size, 8, none⟩ = some (.int .u64 m.c) ∧ w5.cell? ⟨w.heap.size, 9, none⟩ = some (.int .u64 m.ar) ∧ w5.cell? ⟨w.heap.size, 10, none⟩ = some (.slice co sn cc))) := ⟨HS5.out.c1, HM5.out.all⟩
  refine hKK.out _ _ hS.out (fun _ => ?_)
  clear hKK
  have e0 := HE5.out.c
  have ez := HE5.out.z
  refine wpAnyH_ready (rs := [13]) (by kernel_rfl) (by simp) ?_
  refine AllReadyH.cons (o := { dst := none, op := Op.store 43 (Operand.tmp 7) (Operand.tmp 24), type := 0, pos := "skeleton.go:155", after := #[{ on := 11, ground := Ground.data }, { on := 12, ground := Ground.chain }, { on := 0, ground := Ground.phase }, { on := 1, ground := Ground.phase }, { on := 2, ground := Ground.phase }, { on := 3, ground := Ground.phase }, { on := 4, ground := Ground.phase }, { on := 5, ground := Ground.phase }, { on := 6, ground := Ground.phase }, { on := 7, ground := Ground.phase }, { on := 8, ground := Ground.phase }, { on := 9, ground := Ground.phase }, { on := 10, ground := Ground.phase }, { on := 11, ground := Ground.phase }, { on := 12, ground := Ground.phase }], guard := none }) rfl (fun KK hKK => ?_) AllReadyH.nil
  go_simp
  have HR6 := hide (HR5.out.foot (foot_set w5 ⟨w.heap.size + 1 + 1, 0, none⟩ (.nilIface)) (by show ¬ w.heap.size + 1 = w.heap.size + 1 + 1; omega))
  have HM6 := hide (HM5.out.foot (foot_set w5 ⟨w.heap.size + 1 + 1, 0, none⟩ (.nilIface)) (by show ¬ w.heap.size = w.heap.size + 1 + 1; omega))
  have HS6 := hide (HS5.out.foot (foot_set w5 ⟨w.heap.size + 1 + 1, 0, none⟩ (.nilIface)) (fun e => two_types HS5.out HE5.out (by decide) e))
  have HE6 := hide (HE5.out.set (.nilIface))
  have HB6 := hide (Bts.foot HB5.out (foot_set w5 ⟨w.heap.size + 1 + 1, 0, none⟩ (.nilIface)) (fun ad e _ (h : ad.block = w.heap.size + 1 + 1) => HND.out ad e (by omega)))
  have HEN6 := hide (HEN5.out.err HW0.out HE5.out (by omega) (foot_set w5 ⟨w.heap.size + 1 + 1, 0, none⟩ (.nilIface)))
  obtain ⟨w6, hw6⟩ : ∃ w6, w5.setCell ⟨w.heap.size + 1 + 1, 0, none⟩ (.nilIface) = w6 := ⟨_, rfl⟩
  rw [hw6] at HR6 HM6 HS6 HE6 HB6 HEN6
  try rw [hw6]
  clear e0 ez y0 y1 y2 y3 y4 y5 z0 z1 z2 z3 z4 z5 hw5
  have hS : Hid ((w6.cell? ⟨r, 1, none⟩ = some (.iface 32 (.pointer (some ⟨A.sb, 0, none⟩)))) ∧ (w6.cell? ⟨w.heap.size, 0, none⟩ = some (.int .u64 m.ta) ∧ w6.cell? ⟨w.heap.size, 1, none⟩ = some (.int .u64 m.rp) ∧ w6.cell? ⟨w.heap.size, 2, none⟩ = some (.int .u32 m.id) ∧ w6.cell? ⟨w.heap.size, 3, none⟩ = some (.int .u16 m.op) ∧ w6.cell? ⟨w.heap.size, 4, none⟩ = some (.int .u16 m.st) ∧ w6.cell? ⟨w.heap.size, 5, none⟩ = some (.int .u64 m.p) ∧ w6.cell? ⟨w.heap.size, 6, none⟩ = some (.int .u32 m.o) ∧ w6.cell? ⟨w.heap.size, 7, none⟩ = some (.int .u8 m.r) ∧ w6.cell? ⟨w.heap.size, 8, none⟩ = some (.int .u64 m.c) ∧ w6.cell? ⟨w.heap.size, 9, none⟩ = some (.int .u64 m.ar) ∧ w6.cell? ⟨w.heap.size, 10, none⟩ = some (.slice co sn cc))) := ⟨HS6.out.c1, HM6.out.all⟩
  refine hKK.out _ _ hS.out (fun _ => ?_)
  clear hKK
  refine wpAnyH_done (by kernel_rfl) ?_ _
  have e0 := HE6.out.c
  have ez := HE6.out.z
  obtain ⟨y0, y1, y2, y3, y4, y5⟩ := HR6.out.all
  have z0 := HR6.out.z 0
  have z1 := HR6.out.z 1
  have z2 := HR6.out.z 2
  have z3 := HR6.out.z 3
  have z4 := HR6.out.z 4
  have z5 := HR6.out.z 5
  have HR8 := hide (HR6.out.lay ⟨m.p, m.o, m.r, m.c⟩ ar (.slice co sn cc))
  have f8 := foot_lay6 w6 (w.heap.size + 1) ⟨m.p, m.o, m.r, m.c⟩ ar (.slice co sn cc)
  have HE8 := hide (HE6.out.foot f8 (by show ¬ w.heap.size + 1 + 1 = w.heap.size + 1; omega))
  have HB8 := hide (Bts.foot HB6.out f8 (fun ad e _ (h : ad.block = w.heap.size + 1) => HND.out ad e (by omega)))
  have HEN8 := hide (HEN6.out.res HW0.out HR6.out (by omega) f8)
  clear f8
  obtain ⟨w8, hw8⟩ : ∃ w8, lay6 w6 (w.heap.size + 1) ⟨m.p, m.o, m.r, m.c⟩ ar (.slice co sn cc) = w8 := ⟨_, rfl⟩
  rw [hw8] at HR8 HE8 HB8 HEN8
  unfold lay6 at hw8
  
  have g0 := HE8.out.c
  have gz := HE8.out.z
  have f9 := foot_set w8 ⟨w.heap.size + 1 + 1, 0, none⟩ (.nilIface)
  have HR9 := hide (HR8.out.foot f9 (by show ¬ w.heap.size + 1 = w.heap.size + 1 + 1; omega))
  have HE9 := hide (HE8.out.set (.nilIface))
  have HB9 := hide (Bts.foot HB8.out f9 (fun ad e _ (h : ad.block = w.heap.size + 1 + 1) => HND.out ad e (by omega)))
  have HEN9 := hide (HEN8.out.err HW0.out HE8.out (by omega) f9)
  clear f9
  obtain ⟨w9, hw9⟩ : ∃ w9, w8.setCell ⟨w.heap.size + 1 + 1, 0, none⟩ (.nilIface) = w9 := ⟨_, rfl⟩
  rw [hw9] at HR9 HE9 HB9 HEN9
  go_wp2
  refine leaves_cons (f := 72) (args := #[.pointer (some ⟨w.heap.size + 1, 0, none⟩), .pointer (some ⟨w.heap.size + 1 + 1, 0, none⟩)]) (by simp) (by simp [go_sem]) ?_
  refine (do_idle _ _ _).mono ?_
  rintro e u' w'' ⟨rfl, rfl, rfl⟩
  have q0 := HE9.out.c
  obtain ⟨v0, v1, v2, v3, v4, v5⟩ := HR9.out.all
  
  simp [Leaves, settle, results, Tryd.results61, go_sem, q0, v0, v1, v2, v3, v4, v5]
  exact ⟨co, cc, ⟨rfl, rfl⟩, HB9.out, HN.out, HEN9.out⟩
set_option maxRecDepth 20000 in
set_option maxHeartbeats 6400000 in
theorem do_no (z : Int) (m : Msg) (so : Option Addr) (sn sc : Nat) (l : List UInt8) (w : World) (h : Sr w r A.g A.sb) (x : Sv w0 w A p ws s) (hl : s.D.length ≤ 5000000000000) (hop : m.op = 103) (ho : m.op ≤ 65535) (hb : Bts w so sn sc l) (hn : sn ≤ 140737488355328) (hg : Glob w0) :
    Calls Tryd.prog 61 #[.pointer (some ⟨r, 0, none⟩), .int .i64 z, .agg #[.int .u64 m.ta, .int .u64 m.rp, .int .u32 m.id, .int .u16 m.op, .int .u16 m.st, .int .u64 m.p, .int .u32 m.o, .int .u8 m.r, .int .u64 m.c, .int .u64 m.ar, .slice so sn sc]] w fun e w' =>
      e = .returned (.tuple #[.agg #[.int .u64 0, .int .u32 0, .int .u8 0, .int .u64 0, .int .u64 0, .slice none 0 0], .iface 61 (.int .i64 13)]) ∧ SvEnd w0 w A p ws w' ⟨s.t, s.es, s.T, s.D ++ [doneF m.op z], s.G⟩ := by
  obtain ⟨q, hq⟩ : ∃ q, doneF m.op z = q := ⟨_, rfl⟩
  have HQ := hide hq
  rw [hq]
  clear hq
  
  
  
  
  have hmf : ∀ (fn : Fn) (first cap : Array Value) (w : World), (Instr.makeFunc fn first cap).run Tryd.prog w = .ok (.func fn first cap) w := fun _ _ _ _ => rfl
  have hmd := Tryd.mDo
  obtain ⟨X, hX, bm, br, be, bX⟩ := do_vars w m (.slice so sn sc)
  unfold resZ at hX
  have HS := hide (h.grow bX)
  have HX := hide (x.grow bX)
  have HUP : Hid (∀ j, SvS A j → j < w.heap.size) := fun j e => (x.up e).2
  have HB := hide (hb.carry bX)
  have HM := hide bm
  have HR := hide br
  have HE := hide be
  have HBX := hide bX
  have HW0 : Hid (w0.heap.size ≤ w.heap.size) := x.bel.size
  have HL := hide hl
  have HOP := hide hop
  have HO := hide ho
  have HG := hide hg
  have k10 : X.cell? ⟨w.heap.size, 10, none⟩ = some (.slice so sn sc) := bm.all.2.2.2.2.2.2.2.2.2.2
  clear bm br be bX h x hb hl hop ho hg
  refine calls_of_calm Tryd.func61 rfl ?_
  simp only [Tryd.ntmps61, List.size_toArray, List.length_cons, List.length_nil, Nat.reduceAdd, Nat.reduceSub, Array.replicate_succ, Array.replicate_zero, List.push_toArray, List.append_toArray, List.nil_append, List.cons_append]
  go_wp2_with fail
  refine (clone_any so sn sc l _ HB.out hn).mono ?_; rintro e w2 ⟨co, cc, rfl, B2, N2, b2⟩
  have hm2 := HM.out.grow b2
  have hr2 := HR.out.grow b2
  have he2 := HE.out.grow b2
  have z10 : w2.frozen? ⟨w.heap.size, 10, none⟩ = false := hm2.z 10
  have d10 : w2.cell? ⟨w.heap.size, 10, none⟩ = some (.slice so sn sc) := hm2.all.2.2.2.2.2.2.2.2.2.2
  have hm3 := hm2.put10 (.slice co sn cc)
  have f3 := foot_set w2 ⟨w.heap.size, 10, none⟩ (.slice co sn cc)
  have hs3 := (HS.out.grow b2).foot f3 (fun e => two_types (HS.out.grow b2) hm2 (by decide) e)
  have hr3 := hr2.foot f3 (by show ¬ w.heap.size + 1 = w.heap.size; omega)
  have he3 := he2.foot f3 (by show ¬ w.heap.size + 1 + 1 = w.heap.size; omega)
  have hx3 := (HX.out.grow b2).mine hm2 HW0.out f3
  have HNX := hide N2
  have HXS : Hid (w.heap.size + 1 + 1 < X.heap.size) := lt_of_heap HE.out
  have hN : New w co := N2.le HBX.out.size
  have hb3 : Bts (w2.setCell ⟨w.heap.size, 10, none⟩ (.slice co sn cc)) co sn cc l := Bts.foot B2 f3 (fun ad e _ => by
    have := N2 ad e
    have := lt_of_heap HM.out
    show ¬ ad.block = w.heap.size
    omega)
  have F3 : Foot (fun j => w.heap.size ≤ j) w (w2.setCell ⟨w.heap.size, 10, none⟩ (.slice co sn cc)) := ((below_foot _ (below_one HBX.out b2)).trans f3 (fun j (e : j = w.heap.size) => .inl (by show w.heap.size ≤ j; omega)))
  have BW3 := F3.below (Nat.le_refl _) (fun k e => e)
  obtain ⟨w3, hw3⟩ : ∃ w3, w2.setCell ⟨w.heap.size, 10, none⟩ (.slice co sn cc) = w3 := ⟨_, rfl⟩
  rw [hw3] at hm3 hs3 hr3 he3 hx3 hb3 BW3
  have HM3 := hide hm3
  have HR3 := hide hr3
  have HE3 := hide he3
  have HS3 := hide hs3
  have HX3 := hide hx3
  have HB3 := hide hb3
  have HN := hide hN
  have HND : Hid (∀ ad, co = some ad → ¬ (ad.block ≤ w.heap.size + 1 + 1)) := fun ad e => by have := HNX.out ad e; have := HXS.out; omega
  have HBW3 := hide BW3
  have HGT : Hid (w.heap.size + 1 + 1 < w3.heap.size) := lt_of_heap he3
  clear hm3 hr3 he3 hs3 hx3 hb3 hN BW3 F3 f3 hm2 hr2 he2 B2 N2 b2 HB HM HR HE HS HX
  have HK3 : Hid ((w3.drew.cell? ⟨r, 1, none⟩ = some (.iface 32 (.pointer (some ⟨A.sb, 0, none⟩)))) ∧ (w3.drew.cell? ⟨w.heap.size, 0, none⟩ = some (.int .u64 m.ta) ∧ w3.drew.cell? ⟨w.heap.size, 1, none⟩ = some (.int .u64 m.rp) ∧ w3.drew.cell? ⟨w.heap.size, 2, none⟩ = some (.int .u32 m.id) ∧ w3.drew.cell? ⟨w.heap.size, 3, none⟩ = some (.int .u16 m.op) ∧ w3.drew.cell? ⟨w.heap.size, 4, none⟩ = some (.int .u16 m.st) ∧ w3.drew.cell? ⟨w.heap.size, 5, none⟩ = some (.int .u64 m.p) ∧ w3.drew.cell? ⟨w.heap.size, 6, none⟩ = some (.int .u32 m.o) ∧ w3.drew.cell? ⟨w.heap.size, 7, none⟩ = some (.int .u8 m.r) ∧ w3.drew.cell? ⟨w.heap.size, 8, none⟩ = some (.int .u64 m.c) ∧ w3.drew.cell? ⟨w.heap.size, 9, none⟩ = some (.int .u64 m.ar) ∧ w3.drew.cell? ⟨w.heap.size, 10, none⟩ = some (.slice co sn cc))) := ⟨HS3.out.c1, HM3.out.all⟩
  go_wp2
  have hS : Hid ((w3.drew.cell? ⟨r, 1, none⟩ = some (.iface 32 (.pointer (some ⟨A.sb, 0, none⟩)))) ∧ (w3.drew.cell? ⟨w.heap.size, 0, none⟩ = some (.int .u64 m.ta) ∧ w3.drew.cell? ⟨w.heap.size, 1, none⟩ = some (.int .u64 m.rp) ∧ w3.drew.cell? ⟨w.heap.size, 2, none⟩ = some (.int .u32 m.id) ∧ w3.drew.cell? ⟨w.heap.size, 3, none⟩ = some (.int .u16 m.op) ∧ w3.drew.cell? ⟨w.heap.size, 4, none⟩ = some (.int .u16 m.st) ∧ w3.drew.cell? ⟨w.heap.size, 5, none⟩ = some (.int .u64 m.p) ∧ w3.drew.cell? ⟨w.heap.size, 6, none⟩ = some (.int .u32 m.o) ∧ w3.drew.cell? ⟨w.heap.size, 7, none⟩ = some (.int .u8 m.r) ∧ w3.drew.cell? ⟨w.heap.size, 8, none⟩ = some (.int .u64 m.c) ∧ w3.drew.cell? ⟨w.heap.size, 9, none⟩ = some (.int .u64 m.ar) ∧ w3.drew.cell? ⟨w.heap.size, 10, none⟩ = some (.slice co sn cc))) := HK3.out
  refine wp_region_held_drew (S := fun W => (W.cell? ⟨r, 1, none⟩ = some (.iface 32 (.pointer (some ⟨A.sb, 0, none⟩)))) ∧ (W.cell? ⟨w.heap.size, 0, none⟩ = some (.int .u64 m.ta) ∧ W.cell? ⟨w.heap.size, 1, none⟩ = some (.int .u64 m.rp) ∧ W.cell? ⟨w.heap.size, 2, none⟩ = some (.int .u32 m.id) ∧ W.cell? ⟨w.heap.size, 3, none⟩ = some (.int .u16 m.op) ∧ W.cell? ⟨w.heap.size, 4, none⟩ = some (.int .u16 m.st) ∧ W.cell? ⟨w.heap.size, 5, none⟩ = some (.int .u64 m.p) ∧ W.cell? ⟨w.heap.size, 6, none⟩ = some (.int .u32 m.o) ∧ W.cell? ⟨w.heap.size, 7, none⟩ = some (.int .u8 m.r) ∧ W.cell? ⟨w.heap.size, 8, none⟩ = some (.int .u64 m.c) ∧ W.cell? ⟨w.heap.size, 9, none⟩ = some (.int .u64 m.ar) ∧ W.cell? ⟨w.heap.size, 10, none⟩ = some (.slice co sn cc))) (by kernel_rfl) hS.out (fun _ => ?_)
  refine wpAnyH_take (i := 0) (oi := { dst := some 14, op := Op.move (Operand.tmp 0), type := 36, pos := "skeleton.go:155", after := #[], guard := none }) (v := (.pointer (some ⟨r, 0, none⟩))) rfl (by kernel_rfl) (by kernel_rfl) (by kernel_rfl) (fun _ _ _ h => h) (Or.inl ⟨by kernel_rfl, fun w hC => by go_simp⟩) hS.out ?_
  simp only [Act.put, List.setIfInBounds_toArray, List.set_cons_zero, List.set_cons_succ]
  refine wpAnyH_take (i := 1) (oi := { dst := some 15, op := Op.nilCheck (Operand.tmp 14), type := 0, pos := "skeleton.go:155", after := #[{ on := 0, ground := Ground.data }], guard := none }) (v := (.pointer (some ⟨r, 0, none⟩))) rfl (by kernel_rfl) (by kernel_rfl) (by kernel_rfl) (fun _ _ _ h => h) (Or.inl ⟨by kernel_rfl, fun w hC => by go_simp⟩) hS.out ?_
  simp only [Act.put, List.setIfInBounds_toArray, List.set_cons_zero, List.set_cons_succ]
  refine wpAnyH_take (i := 2) (oi := { dst := some 16, op := Op.fieldAddr 81 (Operand.tmp 15) 1, type := 0, pos := "skeleton.go:155", after := #[{ on := 1, ground := Ground.data }], guard := none }) (v := (.pointer (some ⟨r, 1, none⟩))) rfl (by kernel_rfl) (by kernel_rfl) (by kernel_rfl) (fun _ _ _ h => h) (Or.inl ⟨by kernel_rfl, fun w hC => by go_simp⟩) hS.out ?_
  simp only [Act.put, List.setIfInBounds_toArray, List.set_cons_zero, List.set_cons_succ]
  refine wpAnyH_take (i := 3) (oi := { dst := some 17, op := Op.load 79 (Operand.tmp 16), type := 79, pos := "skeleton.go:155", after := #[{ on := 2, ground := Ground.data }], guard := none }) (v := (.iface 32 (.pointer (some ⟨A.sb, 0, none⟩)))) rfl (by kernel_rfl) (by kernel_rfl) (by kernel_rfl) (fun _ _ _ h => h) (Or.inl ⟨by kernel_rfl, fun w hC => by (obtain ⟨c1, k0, k1, k2, k3, k4, k5, k6, k7, k8, k9, k10⟩ := hC; go_simp)⟩) hS.out ?_
  simp only [Act.put, List.setIfInBounds_toArray, List.set_cons_zero, List.set_cons_succ]
  refine wpAnyH_take (i := 4) (oi := { dst := some 18, op := Op.fieldAddr 49 (Operand.tmp 5) 3, type := 0, pos := "skeleton.go:155", after := #[], guard := none }) (v := (.pointer (some ⟨w.heap.size, 3, none⟩))) rfl (by kernel_rfl) (by kernel_rfl) (by kernel_rfl) (fun _ _ _ h => h) (Or.inl ⟨by kernel_rfl, fun w hC => by go_simp⟩) hS.out ?_
  simp only [Act.put, List.setIfInBounds_toArray, List.set_cons_zero, List.set_cons_succ]
  refine wpAnyH_take (i := 5) (oi := { dst := some 19, op := Op.load 46 (Operand.tmp 18), type := 46, pos := "skeleton.go:155", after := #[{ on := 4, ground := Ground.data }], guard := none }) (v := (.int .u16 (m.op : Int))) rfl (by kernel_rfl) (by kernel_rfl) (by kernel_rfl) (fun _ _ _ h => h) (Or.inl ⟨by kernel_rfl, fun w hC => by (obtain ⟨c1, k0, k1, k2, k3, k4, k5, k6, k7, k8, k9, k10⟩ := hC; go_simp)⟩) hS.out ?_
  simp only [Act.put, List.setIfInBounds_toArray, List.set_cons_zero, List.set_cons_succ]
  refine wpAnyH_take (i := 6) (oi := { dst := some 20, op := Op.move (Operand.tmp 1), type := 3, pos := "skeleton.go:155", after := #[], guard := none }) (v := (.int .i64 z)) rfl (by kernel_rfl) (by kernel_rfl) (by kernel_rfl) (fun _ _ _ h => h) (Or.inl ⟨by kernel_rfl, fun w hC => by go_simp⟩) hS.out ?_
  simp only [Act.put, List.setIfInBounds_toArray, List.set_cons_zero, List.set_cons_succ]
  refine wpAnyH_take (i := 7) (oi := { dst := some 21, op := Op.load 49 (Operand.tmp 5), type := 49, pos := "skeleton.go:155", after := #[], guard := none }) (v := (.agg #[.int .u64 m.ta, .int .u64 m.rp, .int .u32 m.id, .int .u16 m.op, .int .u16 m.st, .int .u64 m.p, .int .u32 m.o, .int .u8 m.r, .int .u64 m.c, .int .u64 m.ar, .slice co sn cc])) rfl (by kernel_rfl) (by kernel_rfl) (by kernel_rfl) (fun _ _ _ h => h) (Or.inl ⟨by kernel_rfl, fun w hC => by (obtain ⟨c1, k0, k1, k2, k3, k4, k5, k6, k7, k8, k9, k10⟩ := hC; go_simp)⟩) hS.out ?_
  simp only [Act.put, List.setIfInBounds_toArray, List.set_cons_zero, List.set_cons_succ]
  refine wpAnyH_ready (rs := [8]) (by kernel_rfl) (by simp) ?_
  refine AllReadyH.cons (o := { dst := some 22, op := Op.call { callee := Callee.invoke (Operand.tmp 17) "Do", args := #[Operand.tmp 19, Operand.tmp 20, Operand.tmp 21], argTypes := #[46, 3, 49] }, type := 91, pos := "skeleton.go:155", after := #[{ on := 3, ground := Ground.data }, { on := 5, ground := Ground.data }, { on := 6, ground := Ground.data }, { on := 7, ground := Ground.data }], guard := none }) rfl (fun KK hKK => ?_) AllReadyH.nil
  go_simp
  refine (svc_do_bad m.op z m co sn cc _ (HX3.out.drewN 1) HL.out HOP.out).mono ?_; rw [HQ.out]; rintro e w4 ⟨rfl, E⟩
  have kh4 := (HX3.out.drewN 1).kh E
  have HS4 := hide ((show Sr w3.drew r A.g A.sb from HS3.out).kh kh4)
  have HM4 := hide ((show MB w3.drew w.heap.size m (.slice co sn cc) from HM3.out).kh kh4)
  have HR4 := hide ((show RB w3.drew _ _ _ _ from HR3.out).kh kh4)
  have HE4 := hide ((show EB w3.drew _ _ from HE3.out).kh kh4)
  have HB4 : Hid (Bts w4 co sn cc l) := (by obtain ⟨v, dv, nv, _, F, _⟩ := E; exact Bts.foot (show Bts w3.drew co sn cc l from HB3.out) F (fun ad e _ h => by have := HN.out ad e; have := HUP.out _ h; omega))
  have HEN := hide (E.from (below_one HBW3.out (below_d w3 1)))
  clear kh4 E
  have hS : Hid ((w4.cell? ⟨r, 1, none⟩ = some (.iface 32 (.pointer (some ⟨A.sb, 0, none⟩)))) ∧ (w4.cell? ⟨w.heap.size, 0, none⟩ = some (.int .u64 m.ta) ∧ w4.cell? ⟨w.heap.size, 1, none⟩ = some (.int .u64 m.rp) ∧ w4.cell? ⟨w.heap.size, 2, none⟩ = some (.int .u32 m.id) ∧ w4.cell? ⟨w.heap.size, 3, none⟩ = some (.int .u16 m.op) ∧ w4.cell? ⟨w.heap.size, 4, none⟩ = some (.int .u16 m.st) ∧ w4.cell? ⟨w.heap.size, 5, none⟩ = some (.int .u64 m.p) ∧ w4.cell? ⟨w.heap.size, 6, none⟩ = some (.int .u32 m.o) ∧ w4.cell? ⟨w.heap.size, 7, none⟩ = some (.int .u8 m.r) ∧ w4.cell? ⟨w.heap.size, 8, none⟩ = some (.int .u64 m.c) ∧ w4.cell? ⟨w.heap.size, 9, none⟩ = some (.int .u64 m.ar) ∧ w4.cell? ⟨w.heap.size, 10, none⟩ = some (.slice co sn cc))) := ⟨HS4.out.c1, HM4.out.all⟩
  refine hKK.out _ _ hS.out (fun _ => ?_)
  clear hKK
  refine wpAnyH_take (i := 9) (oi := { dst := some 13, op := Op.move (Operand.tmp 22), type := 91, pos := "skeleton.go:155", after := #[{ on := 8, ground := Ground.data }], guard := none }) (v := (.tuple #[.agg #[.int .u64 0, .int .u32 0, .int .u8 0, .int .u64 0, .int .u64 0, .slice none 0 0], .iface 61 (.int .i64 13)])) rfl (by kernel_rfl) (by kernel_rfl) (by kernel_rfl) (fun _ _ _ h => h) (Or.inl ⟨by kernel_rfl, fun w hC => by go_simp⟩) hS.out ?_
  simp only [Act.put, List.setIfInBounds_toArray, List.set_cons_zero, List.set_cons_succ]
  refine wpAnyH_take (i := 10) (oi := { dst := some 23, op := Op.extract (Operand.tmp 13) 0, type := 90, pos := "skeleton.go:155", after := #[{ on := 9, ground := Ground.data }], guard := none }) (v := (.agg #[.int .u64 0, .int .u32 0, .int .u8 0, .int .u64 0, .int .u64 0, .slice none 0 0])) rfl (by kernel_rfl) (by kernel_rfl) (by kernel_rfl) (fun _ _ _ h => h) (Or.inl ⟨by kernel_rfl, fun w hC => by go_simp⟩) hS.out ?_
  simp only [Act.put, List.setIfInBounds_toArray, List.set_cons_zero, List.set_cons_succ]
  refine wpAnyH_take (i := 11) (oi := { dst := some 24, op := Op.extract (Operand.tmp 13) 1, type := 43, pos := "skeleton.go:155", after := #[{ on := 9, ground := Ground.data }], guard := none }) (v := (.iface 61 (.int .i64 13))) rfl (by kernel_rfl) (by kernel_rfl) (by kernel_rfl) (fun _ _ _ h => h) (Or.inl ⟨by kernel_rfl, fun w hC => by go_simp⟩) hS.out ?_
  simp only [Act.put, List.setIfInBounds_toArray, List.set_cons_zero, List.set_cons_succ]
  obtain ⟨y0, y1, y2, y3, y4, y5⟩ := HR4.out.all
  have z0 := HR4.out.z 0
  have z1 := HR4.out.z 1
  have z2 := HR4.out.z 2
  have z3 := HR4.out.z 3
  have z4 := HR4.out.z 4
  have z5 := HR4.out.z 5
  have HR5 := hide (HR4.out.lay Cp.zero 0 (.slice none 0 0))
  have f5 := foot_lay6 w4 (w.heap.size + 1) Cp.zero 0 (.slice none 0 0)
  have HE5 := hide (HE4.out.foot f5 (by show ¬ w.heap.size + 1 + 1 = w.heap.size + 1; omega))
  have HM5 := hide (HM4.out.foot f5 (by show ¬ w.heap.size = w.heap.size + 1; omega))
  have HS5 := hide (HS4.out.foot f5 (fun e => two_types HS4.out HR4.out (by decide) e))
  have HB5 := hide (Bts.foot HB4.out f5 (fun ad e _ (h : ad.block = w.heap.size + 1) => HND.out ad e (by omega)))
  have HEN5 := hide (HEN.out.res HW0.out HR4.out (by omega) f5)
  clear f5
  obtain ⟨w5, hw5⟩ : ∃ w5, lay6 w4 (w.heap.size + 1) Cp.zero 0 (.slice none 0 0) = w5 := ⟨_, rfl⟩
  rw [hw5] at HR5 HE5 HM5 HS5 HB5 HEN5
  unfold lay6 at hw5
  simp only [Cp.zero, show (((0 : Nat)) : Int) = 0 from rfl] at hw5
  refine wpAnyH_ready (rs := [12]) (by kernel_rfl) (by simp) ?_
  refine AllReadyH.cons (o := { dst := none, op := Op.store 90 (Operand.tmp 6) (Operand.tmp 23), type := 0, pos := "skeleton.go:155", after := #[{ on := 10, ground := Ground.data }, { on := 8, ground := Ground.chain }, { on := 0, ground := Ground.phase }, { on := 1, ground := Ground.phase }, { on := 2, ground := Ground.phase }, { on := 3, ground := Ground.phase }, { on := 4, ground := Ground.phase }, { on := 5, ground := Ground.phase }, { on := 6, ground := Ground.phase }, { on := 7, ground := Ground.phase }, { on := 8, ground := Ground.phase }, { on := 9, ground := Ground.phase }, { on := 10, ground := Ground.phase }, { on := 11, ground := Ground.textOnly Departure.lateStoresUnsure }], guard := none }) rfl (fun KK hKK => ?_) AllReadyH.nil
  go_simp
  have hS : Hid ((w5.cell? ⟨r, 1, none⟩ = some (.iface 32 (.pointer (some ⟨A.sb, 0, none⟩)))) ∧ (w5.cell? ⟨w.heap.size, 0, none⟩ = some (.int .u64 m.ta) ∧ w5.cell? ⟨w.heap.size, 1, none⟩ = some (.int .u64 m.rp) ∧ w5.cell? ⟨w.heap.size, 2, none⟩ = some (.int .u32 m.id) ∧ w5.cell? ⟨w.heap.size, 3, none⟩ = some (.int .u16 m.op) ∧ w5.cell? ⟨w.heap.size, 4, none⟩ = some (.int .u16 m.st) ∧ w5.cell? ⟨w.heap.size, 5, none⟩ = some (.int .u64 m.p) ∧ w5.cell? ⟨w.heap.size, 6, none⟩ = some (.int .u32 m.o) ∧ w5.cell? ⟨w.heap.size, 7, none⟩ = some (.int .u8 m.r) ∧ w5.cell? ⟨w.heap.size, 8, none⟩ = some (.int .u64 m.c) ∧ w5.cell? ⟨w.heap.size, 9, none⟩ = some (.int .u64 m.ar) ∧ w5.cell? ⟨w.heap.size, 10, none⟩ = some (.slice co sn cc))) := ⟨HS5.out.c1, HM5.out.all⟩
  refine hKK.out _ _ hS.out (fun _ => ?_)
  clear hKK
  have e0 := HE5.out.c
  have ez := HE5.out.z
  refine wpAnyH_ready (rs := [13]) (by kernel_rfl) (by simp) ?_
  refine AllReadyH.cons (o := { dst := none, op := Op.store 43 (Operand.tmp 7) (Operand.tmp 24), type := 0, pos := "skeleton.go:155", after := #[{ on := 11, ground := Ground.data }, { on := 12, ground := Ground.chain }, { on := 0, ground := Ground.phase }, { on := 1, ground := Ground.phase }, { on := 2, ground := Ground.phase }, { on := 3, ground := Ground.phase }, { on := 4, ground := Ground.phase }, { on := 5, ground := Ground.phase }, { on := 6, ground := Ground.phase }, { on := 7, ground := Ground.phase }, { on := 8, ground := Ground.phase }, { on := 9, ground := Ground.phase }, { on := 10, ground := Ground.phase }, { on := 11, ground := Ground.phase }, { on := 12, ground := Ground.phase }], guard := none }) rfl (fun KK hKK => ?_) AllReadyH.nil
  go_simp
  have HR6 := hide (HR5.out.foot (foot_set w5 ⟨w.heap.size + 1 + 1, 0, none⟩ (.iface 61 (.int .i64 13))) (by show ¬ w.heap.size + 1 = w.heap.size + 1 + 1; omega))
  have HM6 := hide (HM5.out.foot (foot_set w5 ⟨w.heap.size + 1 + 1, 0, none⟩ (.iface 61 (.int .i64 13))) (by show ¬ w.heap.size = w.heap.size + 1 + 1; omega))
  have HS6 := hide (HS5.out.foot (foot_set w5 ⟨w.heap.size + 1 + 1, 0, none⟩ (.iface 61 (.int .i64 13))) (fun e => two_types HS5.out HE5.out (by decide) e))
  have HE6 := hide (HE5.out.set (.iface 61 (.int .i64 13)))
  have HB6 := hide (Bts.foot HB5.out (foot_set w5 ⟨w.heap.size + 1 + 1, 0, none⟩ (.iface 61 (.int .i64 13))) (fun ad e _ (h : ad.block = w.heap.size + 1 + 1) => HND.out ad e (by omega)))
  have HEN6 := hide (HEN5.out.err HW0.out HE5.out (by omega) (foot_set w5 ⟨w.heap.size + 1 + 1, 0, none⟩ (.iface 61 (.int .i64 13))))
  obtain ⟨w6, hw6⟩ : ∃ w6, w5.setCell ⟨w.heap.size + 1 + 1, 0, none⟩ (.iface 61 (.int .i64 13)) = w6 := ⟨_, rfl⟩
  rw [hw6] at HR6 HM6 HS6 HE6 HB6 HEN6
  try rw [hw6]
  clear e0 ez y0 y1 y2 y3 y4 y5 z0 z1 z2 z3 z4 z5 hw5
  have hS : Hid ((w6.cell? ⟨r, 1, none⟩ = some (.iface 32 (.pointer (some ⟨A.sb, 0, none⟩)))) ∧ (w6.cell? ⟨w.heap.size, 0, none⟩ = some (.int .u64 m.ta) ∧ w6.cell? ⟨w.heap.size, 1, none⟩ = some (.int .u64 m.rp) ∧ w6.cell? ⟨w.heap.size, 2, none⟩ = some (.int .u32 m.id) ∧ w6.cell? ⟨w.heap.size, 3, none⟩ = some (.int .u16 m.op) ∧ w6.cell? ⟨w.heap.size, 4, none⟩ = some (.int .u16 m.st) ∧ w6.cell? ⟨w.heap.size, 5, none⟩ = some (.int .u64 m.p) ∧ w6.cell? ⟨w.heap.size, 6, none⟩ = some (.int .u32 m.o) ∧ w6.cell? ⟨w.heap.size, 7, none⟩ = some (.int .u8 m.r) ∧ w6.cell? ⟨w.heap.size, 8, none⟩ = some (.int .u64 m.c) ∧ w6.cell? ⟨w.heap.size, 9, none⟩ = some (.int .u64 m.ar) ∧ w6.cell? ⟨w.heap.size, 10, none⟩ = some (.slice co sn cc))) := ⟨HS6.out.c1, HM6.out.all⟩
  refine hKK.out _ _ hS.out (fun _ => ?_)
  clear hKK
  refine wpAnyH_done (by kernel_rfl) ?_ _
  have e0 := HE6.out.c
  have ez := HE6.out.z
  obtain ⟨y0, y1, y2, y3, y4, y5⟩ := HR6.out.all
  have z0 := HR6.out.z 0
  have z1 := HR6.out.z 1
  have z2 := HR6.out.z 2
  have z3 := HR6.out.z 3
  have z4 := HR6.out.z 4
  have z5 := HR6.out.z 5
  go_wp2_with fail
  refine (number_errno 13 _ (HEN6.out.glob HG.out)).mono ?_; rintro e w7 ⟨rfl, b7⟩
  have HR7 := hide (HR6.out.grow b7)
  have HE7 := hide (HE6.out.grow b7)
  have HB7 := hide (HB6.out.carry b7)
  have HEN7 := hide (HEN6.out.to b7)
  clear b7 e0 ez y0 y1 y2 y3 y4 y5 z0 z1 z2 z3 z4 z5 hw6
  have e0 := HE7.out.c
  have ez := HE7.out.z
  obtain ⟨y0, y1, y2, y3, y4, y5⟩ := HR7.out.all
  have z0 := HR7.out.z 0
  have z1 := HR7.out.z 1
  have z2 := HR7.out.z 2
  have z3 := HR7.out.z 3
  have z4 := HR7.out.z 4
  have z5 := HR7.out.z 5
  have HR8 := hide (HR7.out.lay Cp.zero 0 (.slice none 0 0))
  have f8 := foot_lay6 w7 (w.heap.size + 1) Cp.zero 0 (.slice none 0 0)
  have HE8 := hide (HE7.out.foot f8 (by show ¬ w.heap.size + 1 + 1 = w.heap.size + 1; omega))
  have HB8 := hide (Bts.foot HB7.out f8 (fun ad e _ (h : ad.block = w.heap.size + 1) => HND.out ad e (by omega)))
  have HEN8 := hide (HEN7.out.res HW0.out HR7.out (by omega) f8)
  clear f8
  obtain ⟨w8, hw8⟩ : ∃ w8, lay6 w7 (w.heap.size + 1) Cp.zero 0 (.slice none 0 0) = w8 := ⟨_, rfl⟩
  rw [hw8] at HR8 HE8 HB8 HEN8
  unfold lay6 at hw8
  simp only [Cp.zero, show (((0 : Nat)) : Int) = 0 from rfl] at hw8 y0 y1 y2 y3 y4 y5
  have g0 := HE8.out.c
  have gz := HE8.out.z
  have f9 := foot_set w8 ⟨w.heap.size + 1 + 1, 0, none⟩ (.iface 61 (.int .i64 13))
  have HR9 := hide (HR8.out.foot f9 (by show ¬ w.heap.size + 1 = w.heap.size + 1 + 1; omega))
  have HE9 := hide (HE8.out.set (.iface 61 (.int .i64 13)))
  have HB9 := hide (Bts.foot HB8.out f9 (fun ad e _ (h : ad.block = w.heap.size + 1 + 1) => HND.out ad e (by omega)))
  have HEN9 := hide (HEN8.out.err HW0.out HE8.out (by omega) f9)
  clear f9
  obtain ⟨w9, hw9⟩ : ∃ w9, w8.setCell ⟨w.heap.size + 1 + 1, 0, none⟩ (.iface 61 (.int .i64 13)) = w9 := ⟨_, rfl⟩
  rw [hw9] at HR9 HE9 HB9 HEN9
  go_wp2
  refine leaves_cons (f := 72) (args := #[.pointer (some ⟨w.heap.size + 1, 0, none⟩), .pointer (some ⟨w.heap.size + 1 + 1, 0, none⟩)]) (by simp) (by simp [go_sem]) ?_
  refine (do_idle _ _ _).mono ?_
  rintro e u' w'' ⟨rfl, rfl, rfl⟩
  have q0 := HE9.out.c
  obtain ⟨v0, v1, v2, v3, v4, v5⟩ := HR9.out.all
  simp only [Cp.zero, show (((0 : Nat)) : Int) = 0 from rfl] at v0 v1 v2 v3 v4 v5
  simp [Leaves, settle, results, Tryd.results61, go_sem, q0, v0, v1, v2, v3, v4, v5]
  exact HEN9.out
end
end Go.Proofs.YtjpgfldppepmiaaDoor
namespace Go.Proofs.YtjpgfldppepmiaaDoor
section
open Go.RowKit
variable {w0 w w1 w2 w' : World} {A A' : Ad} {p : Nat} {ws : List Nat} {s s' s1 : Hs} {r g sb : Nat}
def Hs.tab (s : Hs) (t : Nat) (es : List Ent) (T : Nat → Ob) : Hs := ⟨t, es, T, s.D, s.G⟩
def desT (T : Nat → Ob) (K : Chk) : Nat → Ob := if K.e = 0 then updO T K.k Ob.zero else T
def touT (T : Nat → Ob) (K : Chk) : Nat → Ob := if K.e = 0 then updO T K.k (touO (T K.k)) else T
theorem tb_check (c : Cp) (need : Nat) (w : World) (x : Sv w0 w A p ws s) (hc : c.ok) (hn : need ≤ 255) (hl : s.es.length ≤ 5000000000000) (K : Chk) (hK : chkF ws s.t s.es p s.T c need = K) :
    Calls Tryd.prog 36 #[.pointer (some ⟨A.g, 0, none⟩), c.val, .int .u8 (need : Int)] w fun e w' => e = .returned (.tuple #[.int .i64 (K.k : Int), erN (K.e : Int)]) ∧ SvEnd w0 w A p ws w' (s.tab K.t K.es s.T) := by
  refine (check_any c need w x.od hc hn hl K hK).mono ?_
  rintro e w1 ⟨rfl, E⟩
  exact ⟨rfl, x.table E⟩
theorem tb_create (vl : Int) (w : World) (x : Sv w0 w A p ws s) (hl : s.es.length ≤ 5000000000000) (R : Cre) (hR : creF ws s.t s.es p s.T vl = R) :
    Calls Tryd.prog 12 #[.pointer (some ⟨A.g, 0, none⟩), .int .i64 vl] w fun e w' => e = .returned (.tuple #[R.c.val, erN (R.e : Int)]) ∧ SvEnd w0 w A p ws w' (s.tab R.t R.es R.T) := by
  refine (create_any vl w x.od hl R hR).mono ?_
  rintro e w1 ⟨rfl, E⟩
  exact ⟨rfl, x.table E⟩
theorem tb_restrict (c : Cp) (mask : Nat) (w : World) (x : Sv w0 w A p ws s) (hc : c.ok) (hm : mask ≤ 255) (hl : s.es.length < 5000000000000) (R : Cre) (hR : resF ws s.t s.es p s.T c mask = R) :
    Calls Tryd.prog 20 #[.pointer (some ⟨A.g, 0, none⟩), c.val, .int .u8 (mask : Int)] w fun e w' => e = .returned (.tuple #[R.c.val, erN (R.e : Int)]) ∧ SvEnd w0 w A p ws w' (s.tab R.t R.es R.T) := by
  refine (restrict_any c mask w x.od hc hm hl R hR).mono ?_
  rintro e w1 ⟨rfl, E⟩
  exact ⟨rfl, x.table E⟩
theorem tb_revoke (c : Cp) (w : World) (x : Sv w0 w A p ws s) (hc : c.ok) (hl : s.es.length < 5000000000000) (he : ∀ j, (s.T j).e ≤ 9223372036854775806) (R : Cre) (hR : revF ws s.t s.es p s.T c = R) :
    Calls Tryd.prog 35 #[.pointer (some ⟨A.g, 0, none⟩), c.val] w fun e w' => e = .returned (.tuple #[R.c.val, erN (R.e : Int)]) ∧ SvEnd w0 w A p ws w' (s.tab R.t R.es R.T) := by
  refine (revoke_any c w x.od hc hl he R hR).mono ?_
  rintro e w1 ⟨rfl, E⟩
  exact ⟨rfl, x.table E⟩
theorem tb_destroy (c : Cp) (w : World) (x : Sv w0 w A p ws s) (hc : c.ok) (hl : s.es.length ≤ 5000000000000) (K : Chk) (hK : chkF ws s.t s.es p s.T c 8 = K) :
    Calls Tryd.prog 37 #[.pointer (some ⟨A.g, 0, none⟩), c.val] w fun e w' => e = .returned (.tuple #[.int .i64 (K.k : Int), .int .i64 (if K.e = 0 then (s.T K.k).v else 0), erN (K.e : Int)]) ∧ SvEnd w0 w A p ws w' (s.tab K.t K.es (desT s.T K)) := by
  unfold desT
  by_cases h0 : K.e = 0
  · rw [if_pos h0, if_pos h0]
    refine (destroy_yes c w x.od hc hl K hK h0).mono ?_
    rintro e w1 ⟨rfl, E⟩
    exact ⟨by rw [h0]; rfl, x.table E⟩
  · rw [if_neg h0, if_neg h0]
    have hk : K.k = 0 := by rw [← hK] at h0 ⊢; exact chk_not h0
    refine (destroy_no c w x.od hc hl K hK h0).mono ?_
    rintro e w1 ⟨rfl, E⟩
    exact ⟨by rw [hk]; rfl, x.table E⟩
theorem tb_touch (c : Cp) (w : World) (x : Sv w0 w A p ws s) (hc : c.ok) (hl : s.es.length ≤ 5000000000000) (K : Chk) (hK : chkF ws s.t s.es p s.T c 0 = K) :
    Calls Tryd.prog 34 #[.pointer (some ⟨A.g, 0, none⟩), c.val] w fun e w' => e = .returned (erN (K.e : Int)) ∧ SvEnd w0 w A p ws w' (s.tab K.t K.es (touT s.T K)) := by
  unfold touT
  by_cases h0 : K.e = 0
  · rw [if_pos h0]
    refine (touch_yes c w x.od hc hl K hK h0).mono ?_
    rintro e w1 ⟨rfl, E⟩
    exact ⟨by rw [h0]; rfl, x.table E⟩
  · rw [if_neg h0]
    refine (touch_no c w x.od hc hl K hK h0).mono ?_
    rintro e w1 ⟨rfl, E⟩
    exact ⟨rfl, x.table E⟩
theorem tb_info (c : Cp) (w : World) (x : Sv w0 w A p ws s) (hc : c.ok) (hl : s.es.length ≤ 5000000000000) (K : Chk) (hK : chkF ws s.t s.es p s.T c 0 = K) :
    Calls Tryd.prog 32 #[.pointer (some ⟨A.g, 0, none⟩), c.val] w fun e w' => e = .returned (.tuple #[.int .i64 (if K.e = 0 then ((s.T K.k).e : Int) else 0), .int .i64 (if K.e = 0 then ((s.T K.k).l : Int) else 0), erN (K.e : Int)]) ∧ SvEnd w0 w A p ws w' (s.tab K.t K.es s.T) := by
  by_cases h0 : K.e = 0
  · rw [if_pos h0, if_pos h0]
    refine (info_yes c w x.od hc hl K hK h0).mono ?_
    rintro e w1 ⟨rfl, E⟩
    exact ⟨by rw [h0]; rfl, x.table E⟩
  · rw [if_neg h0, if_neg h0]
    refine (info_no c w x.od hc hl K hK h0).mono ?_
    rintro e w1 ⟨rfl, E⟩
    exact ⟨rfl, x.table E⟩
/- what comes of a request: an error's number, a capability, a number, whether the message's data, what is there behind it -/
structure Ro where
  e : Nat
  c : Cp
  ar : Nat
  dt : Bool
  s : Hs
def mayC (c : Cp) : Bool := decide (c.p ≤ 281474976710655 ∧ c.o ≤ 16777215 ∧ c.c ≤ 281474976710655)
def arI (x : Ob) : Nat := (x.e * 4294967296 + x.l) % 18446744073709551616
def badF (s : Hs) (e : Nat) : Ro := ⟨e, Cp.zero, 0, false, s⟩
def infF (s : Hs) (K : Chk) : Ro := ⟨K.e, Cp.zero, if K.e = 0 then arI (s.T K.k) else 0, false, s.tab K.t K.es s.T⟩
def dstF (s : Hs) (c : Cp) (K : Chk) : Ro :=
  if c.o = 0 then badF (s.tab K.t K.es s.T) (if K.e = 0 then 15 else K.e)
  else if K.e = 0 then badF ⟨K.t, K.es, desT s.T K, s.D, s.G ++ [(s.T K.k).v]⟩ 0 else badF (s.tab K.t K.es s.T) K.e
def ownF (s : Hs) (op : Nat) (c : Cp) (ar : Nat) (K : Chk) : Ro :=
  if K.e = 0 then
    if op = 103 then badF ⟨K.t, K.es, s.T, s.D ++ [doneF op (s.T K.k).v], s.G⟩ 13
    else ⟨0, c, (ar + 1) % 18446744073709551616, true, ⟨K.t, K.es, s.T, s.D ++ [doneF op (s.T K.k).v], s.G⟩⟩
  else badF (s.tab K.t K.es s.T) K.e
def outF (ws : List Nat) (p : Nat) (s : Hs) (op : Nat) (c : Cp) (ar : Nat) : Ro :=
  if mayC c = false then badF s 1
  else if op = 1 then infF s (chkF ws s.t s.es p s.T c 0)
  else if op = 2 then badF (s.tab (chkF ws s.t s.es p s.T c 0).t (chkF ws s.t s.es p s.T c 0).es (touT s.T (chkF ws s.t s.es p s.T c 0))) (chkF ws s.t s.es p s.T c 0).e
  else if op = 3 then ⟨(resF ws s.t s.es p s.T c (ar % 256)).e, (resF ws s.t s.es p s.T c (ar % 256)).c, 0, false, s.tab (resF ws s.t s.es p s.T c (ar % 256)).t (resF ws s.t s.es p s.T c (ar % 256)).es (resF ws s.t s.es p s.T c (ar % 256)).T⟩
  else if op = 4 then ⟨(revF ws s.t s.es p s.T c).e, (revF ws s.t s.es p s.T c).c, 0, false, s.tab (revF ws s.t s.es p s.T c).t (revF ws s.t s.es p s.T c).es (revF ws s.t s.es p s.T c).T⟩
  else if op = 5 then dstF s c (chkF ws s.t s.es p s.T c 8)
  else if op < 100 ∨ needB op = false then badF s 3
  else ownF s op c ar (chkF ws s.t s.es p s.T c (needN op))
/- the reply: of an error nothing else -/
def rplF (m : Msg) (R : Ro) : Msg := if R.e = 0 then ⟨m.rp, m.ta, m.id, m.op, 0, R.c.p, R.c.o, R.c.r, R.c.c, R.ar⟩ else ⟨m.rp, m.ta, m.id, m.op, R.e, 0, 0, 0, 0, 0⟩
def datF (R : Ro) (l : List UInt8) : List UInt8 := if R.e = 0 ∧ R.dt = true then l else []
theorem chk_err (ws : List Nat) (t : Nat) (es : List Ent) (p : Nat) (T : Nat → Ob) (c : Cp) (need : Nat) : (chkF ws t es p T c need).e ≤ 7 := by
  unfold chkF
  repeat' split
  all_goals (simp only; omega)
end
end Go.Proofs.YtjpgfldppepmiaaDoor
namespace Go.Proofs.YtjpgfldppepmiaaDoor
section
open Go.RowKit
variable {w0 w w1 w2 w' : World} {A A' : Ad} {p : Nat} {ws : List Nat} {s s' s1 : Hs} {r g sb : Nat}
set_option maxHeartbeats 400000 in
theorem may_any (p o r c : Nat) (w : World) (hp : p ≤ 18446744073709551615) (ho : o ≤ 4294967295) (_hr : r ≤ 255) (hc : c ≤ 18446744073709551615) :
    Calls Tryd.prog 31 #[.agg #[.int .u64 p, .int .u32 o, .int .u8 r, .int .u64 c]] w fun e w' => e = .returned (.bool (decide (p ≤ 281474976710655 ∧ o ≤ 16777215 ∧ c ≤ 281474976710655))) ∧
      w' = w.alloc (.cells #[.int .u64 p, .int .u32 o, .int .u8 r, .int .u64 c] 41) := by
  by_cases h1 : p ≤ 281474976710655
  · by_cases h2 : c ≤ 281474976710655
    · by_cases h3 : o ≤ 16777215
      · rw [decide_eq_true (show p ≤ 281474976710655 ∧ o ≤ 16777215 ∧ c ≤ 281474976710655 from ⟨h1, h3, h2⟩)]
        go_enter Tryd.func31, Tryd.ntmps31
        go_wp2
        go_ret
        refine ⟨?_, rfl⟩
        rw [decide_eq_true (show (o : Int) < 16777216 from by omega)]; rfl
      · rw [decide_eq_false (show ¬ (p ≤ 281474976710655 ∧ o ≤ 16777215 ∧ c ≤ 281474976710655) from by omega)]
        go_enter Tryd.func31, Tryd.ntmps31
        go_wp2
        go_ret
        refine ⟨?_, rfl⟩
        rw [decide_eq_false (show ¬ (o : Int) < 16777216 from by omega)]; rfl
    · rw [decide_eq_false (show ¬ (p ≤ 281474976710655 ∧ o ≤ 16777215 ∧ c ≤ 281474976710655) from by omega)]
      go_enter Tryd.func31, Tryd.ntmps31
      go_wp2
      go_ret
      exact ⟨rfl, rfl⟩
  · rw [decide_eq_false (show ¬ (p ≤ 281474976710655 ∧ o ≤ 16777215 ∧ c ≤ 281474976710655) from by omega)]
    go_enter Tryd.func31, Tryd.ntmps31
    go_wp2
    go_ret
    exact ⟨rfl, rfl⟩
theorem Sv.cap (x : Sv w0 w A p ws s) {b : Nat} {q : Cp} (h : CBox w b q.p q.o q.r q.c) (hb : w0.heap.size ≤ b) (f : Foot (fun j => j = b) w w1) : Sv w0 w1 A p ws s :=
  x.off f (fun j e => ⟨by omega, .inr ⟨_, _, e ▸ h, cap_odd3⟩⟩)
theorem arI_eq (e l : Nat) : IntKind.u64.wrap (IntKind.u64.wrap ((e : Int) * 4294967296) + (l : Int)) = (((e * 4294967296 + l) % 18446744073709551616 : Nat) : Int) := by
  rw [IntKind.wrap_u64, IntKind.wrap_u64]; omega
set_option maxHeartbeats 1600000 in
theorem srv_info (c : Cp) (w : World) (h : Sr w r A.g A.sb) (x : Sv w0 w A p ws s) (hc : c.ok) (hl : s.es.length ≤ 5000000000000) (K : Chk) (hK : chkF ws s.t s.es p s.T c 0 = K) (he : ∀ j, (s.T j).e ≤ 9223372036854775806) :
    Calls Tryd.prog 49 #[.pointer (some ⟨r, 0, none⟩), c.val] w fun e w' => e = .returned (.tuple #[.agg #[.int .u64 0, .int .u32 0, .int .u8 0, .int .u64 0, .int .u64 ((infF s K).ar : Int), .slice none 0 0], erN ((infF s K).e : Int)]) ∧ SvEnd w0 w A p ws w' (infF s K).s := by
  obtain ⟨cp, co, cr, cc⟩ := c
  simp only [Cp.val]
  obtain ⟨W, hW⟩ : ∃ W, (w.alloc (.cells #[.int .u64 (cp : Int), .int .u32 (co : Int), .int .u8 (cr : Int), .int .u64 (cc : Int)] 41)).alloc (.cells resZ 90) = W := ⟨_, rfl⟩
  have bW : Below w.heap.size w W := hW ▸ below_one (below_alloc w _) (below_alloc _ _)
  have rW : RB W (w.heap.size + 1) Cp.zero 0 (.slice none 0 0) := by
    show W.heap[w.heap.size + 1]? = some (.cells resZ 90 (0, 0))
    have := heap_alloc_new (w.alloc (.cells #[.int .u64 (cp : Int), .int .u32 (co : Int), .int .u8 (cr : Int), .int .u64 (cc : Int)] 41)) (.cells resZ 90)
    rw [hW] at this
    simpa using this
  have cW : CBox W w.heap.size cp co cr cc := hW ▸ (CBox.new w cp co cr cc).grow (below_alloc _ _)
  have HS := hide (h.grow bW)
  have HX := hide (x.grow bW)
  have HC := hide cW
  have HR := hide rW
  have HW0 : Hid (w0.heap.size ≤ w.heap.size) := x.bel.size
  have HBW := hide bW
  have HCO := hide hc
  have HL := hide hl
  have HK := hide hK
  have HE := hide he
  unfold resZ at hW
  clear h x hc hl hK he bW rW cW
  obtain ⟨ev, hev⟩ : ∃ ev : Int, (if K.e = 0 then ((s.T K.k).e : Int) else 0) = ev := ⟨_, rfl⟩
  obtain ⟨lv, hlv⟩ : ∃ lv : Int, (if K.e = 0 then ((s.T K.k).l : Int) else 0) = lv := ⟨_, rfl⟩
  obtain ⟨er, her⟩ : ∃ er, erN (K.e : Int) = er := ⟨_, rfl⟩
  have HEV := hide hev
  have HLV := hide hlv
  have HER := hide her
  clear hev hlv her
  go_enter Tryd.func49, Tryd.ntmps49
  go_wp2_with fail
  go_region_held (fun U => U.cell? ⟨r, 0, none⟩ = some (.pointer (some ⟨A.g, 0, none⟩)) ∧ U.cell? ⟨w.heap.size, 0, none⟩ = some (.int .u64 (cp : Int)) ∧ U.cell? ⟨w.heap.size, 1, none⟩ = some (.int .u32 (co : Int)) ∧ U.cell? ⟨w.heap.size, 2, none⟩ = some (.int .u8 (cr : Int)) ∧ U.cell? ⟨w.heap.size, 3, none⟩ = some (.int .u64 (cc : Int)))
    (first | exact ⟨HS.out.c0, HC.out.c0, HC.out.c1, HC.out.c2, HC.out.c3⟩ | exact ⟨HS1.out.c0, HC1.out.c0, HC1.out.c1, HC1.out.c2, HC1.out.c3⟩)
    (first
      | (go_at_call 32; refine (tb_info ⟨cp, co, cr, cc⟩ _ (HX.out.drewN 1) HCO.out HL.out K HK.out).mono ?_; rw [HEV.out, HLV.out, HER.out]; rintro e w1 ⟨rfl, E⟩; have k1 := (HX.out.drewN 1).kh E; have HS1 := hide ((show Sr W.drew r A.g A.sb from HS.out).kh k1); have HC1 := hide (CBox.kh (show CBox W.drew _ _ _ _ _ from HC.out) k1); have HR1 := hide (RB.kh (show RB W.drew _ _ _ _ from HR.out) k1); have HEN := hide (E.from (below_one HBW.out (below_d W 1))); clear k1 E))
  have z0 := HR1.out.z 0
  have z1 := HR1.out.z 1
  have z2 := HR1.out.z 2
  have z3 := HR1.out.z 3
  have z4 := HR1.out.z 4
  have z5 := HR1.out.z 5
  obtain ⟨y0, y1, y2, y3, y4, y5⟩ := HR1.out.all
  simp only [Cp.zero, show (((0 : Nat)) : Int) = 0 from rfl] at y0 y1 y2 y3
  by_cases h0 : K.e = 0
  · obtain rfl : er = .nilIface := by rw [← HER.out, h0]; rfl
    have e1 := HEV.out
    have e2 := HLV.out
    rw [if_pos h0] at e1 e2
    have eb : (s.T K.k).e ≤ 9223372036854775806 := HE.out K.k
    have lb : (s.T K.k).l ≤ 24 := (HX.out.od.tb.ok K.k).2
    obtain ⟨en, hen⟩ : ∃ en, (s.T K.k).e = en := ⟨_, rfl⟩
    obtain ⟨ln, hln⟩ : ∃ ln, (s.T K.k).l = ln := ⟨_, rfl⟩
    rw [hen] at e1 eb
    rw [hln] at e2 lb
    subst e1 e2
    have eb1 : (en : Int) ≤ 9223372036854775806 := by omega
    have eb0 : (0 : Int) ≤ (en : Int) := by omega
    have lb1 : (ln : Int) ≤ 24 := by omega
    have lb0 : (0 : Int) ≤ (ln : Int) := by omega
    have hw1 : IntKind.u64.wrap (en : Int) = (en : Int) := by rw [IntKind.wrap_u64]; omega
    have hw2 : IntKind.u64.wrap (ln : Int) = (ln : Int) := by rw [IntKind.wrap_u64]; omega
    obtain ⟨a, ha⟩ : ∃ a, (en * 4294967296 + ln) % 18446744073709551616 = a := ⟨_, rfl⟩
    have hw3 : IntKind.u64.wrap (IntKind.u64.wrap ((en : Int) * 4294967296) + (ln : Int)) = (a : Int) := by rw [arI_eq, ha]
    have HAA : Hid ((infF s K).ar = a) := by show (infF s K).ar = a; unfold infF arI; rw [if_pos h0]; simp only; rw [hen, hln, ha]
    have HAE : Hid ((infF s K).e = 0) := h0
    have HRZ := hide (HR1.out.lay Cp.zero (a : Int) (.slice none 0 0))
    have HEZ := hide (HEN.out.res HW0.out HR1.out (by omega) (foot_lay6 w1 (w.heap.size + 1) Cp.zero (a : Int) (.slice none 0 0)))
    obtain ⟨wz, hwz⟩ : ∃ wz, lay6 w1 (w.heap.size + 1) Cp.zero (a : Int) (.slice none 0 0) = wz := ⟨_, rfl⟩
    rw [hwz] at HRZ HEZ
    unfold lay6 at hwz
    simp only [Cp.zero, show (((0 : Nat)) : Int) = 0 from rfl] at hwz
    obtain ⟨v0, v1, v2, v3, v4, v5⟩ := HRZ.out.all
    simp only [Cp.zero, show (((0 : Nat)) : Int) = 0 from rfl] at v0 v1 v2 v3
    go_wp2
    refine bodyPost_ret (by simp [results, Tryd.results49, go_sem, v0, v1, v2, v3, v4, v5]; rfl) rfl ?_
    exact ⟨by rw [HAA.out, HAE.out]; rfl, HEZ.out⟩
  · have HAA : Hid ((infF s K).ar = 0) := by show (infF s K).ar = 0; unfold infF; rw [if_neg h0]
    have HAE : Hid (erN ((infF s K).e : Int) = er) := HER.out
    obtain ⟨tE, hE⟩ : ∃ v, er = .iface 61 v := ⟨_, by rw [← HER.out]; exact erN_not (by omega)⟩
    subst hE
    have HRZ := hide (HR1.out.lay Cp.zero 0 (.slice none 0 0))
    have HEZ := hide (HEN.out.res HW0.out HR1.out (by omega) (foot_lay6 w1 (w.heap.size + 1) Cp.zero 0 (.slice none 0 0)))
    obtain ⟨wz, hwz⟩ : ∃ wz, lay6 w1 (w.heap.size + 1) Cp.zero 0 (.slice none 0 0) = wz := ⟨_, rfl⟩
    rw [hwz] at HRZ HEZ
    unfold lay6 at hwz
    simp only [Cp.zero, show (((0 : Nat)) : Int) = 0 from rfl] at hwz
    obtain ⟨v0, v1, v2, v3, v4, v5⟩ := HRZ.out.all
    simp only [Cp.zero, show (((0 : Nat)) : Int) = 0 from rfl] at v0 v1 v2 v3 v4
    go_wp2
    refine bodyPost_ret (by simp [results, Tryd.results49, go_sem, v0, v1, v2, v3, v4, v5]; rfl) rfl ?_
    exact ⟨by rw [HAA.out, HAE.out]; rfl, HEZ.out⟩
end
end Go.Proofs.YtjpgfldppepmiaaDoor
namespace Go.Proofs.YtjpgfldppepmiaaDoor
section
open Go.RowKit
variable {w0 w w1 w2 w' : World} {A A' : Ad} {p : Nat} {ws : List Nat} {s s' s1 : Hs} {r g sb : Nat}
theorem SvEnd.run (E : SvEnd w0 w A p ws w1 s1) : ∃ v dv nv, Sv w0 w1 (A.upd v dv nv) p ws s1 ∧ (∀ w2 s2, SvEnd w0 w1 (A.upd v dv nv) p ws w2 s2 → SvEnd w0 w A p ws w2 s2) := by
  obtain ⟨v, dv, nv, S, F, h1, h2, h3⟩ := E
  exact ⟨v, dv, nv, S, fun w2 s2 E2 => SvEnd.on F h1 h2 h3 E2⟩
set_option maxRecDepth 20000 in
set_option maxHeartbeats 1600000 in
theorem dst_root (c : Cp) (w : World) (h : Sr w r A.g A.sb) (x : Sv w0 w A p ws s) (hc : c.ok) (hl : s.es.length ≤ 5000000000000) (hG : s.G.length ≤ 5000000000000) (K : Chk) (hK : chkF ws s.t s.es p s.T c 8 = K) (ho : c.o = 0) :
    Calls Tryd.prog 50 #[.pointer (some ⟨r, 0, none⟩), c.val] w fun e w' => e = .returned (erN ((dstF s c K).e : Int)) ∧ SvEnd w0 w A p ws w' (dstF s c K).s := by
  obtain ⟨cp, co, cr, cc⟩ := c
  simp only at ho
  have hoi : ((co : Int) == 0) = true := by rw [ho]; rfl
  have HO := hide ho
  simp only [Cp.val]
  obtain ⟨W, hW⟩ : ∃ W, w.alloc (.cells #[.int .u64 (cp : Int), .int .u32 (co : Int), .int .u8 (cr : Int), .int .u64 (cc : Int)] 41) = W := ⟨_, rfl⟩
  have bW : Below w.heap.size w W := hW ▸ below_alloc w _
  have cW : CBox W w.heap.size cp co cr cc := hW ▸ CBox.new w cp co cr cc
  have HS := hide (h.grow bW)
  have HX := hide (x.grow bW)
  have HC := hide cW
  have HBW := hide bW
  have HCO := hide hc
  have HL := hide hl
  have HGL := hide hG
  have HK := hide hK
  have c1 : W.cell? ⟨w.heap.size, 1, none⟩ = some (.int .u32 (co : Int)) := cW.c1
  clear h x hc hl hK bW cW ho hG
  obtain ⟨er, her⟩ : ∃ er, erN (K.e : Int) = er := ⟨_, rfl⟩
  have HER := hide her
  clear her
  go_enter Tryd.func50, Tryd.ntmps50
  go_wp2_with fail
  go_region_held (fun U => U.cell? ⟨r, 0, none⟩ = some (.pointer (some ⟨A.g, 0, none⟩)) ∧ U.cell? ⟨w.heap.size, 0, none⟩ = some (.int .u64 (cp : Int)) ∧ U.cell? ⟨w.heap.size, 1, none⟩ = some (.int .u32 (co : Int)) ∧ U.cell? ⟨w.heap.size, 2, none⟩ = some (.int .u8 (cr : Int)) ∧ U.cell? ⟨w.heap.size, 3, none⟩ = some (.int .u64 (cc : Int)))
    (first | exact ⟨HS.out.c0, HC.out.c0, HC.out.c1, HC.out.c2, HC.out.c3⟩ | exact ⟨HS1.out.c0, HC1.out.c0, HC1.out.c1, HC1.out.c2, HC1.out.c3⟩)
    (first
      | (go_at_call 36; refine (tb_check ⟨cp, co, cr, cc⟩ 8 _ (HX.out.drewN 1) HCO.out (by omega) HL.out K HK.out).mono ?_; rw [HER.out]; rintro e w1 ⟨rfl, E⟩; have k1 := (HX.out.drewN 1).kh E; have HS1 := hide ((show Sr W.drew r A.g A.sb from HS.out).kh k1); have HC1 := hide (CBox.kh (show CBox W.drew _ _ _ _ _ from HC.out) k1); have HE1 := hide E; clear k1 E))
  by_cases h0 : K.e = 0
  · obtain rfl : er = .nilIface := by rw [← HER.out, h0]; rfl
    have HD : Hid (dstF s ⟨cp, co, cr, cc⟩ K = badF (s.tab K.t K.es s.T) 15) := by show dstF s ⟨cp, co, cr, cc⟩ K = _; unfold dstF; rw [if_pos HO.out, if_pos h0]
    go_wp2
    go_ret
    rw [HD.out]
    exact ⟨rfl, HE1.out.from (below_one HBW.out (below_d W 1))⟩
  · have HD : Hid (dstF s ⟨cp, co, cr, cc⟩ K = badF (s.tab K.t K.es s.T) K.e) := by show dstF s ⟨cp, co, cr, cc⟩ K = _; unfold dstF; rw [if_pos HO.out, if_neg h0]
    obtain ⟨tE, hE⟩ : ∃ v, er = .iface 61 v := ⟨_, by rw [← HER.out]; exact erN_not (by omega)⟩
    subst hE
    go_wp2
    go_ret
    rw [HD.out]
    exact ⟨by rw [← HER.out]; rfl, HE1.out.from (below_one HBW.out (below_d W 1))⟩
set_option maxRecDepth 20000 in
set_option maxHeartbeats 1600000 in
theorem dst_other (c : Cp) (w : World) (h : Sr w r A.g A.sb) (x : Sv w0 w A p ws s) (hc : c.ok) (hl : s.es.length ≤ 5000000000000) (hG : s.G.length ≤ 5000000000000) (K : Chk) (hK : chkF ws s.t s.es p s.T c 8 = K) (ho : c.o ≠ 0) :
    Calls Tryd.prog 50 #[.pointer (some ⟨r, 0, none⟩), c.val] w fun e w' => e = .returned (erN ((dstF s c K).e : Int)) ∧ SvEnd w0 w A p ws w' (dstF s c K).s := by
  obtain ⟨cp, co, cr, cc⟩ := c
  simp only at ho
  have hoi : ¬ (co : Int) = 0 := by omega
  have HO := hide ho
  simp only [Cp.val]
  obtain ⟨W, hW⟩ : ∃ W, w.alloc (.cells #[.int .u64 (cp : Int), .int .u32 (co : Int), .int .u8 (cr : Int), .int .u64 (cc : Int)] 41) = W := ⟨_, rfl⟩
  have bW : Below w.heap.size w W := hW ▸ below_alloc w _
  have cW : CBox W w.heap.size cp co cr cc := hW ▸ CBox.new w cp co cr cc
  have HS := hide (h.grow bW)
  have HX := hide (x.grow bW)
  have HC := hide cW
  have HBW := hide bW
  have HCO := hide hc
  have HL := hide hl
  have HGL := hide hG
  have HK := hide hK
  have c1 : W.cell? ⟨w.heap.size, 1, none⟩ = some (.int .u32 (co : Int)) := cW.c1
  clear h x hc hl hK bW cW ho hG
  obtain ⟨er, her⟩ : ∃ er, erN (K.e : Int) = er := ⟨_, rfl⟩
  have HER := hide her
  obtain ⟨vl, hvl⟩ : ∃ vl : Int, (if K.e = 0 then (s.T K.k).v else 0) = vl := ⟨_, rfl⟩
  have HVL := hide hvl
  clear her hvl
  go_enter Tryd.func50, Tryd.ntmps50
  go_wp2_with fail
  go_region_held (fun U => U.cell? ⟨r, 0, none⟩ = some (.pointer (some ⟨A.g, 0, none⟩)) ∧ U.cell? ⟨w.heap.size, 0, none⟩ = some (.int .u64 (cp : Int)) ∧ U.cell? ⟨w.heap.size, 1, none⟩ = some (.int .u32 (co : Int)) ∧ U.cell? ⟨w.heap.size, 2, none⟩ = some (.int .u8 (cr : Int)) ∧ U.cell? ⟨w.heap.size, 3, none⟩ = some (.int .u64 (cc : Int)))
    (first | exact ⟨HS.out.c0, HC.out.c0, HC.out.c1, HC.out.c2, HC.out.c3⟩ | exact ⟨HS1.out.c0, HC1.out.c0, HC1.out.c1, HC1.out.c2, HC1.out.c3⟩)
    (first
      | (go_at_call 37; refine (tb_destroy ⟨cp, co, cr, cc⟩ _ (HX.out.drewN 1) HCO.out HL.out K HK.out).mono ?_; rw [HER.out, HVL.out]; rintro e w1 ⟨rfl, E⟩; have k1 := (HX.out.drewN 1).kh E; have HS1 := hide ((show Sr W.drew r A.g A.sb from HS.out).kh k1); have HC1 := hide (CBox.kh (show CBox W.drew _ _ _ _ _ from HC.out) k1); have HE1 := hide E; clear k1 E))
  by_cases h0 : K.e = 0
  · obtain rfl : er = .nilIface := by rw [← HER.out, h0]; rfl
    have hv : (s.T K.k).v = vl := by have := HVL.out; rw [if_pos h0] at this; exact this
    have HD : Hid (dstF s ⟨cp, co, cr, cc⟩ K = badF ⟨K.t, K.es, desT s.T K, s.D, s.G ++ [vl]⟩ 0) := by show dstF s ⟨cp, co, cr, cc⟩ K = _; unfold dstF; rw [if_neg HO.out, if_pos h0, hv]
    obtain ⟨v, dv, nv, S1, on1⟩ := SvEnd.run HE1.out
    have HS1' := hide S1
    have HON := hide on1
    clear S1 on1 hv
    go_wp2_with fail
    refine (srv_gone vl _ (A := A.upd v dv nv) HS1.out HS1'.out HGL.out).mono ?_; rintro e w2 ⟨rfl, E2⟩
    have HE2 := hide (HON.out _ _ E2)
    clear E2
    go_wp2
    go_ret
    rw [HD.out]
    exact ⟨rfl, HE2.out.from (below_one HBW.out (below_d W 1))⟩
  · have HD : Hid (dstF s ⟨cp, co, cr, cc⟩ K = badF (s.tab K.t K.es s.T) K.e) := by show dstF s ⟨cp, co, cr, cc⟩ K = _; unfold dstF; rw [if_neg HO.out, if_neg h0]
    have hT : desT s.T K = s.T := by unfold desT; rw [if_neg h0]
    have HT := hide hT
    clear hT
    obtain ⟨tE, hE⟩ : ∃ v, er = .iface 61 v := ⟨_, by rw [← HER.out]; exact erN_not (by omega)⟩
    subst hE
    go_wp2
    go_ret
    rw [HD.out]
    refine ⟨by rw [← HER.out]; rfl, ?_⟩
    have := HE1.out.from (below_one HBW.out (below_d W 1))
    rw [HT.out] at this
    exact this
end
end Go.Proofs.YtjpgfldppepmiaaDoor
namespace Go.Proofs.YtjpgfldppepmiaaDoor
section
open Go.RowKit
variable {w0 w w1 w2 w' : World} {A A' : Ad} {p : Nat} {ws : List Nat} {s s' s1 : Hs} {r g sb : Nat}
theorem tb_value (k : Nat) (vl : Int) (w : World) (x : Sv w0 w A p ws s) (hk : hasO s.T k = true) (hv : (s.T k).v = vl) :
    Calls Tryd.prog 40 #[.pointer (some ⟨A.g, 0, none⟩), .int .i64 (k : Int)] w fun e w' => e = .returned (.tuple #[.int .i64 vl, .bool true]) ∧ w' = w := by
  have hlt := (hasO_yes hk).1
  refine (value_any (k : Int) w x.od.tb (by omega)).mono ?_
  have hb : (decide (0 ≤ (k : Int)) && hasO s.T ((k : Int)).toNat) = true := by rw [Int.toNat_natCast, hk, decide_eq_true (by omega : (0 : Int) ≤ (k : Int))]; rfl
  rw [hb, Int.toNat_natCast, if_pos rfl, hv]
  exact fun _ _ h => h
theorem Bts.sv {so : Option Addr} {sn sc : Nat} {l : List UInt8} (h : Bts w so sn sc l) (hd : 0 < sn → ∀ ad, so = some ad → ad.block < w0.heap.size) (x : Sv w0 w A p ws s) (E : SvEnd w0 w A p ws w1 s1) : Bts w1 so sn sc l := by
  obtain ⟨v, dv, nv, S, F, _⟩ := E
  by_cases hp : 0 < sn
  · exact Bts.foot h F (fun ad e _ h => by have := (x.up h).1; have := hd hp ad e; omega)
  · obtain rfl : l = [] := List.length_eq_zero_iff.1 (by have := h.1; omega)
    exact ⟨h.1, h.2.1, h.2.2.1, h.2.2.2.1, fun _ _ j hj => absurd hj (by simp)⟩
/- what comes of a request, answered -/
def OutEnd (w0 w : World) (A : Ad) (p : Nat) (ws : List Nat) (R : Ro) (l : List UInt8) (e : Ending) (w' : World) : Prop := ∃ co n cc, e = .returned (.tuple #[.agg #[.int .u64 (R.c.p : Int), .int .u32 (R.c.o : Int), .int .u8 (R.c.r : Int), .int .u64 (R.c.c : Int), .int .u64 (R.ar : Int), .slice co n cc], erN (R.e : Int)]) ∧ Bts w' co n cc (if R.dt = true then l else []) ∧ New w co ∧ n ≤ 140737488355328 ∧ SvEnd w0 w A p ws w' R.s
theorem out_bad {e : Nat} {l : List UInt8} {ve : Value} (hv : erN (e : Int) = ve) (E : SvEnd w0 w A p ws w' s1) : OutEnd w0 w A p ws (badF s1 e) l (.returned (.tuple #[.agg #[.int .u64 0, .int .u32 0, .int .u8 0, .int .u64 0, .int .u64 0, .slice none 0 0], ve])) w' :=
  ⟨none, 0, 0, by rw [← hv]; rfl, bts_nil _, new_none _, by omega, E⟩
theorem put_box {b q1 q2 q3 q4 : Nat} (h : CBox w b q1 q2 q3 q4) (x1 x2 x3 x4 : Nat) : CBox ((((w.setCell ⟨b, 0, none⟩ (.int .u64 (x1 : Int))).setCell ⟨b, 1, none⟩ (.int .u32 (x2 : Int))).setCell ⟨b, 2, none⟩ (.int .u8 (x3 : Int))).setCell ⟨b, 3, none⟩ (.int .u64 (x4 : Int))) b x1 x2 x3 x4 := by
  have h1 := heap_setCell_same w b 0 _ _ (.int .u64 (x1 : Int)) h
  have h2 := heap_setCell_same _ b 1 _ _ (.int .u32 (x2 : Int)) h1
  have h3 := heap_setCell_same _ b 2 _ _ (.int .u8 (x3 : Int)) h2
  exact heap_setCell_same _ b 3 _ _ (.int .u64 (x4 : Int)) h3
theorem SvEnd.cap (x : SvEnd w0 w A p ws w1 s) (hw : w0.heap.size ≤ w.heap.size) {b q1 q2 q3 q4 : Nat} (h : CBox w1 b q1 q2 q3 q4) (hb : w.heap.size ≤ b) (f : Foot (fun j => j = b) w1 w2) : SvEnd w0 w A p ws w2 s :=
  x.off hw f (fun j e => ⟨by omega, .inr ⟨_, _, e ▸ h, cap_odd3⟩⟩)
theorem srv_destroy (c : Cp) (w : World) (h : Sr w r A.g A.sb) (x : Sv w0 w A p ws s) (hc : c.ok) (hl : s.es.length ≤ 5000000000000) (hG : s.G.length ≤ 5000000000000) (K : Chk) (hK : chkF ws s.t s.es p s.T c 8 = K) :
    Calls Tryd.prog 50 #[.pointer (some ⟨r, 0, none⟩), c.val] w fun e w' => e = .returned (erN ((dstF s c K).e : Int)) ∧ SvEnd w0 w A p ws w' (dstF s c K).s := by
  by_cases ho : c.o = 0
  · exact dst_root c w h x hc hl hG K hK ho
  · exact dst_other c w h x hc hl hG K hK ho
theorem wrap_succ (a : Nat) : IntKind.u64.wrap ((a : Int) + 1) = (((a + 1) % 18446744073709551616 : Nat) : Int) := by rw [IntKind.wrap_u64]; omega
theorem sz1 (w : World) (a : Obj) : (w.alloc a).heap.size = w.heap.size + 1 := by simp
theorem own_vars (w : World) (m : Msg) (D : Value) : ∃ X, (w.alloc (.cells #[.int .u64 m.ta, .int .u64 m.rp, .int .u32 m.id, .int .u16 m.op, .int .u16 m.st, .int .u64 m.p, .int .u32 m.o, .int .u8 m.r, .int .u64 m.c, .int .u64 m.ar, D] 49)).alloc (.cells resZ 90) = X ∧ MB X w.heap.size m D ∧ RB X (w.heap.size + 1) Cp.zero 0 (.slice none 0 0) ∧ Below w.heap.size w X := by
  have b1 := below_alloc w (.cells #[.int .u64 m.ta, .int .u64 m.rp, .int .u32 m.id, .int .u16 m.op, .int .u16 m.st, .int .u64 m.p, .int .u32 m.o, .int .u8 m.r, .int .u64 m.c, .int .u64 m.ar, D] 49)
  have b2 := below_alloc (w.alloc (.cells #[.int .u64 m.ta, .int .u64 m.rp, .int .u32 m.id, .int .u16 m.op, .int .u16 m.st, .int .u64 m.p, .int .u32 m.o, .int .u8 m.r, .int .u64 m.c, .int .u64 m.ar, D] 49)) (.cells resZ 90)
  refine ⟨_, rfl, (mb_new w m D).grow b2, ?_, below_one b1 b2⟩
  have h := heap_alloc_new (w.alloc (.cells #[.int .u64 m.ta, .int .u64 m.rp, .int .u32 m.id, .int .u16 m.op, .int .u16 m.st, .int .u64 m.p, .int .u32 m.o, .int .u8 m.r, .int .u64 m.c, .int .u64 m.ar, D] 49)) (.cells resZ 90)
  rw [sz1] at h
  exact h
set_option maxHeartbeats 1600000 in
theorem own_low (m : Msg) (so : Option Addr) (sn sc : Nat) (l : List UInt8) (w : World) (h : Sr w r A.g A.sb) (x : Sv w0 w A p ws s) (ho : m.op ≤ 65535) (h1 : m.op < 100) :
    Calls Tryd.prog 51 #[.pointer (some ⟨r, 0, none⟩), .agg #[.int .u64 m.ta, .int .u64 m.rp, .int .u32 m.id, .int .u16 m.op, .int .u16 m.st, .int .u64 m.p, .int .u32 m.o, .int .u8 m.r, .int .u64 m.c, .int .u64 m.ar, .slice so sn sc]] w fun e w' => OutEnd w0 w A p ws (badF s 3) l e w' := by
  obtain ⟨X, hX, bm, br, bX⟩ := own_vars w m (.slice so sn sc)
  unfold resZ at hX
  have HS := hide (h.grow bX)
  have HX := hide (x.grow bX)
  have HM := hide bm
  have HR := hide br
  have HBX := hide bX
  have HW0 : Hid (w0.heap.size ≤ w.heap.size) := x.bel.size
  have k3 : X.cell? ⟨w.heap.size, 3, none⟩ = some (.int .u16 (m.op : Int)) := bm.all.2.2.2.1
  have hop : (m.op : Int) < 100 := by omega
  clear bm br bX h x ho h1
  obtain ⟨y0, y1, y2, y3, y4, y5⟩ := HR.out.all
  have z0 := HR.out.z 0
  have z1 := HR.out.z 1
  have z2 := HR.out.z 2
  have z3 := HR.out.z 3
  have z4 := HR.out.z 4
  have z5 := HR.out.z 5
  simp only [Cp.zero, show (((0 : Nat)) : Int) = 0 from rfl] at y0 y1 y2 y3
  have HEN := hide (Sv.stay HX.out |>.from HBX.out)
  go_enter Tryd.func51, Tryd.ntmps51
  have HRZ := hide (HR.out.lay Cp.zero 0 (.slice none 0 0))
  have HEZ := hide (HEN.out.res HW0.out HR.out (by omega) (foot_lay6 X (w.heap.size + 1) Cp.zero 0 (.slice none 0 0)))
  obtain ⟨wz, hwz⟩ : ∃ wz, lay6 X (w.heap.size + 1) Cp.zero 0 (.slice none 0 0) = wz := ⟨_, rfl⟩
  rw [hwz] at HRZ HEZ
  unfold lay6 at hwz
  simp only [Cp.zero, show (((0 : Nat)) : Int) = 0 from rfl] at hwz
  obtain ⟨v0, v1, v2, v3, v4, v5⟩ := HRZ.out.all
  simp only [Cp.zero, show (((0 : Nat)) : Int) = 0 from rfl] at v0 v1 v2 v3 v4
  go_wp2
  refine bodyPost_ret (by simp [results, Tryd.results51, go_sem, v0, v1, v2, v3, v4, v5]; rfl) rfl ?_
  exact out_bad rfl HEZ.out
set_option maxHeartbeats 1600000 in
theorem own_none (m : Msg) (so : Option Addr) (sn sc : Nat) (l : List UInt8) (w : World) (h : Sr w r A.g A.sb) (x : Sv w0 w A p ws s) (ho : m.op ≤ 65535) (h1 : 100 ≤ m.op) (h2 : needB m.op = false) :
    Calls Tryd.prog 51 #[.pointer (some ⟨r, 0, none⟩), .agg #[.int .u64 m.ta, .int .u64 m.rp, .int .u32 m.id, .int .u16 m.op, .int .u16 m.st, .int .u64 m.p, .int .u32 m.o, .int .u8 m.r, .int .u64 m.c, .int .u64 m.ar, .slice so sn sc]] w fun e w' => OutEnd w0 w A p ws (badF s 3) l e w' := by
  obtain ⟨X, hX, bm, br, bX⟩ := own_vars w m (.slice so sn sc)
  unfold resZ at hX
  have HS := hide (h.grow bX)
  have HX := hide (x.grow bX)
  have HM := hide bm
  have HR := hide br
  have HBX := hide bX
  have HW0 : Hid (w0.heap.size ≤ w.heap.size) := x.bel.size
  have k3 : X.cell? ⟨w.heap.size, 3, none⟩ = some (.int .u16 (m.op : Int)) := bm.all.2.2.2.1
  have hop : ¬ (m.op : Int) < 100 := by omega
  have HO := hide ho
  have H2 := hide h2
  clear bm br bX h x ho h1 h2
  obtain ⟨y0, y1, y2, y3, y4, y5⟩ := HR.out.all
  have z0 := HR.out.z 0
  have z1 := HR.out.z 1
  have z2 := HR.out.z 2
  have z3 := HR.out.z 3
  have z4 := HR.out.z 4
  have z5 := HR.out.z 5
  simp only [Cp.zero, show (((0 : Nat)) : Int) = 0 from rfl] at y0 y1 y2 y3
  have HEN := hide (Sv.stay HX.out |>.from HBX.out)
  go_enter Tryd.func51, Tryd.ntmps51
  go_wp2_with fail
  refine (need_any HS.out m.op HO.out).mono ?_; rw [H2.out]; rintro e w1 ⟨rfl, rfl⟩
  have HRZ := hide (HR.out.lay Cp.zero 0 (.slice none 0 0))
  have HEZ := hide (HEN.out.res HW0.out HR.out (by omega) (foot_lay6 w1 (w.heap.size + 1) Cp.zero 0 (.slice none 0 0)))
  obtain ⟨wz, hwz⟩ : ∃ wz, lay6 w1 (w.heap.size + 1) Cp.zero 0 (.slice none 0 0) = wz := ⟨_, rfl⟩
  rw [hwz] at HRZ HEZ
  unfold lay6 at hwz
  simp only [Cp.zero, show (((0 : Nat)) : Int) = 0 from rfl] at hwz
  obtain ⟨v0, v1, v2, v3, v4, v5⟩ := HRZ.out.all
  simp only [Cp.zero, show (((0 : Nat)) : Int) = 0 from rfl] at v0 v1 v2 v3 v4
  go_wp2
  refine bodyPost_ret (by simp [results, Tryd.results51, go_sem, v0, v1, v2, v3, v4, v5]; rfl) rfl ?_
  exact out_bad rfl HEZ.out
set_option maxHeartbeats 3200000 in
theorem own_chk (m : Msg) (so : Option Addr) (sn sc : Nat) (l : List UInt8) (w : World) (h : Sr w r A.g A.sb) (x : Sv w0 w A p ws s) (ho : m.op ≤ 65535) (hb : Bts w so sn sc l) (hn : sn ≤ 140737488355328) (hd : 0 < sn → ∀ ad, so = some ad → ad.block < w0.heap.size) (h1 : 100 ≤ m.op) (h2 : needB m.op = true) (hc : (Cp.mk m.p m.o m.r m.c).ok) (hl : s.es.length ≤ 5000000000000) (hD : s.D.length ≤ 5000000000000) (hg : Glob w0) (K : Chk) (hK : chkF ws s.t s.es p s.T ⟨m.p, m.o, m.r, m.c⟩ (needN m.op) = K) (h0 : K.e ≠ 0) :
    Calls Tryd.prog 51 #[.pointer (some ⟨r, 0, none⟩), .agg #[.int .u64 m.ta, .int .u64 m.rp, .int .u32 m.id, .int .u16 m.op, .int .u16 m.st, .int .u64 m.p, .int .u32 m.o, .int .u8 m.r, .int .u64 m.c, .int .u64 m.ar, .slice so sn sc]] w fun e w' => OutEnd w0 w A p ws (badF (s.tab K.t K.es s.T) K.e) l e w' := by
  obtain ⟨X, hX, bm, br, bX⟩ := own_vars w m (.slice so sn sc)
  unfold resZ at hX
  have HS := hide (h.grow bX)
  have HX := hide (x.grow bX)
  have HB := hide (hb.carry bX)
  have HM := hide bm
  have HR := hide br
  have HBX := hide bX
  have HW0 : Hid (w0.heap.size ≤ w.heap.size) := x.bel.size
  have k3 : X.cell? ⟨w.heap.size, 3, none⟩ = some (.int .u16 (m.op : Int)) := bm.all.2.2.2.1
  have hop : ¬ (m.op : Int) < 100 := by omega
  have HO := hide ho
  have H2 := hide h2
  have HD := hide hd
  have HN := hide hn
  have HC := hide hc
  have HL := hide hl
  have HDL := hide hD
  have HG := hide hg
  have HK := hide hK
  have HNL := needN_le m.op
  clear bm br bX h x hb ho hn h1 h2 hd hc hl hD hg hK
  obtain ⟨er, her⟩ : ∃ er, erN (K.e : Int) = er := ⟨_, rfl⟩
  have HER := hide her
  clear her
  go_enter Tryd.func51, Tryd.ntmps51
  go_wp2_with fail
  refine (need_any HS.out m.op HO.out).mono ?_; rw [H2.out]; rintro e w1 ⟨rfl, hw1⟩; subst hw1
  obtain ⟨nd, hnd⟩ : ∃ nd, needN m.op = nd := ⟨_, rfl⟩
  have HND := hide hnd
  rw [hnd] at HNL ⊢
  clear hnd
  go_wp2_with fail
  go_region_held (fun U => U.cell? ⟨r, 0, none⟩ = some (.pointer (some ⟨A.g, 0, none⟩)) ∧ U.cell? ⟨w.heap.size, 5, none⟩ = some (.int .u64 (m.p : Int)) ∧ U.cell? ⟨w.heap.size, 6, none⟩ = some (.int .u32 (m.o : Int)) ∧ U.cell? ⟨w.heap.size, 7, none⟩ = some (.int .u8 (m.r : Int)) ∧ U.cell? ⟨w.heap.size, 8, none⟩ = some (.int .u64 (m.c : Int)))
    (first | exact ⟨HS.out.c0, HM.out.all.2.2.2.2.2.1, HM.out.all.2.2.2.2.2.2.1, HM.out.all.2.2.2.2.2.2.2.1, HM.out.all.2.2.2.2.2.2.2.2.1⟩ | exact ⟨HS1.out.c0, HM1.out.all.2.2.2.2.2.1, HM1.out.all.2.2.2.2.2.2.1, HM1.out.all.2.2.2.2.2.2.2.1, HM1.out.all.2.2.2.2.2.2.2.2.1⟩)
    (first
      | (go_at_call 36; refine (tb_check ⟨m.p, m.o, m.r, m.c⟩ nd _ (HX.out.drewN 1) HC.out HNL HL.out K (HND.out ▸ HK.out)).mono ?_; rw [HER.out]; rintro e w2 ⟨rfl, E⟩; have k1 := (HX.out.drewN 1).kh E; have HS1 := hide ((show Sr w1.drew r A.g A.sb from HS.out).kh k1); have HM1 := hide ((show MB w1.drew _ _ _ from HM.out).kh k1); have HR1 := hide ((show RB w1.drew _ _ _ _ from HR.out).kh k1); have HB1 := hide (Bts.sv (show Bts w1.drew so sn sc l from HB.out) HD.out (HX.out.drewN 1) E); have HE1 := hide E; clear k1 E))
  obtain ⟨tE, hE⟩ : ∃ v, er = .iface 61 v := ⟨_, by rw [← HER.out]; exact erN_not (by omega)⟩
  subst hE
  have HEN := hide (HE1.out.from (below_one HBX.out (below_d w1 1)))
  obtain ⟨y0, y1, y2, y3, y4, y5⟩ := HR1.out.all
  have z0 := HR1.out.z 0
  have z1 := HR1.out.z 1
  have z2 := HR1.out.z 2
  have z3 := HR1.out.z 3
  have z4 := HR1.out.z 4
  have z5 := HR1.out.z 5
  simp only [Cp.zero, show (((0 : Nat)) : Int) = 0 from rfl] at y0 y1 y2 y3
  have HRZ := hide (HR1.out.lay Cp.zero 0 (.slice none 0 0))
  have HEZ := hide (HEN.out.res HW0.out HR1.out (by omega) (foot_lay6 w2 (w.heap.size + 1) Cp.zero 0 (.slice none 0 0)))
  obtain ⟨wz, hwz⟩ : ∃ wz, lay6 w2 (w.heap.size + 1) Cp.zero 0 (.slice none 0 0) = wz := ⟨_, rfl⟩
  rw [hwz] at HRZ HEZ
  unfold lay6 at hwz
  simp only [Cp.zero, show (((0 : Nat)) : Int) = 0 from rfl] at hwz
  obtain ⟨v0, v1, v2, v3, v4, v5⟩ := HRZ.out.all
  simp only [Cp.zero, show (((0 : Nat)) : Int) = 0 from rfl] at v0 v1 v2 v3 v4
  go_wp2
  refine bodyPost_ret (by simp [results, Tryd.results51, go_sem, v0, v1, v2, v3, v4, v5]; rfl) rfl ?_
  exact out_bad HER.out HEZ.out
set_option maxRecDepth 20000 in
set_option maxHeartbeats 3200000 in
theorem own_yes (m : Msg) (so : Option Addr) (sn sc : Nat) (l : List UInt8) (w : World) (h : Sr w r A.g A.sb) (x : Sv w0 w A p ws s) (ho : m.op ≤ 65535) (hb : Bts w so sn sc l) (hn : sn ≤ 140737488355328) (hd : 0 < sn → ∀ ad, so = some ad → ad.block < w0.heap.size) (h1 : 100 ≤ m.op) (h2 : needB m.op = true) (hc : (Cp.mk m.p m.o m.r m.c).ok) (hl : s.es.length ≤ 5000000000000) (hD : s.D.length ≤ 5000000000000) (hg : Glob w0) (K : Chk) (hK : chkF ws s.t s.es p s.T ⟨m.p, m.o, m.r, m.c⟩ (needN m.op) = K) (h0 : K.e = 0) (h3 : m.op ≠ 103) :
    Calls Tryd.prog 51 #[.pointer (some ⟨r, 0, none⟩), .agg #[.int .u64 m.ta, .int .u64 m.rp, .int .u32 m.id, .int .u16 m.op, .int .u16 m.st, .int .u64 m.p, .int .u32 m.o, .int .u8 m.r, .int .u64 m.c, .int .u64 m.ar, .slice so sn sc]] w fun e w' => OutEnd w0 w A p ws ⟨0, ⟨m.p, m.o, m.r, m.c⟩, (m.ar + 1) % 18446744073709551616, true, ⟨K.t, K.es, s.T, s.D ++ [doneF m.op (s.T K.k).v], s.G⟩⟩ l e w' := by
  have HH : Hid (hasO s.T K.k = true) := by
    have e := chk_has (hK ▸ h0)
    show hasO s.T K.k = true
    rw [← hK, e.2.2]; exact e.1
  have H3 := hide h3
  have H0 := hide h0
  clear h3 h0
  obtain ⟨vl, hvl⟩ : ∃ vl, (s.T K.k).v = vl := ⟨_, rfl⟩
  have HVL := hide hvl
  rw [hvl]
  clear hvl
  obtain ⟨X, hX, bm, br, bX⟩ := own_vars w m (.slice so sn sc)
  unfold resZ at hX
  have HS := hide (h.grow bX)
  have HX := hide (x.grow bX)
  have HB := hide (hb.carry bX)
  have HM := hide bm
  have HR := hide br
  have HBX := hide bX
  have HW0 : Hid (w0.heap.size ≤ w.heap.size) := x.bel.size
  have k3 : X.cell? ⟨w.heap.size, 3, none⟩ = some (.int .u16 (m.op : Int)) := bm.all.2.2.2.1
  have hop : ¬ (m.op : Int) < 100 := by omega
  have HO := hide ho
  have H2 := hide h2
  have HD := hide hd
  have HN := hide hn
  have HC := hide hc
  have HL := hide hl
  have HDL := hide hD
  have HG := hide hg
  have HK := hide hK
  have HNL := needN_le m.op
  clear bm br bX h x hb ho hn h1 h2 hd hc hl hD hg hK
  obtain ⟨er, her⟩ : ∃ er, erN (K.e : Int) = er := ⟨_, rfl⟩
  have HER := hide her
  clear her
  go_enter Tryd.func51, Tryd.ntmps51
  go_wp2_with fail
  refine (need_any HS.out m.op HO.out).mono ?_; rw [H2.out]; rintro e w1 ⟨rfl, hw1⟩; subst hw1
  obtain ⟨nd, hnd⟩ : ∃ nd, needN m.op = nd := ⟨_, rfl⟩
  have HND := hide hnd
  rw [hnd] at HNL ⊢
  clear hnd
  go_wp2_with fail
  go_region_held (fun U => U.cell? ⟨r, 0, none⟩ = some (.pointer (some ⟨A.g, 0, none⟩)) ∧ U.cell? ⟨w.heap.size, 5, none⟩ = some (.int .u64 (m.p : Int)) ∧ U.cell? ⟨w.heap.size, 6, none⟩ = some (.int .u32 (m.o : Int)) ∧ U.cell? ⟨w.heap.size, 7, none⟩ = some (.int .u8 (m.r : Int)) ∧ U.cell? ⟨w.heap.size, 8, none⟩ = some (.int .u64 (m.c : Int)))
    (first | exact ⟨HS.out.c0, HM.out.all.2.2.2.2.2.1, HM.out.all.2.2.2.2.2.2.1, HM.out.all.2.2.2.2.2.2.2.1, HM.out.all.2.2.2.2.2.2.2.2.1⟩ | exact ⟨HS1.out.c0, HM1.out.all.2.2.2.2.2.1, HM1.out.all.2.2.2.2.2.2.1, HM1.out.all.2.2.2.2.2.2.2.1, HM1.out.all.2.2.2.2.2.2.2.2.1⟩)
    (first
      | (go_at_call 36; refine (tb_check ⟨m.p, m.o, m.r, m.c⟩ nd _ (HX.out.drewN 1) HC.out HNL HL.out K (HND.out ▸ HK.out)).mono ?_; rw [HER.out]; rintro e w2 ⟨rfl, E⟩; have k1 := (HX.out.drewN 1).kh E; have HS1 := hide ((show Sr w1.drew r A.g A.sb from HS.out).kh k1); have HM1 := hide ((show MB w1.drew _ _ _ from HM.out).kh k1); have HR1 := hide ((show RB w1.drew _ _ _ _ from HR.out).kh k1); have HB1 := hide (Bts.sv (show Bts w1.drew so sn sc l from HB.out) HD.out (HX.out.drewN 1) E); have HE1 := hide E; clear k1 E))
  obtain rfl : er = .nilIface := by rw [← HER.out, H0.out]; rfl
  obtain ⟨v, dv, nv, S1, on1⟩ := SvEnd.run HE1.out
  have HS1' := hide S1
  have HON := hide on1
  have HGT : Hid (w.heap.size + 1 < w2.heap.size) := lt_of_heap HR1.out
  clear S1 on1
  go_wp2_with fail
  refine (tb_value (A := A.upd v dv nv) K.k vl _ HS1'.out HH.out HVL.out).mono ?_; rintro e w3 ⟨rfl, hw3⟩; subst hw3
  obtain ⟨k0, k1, k2, k3, k4, k5, k6, k7, k8, k9, k10⟩ := HM1.out.all
  go_wp2_with fail
  refine (do_yes (A := A.upd v dv nv) vl m so sn sc l _ HS1.out HS1'.out HDL.out H3.out HO.out HB1.out HN.out).mono ?_; rw [wrap_succ]; rintro e w4 ⟨co, cc, rfl, B4, N4, E4⟩
  have HB4 := hide B4
  have HN4 := hide N4
  have kh4 := HS1'.out.kh E4
  have HR4 := hide (HR1.out.kh kh4)
  have HEN := hide ((HON.out _ _ E4).from (below_one HBX.out (below_d w1 1)))
  clear B4 N4 E4 kh4 k0 k1 k2 k3 k4 k5 k6 k7 k8 k9 k10
  obtain ⟨ar, har⟩ : ∃ ar, (m.ar + 1) % 18446744073709551616 = ar := ⟨_, rfl⟩
  have HAR := hide har
  rw [har]
  clear har
  obtain ⟨y0, y1, y2, y3, y4, y5⟩ := HR4.out.all
  have z0 := HR4.out.z 0
  have z1 := HR4.out.z 1
  have z2 := HR4.out.z 2
  have z3 := HR4.out.z 3
  have z4 := HR4.out.z 4
  have z5 := HR4.out.z 5
  simp only [Cp.zero, show (((0 : Nat)) : Int) = 0 from rfl] at y0 y1 y2 y3
  have HRZ := hide (HR4.out.lay ⟨m.p, m.o, m.r, m.c⟩ (ar : Int) (.slice co sn cc))
  have HEZ := hide (HEN.out.res HW0.out HR4.out (by omega) (foot_lay6 w4 (w.heap.size + 1) ⟨m.p, m.o, m.r, m.c⟩ (ar : Int) (.slice co sn cc)))
  have HBZ := hide (Bts.foot HB4.out (foot_lay6 w4 (w.heap.size + 1) ⟨m.p, m.o, m.r, m.c⟩ (ar : Int) (.slice co sn cc)) (fun ad e _ (h : ad.block = w.heap.size + 1) => by have := HN4.out ad e; have := HGT.out; omega))
  obtain ⟨wz, hwz⟩ : ∃ wz, lay6 w4 (w.heap.size + 1) ⟨m.p, m.o, m.r, m.c⟩ (ar : Int) (.slice co sn cc) = wz := ⟨_, rfl⟩
  rw [hwz] at HRZ HEZ HBZ
  unfold lay6 at hwz
  obtain ⟨v0, v1, v2, v3, v4, v5⟩ := HRZ.out.all
  go_wp2
  refine bodyPost_ret (by simp [results, Tryd.results51, go_sem, v0, v1, v2, v3, v4, v5]; rfl) rfl ?_
  refine ⟨co, sn, cc, ?_, HBZ.out, HN4.out.le (by have := HGT.out; omega), HN.out, HEZ.out⟩
  rw [HAR.out]; rfl
set_option maxRecDepth 20000 in
set_option maxHeartbeats 3200000 in
theorem own_no (m : Msg) (so : Option Addr) (sn sc : Nat) (l : List UInt8) (w : World) (h : Sr w r A.g A.sb) (x : Sv w0 w A p ws s) (ho : m.op ≤ 65535) (hb : Bts w so sn sc l) (hn : sn ≤ 140737488355328) (hd : 0 < sn → ∀ ad, so = some ad → ad.block < w0.heap.size) (h1 : 100 ≤ m.op) (h2 : needB m.op = true) (hc : (Cp.mk m.p m.o m.r m.c).ok) (hl : s.es.length ≤ 5000000000000) (hD : s.D.length ≤ 5000000000000) (hg : Glob w0) (K : Chk) (hK : chkF ws s.t s.es p s.T ⟨m.p, m.o, m.r, m.c⟩ (needN m.op) = K) (h0 : K.e = 0) (h3 : m.op = 103) :
    Calls Tryd.prog 51 #[.pointer (some ⟨r, 0, none⟩), .agg #[.int .u64 m.ta, .int .u64 m.rp, .int .u32 m.id, .int .u16 m.op, .int .u16 m.st, .int .u64 m.p, .int .u32 m.o, .int .u8 m.r, .int .u64 m.c, .int .u64 m.ar, .slice so sn sc]] w fun e w' => OutEnd w0 w A p ws (badF ⟨K.t, K.es, s.T, s.D ++ [doneF m.op (s.T K.k).v], s.G⟩ 13) l e w' := by
  have HH : Hid (hasO s.T K.k = true) := by
    have e := chk_has (hK ▸ h0)
    show hasO s.T K.k = true
    rw [← hK, e.2.2]; exact e.1
  have H3 := hide h3
  have H0 := hide h0
  clear h3 h0
  obtain ⟨vl, hvl⟩ : ∃ vl, (s.T K.k).v = vl := ⟨_, rfl⟩
  have HVL := hide hvl
  rw [hvl]
  clear hvl
  obtain ⟨X, hX, bm, br, bX⟩ := own_vars w m (.slice so sn sc)
  unfold resZ at hX
  have HS := hide (h.grow bX)
  have HX := hide (x.grow bX)
  have HB := hide (hb.carry bX)
  have HM := hide bm
  have HR := hide br
  have HBX := hide bX
  have HW0 : Hid (w0.heap.size ≤ w.heap.size) := x.bel.size
  have k3 : X.cell? ⟨w.heap.size, 3, none⟩ = some (.int .u16 (m.op : Int)) := bm.all.2.2.2.1
  have hop : ¬ (m.op : Int) < 100 := by omega
  have HO := hide ho
  have H2 := hide h2
  have HD := hide hd
  have HN := hide hn
  have HC := hide hc
  have HL := hide hl
  have HDL := hide hD
  have HG := hide hg
  have HK := hide hK
  have HNL := needN_le m.op
  clear bm br bX h x hb ho hn h1 h2 hd hc hl hD hg hK
  obtain ⟨er, her⟩ : ∃ er, erN (K.e : Int) = er := ⟨_, rfl⟩
  have HER := hide her
  clear her
  go_enter Tryd.func51, Tryd.ntmps51
  go_wp2_with fail
  refine (need_any HS.out m.op HO.out).mono ?_; rw [H2.out]; rintro e w1 ⟨rfl, hw1⟩; subst hw1
  obtain ⟨nd, hnd⟩ : ∃ nd, needN m.op = nd := ⟨_, rfl⟩
  have HND := hide hnd
  rw [hnd] at HNL ⊢
  clear hnd
  go_wp2_with fail
  go_region_held (fun U => U.cell? ⟨r, 0, none⟩ = some (.pointer (some ⟨A.g, 0, none⟩)) ∧ U.cell? ⟨w.heap.size, 5, none⟩ = some (.int .u64 (m.p : Int)) ∧ U.cell? ⟨w.heap.size, 6, none⟩ = some (.int .u32 (m.o : Int)) ∧ U.cell? ⟨w.heap.size, 7, none⟩ = some (.int .u8 (m.r : Int)) ∧ U.cell? ⟨w.heap.size, 8, none⟩ = some (.int .u64 (m.c : Int)))
    (first | exact ⟨HS.out.c0, HM.out.all.2.2.2.2.2.1, HM.out.all.2.2.2.2.2.2.1, HM.out.all.2.2.2.2.2.2.2.1, HM.out.all.2.2.2.2.2.2.2.2.1⟩ | exact ⟨HS1.out.c0, HM1.out.all.2.2.2.2.2.1, HM1.out.all.2.2.2.2.2.2.1, HM1.out.all.2.2.2.2.2.2.2.1, HM1.out.all.2.2.2.2.2.2.2.2.1⟩)
    (first
      | (go_at_call 36; refine (tb_check ⟨m.p, m.o, m.r, m.c⟩ nd _ (HX.out.drewN 1) HC.out HNL HL.out K (HND.out ▸ HK.out)).mono ?_; rw [HER.out]; rintro e w2 ⟨rfl, E⟩; have k1 := (HX.out.drewN 1).kh E; have HS1 := hide ((show Sr w1.drew r A.g A.sb from HS.out).kh k1); have HM1 := hide ((show MB w1.drew _ _ _ from HM.out).kh k1); have HR1 := hide ((show RB w1.drew _ _ _ _ from HR.out).kh k1); have HB1 := hide (Bts.sv (show Bts w1.drew so sn sc l from HB.out) HD.out (HX.out.drewN 1) E); have HE1 := hide E; clear k1 E))
  obtain rfl : er = .nilIface := by rw [← HER.out, H0.out]; rfl
  obtain ⟨v, dv, nv, S1, on1⟩ := SvEnd.run HE1.out
  have HS1' := hide S1
  have HON := hide on1
  have HGT : Hid (w.heap.size + 1 < w2.heap.size) := lt_of_heap HR1.out
  clear S1 on1
  go_wp2_with fail
  refine (tb_value (A := A.upd v dv nv) K.k vl _ HS1'.out HH.out HVL.out).mono ?_; rintro e w3 ⟨rfl, hw3⟩; subst hw3
  obtain ⟨k0, k1, k2, k3, k4, k5, k6, k7, k8, k9, k10⟩ := HM1.out.all
  go_wp2_with fail
  refine (do_no (A := A.upd v dv nv) vl m so sn sc l _ HS1.out HS1'.out HDL.out H3.out HO.out HB1.out HN.out HG.out).mono ?_; rintro e w4 ⟨rfl, E4⟩
  have kh4 := HS1'.out.kh E4
  have HR4 := hide (HR1.out.kh kh4)
  have HEN := hide ((HON.out _ _ E4).from (below_one HBX.out (below_d w1 1)))
  clear E4 kh4 k0 k1 k2 k3 k4 k5 k6 k7 k8 k9 k10
  obtain ⟨y0, y1, y2, y3, y4, y5⟩ := HR4.out.all
  have z0 := HR4.out.z 0
  have z1 := HR4.out.z 1
  have z2 := HR4.out.z 2
  have z3 := HR4.out.z 3
  have z4 := HR4.out.z 4
  have z5 := HR4.out.z 5
  simp only [Cp.zero, show (((0 : Nat)) : Int) = 0 from rfl] at y0 y1 y2 y3
  have HRZ := hide (HR4.out.lay Cp.zero 0 (.slice none 0 0))
  have HEZ := hide (HEN.out.res HW0.out HR4.out (by omega) (foot_lay6 w4 (w.heap.size + 1) Cp.zero 0 (.slice none 0 0)))
  obtain ⟨wz, hwz⟩ : ∃ wz, lay6 w4 (w.heap.size + 1) Cp.zero 0 (.slice none 0 0) = wz := ⟨_, rfl⟩
  rw [hwz] at HRZ HEZ
  unfold lay6 at hwz
  simp only [Cp.zero, show (((0 : Nat)) : Int) = 0 from rfl] at hwz
  obtain ⟨v0, v1, v2, v3, v4, v5⟩ := HRZ.out.all
  simp only [Cp.zero, show (((0 : Nat)) : Int) = 0 from rfl] at v0 v1 v2 v3 v4
  go_wp2
  refine bodyPost_ret (by simp [results, Tryd.results51, go_sem, v0, v1, v2, v3, v4, v5]; rfl) rfl ?_
  exact out_bad rfl HEZ.out
end
end Go.Proofs.YtjpgfldppepmiaaDoor
