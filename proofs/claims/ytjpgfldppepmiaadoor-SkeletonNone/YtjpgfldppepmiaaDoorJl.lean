/-
  The walk of SkeletonNone.
-/
import Derived.Test.YtjpgfldppepmiaaDoorJi
import Derived.Deep.CutRange
namespace Go.Proofs.YtjpgfldppepmiaaDoor
section
open Go.RowKit
variable {w0 w w1 w2 w' : World} {r g p : Nat} {q : Option Addr}
theorem serve_none {a : Option Addr} {v : Value} (m m2 : Msg) (D : Value) (w : World) (h : Sa w r a v) (hn : a = none ∨ (∃ q, a = some q) ∧ v = .nilIface) (hg : Glob w) (h2 : (⟨m.rp, m.ta, m.id, m.op, 3, 0, 0, 0, 0, 0⟩ : Msg) = m2) :
    Calls Tryd.prog 14 #[.pointer (some ⟨r, 0, none⟩), .agg #[.int .u64 m.ta, .int .u64 m.rp, .int .u32 m.id, .int .u16 m.op, .int .u16 m.st, .int .u64 m.p, .int .u32 m.o, .int .u8 m.r, .int .u64 m.c, .int .u64 m.ar, D]] w fun e w' => ∃ co cc, e = .returned (.agg #[.int .u64 m2.ta, .int .u64 m2.rp, .int .u32 m2.id, .int .u16 m2.op, .int .u16 m2.st, .int .u64 m2.p, .int .u32 m2.o, .int .u8 m2.r, .int .u64 m2.c, .int .u64 m2.ar, .slice co 0 cc]) ∧ Bts w' co 0 cc [] ∧ Below w.heap.size w w' :=
  serve_err (.pointer (some ⟨r, 0, none⟩)) m D 3 w (by omega) (by omega) hg (fun W => Sa W r a v) h (fun _ _ hp b => hp.grow b) (fun _ hp => out_whole m D hp hn) m2 h2
def NonA (w : World) (gm : Nat) (m m2 : Msg) (D : Value) (v : Value) (wx : World) : Prop := ∃ ga co cc, v = .pointer (some ⟨ga, 0, none⟩) ∧ MB wx gm m D ∧ MB wx ga m2 (.slice co 0 cc) ∧ Bts wx co 0 cc [] ∧ Below w.heap.size w wx
set_option maxRecDepth 20000 in
set_option maxHeartbeats 6400000 in
theorem walk_none (m : Msg) (so : Option Addr) (sn sc : Nat) (w : World) (hg : Glob w) :
    Calls Tryd.prog 5 #[.agg #[.int .u64 m.ta, .int .u64 m.rp, .int .u32 m.id, .int .u16 m.op, .int .u16 m.st, .int .u64 m.p, .int .u32 m.o, .int .u8 m.r, .int .u64 m.c, .int .u64 m.ar, .slice so sn sc]] w fun e w' => e = .returned (.bool true) ∧ Below w.heap.size w w' := by
  obtain ⟨m2, h2⟩ : ∃ m2, (⟨m.rp, m.ta, m.id, m.op, 3, 0, 0, 0, 0, 0⟩ : Msg) = m2 := ⟨_, rfl⟩
  have H2 := hide h2
  obtain ⟨X, hX⟩ : ∃ X, w.alloc (.cells #[.int .u64 m.ta, .int .u64 m.rp, .int .u32 m.id, .int .u16 m.op, .int .u16 m.st, .int .u64 m.p, .int .u32 m.o, .int .u8 m.r, .int .u64 m.c, .int .u64 m.ar, .slice so sn sc] 49) = X := ⟨_, rfl⟩
  obtain ⟨gm, hgm⟩ : ∃ gm, w.heap.size = gm := ⟨_, rfl⟩
  have bX : Below w.heap.size w X := hX ▸ below_alloc _ _
  have HM : Hid (MB X gm m (.slice so sn sc)) := by show MB _ _ _ _; rw [← hgm, ← hX]; exact mb_new w m (.slice so sn sc)
  have HG := hide (hg.carry bX)
  have HGW := hide hg
  have HB := hide bX
  clear hg bX h2
  go_enter Tryd.func5, Tryd.ntmps5
  go_wp2_with fail
  refine (awake_any _ HG.out).mono ?_; rintro e w1 ⟨rfl, b1⟩
  have HMO := hide (HM.out.grow b1)
  have HGO := hide (HG.out.carry b1)
  have HBO := hide (below_one HB.out b1)
  have HGM : Hid (gm < w1.heap.size) := lt_of_heap HMO.out
  clear b1 hX hgm
  go_wp2_with fail
  go_cut [3] from 8 to 13 (fun v wx => NonA w gm m m2 (.slice so sn sc) v wx)
  case first =>
    have F0 : MB w1.drew gm m (.slice so sn sc) ∧ Below w1.heap.size w1 w1.drew ∧ Glob w1.drew := ⟨HMO.out, below_d w1 1, HGO.out⟩
    have hS : Hid ((w1.drew.cell? ⟨gm, 0, none⟩ = some (.int .u64 m.ta) ∧ w1.drew.cell? ⟨gm, 1, none⟩ = some (.int .u64 m.rp) ∧ w1.drew.cell? ⟨gm, 2, none⟩ = some (.int .u32 m.id) ∧ w1.drew.cell? ⟨gm, 3, none⟩ = some (.int .u16 m.op) ∧ w1.drew.cell? ⟨gm, 4, none⟩ = some (.int .u16 m.st) ∧ w1.drew.cell? ⟨gm, 5, none⟩ = some (.int .u64 m.p) ∧ w1.drew.cell? ⟨gm, 6, none⟩ = some (.int .u32 m.o) ∧ w1.drew.cell? ⟨gm, 7, none⟩ = some (.int .u8 m.r) ∧ w1.drew.cell? ⟨gm, 8, none⟩ = some (.int .u64 m.c) ∧ w1.drew.cell? ⟨gm, 9, none⟩ = some (.int .u64 m.ar) ∧ w1.drew.cell? ⟨gm, 10, none⟩ = some (.slice so sn sc))) := F0.1.all
    refine wp_region_held_drew (S := fun U => (U.cell? ⟨gm, 0, none⟩ = some (.int .u64 m.ta) ∧ U.cell? ⟨gm, 1, none⟩ = some (.int .u64 m.rp) ∧ U.cell? ⟨gm, 2, none⟩ = some (.int .u32 m.id) ∧ U.cell? ⟨gm, 3, none⟩ = some (.int .u16 m.op) ∧ U.cell? ⟨gm, 4, none⟩ = some (.int .u16 m.st) ∧ U.cell? ⟨gm, 5, none⟩ = some (.int .u64 m.p) ∧ U.cell? ⟨gm, 6, none⟩ = some (.int .u32 m.o) ∧ U.cell? ⟨gm, 7, none⟩ = some (.int .u8 m.r) ∧ U.cell? ⟨gm, 8, none⟩ = some (.int .u64 m.c) ∧ U.cell? ⟨gm, 9, none⟩ = some (.int .u64 m.ar) ∧ U.cell? ⟨gm, 10, none⟩ = some (.slice so sn sc))) (by kernel_rfl) hS.out (fun _ => ?_)
    generalize w1.drew = u0 at F0 hS ⊢
    have HM0 := hide F0.1
    have HB0 := hide F0.2.1
    have HG0 := hide F0.2.2
    clear F0
    refine wpAnyH_take (i := 0) (oi := { dst := some 8, op := Op.build 35 #[], type := 35, pos := "law.go:214", after := #[], guard := none }) (v := (.agg #[.slice none 0 0, .slice none 0 0])) rfl (by kernel_rfl) (by kernel_rfl) (by kernel_rfl) (fun _ _ _ h => h) (Or.inl ⟨by kernel_rfl, fun w hC => by go_simp⟩) hS.out ?_
    simp only [Act.put, List.setIfInBounds_toArray, List.set_cons_zero, List.set_cons_succ]
    refine wpAnyH_take (i := 4) (oi := { dst := some 12, op := Op.load 49 (Operand.tmp 1), type := 49, pos := "law.go:214", after := #[], guard := none }) (v := (.agg #[.int .u64 (m.ta : Int), .int .u64 (m.rp : Int), .int .u32 (m.id : Int), .int .u16 (m.op : Int), .int .u16 (m.st : Int), .int .u64 (m.p : Int), .int .u32 (m.o : Int), .int .u8 (m.r : Int), .int .u64 (m.c : Int), .int .u64 (m.ar : Int), .slice so sn sc])) rfl (by kernel_rfl) (by kernel_rfl) (by kernel_rfl) (fun _ _ _ h => h) (Or.inl ⟨by kernel_rfl, fun w hC => by (obtain ⟨k0, k1, k2, k3, k4, k5, k6, k7, k8, k9, k10⟩ := hC; go_simp)⟩) hS.out ?_
    simp only [Act.put, List.setIfInBounds_toArray, List.set_cons_zero, List.set_cons_succ]
    refine wpAnyH_ready (rs := [1, 6]) (by kernel_rfl) (by simp) ?_
    refine AllReadyH.cons (o := { dst := some 9, op := Op.box 35 (Operand.tmp 8), type := 32, pos := "law.go:214", after := #[{ on := 0, ground := Ground.data }], guard := none }) rfl (fun KK hKK => ?_) (AllReadyH.cons (o := { dst := some 3, op := Op.alloc 49, type := 0, pos := "law.go:214", after := #[], guard := none }) rfl (fun KK hKK => ?_) AllReadyH.nil)
    · obtain ⟨u1, hv⟩ : ∃ u1, u0.alloc (.cells #[.slice none 0 0, .slice none 0 0] 35) = u1 := ⟨_, rfl⟩
      have bv : Below u0.heap.size u0 u1 := hv ▸ below_alloc _ _
      have HM1 := hide (HM0.out.grow bv)
      have HB1 := hide (below_one HB0.out bv)
      have HG1 := hide (HG0.out.carry bv)
      go_simp
      have hS : Hid ((u1.cell? ⟨gm, 0, none⟩ = some (.int .u64 m.ta) ∧ u1.cell? ⟨gm, 1, none⟩ = some (.int .u64 m.rp) ∧ u1.cell? ⟨gm, 2, none⟩ = some (.int .u32 m.id) ∧ u1.cell? ⟨gm, 3, none⟩ = some (.int .u16 m.op) ∧ u1.cell? ⟨gm, 4, none⟩ = some (.int .u16 m.st) ∧ u1.cell? ⟨gm, 5, none⟩ = some (.int .u64 m.p) ∧ u1.cell? ⟨gm, 6, none⟩ = some (.int .u32 m.o) ∧ u1.cell? ⟨gm, 7, none⟩ = some (.int .u8 m.r) ∧ u1.cell? ⟨gm, 8, none⟩ = some (.int .u64 m.c) ∧ u1.cell? ⟨gm, 9, none⟩ = some (.int .u64 m.ar) ∧ u1.cell? ⟨gm, 10, none⟩ = some (.slice so sn sc))) := HM1.out.all
      refine hKK.out _ _ hS.out (fun _ => ?_)
      clear hKK hv bv
      obtain ⟨gs, hgs⟩ : ∃ gs, u0.heap.size = gs := ⟨_, rfl⟩
      try rw [hgs]
      clear hgs
      refine wpAnyH_take (i := 2) (oi := { dst := some 10, op := Op.makeInterface 32 (Operand.tmp 9), type := 79, pos := "law.go:214", after := #[{ on := 1, ground := Ground.data }], guard := none }) (v := (.iface 32 (.pointer (some ⟨gs, 0, none⟩)))) rfl (by kernel_rfl) (by kernel_rfl) (by kernel_rfl) (fun _ _ _ h => h) (Or.inl ⟨by kernel_rfl, fun w hC => by go_simp⟩) hS.out ?_
      simp only [Act.put, List.setIfInBounds_toArray, List.set_cons_zero, List.set_cons_succ]
      refine wpAnyH_ready (rs := [3, 6]) (by kernel_rfl) (by simp) ?_
      refine AllReadyH.cons (o := { dst := some 11, op := Op.call { callee := Callee.value (Operand.func 11), args := #[Operand.const (Value.pointer none), Operand.tmp 10], argTypes := #[25, 79] }, type := 36, pos := "law.go:214", after := #[{ on := 2, ground := Ground.data }], guard := none }) rfl (fun KK hKK => ?_) (AllReadyH.cons (o := { dst := some 3, op := Op.alloc 49, type := 0, pos := "law.go:214", after := #[], guard := none }) rfl (fun KK hKK => ?_) AllReadyH.nil)
      · go_simp
        refine (srv_of none _ (.inr ⟨_, rfl⟩) _).mono ?_; rintro e u2 ⟨rfl, S2, bv⟩
        obtain ⟨gr, hgr⟩ : ∃ gr, u1.heap.size = gr := ⟨_, rfl⟩
        rw [hgr] at S2 ⊢
        have HS2 := hide S2
        have HM2 := hide (HM1.out.grow bv)
        have HB2 := hide (below_one HB1.out bv)
        have HG2 := hide (HG1.out.carry bv)
        have hS : Hid ((u2.cell? ⟨gm, 0, none⟩ = some (.int .u64 m.ta) ∧ u2.cell? ⟨gm, 1, none⟩ = some (.int .u64 m.rp) ∧ u2.cell? ⟨gm, 2, none⟩ = some (.int .u32 m.id) ∧ u2.cell? ⟨gm, 3, none⟩ = some (.int .u16 m.op) ∧ u2.cell? ⟨gm, 4, none⟩ = some (.int .u16 m.st) ∧ u2.cell? ⟨gm, 5, none⟩ = some (.int .u64 m.p) ∧ u2.cell? ⟨gm, 6, none⟩ = some (.int .u32 m.o) ∧ u2.cell? ⟨gm, 7, none⟩ = some (.int .u8 m.r) ∧ u2.cell? ⟨gm, 8, none⟩ = some (.int .u64 m.c) ∧ u2.cell? ⟨gm, 9, none⟩ = some (.int .u64 m.ar) ∧ u2.cell? ⟨gm, 10, none⟩ = some (.slice so sn sc))) := HM2.out.all
        refine hKK.out _ _ hS.out (fun _ => ?_)
        clear hKK bv S2 hgr
        refine wpAnyH_ready (rs := [5, 6]) (by kernel_rfl) (by simp) ?_
        refine AllReadyH.cons (o := { dst := some 13, op := Op.call { callee := Callee.value (Operand.func 14), args := #[Operand.tmp 11, Operand.tmp 12], argTypes := #[36, 49] }, type := 49, pos := "law.go:214", after := #[{ on := 3, ground := Ground.data }, { on := 4, ground := Ground.data }, { on := 3, ground := Ground.chain }], guard := none }) rfl (fun KK hKK => ?_) (AllReadyH.cons (o := { dst := some 3, op := Op.alloc 49, type := 0, pos := "law.go:214", after := #[], guard := none }) rfl (fun KK hKK => ?_) AllReadyH.nil)
        · go_simp
          refine (serve_none m m2 (.slice so sn sc) _ HS2.out (.inl rfl) HG2.out H2.out).mono ?_; rintro e u3 ⟨co, cc, rfl, B2, bv⟩
          have HT3 := hide B2
          have HM3 := hide (HM2.out.grow bv)
          have HB3 := hide (below_one HB2.out bv)
          have HG3 := hide (HG2.out.carry bv)
          have HS3 := hide (HS2.out.grow bv)
          have hS : Hid ((u3.cell? ⟨gm, 0, none⟩ = some (.int .u64 m.ta) ∧ u3.cell? ⟨gm, 1, none⟩ = some (.int .u64 m.rp) ∧ u3.cell? ⟨gm, 2, none⟩ = some (.int .u32 m.id) ∧ u3.cell? ⟨gm, 3, none⟩ = some (.int .u16 m.op) ∧ u3.cell? ⟨gm, 4, none⟩ = some (.int .u16 m.st) ∧ u3.cell? ⟨gm, 5, none⟩ = some (.int .u64 m.p) ∧ u3.cell? ⟨gm, 6, none⟩ = some (.int .u32 m.o) ∧ u3.cell? ⟨gm, 7, none⟩ = some (.int .u8 m.r) ∧ u3.cell? ⟨gm, 8, none⟩ = some (.int .u64 m.c) ∧ u3.cell? ⟨gm, 9, none⟩ = some (.int .u64 m.ar) ∧ u3.cell? ⟨gm, 10, none⟩ = some (.slice so sn sc))) := HM3.out.all
          refine hKK.out _ _ hS.out (fun _ => ?_)
          clear hKK bv B2
          refine wpAnyH_ready (rs := [6]) (by kernel_rfl) (by simp) ?_
          refine AllReadyH.cons (o := { dst := some 3, op := Op.alloc 49, type := 0, pos := "law.go:214", after := #[], guard := none }) rfl (fun KK hKK => ?_) AllReadyH.nil
          · obtain ⟨u4, hv⟩ : ∃ u4, u3.alloc (.cells #[.int .u64 0, .int .u64 0, .int .u32 0, .int .u16 0, .int .u16 0, .int .u64 0, .int .u32 0, .int .u8 0, .int .u64 0, .int .u64 0, .slice none 0 0] 49) = u4 := ⟨_, rfl⟩
            have bv : Below u3.heap.size u3 u4 := hv ▸ below_alloc _ _
            have HM4 := hide (HM3.out.grow bv)
            have HB4 := hide (below_one HB3.out bv)
            have HG4 := hide (HG3.out.carry bv)
            have HS4 := hide (HS3.out.grow bv)
            have HT4 : Hid (Bts u4 co 0 cc []) := bts_none HT3.out
            obtain ⟨ga, hga⟩ : ∃ ga, u3.heap.size = ga := ⟨_, rfl⟩
            have HGA : Hid (w1.heap.size ≤ ga) := by show _ ≤ _; rw [← hga]; exact HB3.out.size
            have HZ4 : Hid (MB u4 ga Msg.zero (.slice none 0 0)) := by show MB _ _ _ _; rw [← hga, ← hv]; exact mb_new u3 Msg.zero _
            go_simp
            have hS : Hid ((u4.cell? ⟨gm, 0, none⟩ = some (.int .u64 m.ta) ∧ u4.cell? ⟨gm, 1, none⟩ = some (.int .u64 m.rp) ∧ u4.cell? ⟨gm, 2, none⟩ = some (.int .u32 m.id) ∧ u4.cell? ⟨gm, 3, none⟩ = some (.int .u16 m.op) ∧ u4.cell? ⟨gm, 4, none⟩ = some (.int .u16 m.st) ∧ u4.cell? ⟨gm, 5, none⟩ = some (.int .u64 m.p) ∧ u4.cell? ⟨gm, 6, none⟩ = some (.int .u32 m.o) ∧ u4.cell? ⟨gm, 7, none⟩ = some (.int .u8 m.r) ∧ u4.cell? ⟨gm, 8, none⟩ = some (.int .u64 m.c) ∧ u4.cell? ⟨gm, 9, none⟩ = some (.int .u64 m.ar) ∧ u4.cell? ⟨gm, 10, none⟩ = some (.slice so sn sc))) := HM4.out.all
            refine hKK.out _ _ hS.out (fun _ => ?_)
            clear hKK hv bv hga
            have z0 := HZ4.out.z 0
            have z1 := HZ4.out.z 1
            have z2 := HZ4.out.z 2
            have z3 := HZ4.out.z 3
            have z4 := HZ4.out.z 4
            have z5 := HZ4.out.z 5
            have z6 := HZ4.out.z 6
            have z7 := HZ4.out.z 7
            have z8 := HZ4.out.z 8
            have z9 := HZ4.out.z 9
            have z10 := HZ4.out.z 10
            obtain ⟨y0, y1, y2, y3, y4, y5, y6, y7, y8, y9, y10⟩ := HZ4.out.all
            have fz := foot_lay11 u4 ga m2 (.slice co 0 cc)
            have HZZ := hide (HZ4.out.lay (m := m2) (D := .slice co 0 cc))
            have HMZ := hide (HM4.out.foot fz (by show ¬ gm = ga; have := HGA.out; have := HGM.out; omega))
            have HBZ : Hid (Below w1.heap.size w1 (lay11 u4 ga m2 (.slice co 0 cc))) := (((below_foot (fun j => w1.heap.size ≤ j) HB4.out).trans fz (fun j (e : j = ga) => .inl (by show w1.heap.size ≤ j; have := HGA.out; omega))).below (Nat.le_refl _) (fun k e => e))
            have HTZ : Hid (Bts (lay11 u4 ga m2 (.slice co 0 cc)) co 0 cc []) := bts_none HT4.out
            obtain ⟨uz, huz⟩ : ∃ uz, lay11 u4 ga m2 (.slice co 0 cc) = uz := ⟨_, rfl⟩
            rw [huz] at HZZ HMZ HBZ HTZ
            unfold lay11 at huz
            clear fz
            refine wpAnyH_ready (rs := [7]) (by kernel_rfl) (by simp) ?_
            refine AllReadyH.cons (o := { dst := none, op := Op.store 49 (Operand.tmp 3) (Operand.tmp 13), type := 0, pos := "law.go:214", after := #[{ on := 6, ground := Ground.data }, { on := 5, ground := Ground.data }, { on := 5, ground := Ground.chain }, { on := 0, ground := Ground.phase }, { on := 1, ground := Ground.phase }, { on := 2, ground := Ground.phase }, { on := 3, ground := Ground.phase }, { on := 4, ground := Ground.phase }, { on := 5, ground := Ground.phase }, { on := 6, ground := Ground.phase }], guard := none }) rfl (fun KK hKK => ?_) AllReadyH.nil
            go_simp
            have hS : Hid ((uz.cell? ⟨gm, 0, none⟩ = some (.int .u64 m.ta) ∧ uz.cell? ⟨gm, 1, none⟩ = some (.int .u64 m.rp) ∧ uz.cell? ⟨gm, 2, none⟩ = some (.int .u32 m.id) ∧ uz.cell? ⟨gm, 3, none⟩ = some (.int .u16 m.op) ∧ uz.cell? ⟨gm, 4, none⟩ = some (.int .u16 m.st) ∧ uz.cell? ⟨gm, 5, none⟩ = some (.int .u64 m.p) ∧ uz.cell? ⟨gm, 6, none⟩ = some (.int .u32 m.o) ∧ uz.cell? ⟨gm, 7, none⟩ = some (.int .u8 m.r) ∧ uz.cell? ⟨gm, 8, none⟩ = some (.int .u64 m.c) ∧ uz.cell? ⟨gm, 9, none⟩ = some (.int .u64 m.ar) ∧ uz.cell? ⟨gm, 10, none⟩ = some (.slice so sn sc))) := HMZ.out.all
            refine hKK.out _ _ hS.out (fun _ => ?_)
            clear hKK
            refine wpAnyH_done (by kernel_rfl) ?_ _
            clear z0 z1 z2 z3 z4 z5 z6 z7 z8 z9 z10 y0 y1 y2 y3 y4 y5 y6 y7 y8 y9 y10 huz
            go_wp2_with fail
            go_meet
            exact ⟨ga, co, cc, rfl, HMZ.out, HZZ.out, HTZ.out, below_one HBO.out HBZ.out⟩
        · obtain ⟨u3, hv⟩ : ∃ u3, u2.alloc (.cells #[.int .u64 0, .int .u64 0, .int .u32 0, .int .u16 0, .int .u16 0, .int .u64 0, .int .u32 0, .int .u8 0, .int .u64 0, .int .u64 0, .slice none 0 0] 49) = u3 := ⟨_, rfl⟩
          have bv : Below u2.heap.size u2 u3 := hv ▸ below_alloc _ _
          have HM3 := hide (HM2.out.grow bv)
          have HB3 := hide (below_one HB2.out bv)
          have HG3 := hide (HG2.out.carry bv)
          have HS3 := hide (HS2.out.grow bv)
          obtain ⟨ga, hga⟩ : ∃ ga, u2.heap.size = ga := ⟨_, rfl⟩
          have HGA : Hid (w1.heap.size ≤ ga) := by show _ ≤ _; rw [← hga]; exact HB2.out.size
          have HZ3 : Hid (MB u3 ga Msg.zero (.slice none 0 0)) := by show MB _ _ _ _; rw [← hga, ← hv]; exact mb_new u2 Msg.zero _
          go_simp
          have hS : Hid ((u3.cell? ⟨gm, 0, none⟩ = some (.int .u64 m.ta) ∧ u3.cell? ⟨gm, 1, none⟩ = some (.int .u64 m.rp) ∧ u3.cell? ⟨gm, 2, none⟩ = some (.int .u32 m.id) ∧ u3.cell? ⟨gm, 3, none⟩ = some (.int .u16 m.op) ∧ u3.cell? ⟨gm, 4, none⟩ = some (.int .u16 m.st) ∧ u3.cell? ⟨gm, 5, none⟩ = some (.int .u64 m.p) ∧ u3.cell? ⟨gm, 6, none⟩ = some (.int .u32 m.o) ∧ u3.cell? ⟨gm, 7, none⟩ = some (.int .u8 m.r) ∧ u3.cell? ⟨gm, 8, none⟩ = some (.int .u64 m.c) ∧ u3.cell? ⟨gm, 9, none⟩ = some (.int .u64 m.ar) ∧ u3.cell? ⟨gm, 10, none⟩ = some (.slice so sn sc))) := HM3.out.all
          refine hKK.out _ _ hS.out (fun _ => ?_)
          clear hKK hv bv hga
          refine wpAnyH_ready (rs := [5]) (by kernel_rfl) (by simp) ?_
          refine AllReadyH.cons (o := { dst := some 13, op := Op.call { callee := Callee.value (Operand.func 14), args := #[Operand.tmp 11, Operand.tmp 12], argTypes := #[36, 49] }, type := 49, pos := "law.go:214", after := #[{ on := 3, ground := Ground.data }, { on := 4, ground := Ground.data }, { on := 3, ground := Ground.chain }], guard := none }) rfl (fun KK hKK => ?_) AllReadyH.nil
          · go_simp
            refine (serve_none m m2 (.slice so sn sc) _ HS3.out (.inl rfl) HG3.out H2.out).mono ?_; rintro e u4 ⟨co, cc, rfl, B2, bv⟩
            have HT4 := hide B2
            have HM4 := hide (HM3.out.grow bv)
            have HB4 := hide (below_one HB3.out bv)
            have HG4 := hide (HG3.out.carry bv)
            have HS4 := hide (HS3.out.grow bv)
            have HZ4 := hide (HZ3.out.grow bv)
            have hS : Hid ((u4.cell? ⟨gm, 0, none⟩ = some (.int .u64 m.ta) ∧ u4.cell? ⟨gm, 1, none⟩ = some (.int .u64 m.rp) ∧ u4.cell? ⟨gm, 2, none⟩ = some (.int .u32 m.id) ∧ u4.cell? ⟨gm, 3, none⟩ = some (.int .u16 m.op) ∧ u4.cell? ⟨gm, 4, none⟩ = some (.int .u16 m.st) ∧ u4.cell? ⟨gm, 5, none⟩ = some (.int .u64 m.p) ∧ u4.cell? ⟨gm, 6, none⟩ = some (.int .u32 m.o) ∧ u4.cell? ⟨gm, 7, none⟩ = some (.int .u8 m.r) ∧ u4.cell? ⟨gm, 8, none⟩ = some (.int .u64 m.c) ∧ u4.cell? ⟨gm, 9, none⟩ = some (.int .u64 m.ar) ∧ u4.cell? ⟨gm, 10, none⟩ = some (.slice so sn sc))) := HM4.out.all
            refine hKK.out _ _ hS.out (fun _ => ?_)
            clear hKK bv B2
            have z0 := HZ4.out.z 0
            have z1 := HZ4.out.z 1
            have z2 := HZ4.out.z 2
            have z3 := HZ4.out.z 3
            have z4 := HZ4.out.z 4
            have z5 := HZ4.out.z 5
            have z6 := HZ4.out.z 6
            have z7 := HZ4.out.z 7
            have z8 := HZ4.out.z 8
            have z9 := HZ4.out.z 9
            have z10 := HZ4.out.z 10
            obtain ⟨y0, y1, y2, y3, y4, y5, y6, y7, y8, y9, y10⟩ := HZ4.out.all
            have fz := foot_lay11 u4 ga m2 (.slice co 0 cc)
            have HZZ := hide (HZ4.out.lay (m := m2) (D := .slice co 0 cc))
            have HMZ := hide (HM4.out.foot fz (by show ¬ gm = ga; have := HGA.out; have := HGM.out; omega))
            have HBZ : Hid (Below w1.heap.size w1 (lay11 u4 ga m2 (.slice co 0 cc))) := (((below_foot (fun j => w1.heap.size ≤ j) HB4.out).trans fz (fun j (e : j = ga) => .inl (by show w1.heap.size ≤ j; have := HGA.out; omega))).below (Nat.le_refl _) (fun k e => e))
            have HTZ : Hid (Bts (lay11 u4 ga m2 (.slice co 0 cc)) co 0 cc []) := bts_none HT4.out
            obtain ⟨uz, huz⟩ : ∃ uz, lay11 u4 ga m2 (.slice co 0 cc) = uz := ⟨_, rfl⟩
            rw [huz] at HZZ HMZ HBZ HTZ
            unfold lay11 at huz
            clear fz
            refine wpAnyH_ready (rs := [7]) (by kernel_rfl) (by simp) ?_
            refine AllReadyH.cons (o := { dst := none, op := Op.store 49 (Operand.tmp 3) (Operand.tmp 13), type := 0, pos := "law.go:214", after := #[{ on := 6, ground := Ground.data }, { on := 5, ground := Ground.data }, { on := 5, ground := Ground.chain }, { on := 0, ground := Ground.phase }, { on := 1, ground := Ground.phase }, { on := 2, ground := Ground.phase }, { on := 3, ground := Ground.phase }, { on := 4, ground := Ground.phase }, { on := 5, ground := Ground.phase }, { on := 6, ground := Ground.phase }], guard := none }) rfl (fun KK hKK => ?_) AllReadyH.nil
            go_simp
            have hS : Hid ((uz.cell? ⟨gm, 0, none⟩ = some (.int .u64 m.ta) ∧ uz.cell? ⟨gm, 1, none⟩ = some (.int .u64 m.rp) ∧ uz.cell? ⟨gm, 2, none⟩ = some (.int .u32 m.id) ∧ uz.cell? ⟨gm, 3, none⟩ = some (.int .u16 m.op) ∧ uz.cell? ⟨gm, 4, none⟩ = some (.int .u16 m.st) ∧ uz.cell? ⟨gm, 5, none⟩ = some (.int .u64 m.p) ∧ uz.cell? ⟨gm, 6, none⟩ = some (.int .u32 m.o) ∧ uz.cell? ⟨gm, 7, none⟩ = some (.int .u8 m.r) ∧ uz.cell? ⟨gm, 8, none⟩ = some (.int .u64 m.c) ∧ uz.cell? ⟨gm, 9, none⟩ = some (.int .u64 m.ar) ∧ uz.cell? ⟨gm, 10, none⟩ = some (.slice so sn sc))) := HMZ.out.all
            refine hKK.out _ _ hS.out (fun _ => ?_)
            clear hKK
            refine wpAnyH_done (by kernel_rfl) ?_ _
            clear z0 z1 z2 z3 z4 z5 z6 z7 z8 z9 z10 y0 y1 y2 y3 y4 y5 y6 y7 y8 y9 y10 huz
            go_wp2_with fail
            go_meet
            exact ⟨ga, co, cc, rfl, HMZ.out, HZZ.out, HTZ.out, below_one HBO.out HBZ.out⟩
      · obtain ⟨u2, hv⟩ : ∃ u2, u1.alloc (.cells #[.int .u64 0, .int .u64 0, .int .u32 0, .int .u16 0, .int .u16 0, .int .u64 0, .int .u32 0, .int .u8 0, .int .u64 0, .int .u64 0, .slice none 0 0] 49) = u2 := ⟨_, rfl⟩
        have bv : Below u1.heap.size u1 u2 := hv ▸ below_alloc _ _
        have HM2 := hide (HM1.out.grow bv)
        have HB2 := hide (below_one HB1.out bv)
        have HG2 := hide (HG1.out.carry bv)
        obtain ⟨ga, hga⟩ : ∃ ga, u1.heap.size = ga := ⟨_, rfl⟩
        have HGA : Hid (w1.heap.size ≤ ga) := by show _ ≤ _; rw [← hga]; exact HB1.out.size
        have HZ2 : Hid (MB u2 ga Msg.zero (.slice none 0 0)) := by show MB _ _ _ _; rw [← hga, ← hv]; exact mb_new u1 Msg.zero _
        go_simp
        have hS : Hid ((u2.cell? ⟨gm, 0, none⟩ = some (.int .u64 m.ta) ∧ u2.cell? ⟨gm, 1, none⟩ = some (.int .u64 m.rp) ∧ u2.cell? ⟨gm, 2, none⟩ = some (.int .u32 m.id) ∧ u2.cell? ⟨gm, 3, none⟩ = some (.int .u16 m.op) ∧ u2.cell? ⟨gm, 4, none⟩ = some (.int .u16 m.st) ∧ u2.cell? ⟨gm, 5, none⟩ = some (.int .u64 m.p) ∧ u2.cell? ⟨gm, 6, none⟩ = some (.int .u32 m.o) ∧ u2.cell? ⟨gm, 7, none⟩ = some (.int .u8 m.r) ∧ u2.cell? ⟨gm, 8, none⟩ = some (.int .u64 m.c) ∧ u2.cell? ⟨gm, 9, none⟩ = some (.int .u64 m.ar) ∧ u2.cell? ⟨gm, 10, none⟩ = some (.slice so sn sc))) := HM2.out.all
        refine hKK.out _ _ hS.out (fun _ => ?_)
        clear hKK hv bv hga
        refine wpAnyH_ready (rs := [3]) (by kernel_rfl) (by simp) ?_
        refine AllReadyH.cons (o := { dst := some 11, op := Op.call { callee := Callee.value (Operand.func 11), args := #[Operand.const (Value.pointer none), Operand.tmp 10], argTypes := #[25, 79] }, type := 36, pos := "law.go:214", after := #[{ on := 2, ground := Ground.data }], guard := none }) rfl (fun KK hKK => ?_) AllReadyH.nil
        · go_simp
          refine (srv_of none _ (.inr ⟨_, rfl⟩) _).mono ?_; rintro e u3 ⟨rfl, S2, bv⟩
          obtain ⟨gr, hgr⟩ : ∃ gr, u2.heap.size = gr := ⟨_, rfl⟩
          rw [hgr] at S2 ⊢
          have HS3 := hide S2
          have HM3 := hide (HM2.out.grow bv)
          have HB3 := hide (below_one HB2.out bv)
          have HG3 := hide (HG2.out.carry bv)
          have HZ3 := hide (HZ2.out.grow bv)
          have hS : Hid ((u3.cell? ⟨gm, 0, none⟩ = some (.int .u64 m.ta) ∧ u3.cell? ⟨gm, 1, none⟩ = some (.int .u64 m.rp) ∧ u3.cell? ⟨gm, 2, none⟩ = some (.int .u32 m.id) ∧ u3.cell? ⟨gm, 3, none⟩ = some (.int .u16 m.op) ∧ u3.cell? ⟨gm, 4, none⟩ = some (.int .u16 m.st) ∧ u3.cell? ⟨gm, 5, none⟩ = some (.int .u64 m.p) ∧ u3.cell? ⟨gm, 6, none⟩ = some (.int .u32 m.o) ∧ u3.cell? ⟨gm, 7, none⟩ = some (.int .u8 m.r) ∧ u3.cell? ⟨gm, 8, none⟩ = some (.int .u64 m.c) ∧ u3.cell? ⟨gm, 9, none⟩ = some (.int .u64 m.ar) ∧ u3.cell? ⟨gm, 10, none⟩ = some (.slice so sn sc))) := HM3.out.all
          refine hKK.out _ _ hS.out (fun _ => ?_)
          clear hKK bv S2 hgr
          refine wpAnyH_ready (rs := [5]) (by kernel_rfl) (by simp) ?_
          refine AllReadyH.cons (o := { dst := some 13, op := Op.call { callee := Callee.value (Operand.func 14), args := #[Operand.tmp 11, Operand.tmp 12], argTypes := #[36, 49] }, type := 49, pos := "law.go:214", after := #[{ on := 3, ground := Ground.data }, { on := 4, ground := Ground.data }, { on := 3, ground := Ground.chain }], guard := none }) rfl (fun KK hKK => ?_) AllReadyH.nil
          · go_simp
            refine (serve_none m m2 (.slice so sn sc) _ HS3.out (.inl rfl) HG3.out H2.out).mono ?_; rintro e u4 ⟨co, cc, rfl, B2, bv⟩
            have HT4 := hide B2
            have HM4 := hide (HM3.out.grow bv)
            have HB4 := hide (below_one HB3.out bv)
            have HG4 := hide (HG3.out.carry bv)
            have HS4 := hide (HS3.out.grow bv)
            have HZ4 := hide (HZ3.out.grow bv)
            have hS : Hid ((u4.cell? ⟨gm, 0, none⟩ = some (.int .u64 m.ta) ∧ u4.cell? ⟨gm, 1, none⟩ = some (.int .u64 m.rp) ∧ u4.cell? ⟨gm, 2, none⟩ = some (.int .u32 m.id) ∧ u4.cell? ⟨gm, 3, none⟩ = some (.int .u16 m.op) ∧ u4.cell? ⟨gm, 4, none⟩ = some (.int .u16 m.st) ∧ u4.cell? ⟨gm, 5, none⟩ = some (.int .u64 m.p) ∧ u4.cell? ⟨gm, 6, none⟩ = some (.int .u32 m.o) ∧ u4.cell? ⟨gm, 7, none⟩ = some (.int .u8 m.r) ∧ u4.cell? ⟨gm, 8, none⟩ = some (.int .u64 m.c) ∧ u4.cell? ⟨gm, 9, none⟩ = some (.int .u64 m.ar) ∧ u4.cell? ⟨gm, 10, none⟩ = some (.slice so sn sc))) := HM4.out.all
            refine hKK.out _ _ hS.out (fun _ => ?_)
            clear hKK bv B2
            have z0 := HZ4.out.z 0
            have z1 := HZ4.out.z 1
            have z2 := HZ4.out.z 2
            have z3 := HZ4.out.z 3
            have z4 := HZ4.out.z 4
            have z5 := HZ4.out.z 5
            have z6 := HZ4.out.z 6
            have z7 := HZ4.out.z 7
            have z8 := HZ4.out.z 8
            have z9 := HZ4.out.z 9
            have z10 := HZ4.out.z 10
            obtain ⟨y0, y1, y2, y3, y4, y5, y6, y7, y8, y9, y10⟩ := HZ4.out.all
            have fz := foot_lay11 u4 ga m2 (.slice co 0 cc)
            have HZZ := hide (HZ4.out.lay (m := m2) (D := .slice co 0 cc))
            have HMZ := hide (HM4.out.foot fz (by show ¬ gm = ga; have := HGA.out; have := HGM.out; omega))
            have HBZ : Hid (Below w1.heap.size w1 (lay11 u4 ga m2 (.slice co 0 cc))) := (((below_foot (fun j => w1.heap.size ≤ j) HB4.out).trans fz (fun j (e : j = ga) => .inl (by show w1.heap.size ≤ j; have := HGA.out; omega))).below (Nat.le_refl _) (fun k e => e))
            have HTZ : Hid (Bts (lay11 u4 ga m2 (.slice co 0 cc)) co 0 cc []) := bts_none HT4.out
            obtain ⟨uz, huz⟩ : ∃ uz, lay11 u4 ga m2 (.slice co 0 cc) = uz := ⟨_, rfl⟩
            rw [huz] at HZZ HMZ HBZ HTZ
            unfold lay11 at huz
            clear fz
            refine wpAnyH_ready (rs := [7]) (by kernel_rfl) (by simp) ?_
            refine AllReadyH.cons (o := { dst := none, op := Op.store 49 (Operand.tmp 3) (Operand.tmp 13), type := 0, pos := "law.go:214", after := #[{ on := 6, ground := Ground.data }, { on := 5, ground := Ground.data }, { on := 5, ground := Ground.chain }, { on := 0, ground := Ground.phase }, { on := 1, ground := Ground.phase }, { on := 2, ground := Ground.phase }, { on := 3, ground := Ground.phase }, { on := 4, ground := Ground.phase }, { on := 5, ground := Ground.phase }, { on := 6, ground := Ground.phase }], guard := none }) rfl (fun KK hKK => ?_) AllReadyH.nil
            go_simp
            have hS : Hid ((uz.cell? ⟨gm, 0, none⟩ = some (.int .u64 m.ta) ∧ uz.cell? ⟨gm, 1, none⟩ = some (.int .u64 m.rp) ∧ uz.cell? ⟨gm, 2, none⟩ = some (.int .u32 m.id) ∧ uz.cell? ⟨gm, 3, none⟩ = some (.int .u16 m.op) ∧ uz.cell? ⟨gm, 4, none⟩ = some (.int .u16 m.st) ∧ uz.cell? ⟨gm, 5, none⟩ = some (.int .u64 m.p) ∧ uz.cell? ⟨gm, 6, none⟩ = some (.int .u32 m.o) ∧ uz.cell? ⟨gm, 7, none⟩ = some (.int .u8 m.r) ∧ uz.cell? ⟨gm, 8, none⟩ = some (.int .u64 m.c) ∧ uz.cell? ⟨gm, 9, none⟩ = some (.int .u64 m.ar) ∧ uz.cell? ⟨gm, 10, none⟩ = some (.slice so sn sc))) := HMZ.out.all
            refine hKK.out _ _ hS.out (fun _ => ?_)
            clear hKK
            refine wpAnyH_done (by kernel_rfl) ?_ _
            clear z0 z1 z2 z3 z4 z5 z6 z7 z8 z9 z10 y0 y1 y2 y3 y4 y5 y6 y7 y8 y9 y10 huz
            go_wp2_with fail
            go_meet
            exact ⟨ga, co, cc, rfl, HMZ.out, HZZ.out, HTZ.out, below_one HBO.out HBZ.out⟩
    · obtain ⟨u1, hv⟩ : ∃ u1, u0.alloc (.cells #[.int .u64 0, .int .u64 0, .int .u32 0, .int .u16 0, .int .u16 0, .int .u64 0, .int .u32 0, .int .u8 0, .int .u64 0, .int .u64 0, .slice none 0 0] 49) = u1 := ⟨_, rfl⟩
      have bv : Below u0.heap.size u0 u1 := hv ▸ below_alloc _ _
      have HM1 := hide (HM0.out.grow bv)
      have HB1 := hide (below_one HB0.out bv)
      have HG1 := hide (HG0.out.carry bv)
      obtain ⟨ga, hga⟩ : ∃ ga, u0.heap.size = ga := ⟨_, rfl⟩
      have HGA : Hid (w1.heap.size ≤ ga) := by show _ ≤ _; rw [← hga]; exact HB0.out.size
      have HZ1 : Hid (MB u1 ga Msg.zero (.slice none 0 0)) := by show MB _ _ _ _; rw [← hga, ← hv]; exact mb_new u0 Msg.zero _
      go_simp
      have hS : Hid ((u1.cell? ⟨gm, 0, none⟩ = some (.int .u64 m.ta) ∧ u1.cell? ⟨gm, 1, none⟩ = some (.int .u64 m.rp) ∧ u1.cell? ⟨gm, 2, none⟩ = some (.int .u32 m.id) ∧ u1.cell? ⟨gm, 3, none⟩ = some (.int .u16 m.op) ∧ u1.cell? ⟨gm, 4, none⟩ = some (.int .u16 m.st) ∧ u1.cell? ⟨gm, 5, none⟩ = some (.int .u64 m.p) ∧ u1.cell? ⟨gm, 6, none⟩ = some (.int .u32 m.o) ∧ u1.cell? ⟨gm, 7, none⟩ = some (.int .u8 m.r) ∧ u1.cell? ⟨gm, 8, none⟩ = some (.int .u64 m.c) ∧ u1.cell? ⟨gm, 9, none⟩ = some (.int .u64 m.ar) ∧ u1.cell? ⟨gm, 10, none⟩ = some (.slice so sn sc))) := HM1.out.all
      refine hKK.out _ _ hS.out (fun _ => ?_)
      clear hKK hv bv hga
      refine wpAnyH_ready (rs := [1]) (by kernel_rfl) (by simp) ?_
      refine AllReadyH.cons (o := { dst := some 9, op := Op.box 35 (Operand.tmp 8), type := 32, pos := "law.go:214", after := #[{ on := 0, ground := Ground.data }], guard := none }) rfl (fun KK hKK => ?_) AllReadyH.nil
      · obtain ⟨u2, hv⟩ : ∃ u2, u1.alloc (.cells #[.slice none 0 0, .slice none 0 0] 35) = u2 := ⟨_, rfl⟩
        have bv : Below u1.heap.size u1 u2 := hv ▸ below_alloc _ _
        have HM2 := hide (HM1.out.grow bv)
        have HB2 := hide (below_one HB1.out bv)
        have HG2 := hide (HG1.out.carry bv)
        have HZ2 := hide (HZ1.out.grow bv)
        go_simp
        have hS : Hid ((u2.cell? ⟨gm, 0, none⟩ = some (.int .u64 m.ta) ∧ u2.cell? ⟨gm, 1, none⟩ = some (.int .u64 m.rp) ∧ u2.cell? ⟨gm, 2, none⟩ = some (.int .u32 m.id) ∧ u2.cell? ⟨gm, 3, none⟩ = some (.int .u16 m.op) ∧ u2.cell? ⟨gm, 4, none⟩ = some (.int .u16 m.st) ∧ u2.cell? ⟨gm, 5, none⟩ = some (.int .u64 m.p) ∧ u2.cell? ⟨gm, 6, none⟩ = some (.int .u32 m.o) ∧ u2.cell? ⟨gm, 7, none⟩ = some (.int .u8 m.r) ∧ u2.cell? ⟨gm, 8, none⟩ = some (.int .u64 m.c) ∧ u2.cell? ⟨gm, 9, none⟩ = some (.int .u64 m.ar) ∧ u2.cell? ⟨gm, 10, none⟩ = some (.slice so sn sc))) := HM2.out.all
        refine hKK.out _ _ hS.out (fun _ => ?_)
        clear hKK hv bv
        obtain ⟨gs, hgs⟩ : ∃ gs, u1.heap.size = gs := ⟨_, rfl⟩
        try rw [hgs]
        clear hgs
        refine wpAnyH_take (i := 2) (oi := { dst := some 10, op := Op.makeInterface 32 (Operand.tmp 9), type := 79, pos := "law.go:214", after := #[{ on := 1, ground := Ground.data }], guard := none }) (v := (.iface 32 (.pointer (some ⟨gs, 0, none⟩)))) rfl (by kernel_rfl) (by kernel_rfl) (by kernel_rfl) (fun _ _ _ h => h) (Or.inl ⟨by kernel_rfl, fun w hC => by go_simp⟩) hS.out ?_
        simp only [Act.put, List.setIfInBounds_toArray, List.set_cons_zero, List.set_cons_succ]
        refine wpAnyH_ready (rs := [3]) (by kernel_rfl) (by simp) ?_
        refine AllReadyH.cons (o := { dst := some 11, op := Op.call { callee := Callee.value (Operand.func 11), args := #[Operand.const (Value.pointer none), Operand.tmp 10], argTypes := #[25, 79] }, type := 36, pos := "law.go:214", after := #[{ on := 2, ground := Ground.data }], guard := none }) rfl (fun KK hKK => ?_) AllReadyH.nil
        · go_simp
          refine (srv_of none _ (.inr ⟨_, rfl⟩) _).mono ?_; rintro e u3 ⟨rfl, S2, bv⟩
          obtain ⟨gr, hgr⟩ : ∃ gr, u2.heap.size = gr := ⟨_, rfl⟩
          rw [hgr] at S2 ⊢
          have HS3 := hide S2
          have HM3 := hide (HM2.out.grow bv)
          have HB3 := hide (below_one HB2.out bv)
          have HG3 := hide (HG2.out.carry bv)
          have HZ3 := hide (HZ2.out.grow bv)
          have hS : Hid ((u3.cell? ⟨gm, 0, none⟩ = some (.int .u64 m.ta) ∧ u3.cell? ⟨gm, 1, none⟩ = some (.int .u64 m.rp) ∧ u3.cell? ⟨gm, 2, none⟩ = some (.int .u32 m.id) ∧ u3.cell? ⟨gm, 3, none⟩ = some (.int .u16 m.op) ∧ u3.cell? ⟨gm, 4, none⟩ = some (.int .u16 m.st) ∧ u3.cell? ⟨gm, 5, none⟩ = some (.int .u64 m.p) ∧ u3.cell? ⟨gm, 6, none⟩ = some (.int .u32 m.o) ∧ u3.cell? ⟨gm, 7, none⟩ = some (.int .u8 m.r) ∧ u3.cell? ⟨gm, 8, none⟩ = some (.int .u64 m.c) ∧ u3.cell? ⟨gm, 9, none⟩ = some (.int .u64 m.ar) ∧ u3.cell? ⟨gm, 10, none⟩ = some (.slice so sn sc))) := HM3.out.all
          refine hKK.out _ _ hS.out (fun _ => ?_)
          clear hKK bv S2 hgr
          refine wpAnyH_ready (rs := [5]) (by kernel_rfl) (by simp) ?_
          refine AllReadyH.cons (o := { dst := some 13, op := Op.call { callee := Callee.value (Operand.func 14), args := #[Operand.tmp 11, Operand.tmp 12], argTypes := #[36, 49] }, type := 49, pos := "law.go:214", after := #[{ on := 3, ground := Ground.data }, { on := 4, ground := Ground.data }, { on := 3, ground := Ground.chain }], guard := none }) rfl (fun KK hKK => ?_) AllReadyH.nil
          · go_simp
            refine (serve_none m m2 (.slice so sn sc) _ HS3.out (.inl rfl) HG3.out H2.out).mono ?_; rintro e u4 ⟨co, cc, rfl, B2, bv⟩
            have HT4 := hide B2
            have HM4 := hide (HM3.out.grow bv)
            have HB4 := hide (below_one HB3.out bv)
            have HG4 := hide (HG3.out.carry bv)
            have HS4 := hide (HS3.out.grow bv)
            have HZ4 := hide (HZ3.out.grow bv)
            have hS : Hid ((u4.cell? ⟨gm, 0, none⟩ = some (.int .u64 m.ta) ∧ u4.cell? ⟨gm, 1, none⟩ = some (.int .u64 m.rp) ∧ u4.cell? ⟨gm, 2, none⟩ = some (.int .u32 m.id) ∧ u4.cell? ⟨gm, 3, none⟩ = some (.int .u16 m.op) ∧ u4.cell? ⟨gm, 4, none⟩ = some (.int .u16 m.st) ∧ u4.cell? ⟨gm, 5, none⟩ = some (.int .u64 m.p) ∧ u4.cell? ⟨gm, 6, none⟩ = some (.int .u32 m.o) ∧ u4.cell? ⟨gm, 7, none⟩ = some (.int .u8 m.r) ∧ u4.cell? ⟨gm, 8, none⟩ = some (.int .u64 m.c) ∧ u4.cell? ⟨gm, 9, none⟩ = some (.int .u64 m.ar) ∧ u4.cell? ⟨gm, 10, none⟩ = some (.slice so sn sc))) := HM4.out.all
            refine hKK.out _ _ hS.out (fun _ => ?_)
            clear hKK bv B2
            have z0 := HZ4.out.z 0
            have z1 := HZ4.out.z 1
            have z2 := HZ4.out.z 2
            have z3 := HZ4.out.z 3
            have z4 := HZ4.out.z 4
            have z5 := HZ4.out.z 5
            have z6 := HZ4.out.z 6
            have z7 := HZ4.out.z 7
            have z8 := HZ4.out.z 8
            have z9 := HZ4.out.z 9
            have z10 := HZ4.out.z 10
            obtain ⟨y0, y1, y2, y3, y4, y5, y6, y7, y8, y9, y10⟩ := HZ4.out.all
            have fz := foot_lay11 u4 ga m2 (.slice co 0 cc)
            have HZZ := hide (HZ4.out.lay (m := m2) (D := .slice co 0 cc))
            have HMZ := hide (HM4.out.foot fz (by show ¬ gm = ga; have := HGA.out; have := HGM.out; omega))
            have HBZ : Hid (Below w1.heap.size w1 (lay11 u4 ga m2 (.slice co 0 cc))) := (((below_foot (fun j => w1.heap.size ≤ j) HB4.out).trans fz (fun j (e : j = ga) => .inl (by show w1.heap.size ≤ j; have := HGA.out; omega))).below (Nat.le_refl _) (fun k e => e))
            have HTZ : Hid (Bts (lay11 u4 ga m2 (.slice co 0 cc)) co 0 cc []) := bts_none HT4.out
            obtain ⟨uz, huz⟩ : ∃ uz, lay11 u4 ga m2 (.slice co 0 cc) = uz := ⟨_, rfl⟩
            rw [huz] at HZZ HMZ HBZ HTZ
            unfold lay11 at huz
            clear fz
            refine wpAnyH_ready (rs := [7]) (by kernel_rfl) (by simp) ?_
            refine AllReadyH.cons (o := { dst := none, op := Op.store 49 (Operand.tmp 3) (Operand.tmp 13), type := 0, pos := "law.go:214", after := #[{ on := 6, ground := Ground.data }, { on := 5, ground := Ground.data }, { on := 5, ground := Ground.chain }, { on := 0, ground := Ground.phase }, { on := 1, ground := Ground.phase }, { on := 2, ground := Ground.phase }, { on := 3, ground := Ground.phase }, { on := 4, ground := Ground.phase }, { on := 5, ground := Ground.phase }, { on := 6, ground := Ground.phase }], guard := none }) rfl (fun KK hKK => ?_) AllReadyH.nil
            go_simp
            have hS : Hid ((uz.cell? ⟨gm, 0, none⟩ = some (.int .u64 m.ta) ∧ uz.cell? ⟨gm, 1, none⟩ = some (.int .u64 m.rp) ∧ uz.cell? ⟨gm, 2, none⟩ = some (.int .u32 m.id) ∧ uz.cell? ⟨gm, 3, none⟩ = some (.int .u16 m.op) ∧ uz.cell? ⟨gm, 4, none⟩ = some (.int .u16 m.st) ∧ uz.cell? ⟨gm, 5, none⟩ = some (.int .u64 m.p) ∧ uz.cell? ⟨gm, 6, none⟩ = some (.int .u32 m.o) ∧ uz.cell? ⟨gm, 7, none⟩ = some (.int .u8 m.r) ∧ uz.cell? ⟨gm, 8, none⟩ = some (.int .u64 m.c) ∧ uz.cell? ⟨gm, 9, none⟩ = some (.int .u64 m.ar) ∧ uz.cell? ⟨gm, 10, none⟩ = some (.slice so sn sc))) := HMZ.out.all
            refine hKK.out _ _ hS.out (fun _ => ?_)
            clear hKK
            refine wpAnyH_done (by kernel_rfl) ?_ _
            clear z0 z1 z2 z3 z4 z5 z6 z7 z8 z9 z10 y0 y1 y2 y3 y4 y5 y6 y7 y8 y9 y10 huz
            go_wp2_with fail
            go_meet
            exact ⟨ga, co, cc, rfl, HMZ.out, HZZ.out, HTZ.out, below_one HBO.out HBZ.out⟩
  case rest =>
    obtain ⟨ga, co, cc, rfl, hma, hza, hta, hba⟩ := hcut
    have HMA := hide hma
    have HZA := hide hza
    have HTA := hide hta
    have HBA := hide hba
    clear hma hza hta hba
    go_wp2_with fail
    refine (tof_nil 1 _).mono ?_; rintro e t1 ⟨rfl, T1, c1⟩
    obtain ⟨gt, hgt⟩ : ∃ gt, wc.heap.size = gt := ⟨_, rfl⟩
    rw [hgt] at T1 ⊢
    have HMB := hide (HMA.out.grow c1)
    have HZB := hide (HZA.out.grow c1)
    have HBB := hide (below_one HBA.out c1)
    clear T1 c1 hgt
    go_wp2_with fail
    refine (srv_of (some ⟨gt, 0, none⟩) .nilIface (.inl rfl) _).mono ?_; rintro e t2 ⟨rfl, S2, c2⟩
    obtain ⟨gr, hgr⟩ : ∃ gr, t1.heap.size = gr := ⟨_, rfl⟩
    rw [hgr] at S2 ⊢
    have HMC := hide (HMB.out.grow c2)
    have HZC := hide (HZB.out.grow c2)
    have HBC := hide (below_one HBB.out c2)
    have HSC := hide S2
    obtain ⟨k0, k1, k2, k3, k4, k5, k6, k7, k8, k9, k10⟩ := HMC.out.all
    clear S2 c2 hgr
    have hf := fun W hW => srv_fault m (.slice so sn sc) 3 W (by omega) hW m2 H2.out
    rw [show erN (((3 : Nat)) : Int) = .iface 61 (.int .i64 3) from rfl] at hf
    have HF := hide hf
    clear hf
    go_wp2_with fail
    refine (HF.out _ (HGW.out.carry HBC.out)).mono ?_; rintro e t3 ⟨co3, cc3, rfl, B3, c3⟩
    have HMD := hide (HMC.out.grow c3)
    have HZD := hide (HZC.out.grow c3)
    have HBD := hide (below_one HBC.out c3)
    have HSD := hide (HSC.out.grow c3)
    have HTD := hide B3
    clear B3 c3 k0 k1 k2 k3 k4 k5 k6 k7 k8 k9 k10
    obtain ⟨t4, ht4⟩ : ∃ t4, t3.alloc (.cells #[.int .u64 m2.ta, .int .u64 m2.rp, .int .u32 m2.id, .int .u16 m2.op, .int .u16 m2.st, .int .u64 m2.p, .int .u32 m2.o, .int .u8 m2.r, .int .u64 m2.c, .int .u64 m2.ar, .slice co3 0 cc3] 49) = t4 := ⟨_, rfl⟩
    have c4 : Below t3.heap.size t3 t4 := ht4 ▸ below_alloc _ _
    obtain ⟨gw, hgw⟩ : ∃ gw, t3.heap.size = gw := ⟨_, rfl⟩
    have HWE : Hid (MB t4 gw m2 (.slice co3 0 cc3)) := by show MB _ _ _ _; rw [← hgw, ← ht4]; exact mb_new t3 m2 _
    have HME := hide (HMD.out.grow c4)
    have HZE := hide (HZD.out.grow c4)
    have HBE := hide (below_one HBD.out c4)
    have HSE := hide (HSD.out.grow c4)
    have HT1 : Hid (Bts t4 co3 0 cc3 []) := bts_none HTD.out
    have HT2 : Hid (Bts t4 co 0 cc []) := bts_none HTA.out
    go_wp2_with fail
    clear c4 ht4 hgw
    have hS : Hid (((t4.drew.cell? ⟨ga, 0, none⟩ = some (.int .u64 m2.ta) ∧ t4.drew.cell? ⟨ga, 1, none⟩ = some (.int .u64 m2.rp) ∧ t4.drew.cell? ⟨ga, 2, none⟩ = some (.int .u32 m2.id) ∧ t4.drew.cell? ⟨ga, 3, none⟩ = some (.int .u16 m2.op) ∧ t4.drew.cell? ⟨ga, 4, none⟩ = some (.int .u16 m2.st) ∧ t4.drew.cell? ⟨ga, 5, none⟩ = some (.int .u64 m2.p) ∧ t4.drew.cell? ⟨ga, 6, none⟩ = some (.int .u32 m2.o) ∧ t4.drew.cell? ⟨ga, 7, none⟩ = some (.int .u8 m2.r) ∧ t4.drew.cell? ⟨ga, 8, none⟩ = some (.int .u64 m2.c) ∧ t4.drew.cell? ⟨ga, 9, none⟩ = some (.int .u64 m2.ar) ∧ t4.drew.cell? ⟨ga, 10, none⟩ = some (.slice co 0 cc)) ∧ (t4.drew.cell? ⟨gw, 0, none⟩ = some (.int .u64 m2.ta) ∧ t4.drew.cell? ⟨gw, 1, none⟩ = some (.int .u64 m2.rp) ∧ t4.drew.cell? ⟨gw, 2, none⟩ = some (.int .u32 m2.id) ∧ t4.drew.cell? ⟨gw, 3, none⟩ = some (.int .u16 m2.op) ∧ t4.drew.cell? ⟨gw, 4, none⟩ = some (.int .u16 m2.st) ∧ t4.drew.cell? ⟨gw, 5, none⟩ = some (.int .u64 m2.p) ∧ t4.drew.cell? ⟨gw, 6, none⟩ = some (.int .u32 m2.o) ∧ t4.drew.cell? ⟨gw, 7, none⟩ = some (.int .u8 m2.r) ∧ t4.drew.cell? ⟨gw, 8, none⟩ = some (.int .u64 m2.c) ∧ t4.drew.cell? ⟨gw, 9, none⟩ = some (.int .u64 m2.ar) ∧ t4.drew.cell? ⟨gw, 10, none⟩ = some (.slice co3 0 cc3))) ∧ (t4.drew.cell? ⟨gm, 0, none⟩ = some (.int .u64 m.ta) ∧ t4.drew.cell? ⟨gm, 1, none⟩ = some (.int .u64 m.rp) ∧ t4.drew.cell? ⟨gm, 2, none⟩ = some (.int .u32 m.id) ∧ t4.drew.cell? ⟨gm, 3, none⟩ = some (.int .u16 m.op) ∧ t4.drew.cell? ⟨gm, 4, none⟩ = some (.int .u16 m.st) ∧ t4.drew.cell? ⟨gm, 5, none⟩ = some (.int .u64 m.p) ∧ t4.drew.cell? ⟨gm, 6, none⟩ = some (.int .u32 m.o) ∧ t4.drew.cell? ⟨gm, 7, none⟩ = some (.int .u8 m.r) ∧ t4.drew.cell? ⟨gm, 8, none⟩ = some (.int .u64 m.c) ∧ t4.drew.cell? ⟨gm, 9, none⟩ = some (.int .u64 m.ar) ∧ t4.drew.cell? ⟨gm, 10, none⟩ = some (.slice so sn sc))) := ⟨⟨HZE.out.all, HWE.out.all⟩, HME.out.all⟩
    refine wp_region_held_drew (S := fun U => ((U.cell? ⟨ga, 0, none⟩ = some (.int .u64 m2.ta) ∧ U.cell? ⟨ga, 1, none⟩ = some (.int .u64 m2.rp) ∧ U.cell? ⟨ga, 2, none⟩ = some (.int .u32 m2.id) ∧ U.cell? ⟨ga, 3, none⟩ = some (.int .u16 m2.op) ∧ U.cell? ⟨ga, 4, none⟩ = some (.int .u16 m2.st) ∧ U.cell? ⟨ga, 5, none⟩ = some (.int .u64 m2.p) ∧ U.cell? ⟨ga, 6, none⟩ = some (.int .u32 m2.o) ∧ U.cell? ⟨ga, 7, none⟩ = some (.int .u8 m2.r) ∧ U.cell? ⟨ga, 8, none⟩ = some (.int .u64 m2.c) ∧ U.cell? ⟨ga, 9, none⟩ = some (.int .u64 m2.ar) ∧ U.cell? ⟨ga, 10, none⟩ = some (.slice co 0 cc)) ∧ (U.cell? ⟨gw, 0, none⟩ = some (.int .u64 m2.ta) ∧ U.cell? ⟨gw, 1, none⟩ = some (.int .u64 m2.rp) ∧ U.cell? ⟨gw, 2, none⟩ = some (.int .u32 m2.id) ∧ U.cell? ⟨gw, 3, none⟩ = some (.int .u16 m2.op) ∧ U.cell? ⟨gw, 4, none⟩ = some (.int .u16 m2.st) ∧ U.cell? ⟨gw, 5, none⟩ = some (.int .u64 m2.p) ∧ U.cell? ⟨gw, 6, none⟩ = some (.int .u32 m2.o) ∧ U.cell? ⟨gw, 7, none⟩ = some (.int .u8 m2.r) ∧ U.cell? ⟨gw, 8, none⟩ = some (.int .u64 m2.c) ∧ U.cell? ⟨gw, 9, none⟩ = some (.int .u64 m2.ar) ∧ U.cell? ⟨gw, 10, none⟩ = some (.slice co3 0 cc3))) ∧ (U.cell? ⟨gm, 0, none⟩ = some (.int .u64 m.ta) ∧ U.cell? ⟨gm, 1, none⟩ = some (.int .u64 m.rp) ∧ U.cell? ⟨gm, 2, none⟩ = some (.int .u32 m.id) ∧ U.cell? ⟨gm, 3, none⟩ = some (.int .u16 m.op) ∧ U.cell? ⟨gm, 4, none⟩ = some (.int .u16 m.st) ∧ U.cell? ⟨gm, 5, none⟩ = some (.int .u64 m.p) ∧ U.cell? ⟨gm, 6, none⟩ = some (.int .u32 m.o) ∧ U.cell? ⟨gm, 7, none⟩ = some (.int .u8 m.r) ∧ U.cell? ⟨gm, 8, none⟩ = some (.int .u64 m.c) ∧ U.cell? ⟨gm, 9, none⟩ = some (.int .u64 m.ar) ∧ U.cell? ⟨gm, 10, none⟩ = some (.slice so sn sc))) (by kernel_rfl) hS.out (fun _ => ?_)
    have HB5 := hide (show Below w.heap.size w t4.drew from below_one HBE.out (below_d t4 1))
    have HZ5 := hide (show MB t4.drew _ _ _ from HZE.out)
    have HW5 := hide (show MB t4.drew _ _ _ from HWE.out)
    have HM5 := hide (show MB t4.drew _ _ _ from HME.out)
    have HS5 := hide (show Sa t4.drew _ _ _ from HSE.out)
    have HA5 := hide (show Bts t4.drew co3 0 cc3 [] from HT1.out)
    have HC5 := hide (show Bts t4.drew co 0 cc [] from HT2.out)
    have HSM : Hid (sameD m2 m2 [] [] = true) := sameD_iff.2 ⟨rfl, rfl⟩
    generalize t4.drew = t5 at hS HB5 HZ5 HW5 HM5 HS5 HA5 HC5 ⊢
    refine wpAnyH_take (i := 0) (oi := { dst := some 19, op := Op.load 49 (Operand.tmp 3), type := 49, pos := "law.go:217", after := #[], guard := none }) (v := (.agg #[.int .u64 (m2.ta : Int), .int .u64 (m2.rp : Int), .int .u32 (m2.id : Int), .int .u16 (m2.op : Int), .int .u16 (m2.st : Int), .int .u64 (m2.p : Int), .int .u32 (m2.o : Int), .int .u8 (m2.r : Int), .int .u64 (m2.c : Int), .int .u64 (m2.ar : Int), .slice co 0 cc])) rfl (by kernel_rfl) (by kernel_rfl) (by kernel_rfl) (fun _ _ _ h => h) (Or.inl ⟨by kernel_rfl, fun w hC => by (obtain ⟨⟨⟨a0, a1, a2, a3, a4, a5, a6, a7, a8, a9, a10⟩, b0, b1, b2, b3, b4, b5, b6, b7, b8, b9, b10⟩, k0, k1, k2, k3, k4, k5, k6, k7, k8, k9, k10⟩ := hC; go_simp)⟩) hS.out ?_
    simp only [Act.put, List.setIfInBounds_toArray, List.set_cons_zero, List.set_cons_succ]
    refine wpAnyH_take (i := 1) (oi := { dst := some 20, op := Op.load 49 (Operand.tmp 5), type := 49, pos := "law.go:217", after := #[], guard := none }) (v := (.agg #[.int .u64 (m2.ta : Int), .int .u64 (m2.rp : Int), .int .u32 (m2.id : Int), .int .u16 (m2.op : Int), .int .u16 (m2.st : Int), .int .u64 (m2.p : Int), .int .u32 (m2.o : Int), .int .u8 (m2.r : Int), .int .u64 (m2.c : Int), .int .u64 (m2.ar : Int), .slice co3 0 cc3])) rfl (by kernel_rfl) (by kernel_rfl) (by kernel_rfl) (fun _ _ _ h => h) (Or.inl ⟨by kernel_rfl, fun w hC => by (obtain ⟨⟨⟨a0, a1, a2, a3, a4, a5, a6, a7, a8, a9, a10⟩, b0, b1, b2, b3, b4, b5, b6, b7, b8, b9, b10⟩, k0, k1, k2, k3, k4, k5, k6, k7, k8, k9, k10⟩ := hC; go_simp)⟩) hS.out ?_
    simp only [Act.put, List.setIfInBounds_toArray, List.set_cons_zero, List.set_cons_succ]
    refine wpAnyH_ready (rs := [2]) (by kernel_rfl) (by simp) ?_
    refine AllReadyH.cons (o := { dst := some 21, op := Op.call { callee := Callee.value (Operand.func 16), args := #[Operand.tmp 19, Operand.tmp 20], argTypes := #[49, 49] }, type := 4, pos := "law.go:217", after := #[{ on := 0, ground := Ground.data }, { on := 1, ground := Ground.data }], guard := none }) rfl (fun KK hKK => ?_) AllReadyH.nil
    go_simp
    refine (same_any m2 m2 co 0 cc [] co3 0 cc3 [] _ HC5.out HA5.out).mono ?_; rw [HSM.out]; rintro e t6 ⟨rfl, cx⟩
    have HB6 := hide (below_one HB5.out cx)
    have HZ6 := hide (HZ5.out.grow cx)
    have HW6 := hide (HW5.out.grow cx)
    have HM6 := hide (HM5.out.grow cx)
    have HS6 := hide (HS5.out.grow cx)
    have HA6 : Hid (Bts t6 co3 0 cc3 []) := bts_none HA5.out
    have HC6 : Hid (Bts t6 co 0 cc []) := bts_none HC5.out
    clear cx
    have hS : Hid (((t6.cell? ⟨ga, 0, none⟩ = some (.int .u64 m2.ta) ∧ t6.cell? ⟨ga, 1, none⟩ = some (.int .u64 m2.rp) ∧ t6.cell? ⟨ga, 2, none⟩ = some (.int .u32 m2.id) ∧ t6.cell? ⟨ga, 3, none⟩ = some (.int .u16 m2.op) ∧ t6.cell? ⟨ga, 4, none⟩ = some (.int .u16 m2.st) ∧ t6.cell? ⟨ga, 5, none⟩ = some (.int .u64 m2.p) ∧ t6.cell? ⟨ga, 6, none⟩ = some (.int .u32 m2.o) ∧ t6.cell? ⟨ga, 7, none⟩ = some (.int .u8 m2.r) ∧ t6.cell? ⟨ga, 8, none⟩ = some (.int .u64 m2.c) ∧ t6.cell? ⟨ga, 9, none⟩ = some (.int .u64 m2.ar) ∧ t6.cell? ⟨ga, 10, none⟩ = some (.slice co 0 cc)) ∧ (t6.cell? ⟨gw, 0, none⟩ = some (.int .u64 m2.ta) ∧ t6.cell? ⟨gw, 1, none⟩ = some (.int .u64 m2.rp) ∧ t6.cell? ⟨gw, 2, none⟩ = some (.int .u32 m2.id) ∧ t6.cell? ⟨gw, 3, none⟩ = some (.int .u16 m2.op) ∧ t6.cell? ⟨gw, 4, none⟩ = some (.int .u16 m2.st) ∧ t6.cell? ⟨gw, 5, none⟩ = some (.int .u64 m2.p) ∧ t6.cell? ⟨gw, 6, none⟩ = some (.int .u32 m2.o) ∧ t6.cell? ⟨gw, 7, none⟩ = some (.int .u8 m2.r) ∧ t6.cell? ⟨gw, 8, none⟩ = some (.int .u64 m2.c) ∧ t6.cell? ⟨gw, 9, none⟩ = some (.int .u64 m2.ar) ∧ t6.cell? ⟨gw, 10, none⟩ = some (.slice co3 0 cc3))) ∧ (t6.cell? ⟨gm, 0, none⟩ = some (.int .u64 m.ta) ∧ t6.cell? ⟨gm, 1, none⟩ = some (.int .u64 m.rp) ∧ t6.cell? ⟨gm, 2, none⟩ = some (.int .u32 m.id) ∧ t6.cell? ⟨gm, 3, none⟩ = some (.int .u16 m.op) ∧ t6.cell? ⟨gm, 4, none⟩ = some (.int .u16 m.st) ∧ t6.cell? ⟨gm, 5, none⟩ = some (.int .u64 m.p) ∧ t6.cell? ⟨gm, 6, none⟩ = some (.int .u32 m.o) ∧ t6.cell? ⟨gm, 7, none⟩ = some (.int .u8 m.r) ∧ t6.cell? ⟨gm, 8, none⟩ = some (.int .u64 m.c) ∧ t6.cell? ⟨gm, 9, none⟩ = some (.int .u64 m.ar) ∧ t6.cell? ⟨gm, 10, none⟩ = some (.slice so sn sc))) := ⟨⟨HZ6.out.all, HW6.out.all⟩, HM6.out.all⟩
    refine hKK.out _ _ hS.out (fun _ => ?_)
    clear hKK
    refine wpAnyH_take (i := 3) (oi := { dst := some 22, op := Op.move (Operand.tmp 21), type := 4, pos := "law.go:217", after := #[{ on := 2, ground := Ground.data }, { on := 2, ground := Ground.chain }], guard := none }) (v := (.bool true)) rfl (by kernel_rfl) (by kernel_rfl) (by kernel_rfl) (fun _ _ _ h => h) (Or.inl ⟨by kernel_rfl, fun w hC => by go_simp⟩) hS.out ?_
    simp only [Act.put, List.setIfInBounds_toArray, List.set_cons_zero, List.set_cons_succ]
    refine wpAnyH_take (i := 4) (oi := { dst := some 23, op := Op.move (Operand.tmp 4), type := 36, pos := "law.go:217", after := #[{ on := 3, ground := Ground.guard }], guard := some (3, true) }) (v := (.pointer (some ⟨gr, 0, none⟩))) rfl (by kernel_rfl) (by kernel_rfl) (by kernel_rfl) (fun _ _ _ h => h) (Or.inl ⟨by kernel_rfl, fun w hC => by go_simp⟩) hS.out ?_
    simp only [Act.put, List.setIfInBounds_toArray, List.set_cons_zero, List.set_cons_succ]
    refine wpAnyH_take (i := 5) (oi := { dst := some 24, op := Op.load 49 (Operand.tmp 1), type := 49, pos := "law.go:217", after := #[{ on := 3, ground := Ground.guard }], guard := some (3, true) }) (v := (.agg #[.int .u64 (m.ta : Int), .int .u64 (m.rp : Int), .int .u32 (m.id : Int), .int .u16 (m.op : Int), .int .u16 (m.st : Int), .int .u64 (m.p : Int), .int .u32 (m.o : Int), .int .u8 (m.r : Int), .int .u64 (m.c : Int), .int .u64 (m.ar : Int), .slice so sn sc])) rfl (by kernel_rfl) (by kernel_rfl) (by kernel_rfl) (fun _ _ _ h => h) (Or.inl ⟨by kernel_rfl, fun w hC => by (obtain ⟨⟨⟨a0, a1, a2, a3, a4, a5, a6, a7, a8, a9, a10⟩, b0, b1, b2, b3, b4, b5, b6, b7, b8, b9, b10⟩, k0, k1, k2, k3, k4, k5, k6, k7, k8, k9, k10⟩ := hC; go_simp)⟩) hS.out ?_
    simp only [Act.put, List.setIfInBounds_toArray, List.set_cons_zero, List.set_cons_succ]
    refine wpAnyH_take (i := 7) (oi := { dst := some 26, op := Op.load 49 (Operand.tmp 5), type := 49, pos := "law.go:217", after := #[{ on := 3, ground := Ground.guard }], guard := some (3, true) }) (v := (.agg #[.int .u64 (m2.ta : Int), .int .u64 (m2.rp : Int), .int .u32 (m2.id : Int), .int .u16 (m2.op : Int), .int .u16 (m2.st : Int), .int .u64 (m2.p : Int), .int .u32 (m2.o : Int), .int .u8 (m2.r : Int), .int .u64 (m2.c : Int), .int .u64 (m2.ar : Int), .slice co3 0 cc3])) rfl (by kernel_rfl) (by kernel_rfl) (by kernel_rfl) (fun _ _ _ h => h) (Or.inl ⟨by kernel_rfl, fun w hC => by (obtain ⟨⟨⟨a0, a1, a2, a3, a4, a5, a6, a7, a8, a9, a10⟩, b0, b1, b2, b3, b4, b5, b6, b7, b8, b9, b10⟩, k0, k1, k2, k3, k4, k5, k6, k7, k8, k9, k10⟩ := hC; go_simp)⟩) hS.out ?_
    simp only [Act.put, List.setIfInBounds_toArray, List.set_cons_zero, List.set_cons_succ]
    refine wpAnyH_ready (rs := [6]) (by kernel_rfl) (by simp) ?_
    refine AllReadyH.cons (o := { dst := some 25, op := Op.call { callee := Callee.value (Operand.func 14), args := #[Operand.tmp 23, Operand.tmp 24], argTypes := #[36, 49] }, type := 49, pos := "law.go:217", after := #[{ on := 4, ground := Ground.data }, { on := 5, ground := Ground.data }, { on := 3, ground := Ground.chain }, { on := 3, ground := Ground.guard }], guard := some (3, true) }) rfl (fun KK hKK => ?_) AllReadyH.nil
    go_simp
    refine (serve_none m m2 (.slice so sn sc) _ HS6.out (.inr ⟨⟨_, rfl⟩, rfl⟩) (HGW.out.carry HB6.out) H2.out).mono ?_; rintro e t7 ⟨co7, cc7, rfl, B7, cx⟩
    have HT7 := hide B7
    have HB7 := hide (below_one HB6.out cx)
    have HZ7 := hide (HZ6.out.grow cx)
    have HW7 := hide (HW6.out.grow cx)
    have HM7 := hide (HM6.out.grow cx)
    have HS7 := hide (HS6.out.grow cx)
    have HA7 : Hid (Bts t7 co3 0 cc3 []) := bts_none HA6.out
    have HC7 : Hid (Bts t7 co 0 cc []) := bts_none HC6.out
    clear cx B7
    have hS : Hid (((t7.cell? ⟨ga, 0, none⟩ = some (.int .u64 m2.ta) ∧ t7.cell? ⟨ga, 1, none⟩ = some (.int .u64 m2.rp) ∧ t7.cell? ⟨ga, 2, none⟩ = some (.int .u32 m2.id) ∧ t7.cell? ⟨ga, 3, none⟩ = some (.int .u16 m2.op) ∧ t7.cell? ⟨ga, 4, none⟩ = some (.int .u16 m2.st) ∧ t7.cell? ⟨ga, 5, none⟩ = some (.int .u64 m2.p) ∧ t7.cell? ⟨ga, 6, none⟩ = some (.int .u32 m2.o) ∧ t7.cell? ⟨ga, 7, none⟩ = some (.int .u8 m2.r) ∧ t7.cell? ⟨ga, 8, none⟩ = some (.int .u64 m2.c) ∧ t7.cell? ⟨ga, 9, none⟩ = some (.int .u64 m2.ar) ∧ t7.cell? ⟨ga, 10, none⟩ = some (.slice co 0 cc)) ∧ (t7.cell? ⟨gw, 0, none⟩ = some (.int .u64 m2.ta) ∧ t7.cell? ⟨gw, 1, none⟩ = some (.int .u64 m2.rp) ∧ t7.cell? ⟨gw, 2, none⟩ = some (.int .u32 m2.id) ∧ t7.cell? ⟨gw, 3, none⟩ = some (.int .u16 m2.op) ∧ t7.cell? ⟨gw, 4, none⟩ = some (.int .u16 m2.st) ∧ t7.cell? ⟨gw, 5, none⟩ = some (.int .u64 m2.p) ∧ t7.cell? ⟨gw, 6, none⟩ = some (.int .u32 m2.o) ∧ t7.cell? ⟨gw, 7, none⟩ = some (.int .u8 m2.r) ∧ t7.cell? ⟨gw, 8, none⟩ = some (.int .u64 m2.c) ∧ t7.cell? ⟨gw, 9, none⟩ = some (.int .u64 m2.ar) ∧ t7.cell? ⟨gw, 10, none⟩ = some (.slice co3 0 cc3))) ∧ (t7.cell? ⟨gm, 0, none⟩ = some (.int .u64 m.ta) ∧ t7.cell? ⟨gm, 1, none⟩ = some (.int .u64 m.rp) ∧ t7.cell? ⟨gm, 2, none⟩ = some (.int .u32 m.id) ∧ t7.cell? ⟨gm, 3, none⟩ = some (.int .u16 m.op) ∧ t7.cell? ⟨gm, 4, none⟩ = some (.int .u16 m.st) ∧ t7.cell? ⟨gm, 5, none⟩ = some (.int .u64 m.p) ∧ t7.cell? ⟨gm, 6, none⟩ = some (.int .u32 m.o) ∧ t7.cell? ⟨gm, 7, none⟩ = some (.int .u8 m.r) ∧ t7.cell? ⟨gm, 8, none⟩ = some (.int .u64 m.c) ∧ t7.cell? ⟨gm, 9, none⟩ = some (.int .u64 m.ar) ∧ t7.cell? ⟨gm, 10, none⟩ = some (.slice so sn sc))) := ⟨⟨HZ7.out.all, HW7.out.all⟩, HM7.out.all⟩
    refine hKK.out _ _ hS.out (fun _ => ?_)
    clear hKK
    refine wpAnyH_ready (rs := [8]) (by kernel_rfl) (by simp) ?_
    refine AllReadyH.cons (o := { dst := some 27, op := Op.call { callee := Callee.value (Operand.func 16), args := #[Operand.tmp 25, Operand.tmp 26], argTypes := #[49, 49] }, type := 4, pos := "law.go:217", after := #[{ on := 6, ground := Ground.data }, { on := 7, ground := Ground.data }, { on := 6, ground := Ground.chain }, { on := 3, ground := Ground.guard }], guard := some (3, true) }) rfl (fun KK hKK => ?_) AllReadyH.nil
    go_simp
    refine (same_any m2 m2 co7 0 cc7 [] co3 0 cc3 [] _ HT7.out HA7.out).mono ?_; rw [HSM.out]; rintro e t8 ⟨rfl, cx⟩
    have HB8 := hide (below_one HB7.out cx)
    have HZ8 := hide (HZ7.out.grow cx)
    have HW8 := hide (HW7.out.grow cx)
    have HM8 := hide (HM7.out.grow cx)
    have HS8 := hide (HS7.out.grow cx)
    have HA8 : Hid (Bts t8 co3 0 cc3 []) := bts_none HA7.out
    have HC8 : Hid (Bts t8 co 0 cc []) := bts_none HC7.out
    clear cx
    have hS : Hid (((t8.cell? ⟨ga, 0, none⟩ = some (.int .u64 m2.ta) ∧ t8.cell? ⟨ga, 1, none⟩ = some (.int .u64 m2.rp) ∧ t8.cell? ⟨ga, 2, none⟩ = some (.int .u32 m2.id) ∧ t8.cell? ⟨ga, 3, none⟩ = some (.int .u16 m2.op) ∧ t8.cell? ⟨ga, 4, none⟩ = some (.int .u16 m2.st) ∧ t8.cell? ⟨ga, 5, none⟩ = some (.int .u64 m2.p) ∧ t8.cell? ⟨ga, 6, none⟩ = some (.int .u32 m2.o) ∧ t8.cell? ⟨ga, 7, none⟩ = some (.int .u8 m2.r) ∧ t8.cell? ⟨ga, 8, none⟩ = some (.int .u64 m2.c) ∧ t8.cell? ⟨ga, 9, none⟩ = some (.int .u64 m2.ar) ∧ t8.cell? ⟨ga, 10, none⟩ = some (.slice co 0 cc)) ∧ (t8.cell? ⟨gw, 0, none⟩ = some (.int .u64 m2.ta) ∧ t8.cell? ⟨gw, 1, none⟩ = some (.int .u64 m2.rp) ∧ t8.cell? ⟨gw, 2, none⟩ = some (.int .u32 m2.id) ∧ t8.cell? ⟨gw, 3, none⟩ = some (.int .u16 m2.op) ∧ t8.cell? ⟨gw, 4, none⟩ = some (.int .u16 m2.st) ∧ t8.cell? ⟨gw, 5, none⟩ = some (.int .u64 m2.p) ∧ t8.cell? ⟨gw, 6, none⟩ = some (.int .u32 m2.o) ∧ t8.cell? ⟨gw, 7, none⟩ = some (.int .u8 m2.r) ∧ t8.cell? ⟨gw, 8, none⟩ = some (.int .u64 m2.c) ∧ t8.cell? ⟨gw, 9, none⟩ = some (.int .u64 m2.ar) ∧ t8.cell? ⟨gw, 10, none⟩ = some (.slice co3 0 cc3))) ∧ (t8.cell? ⟨gm, 0, none⟩ = some (.int .u64 m.ta) ∧ t8.cell? ⟨gm, 1, none⟩ = some (.int .u64 m.rp) ∧ t8.cell? ⟨gm, 2, none⟩ = some (.int .u32 m.id) ∧ t8.cell? ⟨gm, 3, none⟩ = some (.int .u16 m.op) ∧ t8.cell? ⟨gm, 4, none⟩ = some (.int .u16 m.st) ∧ t8.cell? ⟨gm, 5, none⟩ = some (.int .u64 m.p) ∧ t8.cell? ⟨gm, 6, none⟩ = some (.int .u32 m.o) ∧ t8.cell? ⟨gm, 7, none⟩ = some (.int .u8 m.r) ∧ t8.cell? ⟨gm, 8, none⟩ = some (.int .u64 m.c) ∧ t8.cell? ⟨gm, 9, none⟩ = some (.int .u64 m.ar) ∧ t8.cell? ⟨gm, 10, none⟩ = some (.slice so sn sc))) := ⟨⟨HZ8.out.all, HW8.out.all⟩, HM8.out.all⟩
    refine hKK.out _ _ hS.out (fun _ => ?_)
    clear hKK
    refine wpAnyH_take (i := 9) (oi := { dst := some 28, op := Op.pick (Operand.tmp 22) (Operand.tmp 27) (Operand.const (Value.bool false)), type := 4, pos := "law.go:217", after := #[{ on := 3, ground := Ground.data }, { on := 8, ground := Ground.data }], guard := none }) (v := (.bool true)) rfl (by kernel_rfl) (by kernel_rfl) (by kernel_rfl) (fun _ _ _ h => h) (Or.inl ⟨by kernel_rfl, fun w hC => by go_simp⟩) hS.out ?_
    simp only [Act.put, List.setIfInBounds_toArray, List.set_cons_zero, List.set_cons_succ]
    refine wpAnyH_take (i := 10) (oi := { dst := some 29, op := Op.move (Operand.tmp 28), type := 4, pos := "law.go:217", after := #[{ on := 9, ground := Ground.data }, { on := 8, ground := Ground.chain }], guard := none }) (v := (.bool true)) rfl (by kernel_rfl) (by kernel_rfl) (by kernel_rfl) (fun _ _ _ h => h) (Or.inl ⟨by kernel_rfl, fun w hC => by go_simp⟩) hS.out ?_
    simp only [Act.put, List.setIfInBounds_toArray, List.set_cons_zero, List.set_cons_succ]
    refine wpAnyH_take (i := 11) (oi := { dst := some 30, op := Op.move (Operand.tmp 4), type := 36, pos := "law.go:217", after := #[{ on := 10, ground := Ground.guard }], guard := some (10, true) }) (v := (.pointer (some ⟨gr, 0, none⟩))) rfl (by kernel_rfl) (by kernel_rfl) (by kernel_rfl) (fun _ _ _ h => h) (Or.inl ⟨by kernel_rfl, fun w hC => by go_simp⟩) hS.out ?_
    simp only [Act.put, List.setIfInBounds_toArray, List.set_cons_zero, List.set_cons_succ]
    refine wpAnyH_ready (rs := [12]) (by kernel_rfl) (by simp) ?_
    refine AllReadyH.cons (o := { dst := some 31, op := Op.call { callee := Callee.value (Operand.func 17), args := #[Operand.tmp 30], argTypes := #[36] }, type := 3, pos := "law.go:217", after := #[{ on := 11, ground := Ground.data }, { on := 10, ground := Ground.chain }, { on := 10, ground := Ground.guard }], guard := some (10, true) }) rfl (fun KK hKK => ?_) AllReadyH.nil
    go_simp
    refine (age_whole HS8.out (.inr ⟨⟨_, rfl⟩, rfl⟩)).mono ?_; rintro e t9 ⟨rfl, ht9⟩; subst ht9
    have hS : Hid (((t9.cell? ⟨ga, 0, none⟩ = some (.int .u64 m2.ta) ∧ t9.cell? ⟨ga, 1, none⟩ = some (.int .u64 m2.rp) ∧ t9.cell? ⟨ga, 2, none⟩ = some (.int .u32 m2.id) ∧ t9.cell? ⟨ga, 3, none⟩ = some (.int .u16 m2.op) ∧ t9.cell? ⟨ga, 4, none⟩ = some (.int .u16 m2.st) ∧ t9.cell? ⟨ga, 5, none⟩ = some (.int .u64 m2.p) ∧ t9.cell? ⟨ga, 6, none⟩ = some (.int .u32 m2.o) ∧ t9.cell? ⟨ga, 7, none⟩ = some (.int .u8 m2.r) ∧ t9.cell? ⟨ga, 8, none⟩ = some (.int .u64 m2.c) ∧ t9.cell? ⟨ga, 9, none⟩ = some (.int .u64 m2.ar) ∧ t9.cell? ⟨ga, 10, none⟩ = some (.slice co 0 cc)) ∧ (t9.cell? ⟨gw, 0, none⟩ = some (.int .u64 m2.ta) ∧ t9.cell? ⟨gw, 1, none⟩ = some (.int .u64 m2.rp) ∧ t9.cell? ⟨gw, 2, none⟩ = some (.int .u32 m2.id) ∧ t9.cell? ⟨gw, 3, none⟩ = some (.int .u16 m2.op) ∧ t9.cell? ⟨gw, 4, none⟩ = some (.int .u16 m2.st) ∧ t9.cell? ⟨gw, 5, none⟩ = some (.int .u64 m2.p) ∧ t9.cell? ⟨gw, 6, none⟩ = some (.int .u32 m2.o) ∧ t9.cell? ⟨gw, 7, none⟩ = some (.int .u8 m2.r) ∧ t9.cell? ⟨gw, 8, none⟩ = some (.int .u64 m2.c) ∧ t9.cell? ⟨gw, 9, none⟩ = some (.int .u64 m2.ar) ∧ t9.cell? ⟨gw, 10, none⟩ = some (.slice co3 0 cc3))) ∧ (t9.cell? ⟨gm, 0, none⟩ = some (.int .u64 m.ta) ∧ t9.cell? ⟨gm, 1, none⟩ = some (.int .u64 m.rp) ∧ t9.cell? ⟨gm, 2, none⟩ = some (.int .u32 m.id) ∧ t9.cell? ⟨gm, 3, none⟩ = some (.int .u16 m.op) ∧ t9.cell? ⟨gm, 4, none⟩ = some (.int .u16 m.st) ∧ t9.cell? ⟨gm, 5, none⟩ = some (.int .u64 m.p) ∧ t9.cell? ⟨gm, 6, none⟩ = some (.int .u32 m.o) ∧ t9.cell? ⟨gm, 7, none⟩ = some (.int .u8 m.r) ∧ t9.cell? ⟨gm, 8, none⟩ = some (.int .u64 m.c) ∧ t9.cell? ⟨gm, 9, none⟩ = some (.int .u64 m.ar) ∧ t9.cell? ⟨gm, 10, none⟩ = some (.slice so sn sc))) := ⟨⟨HZ8.out.all, HW8.out.all⟩, HM8.out.all⟩
    refine hKK.out _ _ hS.out (fun _ => ?_)
    clear hKK
    refine wpAnyH_take (i := 13) (oi := { dst := some 32, op := Op.binOp BinOp.eql 3 (Operand.tmp 31) (Operand.const (Value.int IntKind.i64 0)) 3, type := 4, pos := "law.go:217", after := #[{ on := 12, ground := Ground.data }, { on := 10, ground := Ground.guard }], guard := some (10, true) }) (v := (.bool true)) rfl (by kernel_rfl) (by kernel_rfl) (by kernel_rfl) (fun _ _ _ h => h) (Or.inl ⟨by kernel_rfl, fun w hC => by go_simp⟩) hS.out ?_
    simp only [Act.put, List.setIfInBounds_toArray, List.set_cons_zero, List.set_cons_succ]
    refine wpAnyH_take (i := 14) (oi := { dst := some 33, op := Op.pick (Operand.tmp 29) (Operand.tmp 32) (Operand.const (Value.bool false)), type := 4, pos := "law.go:217", after := #[{ on := 10, ground := Ground.data }, { on := 13, ground := Ground.data }], guard := none }) (v := (.bool true)) rfl (by kernel_rfl) (by kernel_rfl) (by kernel_rfl) (fun _ _ _ h => h) (Or.inl ⟨by kernel_rfl, fun w hC => by go_simp⟩) hS.out ?_
    simp only [Act.put, List.setIfInBounds_toArray, List.set_cons_zero, List.set_cons_succ]
    refine wpAnyH_take (i := 15) (oi := { dst := some 34, op := Op.move (Operand.tmp 33), type := 4, pos := "law.go:217", after := #[{ on := 14, ground := Ground.data }, { on := 12, ground := Ground.chain }], guard := none }) (v := (.bool true)) rfl (by kernel_rfl) (by kernel_rfl) (by kernel_rfl) (fun _ _ _ h => h) (Or.inl ⟨by kernel_rfl, fun w hC => by go_simp⟩) hS.out ?_
    simp only [Act.put, List.setIfInBounds_toArray, List.set_cons_zero, List.set_cons_succ]
    refine wpAnyH_ready (rs := [16]) (by kernel_rfl) (by simp) ?_
    refine AllReadyH.cons (o := { dst := some 35, op := Op.call { callee := Callee.value (Operand.func 11), args := #[Operand.const (Value.pointer none), Operand.const Value.nilIface], argTypes := #[25, 79] }, type := 36, pos := "law.go:217", after := #[{ on := 15, ground := Ground.chain }, { on := 15, ground := Ground.guard }], guard := some (15, true) }) rfl (fun KK hKK => ?_) AllReadyH.nil
    go_simp
    refine (srv_of none .nilIface (.inl rfl) _).mono ?_; rintro e t10 ⟨rfl, S10, cx⟩
    obtain ⟨gn, hgn⟩ : ∃ gn, t9.heap.size = gn := ⟨_, rfl⟩
    rw [hgn] at S10 ⊢
    have HN10 := hide S10
    have HB10 := hide (below_one HB8.out cx)
    have HZ10 := hide (HZ8.out.grow cx)
    have HW10 := hide (HW8.out.grow cx)
    have HM10 := hide (HM8.out.grow cx)
    clear S10 cx hgn
    have hS : Hid (((t10.cell? ⟨ga, 0, none⟩ = some (.int .u64 m2.ta) ∧ t10.cell? ⟨ga, 1, none⟩ = some (.int .u64 m2.rp) ∧ t10.cell? ⟨ga, 2, none⟩ = some (.int .u32 m2.id) ∧ t10.cell? ⟨ga, 3, none⟩ = some (.int .u16 m2.op) ∧ t10.cell? ⟨ga, 4, none⟩ = some (.int .u16 m2.st) ∧ t10.cell? ⟨ga, 5, none⟩ = some (.int .u64 m2.p) ∧ t10.cell? ⟨ga, 6, none⟩ = some (.int .u32 m2.o) ∧ t10.cell? ⟨ga, 7, none⟩ = some (.int .u8 m2.r) ∧ t10.cell? ⟨ga, 8, none⟩ = some (.int .u64 m2.c) ∧ t10.cell? ⟨ga, 9, none⟩ = some (.int .u64 m2.ar) ∧ t10.cell? ⟨ga, 10, none⟩ = some (.slice co 0 cc)) ∧ (t10.cell? ⟨gw, 0, none⟩ = some (.int .u64 m2.ta) ∧ t10.cell? ⟨gw, 1, none⟩ = some (.int .u64 m2.rp) ∧ t10.cell? ⟨gw, 2, none⟩ = some (.int .u32 m2.id) ∧ t10.cell? ⟨gw, 3, none⟩ = some (.int .u16 m2.op) ∧ t10.cell? ⟨gw, 4, none⟩ = some (.int .u16 m2.st) ∧ t10.cell? ⟨gw, 5, none⟩ = some (.int .u64 m2.p) ∧ t10.cell? ⟨gw, 6, none⟩ = some (.int .u32 m2.o) ∧ t10.cell? ⟨gw, 7, none⟩ = some (.int .u8 m2.r) ∧ t10.cell? ⟨gw, 8, none⟩ = some (.int .u64 m2.c) ∧ t10.cell? ⟨gw, 9, none⟩ = some (.int .u64 m2.ar) ∧ t10.cell? ⟨gw, 10, none⟩ = some (.slice co3 0 cc3))) ∧ (t10.cell? ⟨gm, 0, none⟩ = some (.int .u64 m.ta) ∧ t10.cell? ⟨gm, 1, none⟩ = some (.int .u64 m.rp) ∧ t10.cell? ⟨gm, 2, none⟩ = some (.int .u32 m.id) ∧ t10.cell? ⟨gm, 3, none⟩ = some (.int .u16 m.op) ∧ t10.cell? ⟨gm, 4, none⟩ = some (.int .u16 m.st) ∧ t10.cell? ⟨gm, 5, none⟩ = some (.int .u64 m.p) ∧ t10.cell? ⟨gm, 6, none⟩ = some (.int .u32 m.o) ∧ t10.cell? ⟨gm, 7, none⟩ = some (.int .u8 m.r) ∧ t10.cell? ⟨gm, 8, none⟩ = some (.int .u64 m.c) ∧ t10.cell? ⟨gm, 9, none⟩ = some (.int .u64 m.ar) ∧ t10.cell? ⟨gm, 10, none⟩ = some (.slice so sn sc))) := ⟨⟨HZ10.out.all, HW10.out.all⟩, HM10.out.all⟩
    refine hKK.out _ _ hS.out (fun _ => ?_)
    clear hKK
    refine wpAnyH_ready (rs := [17]) (by kernel_rfl) (by simp) ?_
    refine AllReadyH.cons (o := { dst := some 36, op := Op.call { callee := Callee.value (Operand.func 17), args := #[Operand.tmp 35], argTypes := #[36] }, type := 3, pos := "law.go:217", after := #[{ on := 16, ground := Ground.data }, { on := 16, ground := Ground.chain }, { on := 15, ground := Ground.guard }], guard := some (15, true) }) rfl (fun KK hKK => ?_) AllReadyH.nil
    go_simp
    refine (age_whole HN10.out (.inl rfl)).mono ?_; rintro e t11 ⟨rfl, ht11⟩; subst ht11
    have hS : Hid (((t11.cell? ⟨ga, 0, none⟩ = some (.int .u64 m2.ta) ∧ t11.cell? ⟨ga, 1, none⟩ = some (.int .u64 m2.rp) ∧ t11.cell? ⟨ga, 2, none⟩ = some (.int .u32 m2.id) ∧ t11.cell? ⟨ga, 3, none⟩ = some (.int .u16 m2.op) ∧ t11.cell? ⟨ga, 4, none⟩ = some (.int .u16 m2.st) ∧ t11.cell? ⟨ga, 5, none⟩ = some (.int .u64 m2.p) ∧ t11.cell? ⟨ga, 6, none⟩ = some (.int .u32 m2.o) ∧ t11.cell? ⟨ga, 7, none⟩ = some (.int .u8 m2.r) ∧ t11.cell? ⟨ga, 8, none⟩ = some (.int .u64 m2.c) ∧ t11.cell? ⟨ga, 9, none⟩ = some (.int .u64 m2.ar) ∧ t11.cell? ⟨ga, 10, none⟩ = some (.slice co 0 cc)) ∧ (t11.cell? ⟨gw, 0, none⟩ = some (.int .u64 m2.ta) ∧ t11.cell? ⟨gw, 1, none⟩ = some (.int .u64 m2.rp) ∧ t11.cell? ⟨gw, 2, none⟩ = some (.int .u32 m2.id) ∧ t11.cell? ⟨gw, 3, none⟩ = some (.int .u16 m2.op) ∧ t11.cell? ⟨gw, 4, none⟩ = some (.int .u16 m2.st) ∧ t11.cell? ⟨gw, 5, none⟩ = some (.int .u64 m2.p) ∧ t11.cell? ⟨gw, 6, none⟩ = some (.int .u32 m2.o) ∧ t11.cell? ⟨gw, 7, none⟩ = some (.int .u8 m2.r) ∧ t11.cell? ⟨gw, 8, none⟩ = some (.int .u64 m2.c) ∧ t11.cell? ⟨gw, 9, none⟩ = some (.int .u64 m2.ar) ∧ t11.cell? ⟨gw, 10, none⟩ = some (.slice co3 0 cc3))) ∧ (t11.cell? ⟨gm, 0, none⟩ = some (.int .u64 m.ta) ∧ t11.cell? ⟨gm, 1, none⟩ = some (.int .u64 m.rp) ∧ t11.cell? ⟨gm, 2, none⟩ = some (.int .u32 m.id) ∧ t11.cell? ⟨gm, 3, none⟩ = some (.int .u16 m.op) ∧ t11.cell? ⟨gm, 4, none⟩ = some (.int .u16 m.st) ∧ t11.cell? ⟨gm, 5, none⟩ = some (.int .u64 m.p) ∧ t11.cell? ⟨gm, 6, none⟩ = some (.int .u32 m.o) ∧ t11.cell? ⟨gm, 7, none⟩ = some (.int .u8 m.r) ∧ t11.cell? ⟨gm, 8, none⟩ = some (.int .u64 m.c) ∧ t11.cell? ⟨gm, 9, none⟩ = some (.int .u64 m.ar) ∧ t11.cell? ⟨gm, 10, none⟩ = some (.slice so sn sc))) := ⟨⟨HZ10.out.all, HW10.out.all⟩, HM10.out.all⟩
    refine hKK.out _ _ hS.out (fun _ => ?_)
    clear hKK
    refine wpAnyH_take (i := 18) (oi := { dst := some 37, op := Op.binOp BinOp.eql 3 (Operand.tmp 36) (Operand.const (Value.int IntKind.i64 0)) 3, type := 4, pos := "law.go:217", after := #[{ on := 17, ground := Ground.data }, { on := 15, ground := Ground.guard }], guard := some (15, true) }) (v := (.bool true)) rfl (by kernel_rfl) (by kernel_rfl) (by kernel_rfl) (fun _ _ _ h => h) (Or.inl ⟨by kernel_rfl, fun w hC => by go_simp⟩) hS.out ?_
    simp only [Act.put, List.setIfInBounds_toArray, List.set_cons_zero, List.set_cons_succ]
    refine wpAnyH_take (i := 19) (oi := { dst := some 38, op := Op.pick (Operand.tmp 34) (Operand.tmp 37) (Operand.const (Value.bool false)), type := 4, pos := "law.go:217", after := #[{ on := 15, ground := Ground.data }, { on := 18, ground := Ground.data }], guard := none }) (v := (.bool true)) rfl (by kernel_rfl) (by kernel_rfl) (by kernel_rfl) (fun _ _ _ h => h) (Or.inl ⟨by kernel_rfl, fun w hC => by go_simp⟩) hS.out ?_
    simp only [Act.put, List.setIfInBounds_toArray, List.set_cons_zero, List.set_cons_succ]
    refine wpAnyH_take (i := 20) (oi := { dst := some 2, op := Op.assign (Operand.tmp 38), type := 4, pos := "law.go:217", after := #[{ on := 19, ground := Ground.data }, { on := 17, ground := Ground.chain }, { on := 0, ground := Ground.phase }, { on := 1, ground := Ground.phase }, { on := 2, ground := Ground.phase }, { on := 3, ground := Ground.phase }, { on := 4, ground := Ground.phase }, { on := 5, ground := Ground.phase }, { on := 6, ground := Ground.phase }, { on := 7, ground := Ground.phase }, { on := 8, ground := Ground.phase }, { on := 9, ground := Ground.phase }, { on := 10, ground := Ground.phase }, { on := 11, ground := Ground.phase }, { on := 12, ground := Ground.phase }, { on := 13, ground := Ground.phase }, { on := 14, ground := Ground.phase }, { on := 15, ground := Ground.phase }, { on := 16, ground := Ground.phase }, { on := 17, ground := Ground.phase }, { on := 18, ground := Ground.phase }, { on := 19, ground := Ground.phase }], guard := none }) (v := (.bool true)) rfl (by kernel_rfl) (by kernel_rfl) (by kernel_rfl) (fun _ _ _ h => h) (Or.inl ⟨by kernel_rfl, fun w hC => by go_simp⟩) hS.out ?_
    simp only [Act.put, List.setIfInBounds_toArray, List.set_cons_zero, List.set_cons_succ]
    refine wpAnyH_done (by kernel_rfl) ?_ _
    go_wp2
    go_ret
    exact ⟨rfl, HB10.out⟩
end
end Go.Proofs.YtjpgfldppepmiaaDoor
