/-
  What client's older answers, as contracts: of a call that does not wait, that is young still, that fails, that is sent again.
-/
import Derived.Test.YtdodmnianhpjbaaDoorLOld
namespace Go.Proofs.YtdodmnianhpjbaaDoor
open Go.RowKit
variable {w w' : World} {g : Nat} {rp wt tr : Int} {T L : List Cl}
set_option maxRecDepth 20000 in
set_option maxHeartbeats 3200000 in
theorem older_idle (y : Cl) (w : World) (x : Ct w g rp wt tr T) (hs : ¬ (y.s = 1)) :
    Calls Tryd.prog 19 #[.pointer (some ⟨g, 0, none⟩), .agg #[.int .i64 y.s, .int .u64 y.m.ta, .int .u64 y.m.rp, .int .u32 y.m.id, .int .u16 y.m.op, .int .u16 y.m.st, .int .u64 y.m.p, .int .u32 y.m.o, .int .u8 y.m.r, .int .u64 y.m.c, .int .u64 y.m.ar, .slice y.m.so y.m.sn y.m.sc, .int .i64 y.n, .int .i64 y.a]] w fun e w' => e = .returned (.tuple #[.agg #[.int .i64 y.s, .int .u64 y.m.ta, .int .u64 y.m.rp, .int .u32 y.m.id, .int .u16 y.m.op, .int .u16 y.m.st, .int .u64 y.m.p, .int .u32 y.m.o, .int .u8 y.m.r, .int .u64 y.m.c, .int .u64 y.m.ar, .slice y.m.so y.m.sn y.m.sc, .int .i64 y.n, .int .i64 y.a], .bool false]) ∧ Below w.heap.size w w' := by
  obtain ⟨X, hX⟩ : ∃ X, (w.alloc (.cells #[.int .i64 y.s, .int .u64 y.m.ta, .int .u64 y.m.rp, .int .u32 y.m.id, .int .u16 y.m.op, .int .u16 y.m.st, .int .u64 y.m.p, .int .u32 y.m.o, .int .u8 y.m.r, .int .u64 y.m.c, .int .u64 y.m.ar, .slice y.m.so y.m.sn y.m.sc, .int .i64 y.n, .int .i64 y.a] 60)).alloc (.cells #[.int .i64 0, .int .u64 0, .int .u64 0, .int .u32 0, .int .u16 0, .int .u16 0, .int .u64 0, .int .u32 0, .int .u8 0, .int .u64 0, .int .u64 0, .slice none 0 0, .int .i64 0, .int .i64 0] 60) = X := ⟨_, rfl⟩
  have bX : Below w.heap.size w X := hX ▸ below_one (below_alloc w _) (below_alloc _ _)
  have by0 : BoxC X w.heap.size y := hX ▸ (boxC_new w y).grow (below_alloc _ _)
  have bz0 : BoxC X (w.heap.size + 1) Cl.zero := by rw [← hX, ← size_al w (.cells #[.int .i64 y.s, .int .u64 y.m.ta, .int .u64 y.m.rp, .int .u32 y.m.id, .int .u16 y.m.op, .int .u16 y.m.st, .int .u64 y.m.p, .int .u32 y.m.o, .int .u8 y.m.r, .int .u64 y.m.c, .int .u64 y.m.ar, .slice y.m.so y.m.sn y.m.sc, .int .i64 y.n, .int .i64 y.a] 60)]; exact boxC_new _ Cl.zero
  have FX : Foot (fun j => w.heap.size ≤ j) w X := below_foot _ bX
  have xX := x.grow bX
  obtain ⟨k0, k1, k2, k3, k4, k5, k6, k7, k8, k9, k10, k11, k12, k13⟩ := by0.all
  have FW := FX
  have bz := bz0
  obtain ⟨V, hV⟩ : ∃ V, lay14 X (w.heap.size + 1) 0 y = V := ⟨_, rfl⟩
  have hbv : BoxC V (w.heap.size + 1) y := hV ▸ bz.lay y
  have HE : Hid (Below w.heap.size w V) := ((FW.then ((hV ▸ foot_lay14 X _ 0 y : Foot (fun j => j = w.heap.size + 1) X V).mono (fun k e => by show _ ≤ _; omega)))).below (Nat.le_refl _) (fun k e => e)
  simp only [lay14, Nat.zero_add] at hV
  have hva := hbv.all
  obtain ⟨v0, v1, v2, v3, v4, v5, v6, v7, v8, v9, v10, v11, v12, v13⟩ := hva
  obtain ⟨y0, y1, y2, y3, y4, y5, y6, y7, y8, y9, y10, y11, y12, y13⟩ := bz.all
  have z0 := bz.z 0
  have z1 := bz.z 1
  have z2 := bz.z 2
  have z3 := bz.z 3
  have z4 := bz.z 4
  have z5 := bz.z 5
  have z6 := bz.z 6
  have z7 := bz.z 7
  have z8 := bz.z 8
  have z9 := bz.z 9
  have z10 := bz.z 10
  have z11 := bz.z 11
  have z12 := bz.z 12
  have z13 := bz.z 13
  clear x xX bX bz bz0 by0 hbv FX FW
  go_enter Tryd.func19, Tryd.ntmps19
  go_wp2
  refine bodyPost_ret (by simp [results, Tryd.results19, go_sem, v0, v1, v2, v3, v4, v5, v6, v7, v8, v9, v10, v11, v12, v13]; rfl) rfl ?_
  exact ⟨rfl, HE.out⟩
set_option maxRecDepth 20000 in
set_option maxHeartbeats 3200000 in
theorem older_young (m : Ms) (n a b : Int) (w : World) (x : Ct w g rp wt tr T) (h0 : 0 ≤ a) (hb : a + 1 = b) (hy : b < wt) :
    Calls Tryd.prog 19 #[.pointer (some ⟨g, 0, none⟩), .agg #[.int .i64 1, .int .u64 m.ta, .int .u64 m.rp, .int .u32 m.id, .int .u16 m.op, .int .u16 m.st, .int .u64 m.p, .int .u32 m.o, .int .u8 m.r, .int .u64 m.c, .int .u64 m.ar, .slice m.so m.sn m.sc, .int .i64 n, .int .i64 a]] w fun e w' => e = .returned (.tuple #[.agg #[.int .i64 1, .int .u64 m.ta, .int .u64 m.rp, .int .u32 m.id, .int .u16 m.op, .int .u16 m.st, .int .u64 m.p, .int .u32 m.o, .int .u8 m.r, .int .u64 m.c, .int .u64 m.ar, .slice m.so m.sn m.sc, .int .i64 n, .int .i64 b], .bool false]) ∧ Below w.heap.size w w' := by
  obtain ⟨X, hX⟩ : ∃ X, (w.alloc (.cells #[.int .i64 1, .int .u64 m.ta, .int .u64 m.rp, .int .u32 m.id, .int .u16 m.op, .int .u16 m.st, .int .u64 m.p, .int .u32 m.o, .int .u8 m.r, .int .u64 m.c, .int .u64 m.ar, .slice m.so m.sn m.sc, .int .i64 n, .int .i64 a] 60)).alloc (.cells #[.int .i64 0, .int .u64 0, .int .u64 0, .int .u32 0, .int .u16 0, .int .u16 0, .int .u64 0, .int .u32 0, .int .u8 0, .int .u64 0, .int .u64 0, .slice none 0 0, .int .i64 0, .int .i64 0] 60) = X := ⟨_, rfl⟩
  have bX : Below w.heap.size w X := hX ▸ below_one (below_alloc w _) (below_alloc _ _)
  have by0 : BoxC X w.heap.size ⟨1, m, n, a⟩ := hX ▸ (boxC_new w ⟨1, m, n, a⟩).grow (below_alloc _ _)
  have bz0 : BoxC X (w.heap.size + 1) Cl.zero := by rw [← hX, ← size_al w (.cells #[.int .i64 1, .int .u64 m.ta, .int .u64 m.rp, .int .u32 m.id, .int .u16 m.op, .int .u16 m.st, .int .u64 m.p, .int .u32 m.o, .int .u8 m.r, .int .u64 m.c, .int .u64 m.ar, .slice m.so m.sn m.sc, .int .i64 n, .int .i64 a] 60)]; exact boxC_new _ Cl.zero
  have FX : Foot (fun j => w.heap.size ≤ j) w X := below_foot _ bX
  have xX := x.grow bX
  have xr := x.rng
  have hw : wrap64 (a + 1) = b := by unfold wrap64; omega
  have HBB := hide hb
  clear hb
  have hia := by0.all
  dsimp only at hia
  obtain ⟨i0, i1, i2, i3, i4, i5, i6, i7, i8, i9, i10, i11, i12, i13⟩ := hia
  have iz := by0.z 13
  obtain ⟨W, hW⟩ : ∃ W, X.setCell ⟨w.heap.size, 13, none⟩ (.int .i64 b) = W := ⟨_, rfl⟩
  have bw : BoxC W w.heap.size ⟨1, m, n, b⟩ := hW ▸ by0.put13 _
  have fw : Foot (fun j => j = w.heap.size) X W := hW ▸ foot_set X ⟨w.heap.size, 13, none⟩ _
  have FW0 : Foot (fun j => w.heap.size ≤ j) w W := FX.then (fw.mono (fun k e => by show _ ≤ _; omega))
  have bz1 : BoxC W (w.heap.size + 1) Cl.zero := bz0.foot fw (by omega)
  have hka := bw.all
  dsimp only at hka
  have cw : ∀ q, (W.drewN q).cell? ⟨w.heap.size, 13, none⟩ = some (.int .i64 b) := fun q => hka.2.2.2.2.2.2.2.2.2.2.2.2.2
  have cg1 : W.cell? ⟨g, 1, none⟩ = some (.int .i64 wt) := (fw.cell ⟨g, 1, none⟩ xX.lt (by have := x.lt; show ¬ g = _; omega)).trans xX.c1
  have cg2 : W.cell? ⟨g, 2, none⟩ = some (.int .i64 tr) := (fw.cell ⟨g, 2, none⟩ xX.lt (by have := x.lt; show ¬ g = _; omega)).trans xX.c2
  have cg : ∀ q, (W.drewN q).cell? ⟨g, 1, none⟩ = some (.int .i64 wt) := fun q => cg1
  have FWH := hide FW0
  have BZH := hide bz1
  have BWH := hide bw
  clear x xX bX bz0 by0 FX fw bw bz1 FW0 hka xr
  go_enter Tryd.func19, Tryd.ntmps19
  go_wp2_with fail
  go_quiet (fail)
  obtain ⟨Y, hY⟩ : ∃ Y, W.drewN nq = Y := ⟨_, rfl⟩
  have bY : Below W.heap.size W Y := hY ▸ below_d W _
  have FW : Foot (fun j => w.heap.size ≤ j) w Y := FWH.out.then (below_foot _ bY)
  have bz : BoxC Y (w.heap.size + 1) Cl.zero := BZH.out.grow bY
  have bwy : BoxC Y w.heap.size ⟨1, m, n, b⟩ := BWH.out.grow bY
  have hka := bwy.all
  dsimp only at hka
  obtain ⟨k0, k1, k2, k3, k4, k5, k6, k7, k8, k9, k10, k11, k12, k13⟩ := hka
  obtain ⟨V, hV⟩ : ∃ V, lay14 Y (w.heap.size + 1) 0 ⟨1, m, n, b⟩ = V := ⟨_, rfl⟩
  have hbv : BoxC V (w.heap.size + 1) ⟨1, m, n, b⟩ := hV ▸ bz.lay ⟨1, m, n, b⟩
  have HE : Hid (Below w.heap.size w V) := ((FW.then ((hV ▸ foot_lay14 Y _ 0 ⟨1, m, n, b⟩ : Foot (fun j => j = w.heap.size + 1) Y V).mono (fun k e => by show _ ≤ _; omega)))).below (Nat.le_refl _) (fun k e => e)
  simp only [lay14, Nat.zero_add] at hV
  have hva := hbv.all
  dsimp only at hva
  obtain ⟨v0, v1, v2, v3, v4, v5, v6, v7, v8, v9, v10, v11, v12, v13⟩ := hva
  obtain ⟨y0, y1, y2, y3, y4, y5, y6, y7, y8, y9, y10, y11, y12, y13⟩ := bz.all
  have z0 := bz.z 0
  have z1 := bz.z 1
  have z2 := bz.z 2
  have z3 := bz.z 3
  have z4 := bz.z 4
  have z5 := bz.z 5
  have z6 := bz.z 6
  have z7 := bz.z 7
  have z8 := bz.z 8
  have z9 := bz.z 9
  have z10 := bz.z 10
  have z11 := bz.z 11
  have z12 := bz.z 12
  have z13 := bz.z 13
  clear bz hbv FW bY bwy cw cg
  go_wp2
  refine bodyPost_ret (by simp [results, Tryd.results19, go_sem, v0, v1, v2, v3, v4, v5, v6, v7, v8, v9, v10, v11, v12, v13]; rfl) rfl ?_
  exact ⟨rfl, HE.out⟩
set_option maxRecDepth 20000 in
set_option maxHeartbeats 3200000 in
theorem older_fails (m : Ms) (n a b : Int) (w : World) (x : Ct w g rp wt tr T) (h0 : 0 ≤ a) (ha : a < wt) (hb : a + 1 = b) (hy : ¬ b < wt) (hn : tr ≤ n) :
    Calls Tryd.prog 19 #[.pointer (some ⟨g, 0, none⟩), .agg #[.int .i64 1, .int .u64 m.ta, .int .u64 m.rp, .int .u32 m.id, .int .u16 m.op, .int .u16 m.st, .int .u64 m.p, .int .u32 m.o, .int .u8 m.r, .int .u64 m.c, .int .u64 m.ar, .slice m.so m.sn m.sc, .int .i64 n, .int .i64 a]] w fun e w' => e = .returned (.tuple #[.agg #[.int .i64 3, .int .u64 0, .int .u64 0, .int .u32 0, .int .u16 0, .int .u16 0, .int .u64 0, .int .u32 0, .int .u8 0, .int .u64 0, .int .u64 0, .slice none 0 0, .int .i64 0, .int .i64 0], .bool false]) ∧ Below w.heap.size w w' := by
  obtain ⟨X, hX⟩ : ∃ X, (w.alloc (.cells #[.int .i64 1, .int .u64 m.ta, .int .u64 m.rp, .int .u32 m.id, .int .u16 m.op, .int .u16 m.st, .int .u64 m.p, .int .u32 m.o, .int .u8 m.r, .int .u64 m.c, .int .u64 m.ar, .slice m.so m.sn m.sc, .int .i64 n, .int .i64 a] 60)).alloc (.cells #[.int .i64 0, .int .u64 0, .int .u64 0, .int .u32 0, .int .u16 0, .int .u16 0, .int .u64 0, .int .u32 0, .int .u8 0, .int .u64 0, .int .u64 0, .slice none 0 0, .int .i64 0, .int .i64 0] 60) = X := ⟨_, rfl⟩
  have bX : Below w.heap.size w X := hX ▸ below_one (below_alloc w _) (below_alloc _ _)
  have by0 : BoxC X w.heap.size ⟨1, m, n, a⟩ := hX ▸ (boxC_new w ⟨1, m, n, a⟩).grow (below_alloc _ _)
  have bz0 : BoxC X (w.heap.size + 1) Cl.zero := by rw [← hX, ← size_al w (.cells #[.int .i64 1, .int .u64 m.ta, .int .u64 m.rp, .int .u32 m.id, .int .u16 m.op, .int .u16 m.st, .int .u64 m.p, .int .u32 m.o, .int .u8 m.r, .int .u64 m.c, .int .u64 m.ar, .slice m.so m.sn m.sc, .int .i64 n, .int .i64 a] 60)]; exact boxC_new _ Cl.zero
  have FX : Foot (fun j => w.heap.size ≤ j) w X := below_foot _ bX
  have xX := x.grow bX
  have xr := x.rng
  have hw : wrap64 (a + 1) = b := by unfold wrap64; omega
  have HBB := hide hb
  clear hb
  have hia := by0.all
  dsimp only at hia
  obtain ⟨i0, i1, i2, i3, i4, i5, i6, i7, i8, i9, i10, i11, i12, i13⟩ := hia
  have iz := by0.z 13
  obtain ⟨W, hW⟩ : ∃ W, X.setCell ⟨w.heap.size, 13, none⟩ (.int .i64 b) = W := ⟨_, rfl⟩
  have bw : BoxC W w.heap.size ⟨1, m, n, b⟩ := hW ▸ by0.put13 _
  have fw : Foot (fun j => j = w.heap.size) X W := hW ▸ foot_set X ⟨w.heap.size, 13, none⟩ _
  have FW0 : Foot (fun j => w.heap.size ≤ j) w W := FX.then (fw.mono (fun k e => by show _ ≤ _; omega))
  have bz1 : BoxC W (w.heap.size + 1) Cl.zero := bz0.foot fw (by omega)
  have hka := bw.all
  dsimp only at hka
  have cw : ∀ q, (W.drewN q).cell? ⟨w.heap.size, 13, none⟩ = some (.int .i64 b) := fun q => hka.2.2.2.2.2.2.2.2.2.2.2.2.2
  have cg1 : W.cell? ⟨g, 1, none⟩ = some (.int .i64 wt) := (fw.cell ⟨g, 1, none⟩ xX.lt (by have := x.lt; show ¬ g = _; omega)).trans xX.c1
  have cg2 : W.cell? ⟨g, 2, none⟩ = some (.int .i64 tr) := (fw.cell ⟨g, 2, none⟩ xX.lt (by have := x.lt; show ¬ g = _; omega)).trans xX.c2
  have cg : ∀ q, (W.drewN q).cell? ⟨g, 1, none⟩ = some (.int .i64 wt) := fun q => cg1
  have FWH := hide FW0
  have BZH := hide bz1
  have BWH := hide bw
  clear x xX bX bz0 by0 FX fw bw bz1 FW0 hka xr ha
  go_enter Tryd.func19, Tryd.ntmps19
  go_wp2_with fail
  go_quiet (fail)
  obtain ⟨Y, hY⟩ : ∃ Y, W.drewN nq = Y := ⟨_, rfl⟩
  have bY : Below W.heap.size W Y := hY ▸ below_d W _
  have FY := hide (FWH.out.then (below_foot _ bY))
  have bzy : BoxC Y (w.heap.size + 1) Cl.zero := BZH.out.grow bY
  have bwy : BoxC Y w.heap.size ⟨1, m, n, b⟩ := BWH.out.grow bY
  have hka := bwy.all
  dsimp only at hka
  have cn : ∀ q, (Y.drewN q).cell? ⟨w.heap.size, 12, none⟩ = some (.int .i64 n) := fun q => hka.2.2.2.2.2.2.2.2.2.2.2.2.1
  have ct : ∀ q, (Y.drewN q).cell? ⟨g, 2, none⟩ = some (.int .i64 tr) := fun q => by subst hY; exact cg2
  have BZY := hide bzy
  have BWY := hide bwy
  clear cw cg hka bzy bwy bY
  go_wp2_with fail
  go_quiet (fail)
  obtain ⟨U, hU⟩ : ∃ U, Y.drewN nq = U := ⟨_, rfl⟩
  have bU : Below Y.heap.size Y U := hU ▸ below_d Y _
  have FU : Foot (fun j => w.heap.size ≤ j) w U := FY.out.then (below_foot _ bU)
  have bzu : BoxC U (w.heap.size + 1) Cl.zero := BZY.out.grow bU
  have bwu : BoxC U w.heap.size ⟨1, m, n, b⟩ := BWY.out.grow bU
  have FW := FU
  have bz := bzu
  obtain ⟨V, hV⟩ : ∃ V, lay14 U (w.heap.size + 1) 0 ⟨3, Ms.zero, 0, 0⟩ = V := ⟨_, rfl⟩
  have hbv : BoxC V (w.heap.size + 1) ⟨3, Ms.zero, 0, 0⟩ := hV ▸ bz.lay ⟨3, Ms.zero, 0, 0⟩
  have HE : Hid (Below w.heap.size w V) := ((FW.then ((hV ▸ foot_lay14 U _ 0 ⟨3, Ms.zero, 0, 0⟩ : Foot (fun j => j = w.heap.size + 1) U V).mono (fun k e => by show _ ≤ _; omega)))).below (Nat.le_refl _) (fun k e => e)
  simp only [lay14, Nat.zero_add, Ms.zero] at hV
  have hva := hbv.all
  dsimp only [Ms.zero] at hva
  obtain ⟨v0, v1, v2, v3, v4, v5, v6, v7, v8, v9, v10, v11, v12, v13⟩ := hva
  obtain ⟨y0, y1, y2, y3, y4, y5, y6, y7, y8, y9, y10, y11, y12, y13⟩ := bz.all
  have z0 := bz.z 0
  have z1 := bz.z 1
  have z2 := bz.z 2
  have z3 := bz.z 3
  have z4 := bz.z 4
  have z5 := bz.z 5
  have z6 := bz.z 6
  have z7 := bz.z 7
  have z8 := bz.z 8
  have z9 := bz.z 9
  have z10 := bz.z 10
  have z11 := bz.z 11
  have z12 := bz.z 12
  have z13 := bz.z 13
  clear bz hbv FW bU bwu bzu FU cn ct
  go_wp2
  refine bodyPost_ret (by simp [results, Tryd.results19, go_sem, v0, v1, v2, v3, v4, v5, v6, v7, v8, v9, v10, v11, v12, v13]; rfl) rfl ?_
  exact ⟨rfl, HE.out⟩
set_option maxRecDepth 20000 in
set_option maxHeartbeats 3200000 in
theorem older_again (m : Ms) (n a b c : Int) (w : World) (x : Ct w g rp wt tr T) (h0 : 0 ≤ a) (ha : a < wt) (hb : a + 1 = b) (hy : ¬ b < wt) (hn : ¬ tr ≤ n) (h1 : 1 ≤ n) (hc : n + 1 = c) :
    Calls Tryd.prog 19 #[.pointer (some ⟨g, 0, none⟩), .agg #[.int .i64 1, .int .u64 m.ta, .int .u64 m.rp, .int .u32 m.id, .int .u16 m.op, .int .u16 m.st, .int .u64 m.p, .int .u32 m.o, .int .u8 m.r, .int .u64 m.c, .int .u64 m.ar, .slice m.so m.sn m.sc, .int .i64 n, .int .i64 a]] w fun e w' => e = .returned (.tuple #[.agg #[.int .i64 1, .int .u64 m.ta, .int .u64 m.rp, .int .u32 m.id, .int .u16 m.op, .int .u16 m.st, .int .u64 m.p, .int .u32 m.o, .int .u8 m.r, .int .u64 m.c, .int .u64 m.ar, .slice m.so m.sn m.sc, .int .i64 c, .int .i64 0], .bool true]) ∧ Below w.heap.size w w' := by
  obtain ⟨X, hX⟩ : ∃ X, (w.alloc (.cells #[.int .i64 1, .int .u64 m.ta, .int .u64 m.rp, .int .u32 m.id, .int .u16 m.op, .int .u16 m.st, .int .u64 m.p, .int .u32 m.o, .int .u8 m.r, .int .u64 m.c, .int .u64 m.ar, .slice m.so m.sn m.sc, .int .i64 n, .int .i64 a] 60)).alloc (.cells #[.int .i64 0, .int .u64 0, .int .u64 0, .int .u32 0, .int .u16 0, .int .u16 0, .int .u64 0, .int .u32 0, .int .u8 0, .int .u64 0, .int .u64 0, .slice none 0 0, .int .i64 0, .int .i64 0] 60) = X := ⟨_, rfl⟩
  have bX : Below w.heap.size w X := hX ▸ below_one (below_alloc w _) (below_alloc _ _)
  have by0 : BoxC X w.heap.size ⟨1, m, n, a⟩ := hX ▸ (boxC_new w ⟨1, m, n, a⟩).grow (below_alloc _ _)
  have bz0 : BoxC X (w.heap.size + 1) Cl.zero := by rw [← hX, ← size_al w (.cells #[.int .i64 1, .int .u64 m.ta, .int .u64 m.rp, .int .u32 m.id, .int .u16 m.op, .int .u16 m.st, .int .u64 m.p, .int .u32 m.o, .int .u8 m.r, .int .u64 m.c, .int .u64 m.ar, .slice m.so m.sn m.sc, .int .i64 n, .int .i64 a] 60)]; exact boxC_new _ Cl.zero
  have FX : Foot (fun j => w.heap.size ≤ j) w X := below_foot _ bX
  have xX := x.grow bX
  have xr := x.rng
  have hw : wrap64 (a + 1) = b := by unfold wrap64; omega
  have hw2 : wrap64 (n + 1) = c := by unfold wrap64; omega
  have HCC := hide hc
  clear hc
  have HBB := hide hb
  clear hb
  have hia := by0.all
  dsimp only at hia
  obtain ⟨i0, i1, i2, i3, i4, i5, i6, i7, i8, i9, i10, i11, i12, i13⟩ := hia
  have iz := by0.z 13
  obtain ⟨W, hW⟩ : ∃ W, X.setCell ⟨w.heap.size, 13, none⟩ (.int .i64 b) = W := ⟨_, rfl⟩
  have bw : BoxC W w.heap.size ⟨1, m, n, b⟩ := hW ▸ by0.put13 _
  have fw : Foot (fun j => j = w.heap.size) X W := hW ▸ foot_set X ⟨w.heap.size, 13, none⟩ _
  have FW0 : Foot (fun j => w.heap.size ≤ j) w W := FX.then (fw.mono (fun k e => by show _ ≤ _; omega))
  have bz1 : BoxC W (w.heap.size + 1) Cl.zero := bz0.foot fw (by omega)
  have hka := bw.all
  dsimp only at hka
  have cw : ∀ q, (W.drewN q).cell? ⟨w.heap.size, 13, none⟩ = some (.int .i64 b) := fun q => hka.2.2.2.2.2.2.2.2.2.2.2.2.2
  have cg1 : W.cell? ⟨g, 1, none⟩ = some (.int .i64 wt) := (fw.cell ⟨g, 1, none⟩ xX.lt (by have := x.lt; show ¬ g = _; omega)).trans xX.c1
  have cg2 : W.cell? ⟨g, 2, none⟩ = some (.int .i64 tr) := (fw.cell ⟨g, 2, none⟩ xX.lt (by have := x.lt; show ¬ g = _; omega)).trans xX.c2
  have cg : ∀ q, (W.drewN q).cell? ⟨g, 1, none⟩ = some (.int .i64 wt) := fun q => cg1
  have FWH := hide FW0
  have BZH := hide bz1
  have BWH := hide bw
  clear x xX bX bz0 by0 FX fw bw bz1 FW0 hka xr ha h1
  go_enter Tryd.func19, Tryd.ntmps19
  go_wp2_with fail
  go_quiet (fail)
  obtain ⟨Y, hY⟩ : ∃ Y, W.drewN nq = Y := ⟨_, rfl⟩
  have bY : Below W.heap.size W Y := hY ▸ below_d W _
  have FY := hide (FWH.out.then (below_foot _ bY))
  have bzy : BoxC Y (w.heap.size + 1) Cl.zero := BZH.out.grow bY
  have bwy : BoxC Y w.heap.size ⟨1, m, n, b⟩ := BWH.out.grow bY
  have hka := bwy.all
  dsimp only at hka
  have cn : ∀ q, (Y.drewN q).cell? ⟨w.heap.size, 12, none⟩ = some (.int .i64 n) := fun q => hka.2.2.2.2.2.2.2.2.2.2.2.2.1
  have ct : ∀ q, (Y.drewN q).cell? ⟨g, 2, none⟩ = some (.int .i64 tr) := fun q => by subst hY; exact cg2
  have BZY := hide bzy
  have BWY := hide bwy
  clear cw cg hka bzy bwy bY
  go_wp2_with fail
  go_quiet (fail)
  obtain ⟨U, hU⟩ : ∃ U, Y.drewN nq = U := ⟨_, rfl⟩
  have bU : Below Y.heap.size Y U := hU ▸ below_d Y _
  have FU : Foot (fun j => w.heap.size ≤ j) w U := FY.out.then (below_foot _ bU)
  have bzu : BoxC U (w.heap.size + 1) Cl.zero := BZY.out.grow bU
  have bwu : BoxC U w.heap.size ⟨1, m, n, b⟩ := BWY.out.grow bU
  have hla := bwu.all
  dsimp only at hla
  obtain ⟨l0, l1, l2, l3, l4, l5, l6, l7, l8, l9, l10, l11, l12, l13⟩ := hla
  have lz := bwu.z 12
  obtain ⟨P, hP⟩ : ∃ P, U.setCell ⟨w.heap.size, 12, none⟩ (.int .i64 c) = P := ⟨_, rfl⟩
  have bp : BoxC P w.heap.size ⟨1, m, c, b⟩ := hP ▸ bwu.put12 _
  have fp : Foot (fun j => j = w.heap.size) U P := hP ▸ foot_set U ⟨w.heap.size, 12, none⟩ _
  have p13 := bp.all.2.2.2.2.2.2.2.2.2.2.2.2.2
  dsimp only at p13
  have pz := bp.z 13
  obtain ⟨R, hR⟩ : ∃ R, P.setCell ⟨w.heap.size, 13, none⟩ (.int .i64 0) = R := ⟨_, rfl⟩
  have br : BoxC R w.heap.size ⟨1, m, c, 0⟩ := hR ▸ bp.put13 _
  have fr : Foot (fun j => j = w.heap.size) P R := hR ▸ foot_set P ⟨w.heap.size, 13, none⟩ _
  have FW : Foot (fun j => w.heap.size ≤ j) w R := (FU.then (fp.mono (fun k e => by show _ ≤ _; omega))).then (fr.mono (fun k e => by show _ ≤ _; omega))
  have bz : BoxC R (w.heap.size + 1) Cl.zero := (bzu.foot fp (by omega)).foot fr (by omega)
  have hra := br.all
  dsimp only at hra
  obtain ⟨k0, k1, k2, k3, k4, k5, k6, k7, k8, k9, k10, k11, k12, k13⟩ := hra
  obtain ⟨V, hV⟩ : ∃ V, lay14 R (w.heap.size + 1) 0 ⟨1, m, c, 0⟩ = V := ⟨_, rfl⟩
  have hbv : BoxC V (w.heap.size + 1) ⟨1, m, c, 0⟩ := hV ▸ bz.lay ⟨1, m, c, 0⟩
  have HE : Hid (Below w.heap.size w V) := ((FW.then ((hV ▸ foot_lay14 R _ 0 ⟨1, m, c, 0⟩ : Foot (fun j => j = w.heap.size + 1) R V).mono (fun k e => by show _ ≤ _; omega)))).below (Nat.le_refl _) (fun k e => e)
  simp only [lay14, Nat.zero_add] at hV
  have hva := hbv.all
  dsimp only at hva
  obtain ⟨v0, v1, v2, v3, v4, v5, v6, v7, v8, v9, v10, v11, v12, v13⟩ := hva
  obtain ⟨y0, y1, y2, y3, y4, y5, y6, y7, y8, y9, y10, y11, y12, y13⟩ := bz.all
  have z0 := bz.z 0
  have z1 := bz.z 1
  have z2 := bz.z 2
  have z3 := bz.z 3
  have z4 := bz.z 4
  have z5 := bz.z 5
  have z6 := bz.z 6
  have z7 := bz.z 7
  have z8 := bz.z 8
  have z9 := bz.z 9
  have z10 := bz.z 10
  have z11 := bz.z 11
  have z12 := bz.z 12
  have z13 := bz.z 13
  clear bz hbv FW bU bwu bzu FU cn ct bp fp br fr
  go_wp2
  refine bodyPost_ret (by simp [results, Tryd.results19, go_sem, v0, v1, v2, v3, v4, v5, v6, v7, v8, v9, v10, v11, v12, v13]; rfl) rfl ?_
  exact ⟨rfl, HE.out⟩
end Go.Proofs.YtdodmnianhpjbaaDoor
