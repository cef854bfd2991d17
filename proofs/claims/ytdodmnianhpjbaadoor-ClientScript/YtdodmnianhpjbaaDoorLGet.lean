/-
  What a client's Get answers, as contracts.
-/
import Derived.Test.YtdodmnianhpjbaaDoorLAns
namespace Go.Proofs.YtdodmnianhpjbaaDoor
open Go.RowKit
variable {w w' : World} {g : Nat} {rp wt tr : Int} {T L : List Cl}
set_option maxRecDepth 20000 in
set_option maxHeartbeats 6400000 in
theorem get_no (id : Int) (w : World) (x : Ct w g rp wt tr T) (m : Ms) (n a : Int) (hy : findC T id = ⟨0, m, n, a⟩) :
    Calls Tryd.prog 14 #[.pointer (some ⟨g, 0, none⟩), .int .u32 id] w fun e w' => e = .returned (.tuple #[.int .i64 0, .agg #[.int .u64 0, .int .u64 0, .int .u32 0, .int .u16 0, .int .u16 0, .int .u64 0, .int .u32 0, .int .u8 0, .int .u64 0, .int .u64 0, .slice none 0 0], erN 12]) ∧ Below w.heap.size w w' := by
  obtain ⟨X, hX⟩ : ∃ X, w.alloc (.cells #[.int .u64 0, .int .u64 0, .int .u32 0, .int .u16 0, .int .u16 0, .int .u64 0, .int .u32 0, .int .u8 0, .int .u64 0, .int .u64 0, .slice none 0 0] 35) = X := ⟨_, rfl⟩
  have bX : Below w.heap.size w X := hX ▸ below_alloc w _
  have bp : BoxM X w.heap.size Ms.zero := hX ▸ boxM_new w Ms.zero
  rw [erN_not (by decide)]
  have HX := hide x
  have HBX := hide bX
  have HBP := hide bp
  have HY := hide hy
  clear x bX bp hy
  go_enter Tryd.func14, Tryd.ntmps14
  go_wp2_with fail
  refine (find_any id _ (HX.out.grow HBX.out) 0 m n a HY.out).mono ?_; rintro e w1 ⟨rfl, b1⟩
  obtain ⟨Y, hY⟩ : ∃ Y, w1.alloc (.cells #[.int .i64 0, .int .u64 m.ta, .int .u64 m.rp, .int .u32 m.id, .int .u16 m.op, .int .u16 m.st, .int .u64 m.p, .int .u32 m.o, .int .u8 m.r, .int .u64 m.c, .int .u64 m.ar, .slice m.so m.sn m.sc, .int .i64 n, .int .i64 a] 60) = Y := ⟨_, rfl⟩
  have bY : Below w1.heap.size w1 Y := hY ▸ below_alloc w1 _
  have by1 : BoxC Y w1.heap.size ⟨0, m, n, a⟩ := hY ▸ boxC_new w1 ⟨0, m, n, a⟩
  have bwy := below_one (below_one HBX.out b1) bY
  have bzy : BoxM Y w.heap.size Ms.zero := HBP.out.grow (below_one b1 bY)
  have hka := by1.all
  dsimp only at hka
  obtain ⟨k0, k1, k2, k3, k4, k5, k6, k7, k8, k9, k10, k11, k12, k13⟩ := hka
  have bz := bzy
  have bw := bwy
  obtain ⟨V, hV⟩ : ∃ V, lay11 Y w.heap.size Ms.zero = V := ⟨_, rfl⟩
  have bv : BoxM V w.heap.size Ms.zero := hV ▸ bz.lay Ms.zero
  have ft : Foot (fun j => j = w.heap.size) Y V := hV ▸ foot_lay11 Y _ Ms.zero
  have HE : Hid (Below w.heap.size w V) := ((below_foot (fun j => j = w.heap.size) bw).then ft).below (Nat.le_refl _) (fun k e => by omega)
  simp only [lay11, Ms.zero] at hV
  have hva := bv.all
  have hza := bz.all
  dsimp only [Ms.zero] at hva hza
  obtain ⟨v0, v1, v2, v3, v4, v5, v6, v7, v8, v9, v10⟩ := hva
  obtain ⟨y0, y1, y2, y3, y4, y5, y6, y7, y8, y9, y10⟩ := hza
  have z0 := bz.z 0
  have z1 := bz.z 1
  have z2 := bz.z 2
  have z3 := bz.z 3
  have z4 := bz.z 4
  have z5 := bz.z 5
  have z6 := bz.z 6
  have z7 := bz.z 7
  have z8 := bz.z 8
  have z9 := bz.z 9
  have z10 := bz.z 10
  clear b1 bY by1 bwy bzy bz bw bv ft
  go_wp2
  refine bodyPost_ret (by simp [results, Tryd.results14, go_sem, v0, v1, v2, v3, v4, v5, v6, v7, v8, v9, v10]; rfl) rfl ?_
  exact ⟨rfl, HE.out⟩
set_option maxRecDepth 20000 in
set_option maxHeartbeats 6400000 in
theorem get_waits (id : Int) (w : World) (x : Ct w g rp wt tr T) (m : Ms) (n a : Int) (hy : findC T id = ⟨1, m, n, a⟩) :
    Calls Tryd.prog 14 #[.pointer (some ⟨g, 0, none⟩), .int .u32 id] w fun e w' => e = .returned (.tuple #[.int .i64 1, .agg #[.int .u64 0, .int .u64 0, .int .u32 0, .int .u16 0, .int .u16 0, .int .u64 0, .int .u32 0, .int .u8 0, .int .u64 0, .int .u64 0, .slice none 0 0], erN 0]) ∧ Below w.heap.size w w' := by
  obtain ⟨X, hX⟩ : ∃ X, w.alloc (.cells #[.int .u64 0, .int .u64 0, .int .u32 0, .int .u16 0, .int .u16 0, .int .u64 0, .int .u32 0, .int .u8 0, .int .u64 0, .int .u64 0, .slice none 0 0] 35) = X := ⟨_, rfl⟩
  have bX : Below w.heap.size w X := hX ▸ below_alloc w _
  have bp : BoxM X w.heap.size Ms.zero := hX ▸ boxM_new w Ms.zero
  rw [erN_zero]
  have HX := hide x
  have HBX := hide bX
  have HBP := hide bp
  have HY := hide hy
  clear x bX bp hy
  go_enter Tryd.func14, Tryd.ntmps14
  go_wp2_with fail
  refine (find_any id _ (HX.out.grow HBX.out) 1 m n a HY.out).mono ?_; rintro e w1 ⟨rfl, b1⟩
  obtain ⟨Y, hY⟩ : ∃ Y, w1.alloc (.cells #[.int .i64 1, .int .u64 m.ta, .int .u64 m.rp, .int .u32 m.id, .int .u16 m.op, .int .u16 m.st, .int .u64 m.p, .int .u32 m.o, .int .u8 m.r, .int .u64 m.c, .int .u64 m.ar, .slice m.so m.sn m.sc, .int .i64 n, .int .i64 a] 60) = Y := ⟨_, rfl⟩
  have bY : Below w1.heap.size w1 Y := hY ▸ below_alloc w1 _
  have by1 : BoxC Y w1.heap.size ⟨1, m, n, a⟩ := hY ▸ boxC_new w1 ⟨1, m, n, a⟩
  have bwy := below_one (below_one HBX.out b1) bY
  have bzy : BoxM Y w.heap.size Ms.zero := HBP.out.grow (below_one b1 bY)
  have hka := by1.all
  dsimp only at hka
  obtain ⟨k0, k1, k2, k3, k4, k5, k6, k7, k8, k9, k10, k11, k12, k13⟩ := hka
  have bz := bzy
  have bw := bwy
  obtain ⟨V, hV⟩ : ∃ V, lay11 Y w.heap.size Ms.zero = V := ⟨_, rfl⟩
  have bv : BoxM V w.heap.size Ms.zero := hV ▸ bz.lay Ms.zero
  have ft : Foot (fun j => j = w.heap.size) Y V := hV ▸ foot_lay11 Y _ Ms.zero
  have HE : Hid (Below w.heap.size w V) := ((below_foot (fun j => j = w.heap.size) bw).then ft).below (Nat.le_refl _) (fun k e => by omega)
  simp only [lay11, Ms.zero] at hV
  have hva := bv.all
  have hza := bz.all
  dsimp only [Ms.zero] at hva hza
  obtain ⟨v0, v1, v2, v3, v4, v5, v6, v7, v8, v9, v10⟩ := hva
  obtain ⟨y0, y1, y2, y3, y4, y5, y6, y7, y8, y9, y10⟩ := hza
  have z0 := bz.z 0
  have z1 := bz.z 1
  have z2 := bz.z 2
  have z3 := bz.z 3
  have z4 := bz.z 4
  have z5 := bz.z 5
  have z6 := bz.z 6
  have z7 := bz.z 7
  have z8 := bz.z 8
  have z9 := bz.z 9
  have z10 := bz.z 10
  clear b1 bY by1 bwy bzy bz bw bv ft
  go_wp2
  refine bodyPost_ret (by simp [results, Tryd.results14, go_sem, v0, v1, v2, v3, v4, v5, v6, v7, v8, v9, v10]; rfl) rfl ?_
  exact ⟨rfl, HE.out⟩
set_option maxRecDepth 20000 in
set_option maxHeartbeats 6400000 in
theorem get_failed (id : Int) (w : World) (x : Ct w g rp wt tr T) (m : Ms) (n a : Int) (hy : findC T id = ⟨3, m, n, a⟩) :
    Calls Tryd.prog 14 #[.pointer (some ⟨g, 0, none⟩), .int .u32 id] w fun e w' => e = .returned (.tuple #[.int .i64 3, .agg #[.int .u64 0, .int .u64 0, .int .u32 0, .int .u16 0, .int .u16 0, .int .u64 0, .int .u32 0, .int .u8 0, .int .u64 0, .int .u64 0, .slice none 0 0], erN 10]) ∧ Below w.heap.size w w' := by
  obtain ⟨X, hX⟩ : ∃ X, w.alloc (.cells #[.int .u64 0, .int .u64 0, .int .u32 0, .int .u16 0, .int .u16 0, .int .u64 0, .int .u32 0, .int .u8 0, .int .u64 0, .int .u64 0, .slice none 0 0] 35) = X := ⟨_, rfl⟩
  have bX : Below w.heap.size w X := hX ▸ below_alloc w _
  have bp : BoxM X w.heap.size Ms.zero := hX ▸ boxM_new w Ms.zero
  rw [erN_not (by decide)]
  have HX := hide x
  have HBX := hide bX
  have HBP := hide bp
  have HY := hide hy
  clear x bX bp hy
  go_enter Tryd.func14, Tryd.ntmps14
  go_wp2_with fail
  refine (find_any id _ (HX.out.grow HBX.out) 3 m n a HY.out).mono ?_; rintro e w1 ⟨rfl, b1⟩
  obtain ⟨Y, hY⟩ : ∃ Y, w1.alloc (.cells #[.int .i64 3, .int .u64 m.ta, .int .u64 m.rp, .int .u32 m.id, .int .u16 m.op, .int .u16 m.st, .int .u64 m.p, .int .u32 m.o, .int .u8 m.r, .int .u64 m.c, .int .u64 m.ar, .slice m.so m.sn m.sc, .int .i64 n, .int .i64 a] 60) = Y := ⟨_, rfl⟩
  have bY : Below w1.heap.size w1 Y := hY ▸ below_alloc w1 _
  have by1 : BoxC Y w1.heap.size ⟨3, m, n, a⟩ := hY ▸ boxC_new w1 ⟨3, m, n, a⟩
  have bwy := below_one (below_one HBX.out b1) bY
  have bzy : BoxM Y w.heap.size Ms.zero := HBP.out.grow (below_one b1 bY)
  have hka := by1.all
  dsimp only at hka
  obtain ⟨k0, k1, k2, k3, k4, k5, k6, k7, k8, k9, k10, k11, k12, k13⟩ := hka
  have bz := bzy
  have bw := bwy
  obtain ⟨V, hV⟩ : ∃ V, lay11 Y w.heap.size Ms.zero = V := ⟨_, rfl⟩
  have bv : BoxM V w.heap.size Ms.zero := hV ▸ bz.lay Ms.zero
  have ft : Foot (fun j => j = w.heap.size) Y V := hV ▸ foot_lay11 Y _ Ms.zero
  have HE : Hid (Below w.heap.size w V) := ((below_foot (fun j => j = w.heap.size) bw).then ft).below (Nat.le_refl _) (fun k e => by omega)
  simp only [lay11, Ms.zero] at hV
  have hva := bv.all
  have hza := bz.all
  dsimp only [Ms.zero] at hva hza
  obtain ⟨v0, v1, v2, v3, v4, v5, v6, v7, v8, v9, v10⟩ := hva
  obtain ⟨y0, y1, y2, y3, y4, y5, y6, y7, y8, y9, y10⟩ := hza
  have z0 := bz.z 0
  have z1 := bz.z 1
  have z2 := bz.z 2
  have z3 := bz.z 3
  have z4 := bz.z 4
  have z5 := bz.z 5
  have z6 := bz.z 6
  have z7 := bz.z 7
  have z8 := bz.z 8
  have z9 := bz.z 9
  have z10 := bz.z 10
  clear b1 bY by1 bwy bzy bz bw bv ft
  go_wp2
  refine bodyPost_ret (by simp [results, Tryd.results14, go_sem, v0, v1, v2, v3, v4, v5, v6, v7, v8, v9, v10]; rfl) rfl ?_
  exact ⟨rfl, HE.out⟩
set_option maxRecDepth 20000 in
set_option maxHeartbeats 6400000 in
theorem get_done (id : Int) (w : World) (x : Ct w g rp wt tr T) (m : Ms) (n a : Int) (hy : findC T id = ⟨2, m, n, a⟩) (hm : ⟨2, m, n, a⟩ ∈ T) :
    Calls Tryd.prog 14 #[.pointer (some ⟨g, 0, none⟩), .int .u32 id] w fun e w' => ∃ q : Ms, e = .returned (.tuple #[.int .i64 2, .agg #[.int .u64 q.ta, .int .u64 q.rp, .int .u32 q.id, .int .u16 q.op, .int .u16 q.st, .int .u64 q.p, .int .u32 q.o, .int .u8 q.r, .int .u64 q.c, .int .u64 q.ar, .slice q.so q.sn q.sc], .nilIface]) ∧ q.nm = m.nm ∧ q.sn = m.sn ∧ q.has w' ∧ Below w.heap.size w w' := by
  obtain ⟨X, hX⟩ : ∃ X, w.alloc (.cells #[.int .u64 0, .int .u64 0, .int .u32 0, .int .u16 0, .int .u16 0, .int .u64 0, .int .u32 0, .int .u8 0, .int .u64 0, .int .u64 0, .slice none 0 0] 35) = X := ⟨_, rfl⟩
  have bX : Below w.heap.size w X := hX ▸ below_alloc w _
  have bp : BoxM X w.heap.size Ms.zero := hX ▸ boxM_new w Ms.zero
  have HX := hide x
  have HBX := hide bX
  have HBP := hide bp
  have HY := hide hy
  clear x bX bp hy
  go_enter Tryd.func14, Tryd.ntmps14
  go_wp2_with fail
  refine (find_any id _ (HX.out.grow HBX.out) 2 m n a HY.out).mono ?_; rintro e w1 ⟨rfl, b1⟩
  obtain ⟨Y, hY⟩ : ∃ Y, w1.alloc (.cells #[.int .i64 2, .int .u64 m.ta, .int .u64 m.rp, .int .u32 m.id, .int .u16 m.op, .int .u16 m.st, .int .u64 m.p, .int .u32 m.o, .int .u8 m.r, .int .u64 m.c, .int .u64 m.ar, .slice m.so m.sn m.sc, .int .i64 n, .int .i64 a] 60) = Y := ⟨_, rfl⟩
  have bY : Below w1.heap.size w1 Y := hY ▸ below_alloc w1 _
  have by1 : BoxC Y w1.heap.size ⟨2, m, n, a⟩ := hY ▸ boxC_new w1 ⟨2, m, n, a⟩
  have bwy := below_one (below_one HBX.out b1) bY
  have bzy : BoxM Y w.heap.size Ms.zero := HBP.out.grow (below_one b1 bY)
  have hka := by1.all
  dsimp only at hka
  obtain ⟨k0, k1, k2, k3, k4, k5, k6, k7, k8, k9, k10, k11, k12, k13⟩ := hka
  have xy := HX.out.grow bwy
  have hmy := xy.has _ hm
  dsimp only at hmy
  have HM := hide hmy
  have HWY := hide bwy
  have HZY := hide bzy
  clear b1 bY by1 bwy bzy xy hmy hm
  go_wp2_with fail
  refine (alone_any m _ HM.out.1 HM.out.2.2).mono ?_; rintro e w2 ⟨q, rfl, E⟩
  have bz := HZY.out.grow E.b
  have bw := below_one HWY.out E.b
  obtain ⟨V, hV⟩ : ∃ V, lay11 w2 w.heap.size q = V := ⟨_, rfl⟩
  have bv : BoxM V w.heap.size q := hV ▸ bz.lay q
  have ft : Foot (fun j => j = w.heap.size) w2 V := hV ▸ foot_lay11 w2 _ q
  have HE : Hid (Below w.heap.size w V) := ((below_foot (fun j => j = w.heap.size) bw).then ft).below (Nat.le_refl _) (fun k e => by omega)
  have HQ : Hid (q.nm = m.nm ∧ q.sn = m.sn ∧ q.has V) := ⟨E.nm, E.sn, E.own.has E.has ft (fun k cur h e => by rw [e, bz] at h; cases h)⟩
  simp only [lay11] at hV
  have hva := bv.all
  have hza := bz.all
  dsimp only [Ms.zero] at hza
  obtain ⟨v0, v1, v2, v3, v4, v5, v6, v7, v8, v9, v10⟩ := hva
  obtain ⟨y0, y1, y2, y3, y4, y5, y6, y7, y8, y9, y10⟩ := hza
  have z0 := bz.z 0
  have z1 := bz.z 1
  have z2 := bz.z 2
  have z3 := bz.z 3
  have z4 := bz.z 4
  have z5 := bz.z 5
  have z6 := bz.z 6
  have z7 := bz.z 7
  have z8 := bz.z 8
  have z9 := bz.z 9
  have z10 := bz.z 10
  clear E bz bw bv ft
  go_wp2
  refine bodyPost_ret (by simp [results, Tryd.results14, go_sem, v0, v1, v2, v3, v4, v5, v6, v7, v8, v9, v10]; rfl) rfl ?_
  exact ⟨q, rfl, HQ.out.1, HQ.out.2.1, HQ.out.2.2, HE.out⟩
theorem find_mem {T : List Cl} {id s : Int} {m : Ms} {n a : Int} (h : findC T id = ⟨s, m, n, a⟩) (hs : ¬ s = 0) : (⟨s, m, n, a⟩ : Cl) ∈ T := by
  unfold findC at h
  split at h
  · cases h; exact absurd rfl hs
  · rw [← h]
    refine cl_mem T _ (Nat.lt_of_not_le fun hl => ?_)
    rw [cl_ge T _ hl] at h
    cases h; exact absurd rfl hs
/- what Get answers of a client without addresses -/
theorem get_none (id : Int) (w : World) (x : St w g rp wt tr L) (h : (findC L id).s = 0) :
    Calls Tryd.prog 14 #[.pointer (some ⟨g, 0, none⟩), .int .u32 id] w fun e w' => e = .returned (.tuple #[.int .i64 0, .agg #[.int .u64 0, .int .u64 0, .int .u32 0, .int .u16 0, .int .u16 0, .int .u64 0, .int .u32 0, .int .u8 0, .int .u64 0, .int .u64 0, .slice none 0 0], erN 12]) ∧ Below w.heap.size w w' := by
  obtain ⟨T, x, rfl⟩ := x
  rw [findC_nm] at h
  obtain ⟨⟨s, m, n, a⟩, hy⟩ : ∃ y, findC T id = y := ⟨_, rfl⟩
  rw [hy] at h
  obtain rfl : s = 0 := h
  exact get_no id w x m n a hy
theorem get_wait (id : Int) (w : World) (x : St w g rp wt tr L) (h : (findC L id).s = 1) :
    Calls Tryd.prog 14 #[.pointer (some ⟨g, 0, none⟩), .int .u32 id] w fun e w' => e = .returned (.tuple #[.int .i64 1, .agg #[.int .u64 0, .int .u64 0, .int .u32 0, .int .u16 0, .int .u16 0, .int .u64 0, .int .u32 0, .int .u8 0, .int .u64 0, .int .u64 0, .slice none 0 0], erN 0]) ∧ Below w.heap.size w w' := by
  obtain ⟨T, x, rfl⟩ := x
  rw [findC_nm] at h
  obtain ⟨⟨s, m, n, a⟩, hy⟩ : ∃ y, findC T id = y := ⟨_, rfl⟩
  rw [hy] at h
  obtain rfl : s = 1 := h
  exact get_waits id w x m n a hy
theorem get_fail (id : Int) (w : World) (x : St w g rp wt tr L) (h : (findC L id).s = 3) :
    Calls Tryd.prog 14 #[.pointer (some ⟨g, 0, none⟩), .int .u32 id] w fun e w' => e = .returned (.tuple #[.int .i64 3, .agg #[.int .u64 0, .int .u64 0, .int .u32 0, .int .u16 0, .int .u16 0, .int .u64 0, .int .u32 0, .int .u8 0, .int .u64 0, .int .u64 0, .slice none 0 0], erN 10]) ∧ Below w.heap.size w w' := by
  obtain ⟨T, x, rfl⟩ := x
  rw [findC_nm] at h
  obtain ⟨⟨s, m, n, a⟩, hy⟩ : ∃ y, findC T id = y := ⟨_, rfl⟩
  rw [hy] at h
  obtain rfl : s = 3 := h
  exact get_failed id w x m n a hy
theorem get_ok (id : Int) (w : World) (x : St w g rp wt tr L) (h : (findC L id).s = 2) :
    Calls Tryd.prog 14 #[.pointer (some ⟨g, 0, none⟩), .int .u32 id] w fun e w' => ∃ q : Ms, e = .returned (.tuple #[.int .i64 2, .agg #[.int .u64 q.ta, .int .u64 q.rp, .int .u32 q.id, .int .u16 q.op, .int .u16 q.st, .int .u64 q.p, .int .u32 q.o, .int .u8 q.r, .int .u64 q.c, .int .u64 q.ar, .slice q.so q.sn q.sc], .nilIface]) ∧ q.nm = (findC L id).m ∧ q.has w' ∧ Below w.heap.size w w' := by
  obtain ⟨T, x, rfl⟩ := x
  rw [findC_nm] at h ⊢
  obtain ⟨⟨s, m, n, a⟩, hy⟩ : ∃ y, findC T id = y := ⟨_, rfl⟩
  rw [hy] at h ⊢
  obtain rfl : s = 2 := h
  refine (get_done id w x m n a hy (find_mem hy (by decide))).mono ?_
  rintro e w' ⟨q, h1, h2, h3, h4, h5⟩
  exact ⟨q, h1, h2, h4, h5⟩
end Go.Proofs.YtdodmnianhpjbaaDoor
