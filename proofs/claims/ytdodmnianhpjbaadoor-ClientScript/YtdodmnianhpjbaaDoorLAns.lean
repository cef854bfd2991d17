/-
  What a client's Answer answers, as contracts.
-/
import Derived.Test.YtdodmnianhpjbaaDoorLOld
namespace Go.Proofs.YtdodmnianhpjbaaDoor
open Go.RowKit
variable {w w' : World} {g : Nat} {rp wt tr : Int} {T L : List Cl}
theorem find_any (id : Int) (w : World) (x : Ct w g rp wt tr T) (s : Int) (m : Ms) (n a : Int) (hy : findC T id = ⟨s, m, n, a⟩) :
    Calls Tryd.prog 18 #[.pointer (some ⟨g, 0, none⟩), .int .u32 id] w fun e w' => e = .returned (.agg #[.int .i64 s, .int .u64 m.ta, .int .u64 m.rp, .int .u32 m.id, .int .u16 m.op, .int .u16 m.st, .int .u64 m.p, .int .u32 m.o, .int .u8 m.r, .int .u64 m.c, .int .u64 m.ar, .slice m.so m.sn m.sc, .int .i64 n, .int .i64 a]) ∧ Below w.heap.size w w' := by
  by_cases h : id < 1 ∨ 64 < id
  · rw [findC_zero T id h] at hy
    cases hy
    exact find_no id w h
  · obtain ⟨k, rfl⟩ : ∃ k : Nat, id = (k : Int) + 1 := ⟨id.toNat - 1, by omega⟩
    rw [findC_nat T k (by omega)] at hy
    exact find_at k w x (by omega) _ hy
/- is it the reply that a call waits for -/
def ansF (L : List Cl) (rp : Int) (p : Ms) : Bool := (findC L p.id).s == 1 && p.ta == rp && p.rp == (findC L p.id).m.ta
set_option maxRecDepth 20000 in
set_option maxHeartbeats 6400000 in
theorem answer_idle (p : Ms) (w : World) (x : Ct w g rp wt tr T) (s : Int) (m : Ms) (n a : Int) (hy : findC T p.id = ⟨s, m, n, a⟩) (hs : ¬ s = 1) :
    Calls Tryd.prog 12 #[.pointer (some ⟨g, 0, none⟩), .agg #[.int .u64 p.ta, .int .u64 p.rp, .int .u32 p.id, .int .u16 p.op, .int .u16 p.st, .int .u64 p.p, .int .u32 p.o, .int .u8 p.r, .int .u64 p.c, .int .u64 p.ar, .slice p.so p.sn p.sc]] w fun e w' => e = .returned (.bool false) ∧ Below w.heap.size w w' := by
  obtain ⟨X, hX⟩ : ∃ X, w.alloc (.cells #[.int .u64 p.ta, .int .u64 p.rp, .int .u32 p.id, .int .u16 p.op, .int .u16 p.st, .int .u64 p.p, .int .u32 p.o, .int .u8 p.r, .int .u64 p.c, .int .u64 p.ar, .slice p.so p.sn p.sc] 35) = X := ⟨_, rfl⟩
  have bX : Below w.heap.size w X := hX ▸ below_alloc w _
  have bp : BoxM X w.heap.size p := hX ▸ boxM_new w p
  have i2 := bp.all.2.2.1
  have HX := hide x
  have HBX := hide bX
  have HBP := hide bp
  have HY := hide hy
  clear x bX bp hy
  go_enter Tryd.func12, Tryd.ntmps12
  go_wp2_with fail
  refine (find_any p.id _ (HX.out.grow HBX.out) s m n a HY.out).mono ?_; rintro e w1 ⟨rfl, b1⟩
  obtain ⟨Y, hY⟩ : ∃ Y, w1.alloc (.cells #[.int .i64 s, .int .u64 m.ta, .int .u64 m.rp, .int .u32 m.id, .int .u16 m.op, .int .u16 m.st, .int .u64 m.p, .int .u32 m.o, .int .u8 m.r, .int .u64 m.c, .int .u64 m.ar, .slice m.so m.sn m.sc, .int .i64 n, .int .i64 a] 60) = Y := ⟨_, rfl⟩
  have bY : Below w1.heap.size w1 Y := hY ▸ below_alloc w1 _
  have by1 : BoxC Y w1.heap.size ⟨s, m, n, a⟩ := hY ▸ boxC_new w1 ⟨s, m, n, a⟩
  have bpy := HBP.out.grow (below_one b1 bY)
  have bwy := below_one (below_one HBX.out b1) bY
  have xy := HX.out.grow bwy
  have c0 : ∀ q, (Y.drewN q).cell? ⟨g, 0, none⟩ = some (.int .u64 rp) := fun q => xy.c0
  have j0 : ∀ q, (Y.drewN q).cell? ⟨w.heap.size, 0, none⟩ = some (.int .u64 p.ta) := fun q => by exact bpy.all.1
  have j1 : ∀ q, (Y.drewN q).cell? ⟨w.heap.size, 1, none⟩ = some (.int .u64 p.rp) := fun q => by exact bpy.all.2.1
  have hka := by1.all
  dsimp only at hka
  have s0 : ∀ q, (Y.drewN q).cell? ⟨w1.heap.size, 0, none⟩ = some (.int .i64 s) := fun q => hka.1
  have s1 : ∀ q, (Y.drewN q).cell? ⟨w1.heap.size, 1, none⟩ = some (.int .u64 m.ta) := fun q => hka.2.1
  have HWY := hide bwy
  have HPY := hide bpy
  clear i2 b1 bY by1 bpy bwy xy hka
  go_wp2_with fail
  go_quiet (fail)
  go_wp2
  go_ret
  exact ⟨rfl, below_drewN HWY.out _⟩
set_option maxRecDepth 20000 in
set_option maxHeartbeats 6400000 in
theorem answer_to (p : Ms) (w : World) (x : Ct w g rp wt tr T) (m : Ms) (n a : Int) (hy : findC T p.id = ⟨1, m, n, a⟩) (hs : ¬ p.ta = rp) :
    Calls Tryd.prog 12 #[.pointer (some ⟨g, 0, none⟩), .agg #[.int .u64 p.ta, .int .u64 p.rp, .int .u32 p.id, .int .u16 p.op, .int .u16 p.st, .int .u64 p.p, .int .u32 p.o, .int .u8 p.r, .int .u64 p.c, .int .u64 p.ar, .slice p.so p.sn p.sc]] w fun e w' => e = .returned (.bool false) ∧ Below w.heap.size w w' := by
  obtain ⟨X, hX⟩ : ∃ X, w.alloc (.cells #[.int .u64 p.ta, .int .u64 p.rp, .int .u32 p.id, .int .u16 p.op, .int .u16 p.st, .int .u64 p.p, .int .u32 p.o, .int .u8 p.r, .int .u64 p.c, .int .u64 p.ar, .slice p.so p.sn p.sc] 35) = X := ⟨_, rfl⟩
  have bX : Below w.heap.size w X := hX ▸ below_alloc w _
  have bp : BoxM X w.heap.size p := hX ▸ boxM_new w p
  have i2 := bp.all.2.2.1
  have HX := hide x
  have HBX := hide bX
  have HBP := hide bp
  have HY := hide hy
  clear x bX bp hy
  go_enter Tryd.func12, Tryd.ntmps12
  go_wp2_with fail
  refine (find_any p.id _ (HX.out.grow HBX.out) 1 m n a HY.out).mono ?_; rintro e w1 ⟨rfl, b1⟩
  obtain ⟨Y, hY⟩ : ∃ Y, w1.alloc (.cells #[.int .i64 1, .int .u64 m.ta, .int .u64 m.rp, .int .u32 m.id, .int .u16 m.op, .int .u16 m.st, .int .u64 m.p, .int .u32 m.o, .int .u8 m.r, .int .u64 m.c, .int .u64 m.ar, .slice m.so m.sn m.sc, .int .i64 n, .int .i64 a] 60) = Y := ⟨_, rfl⟩
  have bY : Below w1.heap.size w1 Y := hY ▸ below_alloc w1 _
  have by1 : BoxC Y w1.heap.size ⟨1, m, n, a⟩ := hY ▸ boxC_new w1 ⟨1, m, n, a⟩
  have bpy := HBP.out.grow (below_one b1 bY)
  have bwy := below_one (below_one HBX.out b1) bY
  have xy := HX.out.grow bwy
  have c0 : ∀ q, (Y.drewN q).cell? ⟨g, 0, none⟩ = some (.int .u64 rp) := fun q => xy.c0
  have j0 : ∀ q, (Y.drewN q).cell? ⟨w.heap.size, 0, none⟩ = some (.int .u64 p.ta) := fun q => by exact bpy.all.1
  have j1 : ∀ q, (Y.drewN q).cell? ⟨w.heap.size, 1, none⟩ = some (.int .u64 p.rp) := fun q => by exact bpy.all.2.1
  have hka := by1.all
  dsimp only at hka
  have s0 : ∀ q, (Y.drewN q).cell? ⟨w1.heap.size, 0, none⟩ = some (.int .i64 1) := fun q => hka.1
  have s1 : ∀ q, (Y.drewN q).cell? ⟨w1.heap.size, 1, none⟩ = some (.int .u64 m.ta) := fun q => hka.2.1
  have HWY := hide bwy
  have HPY := hide bpy
  clear i2 b1 bY by1 bpy bwy xy hka
  go_wp2_with fail
  go_quiet (fail)
  go_wp2
  go_ret
  exact ⟨rfl, below_drewN HWY.out _⟩
set_option maxRecDepth 20000 in
set_option maxHeartbeats 6400000 in
theorem answer_from (p : Ms) (w : World) (x : Ct w g rp wt tr T) (m : Ms) (n a : Int) (hy : findC T p.id = ⟨1, m, n, a⟩) (ht : p.ta = rp) (hs : ¬ p.rp = m.ta) :
    Calls Tryd.prog 12 #[.pointer (some ⟨g, 0, none⟩), .agg #[.int .u64 p.ta, .int .u64 p.rp, .int .u32 p.id, .int .u16 p.op, .int .u16 p.st, .int .u64 p.p, .int .u32 p.o, .int .u8 p.r, .int .u64 p.c, .int .u64 p.ar, .slice p.so p.sn p.sc]] w fun e w' => e = .returned (.bool false) ∧ Below w.heap.size w w' := by
  obtain ⟨X, hX⟩ : ∃ X, w.alloc (.cells #[.int .u64 p.ta, .int .u64 p.rp, .int .u32 p.id, .int .u16 p.op, .int .u16 p.st, .int .u64 p.p, .int .u32 p.o, .int .u8 p.r, .int .u64 p.c, .int .u64 p.ar, .slice p.so p.sn p.sc] 35) = X := ⟨_, rfl⟩
  have bX : Below w.heap.size w X := hX ▸ below_alloc w _
  have bp : BoxM X w.heap.size p := hX ▸ boxM_new w p
  have i2 := bp.all.2.2.1
  have HX := hide x
  have HT := hide ht
  clear ht
  have HBX := hide bX
  have HBP := hide bp
  have HY := hide hy
  clear x bX bp hy
  go_enter Tryd.func12, Tryd.ntmps12
  go_wp2_with fail
  refine (find_any p.id _ (HX.out.grow HBX.out) 1 m n a HY.out).mono ?_; rintro e w1 ⟨rfl, b1⟩
  obtain ⟨Y, hY⟩ : ∃ Y, w1.alloc (.cells #[.int .i64 1, .int .u64 m.ta, .int .u64 m.rp, .int .u32 m.id, .int .u16 m.op, .int .u16 m.st, .int .u64 m.p, .int .u32 m.o, .int .u8 m.r, .int .u64 m.c, .int .u64 m.ar, .slice m.so m.sn m.sc, .int .i64 n, .int .i64 a] 60) = Y := ⟨_, rfl⟩
  have bY : Below w1.heap.size w1 Y := hY ▸ below_alloc w1 _
  have by1 : BoxC Y w1.heap.size ⟨1, m, n, a⟩ := hY ▸ boxC_new w1 ⟨1, m, n, a⟩
  have bpy := HBP.out.grow (below_one b1 bY)
  have bwy := below_one (below_one HBX.out b1) bY
  have xy := HX.out.grow bwy
  have c0 : ∀ q, (Y.drewN q).cell? ⟨g, 0, none⟩ = some (.int .u64 rp) := fun q => xy.c0
  have j0 : ∀ q, (Y.drewN q).cell? ⟨w.heap.size, 0, none⟩ = some (.int .u64 rp) := fun q => by rw [← HT.out]; exact bpy.all.1
  have j1 : ∀ q, (Y.drewN q).cell? ⟨w.heap.size, 1, none⟩ = some (.int .u64 p.rp) := fun q => by exact bpy.all.2.1
  have hka := by1.all
  dsimp only at hka
  have s0 : ∀ q, (Y.drewN q).cell? ⟨w1.heap.size, 0, none⟩ = some (.int .i64 1) := fun q => hka.1
  have s1 : ∀ q, (Y.drewN q).cell? ⟨w1.heap.size, 1, none⟩ = some (.int .u64 m.ta) := fun q => hka.2.1
  have HWY := hide bwy
  have HPY := hide bpy
  clear i2 b1 bY by1 bpy bwy xy hka
  go_wp2_with fail
  go_quiet (fail)
  go_wp2
  go_ret
  exact ⟨rfl, below_drewN HWY.out _⟩
set_option maxRecDepth 20000 in
set_option maxHeartbeats 6400000 in
theorem answer_yes (p : Ms) (w : World) (x : Ct w g rp wt tr T) (k : Nat) (m : Ms) (n a : Int) (hid : p.id = (k : Int) + 1) (hk : k < T.length) (hy : findC T p.id = ⟨1, m, n, a⟩) (ht : p.ta = rp) (hs : p.rp = m.ta) (hp : p.has w) (hn : p.sn ≤ 140737488355328) :
    Calls Tryd.prog 12 #[.pointer (some ⟨g, 0, none⟩), .agg #[.int .u64 p.ta, .int .u64 p.rp, .int .u32 p.id, .int .u16 p.op, .int .u16 p.st, .int .u64 p.p, .int .u32 p.o, .int .u8 p.r, .int .u64 p.c, .int .u64 p.ar, .slice p.so p.sn p.sc]] w fun e w' => e = .returned (.bool true) ∧ StEnd w g rp wt tr ((T.map Cl.nm).set k ⟨2, p.nm, 0, 0⟩) w' := by
  obtain ⟨X, hX⟩ : ∃ X, w.alloc (.cells #[.int .u64 p.ta, .int .u64 p.rp, .int .u32 p.id, .int .u16 p.op, .int .u16 p.st, .int .u64 p.p, .int .u32 p.o, .int .u8 p.r, .int .u64 p.c, .int .u64 p.ar, .slice p.so p.sn p.sc] 35) = X := ⟨_, rfl⟩
  have bX : Below w.heap.size w X := hX ▸ below_alloc w _
  have bp : BoxM X w.heap.size p := hX ▸ boxM_new w p
  have i2 := bp.all.2.2.1
  have HX := hide x
  have HT := hide ht
  have HS := hide hs
  have HP := hide hp
  have HN := hide hn
  have HK := hide hk
  have hk64 : (k : Int) < 64 := by have := x.few; omega
  have hwi : IntKind.u32.wrap (p.id - 1) = (k : Int) := by rw [IntKind.wrap_u32, hid]; omega
  clear ht hs hp hn hid hk
  have HBX := hide bX
  have HBP := hide bp
  have HY := hide hy
  clear x bX bp hy
  go_enter Tryd.func12, Tryd.ntmps12
  go_wp2_with fail
  refine (find_any p.id _ (HX.out.grow HBX.out) 1 m n a HY.out).mono ?_; rintro e w1 ⟨rfl, b1⟩
  obtain ⟨Y, hY⟩ : ∃ Y, w1.alloc (.cells #[.int .i64 1, .int .u64 m.ta, .int .u64 m.rp, .int .u32 m.id, .int .u16 m.op, .int .u16 m.st, .int .u64 m.p, .int .u32 m.o, .int .u8 m.r, .int .u64 m.c, .int .u64 m.ar, .slice m.so m.sn m.sc, .int .i64 n, .int .i64 a] 60) = Y := ⟨_, rfl⟩
  have bY : Below w1.heap.size w1 Y := hY ▸ below_alloc w1 _
  have by1 : BoxC Y w1.heap.size ⟨1, m, n, a⟩ := hY ▸ boxC_new w1 ⟨1, m, n, a⟩
  have bpy := HBP.out.grow (below_one b1 bY)
  have bwy := below_one (below_one HBX.out b1) bY
  have xy := HX.out.grow bwy
  have c0 : ∀ q, (Y.drewN q).cell? ⟨g, 0, none⟩ = some (.int .u64 rp) := fun q => xy.c0
  have j0 : ∀ q, (Y.drewN q).cell? ⟨w.heap.size, 0, none⟩ = some (.int .u64 rp) := fun q => by rw [← HT.out]; exact bpy.all.1
  have j1 : ∀ q, (Y.drewN q).cell? ⟨w.heap.size, 1, none⟩ = some (.int .u64 m.ta) := fun q => by rw [← HS.out]; exact bpy.all.2.1
  have hka := by1.all
  dsimp only at hka
  have s0 : ∀ q, (Y.drewN q).cell? ⟨w1.heap.size, 0, none⟩ = some (.int .i64 1) := fun q => hka.1
  have s1 : ∀ q, (Y.drewN q).cell? ⟨w1.heap.size, 1, none⟩ = some (.int .u64 m.ta) := fun q => hka.2.1
  have HWY := hide bwy
  have HPY := hide bpy
  clear i2 b1 bY by1 bpy bwy xy hka
  go_wp2_with fail
  go_quiet (fail)
  obtain ⟨V, hV⟩ : ∃ V, Y.drewN nq = V := ⟨_, rfl⟩
  have bV : Below Y.heap.size Y V := hV ▸ below_d Y _
  have bwv := below_one HWY.out bV
  have bpv := HPY.out.grow bV
  obtain ⟨i0, i1, i2, i3, i4, i5, i6, i7, i8, i9, i10⟩ := bpv.all
  have HWV := hide bwv
  have HPV := hide bpv
  clear c0 j0 j1 s0 s1 bV bwv bpv
  go_wp2_with fail
  go_region_with (first | (go_at_call 16; go_must (refine (alone_any p _ (Bts.carry HP.out (below_one HWV.out (below_d V 1))) HN.out).mono ?_); rintro e w2 ⟨p', rfl, E⟩; have x2 := HX.out.grow (below_one (below_one HWV.out (below_d V 1)) E.b); have l2 := (HPV.out.grow (below_one (below_d V 1) E.b)).all.2.2.1; obtain ⟨d0, d1, d2, d3, d4, d5, d6, d7, d8, d9, d10, d11, d12, d13⟩ := x2.at k (by omega) _ rfl; have fz0 := x2.z (4 + k * 14); have fz1 := x2.z (4 + k * 14 + 1); have fz2 := x2.z (4 + k * 14 + 2); have fz3 := x2.z (4 + k * 14 + 3); have fz4 := x2.z (4 + k * 14 + 4); have fz5 := x2.z (4 + k * 14 + 5); have fz6 := x2.z (4 + k * 14 + 6); have fz7 := x2.z (4 + k * 14 + 7); have fz8 := x2.z (4 + k * 14 + 8); have fz9 := x2.z (4 + k * 14 + 9); have fz10 := x2.z (4 + k * 14 + 10); have fz11 := x2.z (4 + k * 14 + 11); have fz12 := x2.z (4 + k * 14 + 12); have fz13 := x2.z (4 + k * 14 + 13); have HR : Hid (StEnd w g rp wt tr ((T.map Cl.nm).set k ⟨2, p.nm, 0, 0⟩) (lay14 w2 g (4 + k * 14) ⟨2, p', 0, 0⟩)) := ⟨⟨_, x2.lay k HK.out ⟨2, p', 0, 0⟩ (.inr (.inl rfl)) ⟨E.has, E.own, by show p'.sn ≤ _; rw [E.sn]; exact HN.out⟩, by rw [List.map_set]; show (T.map Cl.nm).set k ⟨2, p'.nm, 0, 0⟩ = _; rw [E.nm]⟩, (below_foot _ (below_one (below_one HWV.out (below_d V 1)) E.b)).then (foot_lay14 w2 g (4 + k * 14) _)⟩; simp only [lay14] at HR; clear E x2) | fail)
  all_goals (go_wp2; go_ret; exact ⟨rfl, HR.out⟩)
theorem answer_no (p : Ms) (w : World) (x : St w g rp wt tr L) (h : ansF L rp p = false) :
    Calls Tryd.prog 12 #[.pointer (some ⟨g, 0, none⟩), .agg #[.int .u64 p.ta, .int .u64 p.rp, .int .u32 p.id, .int .u16 p.op, .int .u16 p.st, .int .u64 p.p, .int .u32 p.o, .int .u8 p.r, .int .u64 p.c, .int .u64 p.ar, .slice p.so p.sn p.sc]] w fun e w' => e = .returned (.bool false) ∧ Below w.heap.size w w' := by
  obtain ⟨T, x, rfl⟩ := x
  unfold ansF at h
  rw [findC_nm] at h
  obtain ⟨⟨s, m, n, a⟩, hy⟩ : ∃ y, findC T p.id = y := ⟨_, rfl⟩
  rw [hy] at h
  by_cases h1 : s = 1
  · subst h1
    by_cases h2 : p.ta = rp
    · refine answer_from p w x m n a hy h2 (fun e => ?_)
      simp [Cl.nm, Ms.nm, h2, e] at h
    · exact answer_to p w x m n a hy h2
  · exact answer_idle p w x s m n a hy h1
theorem answer_ok (p : Ms) (k : Nat) (w : World) (x : St w g rp wt tr L) (hid : p.id = (k : Int) + 1) (hk : k < L.length) (h : ansF L rp p = true) (hp : p.has w) (hn : p.sn ≤ 140737488355328) :
    Calls Tryd.prog 12 #[.pointer (some ⟨g, 0, none⟩), .agg #[.int .u64 p.ta, .int .u64 p.rp, .int .u32 p.id, .int .u16 p.op, .int .u16 p.st, .int .u64 p.p, .int .u32 p.o, .int .u8 p.r, .int .u64 p.c, .int .u64 p.ar, .slice p.so p.sn p.sc]] w fun e w' => e = .returned (.bool true) ∧ StEnd w g rp wt tr (L.set k ⟨2, p.nm, 0, 0⟩) w' := by
  obtain ⟨T, x, rfl⟩ := x
  rw [List.length_map] at hk
  unfold ansF at h
  rw [findC_nm] at h
  obtain ⟨⟨s, m, n, a⟩, hy⟩ : ∃ y, findC T p.id = y := ⟨_, rfl⟩
  rw [hy] at h
  simp only [Cl.nm, Ms.nm, Bool.and_eq_true, beq_iff_eq] at h
  obtain ⟨⟨rfl, h2⟩, h3⟩ := h
  exact answer_yes p w x k m n a hid hk hy h2 h3 hp hn
end Go.Proofs.YtdodmnianhpjbaaDoor
