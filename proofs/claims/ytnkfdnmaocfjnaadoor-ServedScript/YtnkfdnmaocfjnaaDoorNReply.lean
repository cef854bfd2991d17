/-
  What a Served's Reply answers, as contracts.
-/
import Derived.Test.YtnkfdnmaocfjnaaDoorNTake
namespace Go.Proofs.YtnkfdnmaocfjnaaDoor
open Go.RowKit
variable {w w' : World} {g : Nat} {T L : List Rq}
/- a message's data lies in another block -/
def OffG (g : Nat) (p : Ms) : Prop := 0 < p.sn → ∀ ad, p.so = some ad → ad.block ≠ g
theorem OffG.of {w0 : World} {p : Ms} (h : p.has w0) (hg : w0.heap.size ≤ g) : OffG g p := fun hn ad e i => by
  have := lt_of_cell (h.2.2.2.2 ad e 0 (by have := h.1; omega))
  rw [add_block] at this; omega
theorem OffG.has {p : Ms} (o : OffG g p) (h : p.has w) (f : Foot (fun j => j = g) w w') : p.has w' := by
  refine ⟨h.1, h.2.1, h.2.2.1, h.2.2.2.1, fun ad e j hj => ?_⟩
  have hc := h.2.2.2.2 ad e j hj
  rw [f.cell _ (lt_of_cell hc) (by rw [add_block]; exact o (by have := h.1; omega) ad e), hc]
theorem OffG.zero (g : Nat) : OffG g Ms.zero := fun h => absurd h (by show ¬ 0 < 0; omega)
set_option maxRecDepth 20000 in
set_option maxHeartbeats 3200000 in
theorem reply_n (p r : Ms) (x : Sv w g T) (hn : ∀ j, j < T.length → isR p.rp p.id (rq T j) = false) :
    Calls Tryd.prog 6 #[.pointer (some ⟨g, 0, none⟩), .agg #[.int .u64 p.ta, .int .u64 p.rp, .int .u32 p.id, .int .u16 p.op, .int .u16 p.st, .int .u64 p.p, .int .u32 p.o, .int .u8 p.r, .int .u64 p.c, .int .u64 p.ar, .slice p.so p.sn p.sc], .agg #[.int .u64 r.ta, .int .u64 r.rp, .int .u32 r.id, .int .u16 r.op, .int .u16 r.st, .int .u64 r.p, .int .u32 r.o, .int .u8 r.r, .int .u64 r.c, .int .u64 r.ar, .slice r.so r.sn r.sc]] w fun e w' => e = .returned (.bool false) ∧ Below w.heap.size w w' := by
  obtain ⟨X, hX⟩ : ∃ X, (w.alloc (.cells #[.int .u64 p.ta, .int .u64 p.rp, .int .u32 p.id, .int .u16 p.op, .int .u16 p.st, .int .u64 p.p, .int .u32 p.o, .int .u8 p.r, .int .u64 p.c, .int .u64 p.ar, .slice p.so p.sn p.sc] 32)).alloc (.cells #[.int .u64 r.ta, .int .u64 r.rp, .int .u32 r.id, .int .u16 r.op, .int .u16 r.st, .int .u64 r.p, .int .u32 r.o, .int .u8 r.r, .int .u64 r.c, .int .u64 r.ar, .slice r.so r.sn r.sc] 32) = X := ⟨_, rfl⟩
  have bX : Below w.heap.size w X := hX ▸ below_one (below_alloc w _) (below_alloc _ _)
  have bp : BoxM X w.heap.size p := hX ▸ (boxM_new w p).grow (below_alloc _ _)
  have br : BoxM X (w.heap.size + 1) r := by rw [← hX, ← size_al w (.cells #[.int .u64 p.ta, .int .u64 p.rp, .int .u32 p.id, .int .u16 p.op, .int .u16 p.st, .int .u64 p.p, .int .u32 p.o, .int .u8 p.r, .int .u64 p.c, .int .u64 p.ar, .slice p.so p.sn p.sc] 32)]; exact boxM_new (w.alloc (.cells #[.int .u64 p.ta, .int .u64 p.rp, .int .u32 p.id, .int .u16 p.op, .int .u16 p.st, .int .u64 p.p, .int .u32 p.o, .int .u8 p.r, .int .u64 p.c, .int .u64 p.ar, .slice p.so p.sn p.sc] 32)) r
  obtain ⟨i0, i1, i2, i3, i4, i5, i6, i7, i8, i9, i10⟩ := bp.all
  have HX := hide (x.grow bX)
  have HBX := hide bX
  have HN := hide hn
  clear x bX bp br hn
  go_enter Tryd.func6, Tryd.ntmps6
  go_wp2_with fail
  refine (find_any p HX.out).mono ?_; rintro e w1 ⟨v, rfl, hr, b1⟩
  obtain rfl := hr.none HN.out
  have HB1 := hide (below_one HBX.out b1)
  clear hr b1 i0 i1 i2 i3 i4 i5 i6 i7 i8 i9 i10
  go_wp2
  go_ret
  exact ⟨rfl, HB1.out⟩
set_option maxRecDepth 20000 in
set_option maxHeartbeats 3200000 in
theorem reply_d (p r : Ms) (x : Sv w g T) (k : Nat) (hk : k < T.length) (hq : isR p.rp p.id (rq T k) = true) (hn : ∀ j, j < k → isR p.rp p.id (rq T j) = false) (rp id : Int) (m : Ms) (hy : rq T k = ⟨rp, id, true, m⟩) :
    Calls Tryd.prog 6 #[.pointer (some ⟨g, 0, none⟩), .agg #[.int .u64 p.ta, .int .u64 p.rp, .int .u32 p.id, .int .u16 p.op, .int .u16 p.st, .int .u64 p.p, .int .u32 p.o, .int .u8 p.r, .int .u64 p.c, .int .u64 p.ar, .slice p.so p.sn p.sc], .agg #[.int .u64 r.ta, .int .u64 r.rp, .int .u32 r.id, .int .u16 r.op, .int .u16 r.st, .int .u64 r.p, .int .u32 r.o, .int .u8 r.r, .int .u64 r.c, .int .u64 r.ar, .slice r.so r.sn r.sc]] w fun e w' => e = .returned (.bool false) ∧ Below w.heap.size w w' := by
  obtain ⟨X, hX⟩ : ∃ X, (w.alloc (.cells #[.int .u64 p.ta, .int .u64 p.rp, .int .u32 p.id, .int .u16 p.op, .int .u16 p.st, .int .u64 p.p, .int .u32 p.o, .int .u8 p.r, .int .u64 p.c, .int .u64 p.ar, .slice p.so p.sn p.sc] 32)).alloc (.cells #[.int .u64 r.ta, .int .u64 r.rp, .int .u32 r.id, .int .u16 r.op, .int .u16 r.st, .int .u64 r.p, .int .u32 r.o, .int .u8 r.r, .int .u64 r.c, .int .u64 r.ar, .slice r.so r.sn r.sc] 32) = X := ⟨_, rfl⟩
  have bX : Below w.heap.size w X := hX ▸ below_one (below_alloc w _) (below_alloc _ _)
  have bp : BoxM X w.heap.size p := hX ▸ (boxM_new w p).grow (below_alloc _ _)
  have br : BoxM X (w.heap.size + 1) r := by rw [← hX, ← size_al w (.cells #[.int .u64 p.ta, .int .u64 p.rp, .int .u32 p.id, .int .u16 p.op, .int .u16 p.st, .int .u64 p.p, .int .u32 p.o, .int .u8 p.r, .int .u64 p.c, .int .u64 p.ar, .slice p.so p.sn p.sc] 32)]; exact boxM_new (w.alloc (.cells #[.int .u64 p.ta, .int .u64 p.rp, .int .u32 p.id, .int .u16 p.op, .int .u16 p.st, .int .u64 p.p, .int .u32 p.o, .int .u8 p.r, .int .u64 p.c, .int .u64 p.ar, .slice p.so p.sn p.sc] 32)) r
  obtain ⟨i0, i1, i2, i3, i4, i5, i6, i7, i8, i9, i10⟩ := bp.all
  have HX := hide (x.grow bX)
  have HBX := hide bX
  have HK := hide hk
  have HQ := hide hq
  have HN := hide hn
  have HY := hide hy
  have hk32 : (k : Int) < 32 := by have := x.few; omega
  clear x bX bp br hk hq hn hy
  go_enter Tryd.func6, Tryd.ntmps6
  go_wp2_with fail
  refine (find_any p HX.out).mono ?_; rintro e w1 ⟨v, rfl, hr, b1⟩
  obtain rfl := hr.some k HK.out HQ.out HN.out
  have hat := (HX.out.grow b1).at k HK.out _ HY.out
  dsimp only at hat
  have d2 := hat.2.2.1
  have hge : ¬ ((k : Int) < 0) := by omega
  have HB1 := hide (below_one HBX.out b1)
  clear hr b1 hat i0 i1 i2 i3 i4 i5 i6 i7 i8 i9 i10
  go_wp2
  go_ret
  exact ⟨rfl, HB1.out⟩
set_option maxRecDepth 20000 in
set_option maxHeartbeats 6400000 in
theorem reply_y (p r : Ms) (x : Sv w g T) (k : Nat) (hk : k < T.length) (hq : isR p.rp p.id (rq T k) = true) (hn : ∀ j, j < k → isR p.rp p.id (rq T j) = false) (rp id : Int) (m : Ms) (hy : rq T k = ⟨rp, id, false, m⟩) (hr : r.has w) (ho : OffG g r) (hs : r.sn ≤ 140737488355328) :
    Calls Tryd.prog 6 #[.pointer (some ⟨g, 0, none⟩), .agg #[.int .u64 p.ta, .int .u64 p.rp, .int .u32 p.id, .int .u16 p.op, .int .u16 p.st, .int .u64 p.p, .int .u32 p.o, .int .u8 p.r, .int .u64 p.c, .int .u64 p.ar, .slice p.so p.sn p.sc], .agg #[.int .u64 r.ta, .int .u64 r.rp, .int .u32 r.id, .int .u16 r.op, .int .u16 r.st, .int .u64 r.p, .int .u32 r.o, .int .u8 r.r, .int .u64 r.c, .int .u64 r.ar, .slice r.so r.sn r.sc]] w fun e w' => e = .returned (.bool true) ∧ StEnd w g ((T.map Rq.nm).set k ⟨rp, id, true, r.nm⟩) w' := by
  obtain ⟨X, hX⟩ : ∃ X, (w.alloc (.cells #[.int .u64 p.ta, .int .u64 p.rp, .int .u32 p.id, .int .u16 p.op, .int .u16 p.st, .int .u64 p.p, .int .u32 p.o, .int .u8 p.r, .int .u64 p.c, .int .u64 p.ar, .slice p.so p.sn p.sc] 32)).alloc (.cells #[.int .u64 r.ta, .int .u64 r.rp, .int .u32 r.id, .int .u16 r.op, .int .u16 r.st, .int .u64 r.p, .int .u32 r.o, .int .u8 r.r, .int .u64 r.c, .int .u64 r.ar, .slice r.so r.sn r.sc] 32) = X := ⟨_, rfl⟩
  have bX : Below w.heap.size w X := hX ▸ below_one (below_alloc w _) (below_alloc _ _)
  have bp : BoxM X w.heap.size p := hX ▸ (boxM_new w p).grow (below_alloc _ _)
  have br : BoxM X (w.heap.size + 1) r := by rw [← hX, ← size_al w (.cells #[.int .u64 p.ta, .int .u64 p.rp, .int .u32 p.id, .int .u16 p.op, .int .u16 p.st, .int .u64 p.p, .int .u32 p.o, .int .u8 p.r, .int .u64 p.c, .int .u64 p.ar, .slice p.so p.sn p.sc] 32)]; exact boxM_new (w.alloc (.cells #[.int .u64 p.ta, .int .u64 p.rp, .int .u32 p.id, .int .u16 p.op, .int .u16 p.st, .int .u64 p.p, .int .u32 p.o, .int .u8 p.r, .int .u64 p.c, .int .u64 p.ar, .slice p.so p.sn p.sc] 32)) r
  obtain ⟨i0, i1, i2, i3, i4, i5, i6, i7, i8, i9, i10⟩ := bp.all
  have HX := hide (x.grow bX)
  have HBX := hide bX
  have HBR := hide br
  have HGL := hide x.lt
  have HK := hide hk
  have HQ := hide hq
  have HN := hide hn
  have HY := hide hy
  have HR := hide hr
  have HO := hide ho
  have HS := hide hs
  have hk32 : (k : Int) < 32 := by have := x.few; omega
  clear x bX bp br hk hq hn hy hr ho hs
  go_enter Tryd.func6, Tryd.ntmps6
  go_wp2_with fail
  refine (find_any p HX.out).mono ?_; rintro e w1 ⟨v, rfl, hv, b1⟩
  obtain rfl := hv.some k HK.out HQ.out HN.out
  obtain ⟨o, ho⟩ : ∃ o, k * 14 = o := ⟨_, rfl⟩
  have x1 := HX.out.grow b1
  have hat := x1.at k HK.out _ HY.out
  dsimp only at hat
  have d2 := hat.2.2.1
  have z2 := x1.z (k * 14 + 2)
  rw [ho] at d2 z2
  have hge : ¬ ((k : Int) < 0) := by omega
  have xf := x1.flag k HK.out _ _ _ _ HY.out
  have f1 := foot_set w1 ⟨g, k * 14 + 2, none⟩ (.bool true)
  rw [ho] at xf f1
  obtain ⟨U, hU⟩ : ∃ U, w1.setCell ⟨g, o + 2, none⟩ (.bool true) = U := ⟨_, rfl⟩
  rw [hU] at xf f1
  have hng : ¬ w.heap.size + 1 = g := by have := HGL.out; omega
  have bru := (HBR.out.grow b1).foot f1 hng
  have hru : r.has U := HO.out.has (Bts.carry HR.out (below_one HBX.out b1)) f1
  obtain ⟨k0, k1, k2, k3, k4, k5, k6, k7, k8, k9, k10⟩ := bru.all
  have HXF := hide xf
  have HRU := hide hru
  have HF1 := hide ((below_foot _ (below_one HBX.out b1)).then f1)
  have HOO := hide ho
  clear hv b1 hat x1 xf f1 bru hru i0 i1 i2 i3 i4 i5 i6 i7 i8 i9 i10 hng
  go_wp2_with fail
  go_region_with (first | (go_at_call 13; go_must (refine (alone_any r _ (Bts.carry HRU.out (below_d U 1)) HS.out).mono ?_); rintro e w2 ⟨r', rfl, E⟩; have x2 := HXF.out.grow (below_one (below_d U 1) E.b); have ln2 : k < (T.set k ⟨rp, id, true, m⟩).length := (by rw [List.length_set]; exact HK.out); have hy2 : rq (T.set k ⟨rp, id, true, m⟩) k = ⟨rp, id, true, m⟩ := (by rw [rq_set T _ k k HK.out, if_pos rfl]); have hat2 := x2.at k ln2 _ hy2; dsimp only at hat2; rw [HOO.out] at hat2; obtain ⟨d0, d1, d2, d3, d4, d5, d6, d7, d8, d9, d10, d11, d12, d13⟩ := hat2; have fz3 := x2.z (o + 3); have fz4 := x2.z (o + 4); have fz5 := x2.z (o + 5); have fz6 := x2.z (o + 6); have fz7 := x2.z (o + 7); have fz8 := x2.z (o + 8); have fz9 := x2.z (o + 9); have fz10 := x2.z (o + 10); have fz11 := x2.z (o + 11); have fz12 := x2.z (o + 12); have fz13 := x2.z (o + 13); have HEND : Hid (StEnd w g ((T.map Rq.nm).set k ⟨rp, id, true, r.nm⟩) (layR w2 g (k * 14) r')) := ⟨⟨_, x2.reply k ln2 _ _ _ _ hy2 r' ⟨E.has, E.own, (by rw [E.sn]; exact HS.out)⟩, (by rw [List.set_set, List.map_set]; show (T.map Rq.nm).set k ⟨rp, id, true, r'.nm⟩ = _; rw [E.nm])⟩, (HF1.out.then (below_foot _ (below_one (below_d U 1) E.b))).then (foot_layR w2 g (k * 14) r')⟩; simp only [layR, HOO.out] at HEND; clear E x2 hy2 ln2 d0 d1 d2) | fail)
  all_goals (go_wp2; go_ret; exact ⟨rfl, HEND.out⟩)
theorem reply_none (p r : Ms) (x : St w g L) (hn : ∀ j, j < L.length → isR p.rp p.id (rq L j) = false) :
    Calls Tryd.prog 6 #[.pointer (some ⟨g, 0, none⟩), .agg #[.int .u64 p.ta, .int .u64 p.rp, .int .u32 p.id, .int .u16 p.op, .int .u16 p.st, .int .u64 p.p, .int .u32 p.o, .int .u8 p.r, .int .u64 p.c, .int .u64 p.ar, .slice p.so p.sn p.sc], .agg #[.int .u64 r.ta, .int .u64 r.rp, .int .u32 r.id, .int .u16 r.op, .int .u16 r.st, .int .u64 r.p, .int .u32 r.o, .int .u8 r.r, .int .u64 r.c, .int .u64 r.ar, .slice r.so r.sn r.sc]] w fun e w' => e = .returned (.bool false) ∧ Below w.heap.size w w' := by
  obtain ⟨T, x, rfl⟩ := x
  rw [List.length_map] at hn
  exact reply_n p r x (fun j hj => by have := hn j hj; rwa [rq_nm, isR_nm] at this)
theorem reply_done (p r : Ms) (x : St w g L) (k : Nat) (hk : k < L.length) (hq : isR p.rp p.id (rq L k) = true) (hn : ∀ j, j < k → isR p.rp p.id (rq L j) = false) (hb : (rq L k).b = true) :
    Calls Tryd.prog 6 #[.pointer (some ⟨g, 0, none⟩), .agg #[.int .u64 p.ta, .int .u64 p.rp, .int .u32 p.id, .int .u16 p.op, .int .u16 p.st, .int .u64 p.p, .int .u32 p.o, .int .u8 p.r, .int .u64 p.c, .int .u64 p.ar, .slice p.so p.sn p.sc], .agg #[.int .u64 r.ta, .int .u64 r.rp, .int .u32 r.id, .int .u16 r.op, .int .u16 r.st, .int .u64 r.p, .int .u32 r.o, .int .u8 r.r, .int .u64 r.c, .int .u64 r.ar, .slice r.so r.sn r.sc]] w fun e w' => e = .returned (.bool false) ∧ Below w.heap.size w w' := by
  obtain ⟨T, x, rfl⟩ := x
  rw [List.length_map] at hk
  rw [rq_nm, isR_nm] at hq
  rw [rq_nm] at hb
  obtain ⟨⟨rp, id, b, m⟩, hy⟩ : ∃ y, rq T k = y := ⟨_, rfl⟩
  rw [hy] at hb
  obtain rfl : b = true := hb
  exact reply_d p r x k hk hq (fun j hj => by have := hn j hj; rwa [rq_nm, isR_nm] at this) rp id m hy
theorem reply_yes (p r : Ms) (x : St w g L) (k : Nat) (hk : k < L.length) (hq : isR p.rp p.id (rq L k) = true) (hn : ∀ j, j < k → isR p.rp p.id (rq L j) = false) (hb : (rq L k).b = false) (hr : r.has w) (ho : OffG g r) (hs : r.sn ≤ 140737488355328) :
    Calls Tryd.prog 6 #[.pointer (some ⟨g, 0, none⟩), .agg #[.int .u64 p.ta, .int .u64 p.rp, .int .u32 p.id, .int .u16 p.op, .int .u16 p.st, .int .u64 p.p, .int .u32 p.o, .int .u8 p.r, .int .u64 p.c, .int .u64 p.ar, .slice p.so p.sn p.sc], .agg #[.int .u64 r.ta, .int .u64 r.rp, .int .u32 r.id, .int .u16 r.op, .int .u16 r.st, .int .u64 r.p, .int .u32 r.o, .int .u8 r.r, .int .u64 r.c, .int .u64 r.ar, .slice r.so r.sn r.sc]] w fun e w' => e = .returned (.bool true) ∧ StEnd w g (L.set k ⟨(rq L k).p, (rq L k).i, true, r.nm⟩) w' := by
  obtain ⟨T, x, rfl⟩ := x
  rw [List.length_map] at hk
  rw [rq_nm, isR_nm] at hq
  rw [rq_nm] at hb ⊢
  obtain ⟨⟨rp, id, b, m⟩, hy⟩ : ∃ y, rq T k = y := ⟨_, rfl⟩
  rw [hy] at hb ⊢
  obtain rfl : b = false := hb
  exact reply_y p r x k hk hq (fun j hj => by have := hn j hj; rwa [rq_nm, isR_nm] at this) rp id m hy hr ho hs
end Go.Proofs.YtnkfdnmaocfjnaaDoor
