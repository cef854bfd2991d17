/-
  What a client's Start answers, as contracts.
-/
import Derived.Test.YtdodmnianhpjbaaDoorLOld
namespace Go.Proofs.YtdodmnianhpjbaaDoor
open Go.RowKit
variable {w w' : World} {g : Nat} {rp wt tr : Int} {T L : List Cl}
set_option maxRecDepth 20000 in
set_option maxHeartbeats 1600000 in
theorem start_full (p : Ms) (w : World) (x : St w g rp wt tr L) (hl : 64 ≤ L.length) :
    Calls Tryd.prog 9 #[.pointer (some ⟨g, 0, none⟩), .agg #[.int .u64 p.ta, .int .u64 p.rp, .int .u32 p.id, .int .u16 p.op, .int .u16 p.st, .int .u64 p.p, .int .u32 p.o, .int .u8 p.r, .int .u64 p.c, .int .u64 p.ar, .slice p.so p.sn p.sc]] w fun e w' => e = .returned (.tuple #[.agg #[.int .u64 0, .int .u64 0, .int .u32 0, .int .u16 0, .int .u16 0, .int .u64 0, .int .u32 0, .int .u8 0, .int .u64 0, .int .u64 0, .slice none 0 0], erN 5]) ∧ Below w.heap.size w w' := by
  obtain ⟨T, x, rfl⟩ := x
  rw [List.length_map] at hl
  rw [erN_not (by decide)]
  have c3 := ((x.grow (below_alloc w (.cells #[.int .u64 p.ta, .int .u64 p.rp, .int .u32 p.id, .int .u16 p.op, .int .u16 p.st, .int .u64 p.p, .int .u32 p.o, .int .u8 p.r, .int .u64 p.c, .int .u64 p.ar, .slice p.so p.sn p.sc] 35))).grow (below_alloc _ (.cells #[.int .u64 0, .int .u64 0, .int .u32 0, .int .u16 0, .int .u16 0, .int .u64 0, .int .u32 0, .int .u8 0, .int .u64 0, .int .u64 0, .slice none 0 0] 35))).c3
  have h64 : (64 : Int) ≤ (T.length : Int) := by omega
  have hb := below_one (below_alloc w (.cells #[.int .u64 p.ta, .int .u64 p.rp, .int .u32 p.id, .int .u16 p.op, .int .u16 p.st, .int .u64 p.p, .int .u32 p.o, .int .u8 p.r, .int .u64 p.c, .int .u64 p.ar, .slice p.so p.sn p.sc] 35)) (below_alloc _ (.cells #[.int .u64 0, .int .u64 0, .int .u32 0, .int .u16 0, .int .u16 0, .int .u64 0, .int .u32 0, .int .u8 0, .int .u64 0, .int .u64 0, .slice none 0 0] 35))
  have HB := hide hb
  clear x hl hb
  go_enter Tryd.func9, Tryd.ntmps9
  go_wp2
  go_returns
  exact ⟨rfl, HB.out⟩
/- a request as it is sent -/
def reqF (rp : Int) (k : Int) (p : Ms) : Ms := ⟨p.ta, rp, k, p.op, 0, p.p, p.o, p.r, p.c, p.ar, p.so, p.sn, p.sc, p.l⟩
theorem Ct.mid {w : World} (x : Ct w g rp wt tr T) (k : Nat) (hk : k < 64) (y : Cl) : (lay14 w g (4 + k * 14) y).cell? ⟨g, 3, none⟩ = some (.int .i64 (T.length : Int)) ∧ (lay14 w g (4 + k * 14) y).frozen? ⟨g, 3, none⟩ = false := by
  obtain ⟨C, h, c⟩ := x.box
  have h1 := lay14_heap h (4 + k * 14) y
  have hs := c.size
  refine ⟨?_, frozen_of_row _ g 3 _ _ h1⟩
  rw [cell_of_row _ g _ _ _ _ h1, setC_get _ _ _ _ (by show 4 + k * 14 + 14 ≤ _; omega), if_neg (by show ¬ (4 + k * 14 ≤ 3 ∧ 3 < 4 + k * 14 + 14); omega)]
  exact c.b
theorem box_req {w : World} {h k : Nat} {p : Ms} (b : BoxM w h p) : BoxM (((w.setCell ⟨h, 2, none⟩ (.int .u32 ((k : Int) + 1))).setCell ⟨h, 1, none⟩ (.int .u64 rp)).setCell ⟨h, 4, none⟩ (.int .u16 0)) h (reqF rp ((k : Int) + 1) p) := by
  have h1 := heap_setCell_same w h 2 _ _ (.int .u32 ((k : Int) + 1)) b
  have h2 := heap_setCell_same _ h 1 _ _ (.int .u64 rp) h1
  have h3 := heap_setCell_same _ h 4 _ _ (.int .u16 0) h2
  unfold BoxM
  rw [h3]; rfl
/- a message's data lies in another block -/
def OffG (g : Nat) (p : Ms) : Prop := 0 < p.sn → ∀ ad, p.so = some ad → ad.block ≠ g
theorem OffG.of {w0 : World} {p : Ms} (h : p.has w0) (hg : w0.heap.size ≤ g) : OffG g p := fun hn ad e i => by
  have := lt_of_cell (h.2.2.2.2 ad e 0 (by have := h.1; omega))
  rw [add_block] at this; omega
theorem OffG.has {p : Ms} (o : OffG g p) (h : p.has w) (f : Foot (fun j => j = g) w w') : p.has w' := by
  refine ⟨h.1, h.2.1, h.2.2.1, h.2.2.2.1, fun ad e j hj => ?_⟩
  have hc := h.2.2.2.2 ad e j hj
  rw [f.cell _ (lt_of_cell hc) (by rw [add_block]; exact o (by have := h.1; omega) ad e), hc]
def Sa1 (X : World) (h : Nat) (q : Ms) (wx : World) : Prop := BoxM wx h q ∧ Foot (fun j => j = h) X wx
def Sa2 (W : World) (g o : Nat) (q : Ms) (wx : World) : Prop := ∃ w2 p', AlEnd W q p' w2 ∧ wx = lay14 w2 g o ⟨1, p', 1, 0⟩
set_option maxRecDepth 20000 in
set_option maxHeartbeats 6400000 in
theorem start_yes (p : Ms) (w : World) (x : St w g rp wt tr L) (hp : p.has w) (ho : OffG g p) (hs : p.sn ≤ 140737488355328) (hl : L.length < 64) :
    Calls Tryd.prog 9 #[.pointer (some ⟨g, 0, none⟩), .agg #[.int .u64 p.ta, .int .u64 p.rp, .int .u32 p.id, .int .u16 p.op, .int .u16 p.st, .int .u64 p.p, .int .u32 p.o, .int .u8 p.r, .int .u64 p.c, .int .u64 p.ar, .slice p.so p.sn p.sc]] w fun e w' => ∃ q : Ms, e = .returned (.tuple #[.agg #[.int .u64 q.ta, .int .u64 q.rp, .int .u32 q.id, .int .u16 q.op, .int .u16 q.st, .int .u64 q.p, .int .u32 q.o, .int .u8 q.r, .int .u64 q.c, .int .u64 q.ar, .slice q.so q.sn q.sc], .nilIface]) ∧ q.nm = (reqF rp ((L.length : Int) + 1) p).nm ∧ q.sn = p.sn ∧ q.has w' ∧ StEnd w g rp wt tr (L ++ [⟨1, (reqF rp ((L.length : Int) + 1) p).nm, 1, 0⟩]) w' := by
  obtain ⟨T, x, rfl⟩ := x
  rw [List.length_map] at hl ⊢
  obtain ⟨X, hX⟩ : ∃ X, (w.alloc (.cells #[.int .u64 p.ta, .int .u64 p.rp, .int .u32 p.id, .int .u16 p.op, .int .u16 p.st, .int .u64 p.p, .int .u32 p.o, .int .u8 p.r, .int .u64 p.c, .int .u64 p.ar, .slice p.so p.sn p.sc] 35)).alloc (.cells #[.int .u64 0, .int .u64 0, .int .u32 0, .int .u16 0, .int .u16 0, .int .u64 0, .int .u32 0, .int .u8 0, .int .u64 0, .int .u64 0, .slice none 0 0] 35) = X := ⟨_, rfl⟩
  have hb : Below w.heap.size w X := hX ▸ below_one (below_alloc w _) (below_alloc _ _)
  have bp : BoxM X w.heap.size p := hX ▸ (boxM_new w p).grow (below_alloc _ _)
  have bq : BoxM X (w.heap.size + 1) Ms.zero := by rw [← hX, ← size_al w (.cells #[.int .u64 p.ta, .int .u64 p.rp, .int .u32 p.id, .int .u16 p.op, .int .u16 p.st, .int .u64 p.p, .int .u32 p.o, .int .u8 p.r, .int .u64 p.c, .int .u64 p.ar, .slice p.so p.sn p.sc] 35)]; exact boxM_new (w.alloc (.cells #[.int .u64 p.ta, .int .u64 p.rp, .int .u32 p.id, .int .u16 p.op, .int .u16 p.st, .int .u64 p.p, .int .u32 p.o, .int .u8 p.r, .int .u64 p.c, .int .u64 p.ar, .slice p.so p.sn p.sc] 35)) Ms.zero
  have x1 := x.grow hb
  obtain ⟨k, hk⟩ : ∃ k, T.length = k := ⟨_, rfl⟩
  obtain ⟨q, hq⟩ : ∃ q, reqF rp ((k : Int) + 1) p = q := ⟨_, rfl⟩
  have c3 := x1.c3
  have c0 := x1.c0
  rw [hk] at c3 hl ⊢
  rw [hq]
  have h64 : ¬ ((64 : Int) ≤ (k : Int)) := by omega
  have hlt : (k : Int) < 64 := by omega
  have hwa : IntKind.i64.wrap ((k : Int) + 1) = (k : Int) + 1 := by rw [IntKind.wrap_i64]; omega
  have hwb : IntKind.u32.wrap ((k : Int) + 1) = (k : Int) + 1 := by rw [IntKind.wrap_u32]; omega
  have hwc : wrap64 ((k : Int) + 1) = (k : Int) + 1 := by unfold wrap64; omega
  obtain ⟨i0, i1, i2, i3, i4, i5, i6, i7, i8, i9, i10⟩ := bp.all
  have z1 := bp.z 1
  have z2 := bp.z 2
  have z4 := bp.z 4
  have HREL : Hid (Sa1 X w.heap.size q ((((X.setCell ⟨w.heap.size, 2, none⟩ (.int .u32 ((k : Int) + 1))).setCell ⟨w.heap.size, 1, none⟩ (.int .u64 rp)).setCell ⟨w.heap.size, 4, none⟩ (.int .u16 0)).drew)) :=
    ⟨hq ▸ (box_req bp), ((((Foot.refl _ X).put _ _).put _ _).put _ _).drewN 1⟩
  have HXX := hide x
  have HP := hide hp
  have HB := hide hb
  have HQ := hide bq
  have HS := hide hs
  have HO := hide ho
  have HK := hide hk
  have HQQ := hide hq
  have hgl := x.lt
  clear x x1 hb bp bq hp hs hk hq ho
  go_enter Tryd.func9, Tryd.ntmps9
  go_upto_region 3 with fail
  go_cut [] from 13 to 25 (fun wx => Sa1 X w.heap.size q wx)
  case first =>
    go_region_with (fail)
    all_goals (go_wp2_with fail; go_meet; exact HREL.out)
  case rest =>
    obtain ⟨W1, rfl⟩ : ∃ W1, W1 = wc := ⟨wc, rfl⟩
    obtain ⟨bq1, f1⟩ := hcut
    clear c3 c0 i0 i1 i2 i3 i4 i5 i6 i7 i8 i9 i10 z1 z2 z4 HREL
    have FW := hide ((below_foot (fun j => w.heap.size ≤ j) HB.out).then (f1.mono (fun k e => by show _ ≤ _; omega)))
    have bw : Below w.heap.size w W1 := FW.out.below (Nat.le_refl _) (fun k e => e)
    have xw := HXX.out.grow bw
    have hqw : q.has W1 := by
      have := HQQ.out
      subst this
      exact Bts.carry HP.out bw
    have hqs : q.sn = p.sn := by have := HQQ.out; subst this; rfl
    obtain ⟨i0, i1, i2, i3, i4, i5, i6, i7, i8, i9, i10⟩ := bq1.all
    have c3 := xw.c3
    rw [HK.out] at c3
    have HQW := hide hqw
    have HXW := hide xw
    have HBQ := hide bq1
    have HSN := hide hqs
    have HBQ0 := hide (HQ.out.foot f1 (by omega))
    have HBW := hide bw
    clear hqw xw bq1 hqs f1 bw
    go_upto_region 4 with fail
    go_cut [] from 26 to 36 (fun wx => Sa2 W1 g (4 + k * 14) q wx)
    case first =>
      go_region_with (first | (go_at_call 16; go_must (refine (alone_any q _ (Bts.carry HQW.out (below_d W1 1)) (by rw [HSN.out]; exact HS.out)).mono ?_); rintro e w2 ⟨p', rfl, E⟩; have x2 := HXW.out.grow (below_one (below_d W1 1) E.b); have e3 := x2.c3; rw [HK.out] at e3; obtain ⟨d0, d1, d2, d3, d4, d5, d6, d7, d8, d9, d10, d11, d12, d13⟩ := x2.at k (by omega) _ rfl; have fz0 := x2.z (4 + k * 14); have fz1 := x2.z (4 + k * 14 + 1); have fz2 := x2.z (4 + k * 14 + 2); have fz3 := x2.z (4 + k * 14 + 3); have fz4 := x2.z (4 + k * 14 + 4); have fz5 := x2.z (4 + k * 14 + 5); have fz6 := x2.z (4 + k * 14 + 6); have fz7 := x2.z (4 + k * 14 + 7); have fz8 := x2.z (4 + k * 14 + 8); have fz9 := x2.z (4 + k * 14 + 9); have fz10 := x2.z (4 + k * 14 + 10); have fz11 := x2.z (4 + k * 14 + 11); have fz12 := x2.z (4 + k * 14 + 12); have fz13 := x2.z (4 + k * 14 + 13); have HR : Hid (Sa2 W1 g (4 + k * 14) q (lay14 w2 g (4 + k * 14) ⟨1, p', 1, 0⟩)) := ⟨w2, p', ⟨E.nm, E.sn, E.has, E.own, E.new, below_one (below_d W1 1) E.b⟩, rfl⟩; simp only [lay14] at HR; clear E x2) | fail)
      all_goals (go_wp2_with fail; go_meet; exact HR.out)
    case rest =>
      obtain ⟨w2, p', E, rfl⟩ := hcut
      clear c3 i0 i1 i2 i3 i4 i5 i6 i7 i8 i9 i10
      obtain ⟨y, hy⟩ : ∃ y : Cl, (⟨1, p', 1, 0⟩ : Cl) = y := ⟨_, rfl⟩
      rw [hy]
      have x2 := HXW.out.grow E.b
      have xm := x2.mid k (by omega) y
      have hyo : y.ok wt tr := by subst hy; exact .inl ⟨rfl, by show (0 : Int) ≤ 0; omega, by have := x2.rng; show (0 : Int) < wt; omega, by show (1 : Int) ≤ 1; omega, by have := x2.rng; show (1 : Int) ≤ tr; omega⟩
      have hyh : y.m.has w2 ∧ OwnD w2 y.m ∧ y.m.sn ≤ 140737488355328 := by subst hy; exact ⟨E.has, E.own, by show p'.sn ≤ _; rw [E.sn, HSN.out]; exact HS.out⟩
      have xs := x2.snoc (by rw [HK.out]; exact hl) y hyo hyh
      rw [HK.out] at xs xm
      have f3 := foot_lay14 w2 g (4 + k * 14) y
      obtain ⟨V, hV⟩ : ∃ V, lay14 w2 g (4 + k * 14) y = V := ⟨_, rfl⟩
      rw [hV] at xs xm f3
      rw [hV]
      obtain ⟨c3, z3⟩ := xm
      obtain ⟨V2, hV2⟩ : ∃ V2, V.setCell ⟨g, 3, none⟩ (.int .i64 ((k : Int) + 1)) = V2 := ⟨_, rfl⟩
      have f4 : Foot (fun j => j = g) w2 V2 := f3.then (hV2 ▸ foot_set V ⟨g, 3, none⟩ _)
      rw [hV2] at xs
      have hng : ¬ w.heap.size = g := by omega
      have hng1 : ¬ w.heap.size + 1 = g := by omega
      have bq5 : BoxM V2 w.heap.size q := (HBQ.out.grow E.b).foot f4 hng
      have HB5 := hide ((HBQ0.out.grow E.b).foot f4 hng1)
      have HQ5 : Hid (q.has V2) := by
        have ho : OffG g q := by have := HQQ.out; subst this; exact HO.out
        exact ho.has (Bts.carry HQW.out E.b) f4
      have HYN : Hid (y.nm = ⟨1, q.nm, 1, 0⟩) := by show y.nm = _; rw [← hy]; show (⟨1, p'.nm, 1, 0⟩ : Cl) = _; rw [E.nm]
      have HF5 := hide ((below_foot (fun j => j = g) (below_one HBW.out E.b)).then f4)
      have HX5 := hide xs
      obtain ⟨i0, i1, i2, i3, i4, i5, i6, i7, i8, i9, i10⟩ := bq5.all
      clear E x2 hyo hyh xs f3 f4 hV hy bq5 HXW HBQ HBQ0
      go_wp2_with fail
      refine (alone_any q _ HQ5.out (by rw [HSN.out]; exact HS.out)).mono ?_; rintro e w5 ⟨p5, rfl, E5⟩
      have bz5 := HB5.out.grow E5.b
      obtain ⟨V5, hV5⟩ : ∃ V5, lay11 w5 (w.heap.size + 1) p5 = V5 := ⟨_, rfl⟩
      have bv5 : BoxM V5 (w.heap.size + 1) p5 := hV5 ▸ bz5.lay p5
      have ft5 : Foot (fun j => j = w.heap.size + 1) w5 V5 := hV5 ▸ foot_lay11 w5 _ p5
      have HEND : Hid (p5.nm = q.nm ∧ p5.sn = p.sn ∧ p5.has V5 ∧ StEnd w g rp wt tr (T.map Cl.nm ++ [⟨1, q.nm, 1, 0⟩]) V5) := by
        have nb : ∀ k cur, w5.heap[k]? = some (.cells cur 5 (0, 0)) → ¬ k = w.heap.size + 1 := fun k cur h e => by
          rw [e, bz5] at h; cases h
        refine ⟨E5.nm, by rw [E5.sn]; exact HSN.out, E5.own.has E5.has ft5 nb, ⟨T ++ [y], (HX5.out.grow E5.b).foot ft5 (fun k cur t h ht e => ?_), by rw [List.map_append, List.map_singleton, HYN.out]⟩, ?_⟩
        · rw [e, bz5] at h
          cases h
          rcases ht with ht | ht <;> cases ht
        · have h1 := HF5.out.then (below_foot _ E5.b)
          exact h1.trans ft5 (fun j e => .inr (by omega))
      simp only [lay11] at hV5
      obtain ⟨y0, y1, y2, y3, y4, y5, y6, y7, y8, y9, y10⟩ := bz5.all
      have z0 := bz5.z 0
      have z1 := bz5.z 1
      have z2 := bz5.z 2
      have z3 := bz5.z 3
      have z4 := bz5.z 4
      have z5 := bz5.z 5
      have z6 := bz5.z 6
      have z7 := bz5.z 7
      have z8 := bz5.z 8
      have z9 := bz5.z 9
      have z10 := bz5.z 10
      obtain ⟨v0, v1, v2, v3, v4, v5, v6, v7, v8, v9, v10⟩ := bv5.all
      clear E5 bz5 bv5 ft5
      go_wp2
      refine bodyPost_ret (by simp [results, Tryd.results9, go_sem, v0, v1, v2, v3, v4, v5, v6, v7, v8, v9, v10]; rfl) rfl ?_
      exact ⟨p5, rfl, HEND.out⟩
end Go.Proofs.YtdodmnianhpjbaaDoor
