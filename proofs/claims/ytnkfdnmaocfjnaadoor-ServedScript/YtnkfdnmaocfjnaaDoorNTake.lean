/-
  What a Served's Take answers, as contracts.
-/
import Derived.Test.YtnkfdnmaocfjnaaDoorNFind
namespace Go.Proofs.YtnkfdnmaocfjnaaDoor
open Go.RowKit
variable {w w' : World} {g : Nat} {T L : List Rq}
theorem nm_zero {x : Ms} (h : x.nm = Ms.zero) (hn : x.has w) : x.sn = 0 := by
  have h1 : x.l = [] := congrArg Ms.l h
  have := hn.1
  rw [h1] at this
  simpa using this
theorem told_any (p i : Int) (b : Bool) (m : Ms) (w : World) (s : Int) (hst : s = if b then 2 else 1) (hb : b = false → m.nm = Ms.zero) (hp : m.has w) (hs : m.sn ≤ 140737488355328) :
    Calls Tryd.prog 14 #[.agg #[.int .u64 p, .int .u32 i, .bool b, .int .u64 m.ta, .int .u64 m.rp, .int .u32 m.id, .int .u16 m.op, .int .u16 m.st, .int .u64 m.p, .int .u32 m.o, .int .u8 m.r, .int .u64 m.c, .int .u64 m.ar, .slice m.so m.sn m.sc]] w fun e w' => ∃ m', e = .returned (.tuple #[.int .i64 s, .agg #[.int .u64 m'.ta, .int .u64 m'.rp, .int .u32 m'.id, .int .u16 m'.op, .int .u16 m'.st, .int .u64 m'.p, .int .u32 m'.o, .int .u8 m'.r, .int .u64 m'.c, .int .u64 m'.ar, .slice m'.so m'.sn m'.sc]]) ∧ AlEnd w m m' w' := by
  subst hst
  cases b with
  | true => exact told_yes p i m w hp hs
  | false =>
    refine (told_no p i m w).mono ?_
    rintro e w' ⟨rfl, b⟩
    exact ⟨Ms.zero, rfl, (hb rfl).symm, (nm_zero (hb rfl) hp).symm, has_zero _, own_zero _, new_none _, b⟩
set_option maxRecDepth 20000 in
set_option maxHeartbeats 6400000 in
theorem take_k (p : Ms) (x : Sv w g T) (k : Nat) (hk : k < T.length) (hq : isR p.rp p.id (rq T k) = true) (hn : ∀ j, j < k → isR p.rp p.id (rq T j) = false) (rp id : Int) (b : Bool) (m : Ms) (hy : rq T k = ⟨rp, id, b, m⟩) (hb : b = false → m.nm = Ms.zero) (s : Int) (hst : s = if b then 2 else 1) :
    Calls Tryd.prog 8 #[.pointer (some ⟨g, 0, none⟩), .agg #[.int .u64 p.ta, .int .u64 p.rp, .int .u32 p.id, .int .u16 p.op, .int .u16 p.st, .int .u64 p.p, .int .u32 p.o, .int .u8 p.r, .int .u64 p.c, .int .u64 p.ar, .slice p.so p.sn p.sc]] w fun e w' => ∃ m', e = .returned (.tuple #[.int .i64 s, .agg #[.int .u64 m'.ta, .int .u64 m'.rp, .int .u32 m'.id, .int .u16 m'.op, .int .u16 m'.st, .int .u64 m'.p, .int .u32 m'.o, .int .u8 m'.r, .int .u64 m'.c, .int .u64 m'.ar, .slice m'.so m'.sn m'.sc], .nilIface]) ∧ AlEnd w m m' w' := by
  obtain ⟨X, hX⟩ : ∃ X, (w.alloc (.cells #[.int .u64 p.ta, .int .u64 p.rp, .int .u32 p.id, .int .u16 p.op, .int .u16 p.st, .int .u64 p.p, .int .u32 p.o, .int .u8 p.r, .int .u64 p.c, .int .u64 p.ar, .slice p.so p.sn p.sc] 32)).alloc (.cells #[.int .u64 0, .int .u64 0, .int .u32 0, .int .u16 0, .int .u16 0, .int .u64 0, .int .u32 0, .int .u8 0, .int .u64 0, .int .u64 0, .slice none 0 0] 32) = X := ⟨_, rfl⟩
  have bX : Below w.heap.size w X := hX ▸ below_one (below_alloc w _) (below_alloc _ _)
  have bp : BoxM X w.heap.size p := hX ▸ (boxM_new w p).grow (below_alloc _ _)
  have bz : BoxM X (w.heap.size + 1) Ms.zero := by rw [← hX, ← size_al w (.cells #[.int .u64 p.ta, .int .u64 p.rp, .int .u32 p.id, .int .u16 p.op, .int .u16 p.st, .int .u64 p.p, .int .u32 p.o, .int .u8 p.r, .int .u64 p.c, .int .u64 p.ar, .slice p.so p.sn p.sc] 32)]; exact boxM_new (w.alloc (.cells #[.int .u64 p.ta, .int .u64 p.rp, .int .u32 p.id, .int .u16 p.op, .int .u16 p.st, .int .u64 p.p, .int .u32 p.o, .int .u8 p.r, .int .u64 p.c, .int .u64 p.ar, .slice p.so p.sn p.sc] 32)) Ms.zero
  obtain ⟨i0, i1, i2, i3, i4, i5, i6, i7, i8, i9, i10⟩ := bp.all
  have HX := hide (x.grow bX)
  have HBX := hide bX
  have HBP := hide bp
  have HBZ := hide bz
  have HGL := hide x.lt
  have HK := hide hk
  have HQ := hide hq
  have HN := hide hn
  have HY := hide hy
  have HBB := hide hb
  have HST := hide hst
  have hk32 : (k : Int) < 32 := by have := x.few; omega
  have hmem := x.has _ (rq_mem T k hk)
  rw [hy] at hmem
  have HM := hide hmem
  clear x bX bp bz hk hq hn hy hb hmem hst
  go_enter Tryd.func8, Tryd.ntmps8
  go_wp2_with fail
  refine (find_any p HX.out).mono ?_; rintro e w1 ⟨r, rfl, hr, b1⟩
  obtain rfl := hr.some k HK.out HQ.out HN.out
  have hat := (HX.out.grow b1).at k HK.out _ HY.out
  dsimp only at hat
  obtain ⟨d0, d1, d2, d3, d4, d5, d6, d7, d8, d9, d10, d11, d12, d13⟩ := hat
  have HB1 := hide (below_one HBX.out b1)
  have HBZ1 := hide (HBZ.out.grow b1)
  clear hr b1 i0 i1 i2 i3 i4 i5 i6 i7 i8 i9 i10
  go_wp2_with fail
  refine (told_any rp id b m _ s HST.out HBB.out (Bts.carry HM.out.1 HB1.out) HM.out.2.2).mono ?_; rintro e w2 ⟨m', rfl, E⟩
  obtain ⟨Y, hY⟩ : ∃ Y, w2.alloc (.cells #[.int .u64 m'.ta, .int .u64 m'.rp, .int .u32 m'.id, .int .u16 m'.op, .int .u16 m'.st, .int .u64 m'.p, .int .u32 m'.o, .int .u8 m'.r, .int .u64 m'.c, .int .u64 m'.ar, .slice m'.so m'.sn m'.sc] 32) = Y := ⟨_, rfl⟩
  have bY : Below w2.heap.size w2 Y := hY ▸ below_alloc w2 _
  have by1 : BoxM Y w2.heap.size m' := (hY ▸ boxM_new w2 m' : BoxM Y w2.heap.size m')
  have bz2 : BoxM Y (w.heap.size + 1) Ms.zero := HBZ1.out.grow (below_one E.b bY)
  obtain ⟨k0, k1, k2, k3, k4, k5, k6, k7, k8, k9, k10⟩ := by1.all
  obtain ⟨y0, y1, y2, y3, y4, y5, y6, y7, y8, y9, y10⟩ := bz2.all
  have z0 := bz2.z 0
  have z1 := bz2.z 1
  have z2 := bz2.z 2
  have z3 := bz2.z 3
  have z4 := bz2.z 4
  have z5 := bz2.z 5
  have z6 := bz2.z 6
  have z7 := bz2.z 7
  have z8 := bz2.z 8
  have z9 := bz2.z 9
  have z10 := bz2.z 10
  obtain ⟨V, hV⟩ : ∃ V, lay11 Y (w.heap.size + 1) m' = V := ⟨_, rfl⟩
  have hbv : BoxM V (w.heap.size + 1) m' := hV ▸ bz2.lay m'
  have ftV : Foot (fun j => j = w.heap.size + 1) Y V := hV ▸ foot_lay11 Y _ m'
  have HEND : Hid (AlEnd w m m' V.drew) := by
    have ftVd := ftV.drewN 1
    have hsz : w.heap.size + 1 < w1.heap.size := lt_of_heap HBZ1.out
    refine ⟨E.nm, E.sn, Bts.foot (Bts.carry E.has bY) ftVd (fun ad e _ => by have := E.new ad e; omega), (E.own.grow bY).foot ftVd (fun k cur hk e => ?_), New.le E.new HB1.out.size, foot_on (below_one HB1.out (below_one E.b bY)) (by omega) ftVd⟩
    subst e
    exact two_types hk bz2 (by decide) rfl
  unfold lay11 at hV
  obtain ⟨v0, v1, v2, v3, v4, v5, v6, v7, v8, v9, v10⟩ := hbv.all
  clear bz2 hbv ftV E by1 bY d0 d1 d2 d3 d4 d5 d6 d7 d8 d9 d10 d11 d12 d13
  go_wp2_with fail
  go_region_with (fail)
  all_goals
    go_wp2
    refine bodyPost_ret (by simp [results, Tryd.results8, go_sem, v0, v1, v2, v3, v4, v5, v6, v7, v8, v9, v10]; rfl) rfl ?_
    exact ⟨m', rfl, HEND.out⟩
set_option maxRecDepth 20000 in
set_option maxHeartbeats 6400000 in
theorem take_f (p : Ms) (x : Sv w g T) (hl : T.length = 32) (hn : ∀ j, j < T.length → isR p.rp p.id (rq T j) = false) (ho : ∀ j, j < T.length → (rq T j).b = false) :
    Calls Tryd.prog 8 #[.pointer (some ⟨g, 0, none⟩), .agg #[.int .u64 p.ta, .int .u64 p.rp, .int .u32 p.id, .int .u16 p.op, .int .u16 p.st, .int .u64 p.p, .int .u32 p.o, .int .u8 p.r, .int .u64 p.c, .int .u64 p.ar, .slice p.so p.sn p.sc]] w fun e w' => e = .returned (.tuple #[.int .i64 0, .agg #[.int .u64 0, .int .u64 0, .int .u32 0, .int .u16 0, .int .u16 0, .int .u64 0, .int .u32 0, .int .u8 0, .int .u64 0, .int .u64 0, .slice none 0 0], erN 5]) ∧ Below w.heap.size w w' := by
  rw [erN_not (by decide)]
  obtain ⟨X, hX⟩ : ∃ X, (w.alloc (.cells #[.int .u64 p.ta, .int .u64 p.rp, .int .u32 p.id, .int .u16 p.op, .int .u16 p.st, .int .u64 p.p, .int .u32 p.o, .int .u8 p.r, .int .u64 p.c, .int .u64 p.ar, .slice p.so p.sn p.sc] 32)).alloc (.cells #[.int .u64 0, .int .u64 0, .int .u32 0, .int .u16 0, .int .u16 0, .int .u64 0, .int .u32 0, .int .u8 0, .int .u64 0, .int .u64 0, .slice none 0 0] 32) = X := ⟨_, rfl⟩
  have bX : Below w.heap.size w X := hX ▸ below_one (below_alloc w _) (below_alloc _ _)
  have bp : BoxM X w.heap.size p := hX ▸ (boxM_new w p).grow (below_alloc _ _)
  have bz : BoxM X (w.heap.size + 1) Ms.zero := by rw [← hX, ← size_al w (.cells #[.int .u64 p.ta, .int .u64 p.rp, .int .u32 p.id, .int .u16 p.op, .int .u16 p.st, .int .u64 p.p, .int .u32 p.o, .int .u8 p.r, .int .u64 p.c, .int .u64 p.ar, .slice p.so p.sn p.sc] 32)]; exact boxM_new (w.alloc (.cells #[.int .u64 p.ta, .int .u64 p.rp, .int .u32 p.id, .int .u16 p.op, .int .u16 p.st, .int .u64 p.p, .int .u32 p.o, .int .u8 p.r, .int .u64 p.c, .int .u64 p.ar, .slice p.so p.sn p.sc] 32)) Ms.zero
  obtain ⟨i0, i1, i2, i3, i4, i5, i6, i7, i8, i9, i10⟩ := bp.all
  have HX := hide (x.grow bX)
  have HBX := hide bX
  have HBP := hide bp
  have HBZ := hide bz
  have HGL := hide x.lt
  have HL := hide hl
  have HN := hide hn
  have HO := hide ho
  clear x bX bp bz hl hn ho
  go_enter Tryd.func8, Tryd.ntmps8
  go_wp2_with fail
  refine (find_any p HX.out).mono ?_; rintro e w1 ⟨r, rfl, hr, b1⟩
  obtain rfl := hr.none HN.out
  have x1 := HX.out.grow b1
  have cm : w1.cell? ⟨g, 448, none⟩ = .some (.int .i64 32) := by rw [x1.cm, HL.out]; rfl
  have HX1 := hide x1
  have HB1 := hide (below_one HBX.out b1)
  have HBZ1 := hide (HBZ.out.grow b1)
  clear hr b1 x1 i0 i1 i2 i3 i4 i5 i6 i7 i8 i9 i10
  go_wp2_with fail
  refine (forget_no HX1.out HO.out).mono ?_; rintro e w2 ⟨rfl, b2⟩
  have bz2 := HBZ1.out.grow b2
  obtain ⟨V, hV⟩ : ∃ V, lay11 w2 (w.heap.size + 1) Ms.zero = V := ⟨_, rfl⟩
  have hbv : BoxM V (w.heap.size + 1) Ms.zero := hV ▸ bz2.lay Ms.zero
  have ftV : Foot (fun j => j = w.heap.size + 1) w2 V := hV ▸ foot_lay11 w2 _ Ms.zero
  have HEND : Hid (Below w.heap.size w V) := foot_on (below_one HB1.out b2) (by omega) ftV
  simp only [lay11, Ms.zero] at hV
  have hva := hbv.all
  have hza := bz2.all
  dsimp only [Ms.zero] at hva hza
  obtain ⟨v0, v1, v2, v3, v4, v5, v6, v7, v8, v9, v10⟩ := hva
  obtain ⟨y0, y1, y2, y3, y4, y5, y6, y7, y8, y9, y10⟩ := hza
  have z0 := bz2.z 0
  have z1 := bz2.z 1
  have z2 := bz2.z 2
  have z3 := bz2.z 3
  have z4 := bz2.z 4
  have z5 := bz2.z 5
  have z6 := bz2.z 6
  have z7 := bz2.z 7
  have z8 := bz2.z 8
  have z9 := bz2.z 9
  have z10 := bz2.z 10
  clear bz2 hbv ftV b2 cm
  go_wp2
  refine bodyPost_ret (by simp [results, Tryd.results8, go_sem, v0, v1, v2, v3, v4, v5, v6, v7, v8, v9, v10]; rfl) rfl ?_
  exact ⟨rfl, HEND.out⟩
theorem Sv.mid (x : Sv w g T) (k : Nat) (hk : k < 32) (y : Rq) : (lay14 w g (k * 14) y).cell? ⟨g, 448, none⟩ = some (.int .i64 (T.length : Int)) ∧ (lay14 w g (k * 14) y).frozen? ⟨g, 448, none⟩ = false := by
  obtain ⟨C, h, c⟩ := x.box
  have h1 := lay14_heap h (k * 14) y
  have hs := c.size
  refine ⟨?_, frozen_of_row _ g 448 _ _ h1⟩
  rw [cell_of_row _ g _ _ _ _ h1, setC_get _ _ _ _ (by show k * 14 + 14 ≤ _; omega), if_neg (by show ¬ (k * 14 ≤ 448 ∧ 448 < k * 14 + 14); omega)]
  exact c.b
theorem foot_new {w U V : World} {j : Nat} (f : Foot (· = g) w U) (h : Foot (· = j) U V) (hj : w.heap.size ≤ j) : Foot (· = g) w V :=
  ⟨h.os.trans f.os, h.tape.trans f.tape, h.output.trans f.output, Nat.le_trans f.size h.size, fun k hk hn => (h.block k (Nat.lt_of_lt_of_le hk f.size) (fun e => by omega)).trans (f.block k hk hn)⟩
def Tk (W : World) (g n : Nat) (p : Ms) (wx : World) : Prop := wx = (lay14 W g (n * 14) ⟨p.rp, p.id, false, Ms.zero⟩).drew
set_option maxRecDepth 20000 in
set_option maxHeartbeats 6400000 in
theorem take_n (p : Ms) (x : Sv w g T) (hl : T.length < 32) (hn : ∀ j, j < T.length → isR p.rp p.id (rq T j) = false) :
    Calls Tryd.prog 8 #[.pointer (some ⟨g, 0, none⟩), .agg #[.int .u64 p.ta, .int .u64 p.rp, .int .u32 p.id, .int .u16 p.op, .int .u16 p.st, .int .u64 p.p, .int .u32 p.o, .int .u8 p.r, .int .u64 p.c, .int .u64 p.ar, .slice p.so p.sn p.sc]] w fun e w' => e = .returned (.tuple #[.int .i64 0, .agg #[.int .u64 0, .int .u64 0, .int .u32 0, .int .u16 0, .int .u16 0, .int .u64 0, .int .u32 0, .int .u8 0, .int .u64 0, .int .u64 0, .slice none 0 0], .nilIface]) ∧ StEnd w g (T.map Rq.nm ++ [⟨p.rp, p.id, false, Ms.zero⟩]) w' := by
  obtain ⟨X, hX⟩ : ∃ X, (w.alloc (.cells #[.int .u64 p.ta, .int .u64 p.rp, .int .u32 p.id, .int .u16 p.op, .int .u16 p.st, .int .u64 p.p, .int .u32 p.o, .int .u8 p.r, .int .u64 p.c, .int .u64 p.ar, .slice p.so p.sn p.sc] 32)).alloc (.cells #[.int .u64 0, .int .u64 0, .int .u32 0, .int .u16 0, .int .u16 0, .int .u64 0, .int .u32 0, .int .u8 0, .int .u64 0, .int .u64 0, .slice none 0 0] 32) = X := ⟨_, rfl⟩
  have bX : Below w.heap.size w X := hX ▸ below_one (below_alloc w _) (below_alloc _ _)
  have bp : BoxM X w.heap.size p := hX ▸ (boxM_new w p).grow (below_alloc _ _)
  have bz : BoxM X (w.heap.size + 1) Ms.zero := by rw [← hX, ← size_al w (.cells #[.int .u64 p.ta, .int .u64 p.rp, .int .u32 p.id, .int .u16 p.op, .int .u16 p.st, .int .u64 p.p, .int .u32 p.o, .int .u8 p.r, .int .u64 p.c, .int .u64 p.ar, .slice p.so p.sn p.sc] 32)]; exact boxM_new (w.alloc (.cells #[.int .u64 p.ta, .int .u64 p.rp, .int .u32 p.id, .int .u16 p.op, .int .u16 p.st, .int .u64 p.p, .int .u32 p.o, .int .u8 p.r, .int .u64 p.c, .int .u64 p.ar, .slice p.so p.sn p.sc] 32)) Ms.zero
  obtain ⟨i0, i1, i2, i3, i4, i5, i6, i7, i8, i9, i10⟩ := bp.all
  have HX := hide (x.grow bX)
  have HBX := hide bX
  have HBP := hide bp
  have HBZ := hide bz
  have HGL := hide x.lt
  have HL := hide hl
  have HN := hide hn
  clear x bX bp bz hl hn
  go_enter Tryd.func8, Tryd.ntmps8
  go_wp2_with fail
  refine (find_any p HX.out).mono ?_; rintro e w1 ⟨r, rfl, hr, b1⟩
  obtain rfl := hr.none HN.out
  have x1 := HX.out.grow b1
  have HB1 := hide (below_one HBX.out b1)
  obtain ⟨n, hn'⟩ : ∃ n, T.length = n := ⟨_, rfl⟩
  have hnl : n < 32 := by rw [← hn']; exact HL.out
  have hlt : (n : Int) < 32 := by omega
  have hne : ¬ (n : Int) = 32 := by omega
  have cm : w1.cell? ⟨g, 448, none⟩ = .some (.int .i64 (n : Int)) := by rw [x1.cm, hn']
  have cmd : w1.drew.cell? ⟨g, 448, none⟩ = .some (.int .i64 (n : Int)) := cm
  have bp1 := HBP.out.grow b1
  have j1 := bp1.all.2.1
  have j2 := bp1.all.2.2.1
  have jd1 : w1.drew.cell? ⟨w.heap.size, 1, none⟩ = .some (.int .u64 p.rp) := j1
  have jd2 : w1.drew.cell? ⟨w.heap.size, 2, none⟩ = .some (.int .u32 p.id) := j2
  have HX1 := hide x1
  have HN' := hide hn'
  have HBZ2 := hide (HBZ.out.grow b1)
  clear hr b1 x1 bp1 hn' i0 i1 i2 i3 i4 i5 i6 i7 i8 i9 i10
  go_upto_region 7 with fail
  go_cut [] from 39 to 51 (fun wx => Tk w1 g n p wx)
  case first =>
    obtain ⟨o, ho⟩ : ∃ o, n * 14 = o := ⟨_, rfl⟩
    obtain ⟨o0, d0⟩ := HX1.out.any (n * 14) (by omega)
    have fz0 := HX1.out.z (n * 14)
    rw [ho] at d0 fz0
    obtain ⟨o1, d1⟩ := HX1.out.any (n * 14 + 1) (by omega)
    have fz1 := HX1.out.z (n * 14 + 1)
    rw [ho] at d1 fz1
    obtain ⟨o2, d2⟩ := HX1.out.any (n * 14 + 2) (by omega)
    have fz2 := HX1.out.z (n * 14 + 2)
    rw [ho] at d2 fz2
    obtain ⟨o3, d3⟩ := HX1.out.any (n * 14 + 3) (by omega)
    have fz3 := HX1.out.z (n * 14 + 3)
    rw [ho] at d3 fz3
    obtain ⟨o4, d4⟩ := HX1.out.any (n * 14 + 4) (by omega)
    have fz4 := HX1.out.z (n * 14 + 4)
    rw [ho] at d4 fz4
    obtain ⟨o5, d5⟩ := HX1.out.any (n * 14 + 5) (by omega)
    have fz5 := HX1.out.z (n * 14 + 5)
    rw [ho] at d5 fz5
    obtain ⟨o6, d6⟩ := HX1.out.any (n * 14 + 6) (by omega)
    have fz6 := HX1.out.z (n * 14 + 6)
    rw [ho] at d6 fz6
    obtain ⟨o7, d7⟩ := HX1.out.any (n * 14 + 7) (by omega)
    have fz7 := HX1.out.z (n * 14 + 7)
    rw [ho] at d7 fz7
    obtain ⟨o8, d8⟩ := HX1.out.any (n * 14 + 8) (by omega)
    have fz8 := HX1.out.z (n * 14 + 8)
    rw [ho] at d8 fz8
    obtain ⟨o9, d9⟩ := HX1.out.any (n * 14 + 9) (by omega)
    have fz9 := HX1.out.z (n * 14 + 9)
    rw [ho] at d9 fz9
    obtain ⟨o10, d10⟩ := HX1.out.any (n * 14 + 10) (by omega)
    have fz10 := HX1.out.z (n * 14 + 10)
    rw [ho] at d10 fz10
    obtain ⟨o11, d11⟩ := HX1.out.any (n * 14 + 11) (by omega)
    have fz11 := HX1.out.z (n * 14 + 11)
    rw [ho] at d11 fz11
    obtain ⟨o12, d12⟩ := HX1.out.any (n * 14 + 12) (by omega)
    have fz12 := HX1.out.z (n * 14 + 12)
    rw [ho] at d12 fz12
    obtain ⟨o13, d13⟩ := HX1.out.any (n * 14 + 13) (by omega)
    have fz13 := HX1.out.z (n * 14 + 13)
    rw [ho] at d13 fz13
    have dd : w1.drew.cell? ⟨g, o, none⟩ = .some o0 := d0
    have fd : w1.drew.frozen? ⟨g, o, none⟩ = false := fz0
    have HR : Hid (Tk w1 g n p (lay14 w1 g (n * 14) ⟨p.rp, p.id, false, Ms.zero⟩).drew) := rfl
    simp only [lay14, Ms.zero, ho] at HR
    go_region_with (fail)
    all_goals (go_wp2_with fail; go_meet; exact HR.out)
  case rest =>
    obtain rfl : wc = (lay14 w1 g (n * 14) ⟨p.rp, p.id, false, Ms.zero⟩).drew := hcut
    clear cm cmd j1 j2 jd1 jd2
    obtain ⟨y, hy⟩ : ∃ y : Rq, (⟨p.rp, p.id, false, Ms.zero⟩ : Rq) = y := ⟨_, rfl⟩
    rw [hy]
    have hym : y.m = Ms.zero := by rw [← hy]
    have xm := HX1.out.mid n (by omega) y
    have xs := HX1.out.snoc (by rw [HN'.out]; omega) y (by rw [hym]; exact ⟨has_zero _, own_zero _, by show 0 ≤ _; omega⟩)
    rw [HN'.out] at xm xs
    have f3 := foot_lay14 w1 g (n * 14) y
    obtain ⟨U, hU⟩ : ∃ U, lay14 w1 g (n * 14) y = U := ⟨_, rfl⟩
    rw [hU] at xm xs f3
    rw [hU]
    have c3 : U.drew.cell? ⟨g, 448, none⟩ = .some (.int .i64 (n : Int)) := xm.1
    have z3 : U.drew.frozen? ⟨g, 448, none⟩ = false := xm.2
    have hwa : IntKind.i64.wrap ((n : Int) + 1) = (n : Int) + 1 := by rw [IntKind.wrap_i64]; omega
    have hwc : wrap64 ((n : Int) + 1) = (n : Int) + 1 := by unfold wrap64; omega
    replace xs := xs.drewN 1
    obtain ⟨U2, hU2⟩ : ∃ U2, U.drew.setCell ⟨g, 448, none⟩ (.int .i64 ((n : Int) + 1)) = U2 := ⟨_, rfl⟩
    have f4 : Foot (fun j => j = g) w1 U2 := (f3.drewN 1).then (hU2 ▸ foot_set U.drew ⟨g, 448, none⟩ _)
    replace xs : Sv (U.drew.setCell ⟨g, 448, none⟩ (.int .i64 ((n : Int) + 1))) g (T ++ [y]) := xs
    rw [hU2] at xs
    have hng : ¬ w.heap.size + 1 = g := by have := HGL.out; omega
    have bz2 : BoxM U2 (w.heap.size + 1) Ms.zero := HBZ2.out.foot f4 hng
    obtain ⟨V, hV⟩ : ∃ V, lay11 U2 (w.heap.size + 1) Ms.zero = V := ⟨_, rfl⟩
    have hbv : BoxM V (w.heap.size + 1) Ms.zero := hV ▸ bz2.lay Ms.zero
    have ftV : Foot (fun j => j = w.heap.size + 1) U2 V := hV ▸ foot_lay11 U2 _ Ms.zero
    have HEND : Hid (StEnd w g (T.map Rq.nm ++ [⟨p.rp, p.id, false, Ms.zero⟩]) V) := by
      refine ⟨⟨_, xs.foot ftV (fun k cur t hk ht e => ?_), ?_⟩, foot_new ((below_foot _ HB1.out).then f4) ftV (by omega)⟩
      · subst e
        rcases ht with rfl | rfl
        · exact two_types hk bz2 (by decide) rfl
        · exact two_types hk bz2 (by decide) rfl
      · rw [List.map_append, ← hy]; rfl
    clear xs f3 f4 hU xm
    simp only [lay11, Ms.zero] at hV
    have hva := hbv.all
    have hza := bz2.all
    dsimp only [Ms.zero] at hva hza
    obtain ⟨v0, v1, v2, v3, v4, v5, v6, v7, v8, v9, v10⟩ := hva
    obtain ⟨y0, y1, y2, y3, y4, y5, y6, y7, y8, y9, y10⟩ := hza
    have z0 := bz2.z 0
    have z1 := bz2.z 1
    have z2 := bz2.z 2
    have z3 := bz2.z 3
    have z4 := bz2.z 4
    have z5 := bz2.z 5
    have z6 := bz2.z 6
    have z7 := bz2.z 7
    have z8 := bz2.z 8
    have z9 := bz2.z 9
    have z10 := bz2.z 10
    clear bz2 hbv ftV hym hy hlt hne
    go_wp2
    refine bodyPost_ret (by simp [results, Tryd.results8, go_sem, v0, v1, v2, v3, v4, v5, v6, v7, v8, v9, v10]; rfl) rfl ?_
    exact ⟨rfl, HEND.out⟩
set_option maxRecDepth 20000 in
set_option maxHeartbeats 6400000 in
theorem take_o (p : Ms) (x : Sv w g T) (hl : T.length = 32) (hn : ∀ j, j < T.length → isR p.rp p.id (rq T j) = false) (k : Nat) (hk : k < T.length) (hq : (rq T k).b = true) (ho : ∀ j, j < k → (rq T j).b = false) :
    Calls Tryd.prog 8 #[.pointer (some ⟨g, 0, none⟩), .agg #[.int .u64 p.ta, .int .u64 p.rp, .int .u32 p.id, .int .u16 p.op, .int .u16 p.st, .int .u64 p.p, .int .u32 p.o, .int .u8 p.r, .int .u64 p.c, .int .u64 p.ar, .slice p.so p.sn p.sc]] w fun e w' => e = .returned (.tuple #[.int .i64 0, .agg #[.int .u64 0, .int .u64 0, .int .u32 0, .int .u16 0, .int .u16 0, .int .u64 0, .int .u32 0, .int .u8 0, .int .u64 0, .int .u64 0, .slice none 0 0], .nilIface]) ∧ StEnd w g ((T.map Rq.nm).eraseIdx k ++ [⟨p.rp, p.id, false, Ms.zero⟩]) w' := by
  obtain ⟨X, hX⟩ : ∃ X, (w.alloc (.cells #[.int .u64 p.ta, .int .u64 p.rp, .int .u32 p.id, .int .u16 p.op, .int .u16 p.st, .int .u64 p.p, .int .u32 p.o, .int .u8 p.r, .int .u64 p.c, .int .u64 p.ar, .slice p.so p.sn p.sc] 32)).alloc (.cells #[.int .u64 0, .int .u64 0, .int .u32 0, .int .u16 0, .int .u16 0, .int .u64 0, .int .u32 0, .int .u8 0, .int .u64 0, .int .u64 0, .slice none 0 0] 32) = X := ⟨_, rfl⟩
  have bX : Below w.heap.size w X := hX ▸ below_one (below_alloc w _) (below_alloc _ _)
  have bp : BoxM X w.heap.size p := hX ▸ (boxM_new w p).grow (below_alloc _ _)
  have bz : BoxM X (w.heap.size + 1) Ms.zero := by rw [← hX, ← size_al w (.cells #[.int .u64 p.ta, .int .u64 p.rp, .int .u32 p.id, .int .u16 p.op, .int .u16 p.st, .int .u64 p.p, .int .u32 p.o, .int .u8 p.r, .int .u64 p.c, .int .u64 p.ar, .slice p.so p.sn p.sc] 32)]; exact boxM_new (w.alloc (.cells #[.int .u64 p.ta, .int .u64 p.rp, .int .u32 p.id, .int .u16 p.op, .int .u16 p.st, .int .u64 p.p, .int .u32 p.o, .int .u8 p.r, .int .u64 p.c, .int .u64 p.ar, .slice p.so p.sn p.sc] 32)) Ms.zero
  obtain ⟨i0, i1, i2, i3, i4, i5, i6, i7, i8, i9, i10⟩ := bp.all
  have HX := hide (x.grow bX)
  have HBX := hide bX
  have HBP := hide bp
  have HBZ := hide bz
  have HGL := hide x.lt
  have HL32 := hide hl
  have HL : Hid ((T.eraseIdx k).length < 32) := by show _ < _; rw [List.length_eraseIdx, if_pos hk]; omega
  have HN := hide hn
  have HK := hide hk
  have HQ := hide hq
  have HO := hide ho
  clear x bX bp bz hl hn hk hq ho
  go_enter Tryd.func8, Tryd.ntmps8
  go_wp2_with fail
  refine (find_any p HX.out).mono ?_; rintro e w1 ⟨r, rfl, hr, b1⟩
  obtain rfl := hr.none HN.out
  have c32 : w1.cell? ⟨g, 448, none⟩ = .some (.int .i64 32) := by rw [(HX.out.grow b1).cm, HL32.out]; rfl
  have HX0 := hide (HX.out.grow b1)
  have HB0 := hide (below_one HBX.out b1)
  have HBP0 := hide (HBP.out.grow b1)
  have HBZ0 := hide (HBZ.out.grow b1)
  clear hr b1 i0 i1 i2 i3 i4 i5 i6 i7 i8 i9 i10
  go_wp2_with fail
  refine (forget_at HX0.out k HK.out HQ.out HO.out).mono ?_; rintro e w2 ⟨rfl, x1, f2⟩
  have HF2 := hide f2
  have hg0 : ¬ w.heap.size = g := by have := HGL.out; omega
  have hg1 : ¬ w.heap.size + 1 = g := by have := HGL.out; omega
  obtain ⟨n, hn'⟩ : ∃ n, (T.eraseIdx k).length = n := ⟨_, rfl⟩
  have hnl : n < 32 := by rw [← hn']; exact HL.out
  have hlt : (n : Int) < 32 := by omega
  have hne : ¬ (n : Int) = 32 := by omega
  have cm : w2.cell? ⟨g, 448, none⟩ = .some (.int .i64 (n : Int)) := by rw [x1.cm, hn']
  have cmd : w2.drew.cell? ⟨g, 448, none⟩ = .some (.int .i64 (n : Int)) := cm
  have bp1 := HBP0.out.foot f2 hg0
  have j1 := bp1.all.2.1
  have j2 := bp1.all.2.2.1
  have jd1 : w2.drew.cell? ⟨w.heap.size, 1, none⟩ = .some (.int .u64 p.rp) := j1
  have jd2 : w2.drew.cell? ⟨w.heap.size, 2, none⟩ = .some (.int .u32 p.id) := j2
  have HX1 := hide x1
  have HN' := hide hn'
  have HBZ2 := hide (HBZ0.out.foot f2 hg1)
  clear f2 hg0 hg1 c32 x1 bp1 hn'
  go_upto_region 7 with fail
  go_cut [] from 39 to 51 (fun wx => Tk w2 g n p wx)
  case first =>
    obtain ⟨o, ho⟩ : ∃ o, n * 14 = o := ⟨_, rfl⟩
    obtain ⟨o0, d0⟩ := HX1.out.any (n * 14) (by omega)
    have fz0 := HX1.out.z (n * 14)
    rw [ho] at d0 fz0
    obtain ⟨o1, d1⟩ := HX1.out.any (n * 14 + 1) (by omega)
    have fz1 := HX1.out.z (n * 14 + 1)
    rw [ho] at d1 fz1
    obtain ⟨o2, d2⟩ := HX1.out.any (n * 14 + 2) (by omega)
    have fz2 := HX1.out.z (n * 14 + 2)
    rw [ho] at d2 fz2
    obtain ⟨o3, d3⟩ := HX1.out.any (n * 14 + 3) (by omega)
    have fz3 := HX1.out.z (n * 14 + 3)
    rw [ho] at d3 fz3
    obtain ⟨o4, d4⟩ := HX1.out.any (n * 14 + 4) (by omega)
    have fz4 := HX1.out.z (n * 14 + 4)
    rw [ho] at d4 fz4
    obtain ⟨o5, d5⟩ := HX1.out.any (n * 14 + 5) (by omega)
    have fz5 := HX1.out.z (n * 14 + 5)
    rw [ho] at d5 fz5
    obtain ⟨o6, d6⟩ := HX1.out.any (n * 14 + 6) (by omega)
    have fz6 := HX1.out.z (n * 14 + 6)
    rw [ho] at d6 fz6
    obtain ⟨o7, d7⟩ := HX1.out.any (n * 14 + 7) (by omega)
    have fz7 := HX1.out.z (n * 14 + 7)
    rw [ho] at d7 fz7
    obtain ⟨o8, d8⟩ := HX1.out.any (n * 14 + 8) (by omega)
    have fz8 := HX1.out.z (n * 14 + 8)
    rw [ho] at d8 fz8
    obtain ⟨o9, d9⟩ := HX1.out.any (n * 14 + 9) (by omega)
    have fz9 := HX1.out.z (n * 14 + 9)
    rw [ho] at d9 fz9
    obtain ⟨o10, d10⟩ := HX1.out.any (n * 14 + 10) (by omega)
    have fz10 := HX1.out.z (n * 14 + 10)
    rw [ho] at d10 fz10
    obtain ⟨o11, d11⟩ := HX1.out.any (n * 14 + 11) (by omega)
    have fz11 := HX1.out.z (n * 14 + 11)
    rw [ho] at d11 fz11
    obtain ⟨o12, d12⟩ := HX1.out.any (n * 14 + 12) (by omega)
    have fz12 := HX1.out.z (n * 14 + 12)
    rw [ho] at d12 fz12
    obtain ⟨o13, d13⟩ := HX1.out.any (n * 14 + 13) (by omega)
    have fz13 := HX1.out.z (n * 14 + 13)
    rw [ho] at d13 fz13
    have dd : w2.drew.cell? ⟨g, o, none⟩ = .some o0 := d0
    have fd : w2.drew.frozen? ⟨g, o, none⟩ = false := fz0
    have HR : Hid (Tk w2 g n p (lay14 w2 g (n * 14) ⟨p.rp, p.id, false, Ms.zero⟩).drew) := rfl
    simp only [lay14, Ms.zero, ho] at HR
    go_region_with (fail)
    all_goals (go_wp2_with fail; go_meet; exact HR.out)
  case rest =>
    obtain rfl : wc = (lay14 w2 g (n * 14) ⟨p.rp, p.id, false, Ms.zero⟩).drew := hcut
    clear cm cmd j1 j2 jd1 jd2
    obtain ⟨y, hy⟩ : ∃ y : Rq, (⟨p.rp, p.id, false, Ms.zero⟩ : Rq) = y := ⟨_, rfl⟩
    rw [hy]
    have hym : y.m = Ms.zero := by rw [← hy]
    have xm := HX1.out.mid n (by omega) y
    have xs := HX1.out.snoc (by rw [HN'.out]; omega) y (by rw [hym]; exact ⟨has_zero _, own_zero _, by show 0 ≤ _; omega⟩)
    rw [HN'.out] at xm xs
    have f3 := foot_lay14 w2 g (n * 14) y
    obtain ⟨U, hU⟩ : ∃ U, lay14 w2 g (n * 14) y = U := ⟨_, rfl⟩
    rw [hU] at xm xs f3
    rw [hU]
    have c3 : U.drew.cell? ⟨g, 448, none⟩ = .some (.int .i64 (n : Int)) := xm.1
    have z3 : U.drew.frozen? ⟨g, 448, none⟩ = false := xm.2
    have hwa : IntKind.i64.wrap ((n : Int) + 1) = (n : Int) + 1 := by rw [IntKind.wrap_i64]; omega
    have hwc : wrap64 ((n : Int) + 1) = (n : Int) + 1 := by unfold wrap64; omega
    replace xs := xs.drewN 1
    obtain ⟨U2, hU2⟩ : ∃ U2, U.drew.setCell ⟨g, 448, none⟩ (.int .i64 ((n : Int) + 1)) = U2 := ⟨_, rfl⟩
    have f4 : Foot (fun j => j = g) w2 U2 := (f3.drewN 1).then (hU2 ▸ foot_set U.drew ⟨g, 448, none⟩ _)
    replace xs : Sv (U.drew.setCell ⟨g, 448, none⟩ (.int .i64 ((n : Int) + 1))) g ((T.eraseIdx k) ++ [y]) := xs
    rw [hU2] at xs
    have hng : ¬ w.heap.size + 1 = g := by have := HGL.out; omega
    have bz2 : BoxM U2 (w.heap.size + 1) Ms.zero := HBZ2.out.foot f4 hng
    obtain ⟨V, hV⟩ : ∃ V, lay11 U2 (w.heap.size + 1) Ms.zero = V := ⟨_, rfl⟩
    have hbv : BoxM V (w.heap.size + 1) Ms.zero := hV ▸ bz2.lay Ms.zero
    have ftV : Foot (fun j => j = w.heap.size + 1) U2 V := hV ▸ foot_lay11 U2 _ Ms.zero
    have HEND : Hid (StEnd w g ((T.map Rq.nm).eraseIdx k ++ [⟨p.rp, p.id, false, Ms.zero⟩]) V) := by
      refine ⟨⟨_, xs.foot ftV (fun k cur t hk ht e => ?_), ?_⟩, foot_new (((below_foot _ HB0.out).then HF2.out).then f4) ftV (by omega)⟩
      · subst e
        rcases ht with rfl | rfl
        · exact two_types hk bz2 (by decide) rfl
        · exact two_types hk bz2 (by decide) rfl
      · rw [List.map_append, erase_nm, ← hy]; rfl
    clear xs f3 f4 hU xm
    simp only [lay11, Ms.zero] at hV
    have hva := hbv.all
    have hza := bz2.all
    dsimp only [Ms.zero] at hva hza
    obtain ⟨v0, v1, v2, v3, v4, v5, v6, v7, v8, v9, v10⟩ := hva
    obtain ⟨y0, y1, y2, y3, y4, y5, y6, y7, y8, y9, y10⟩ := hza
    have z0 := bz2.z 0
    have z1 := bz2.z 1
    have z2 := bz2.z 2
    have z3 := bz2.z 3
    have z4 := bz2.z 4
    have z5 := bz2.z 5
    have z6 := bz2.z 6
    have z7 := bz2.z 7
    have z8 := bz2.z 8
    have z9 := bz2.z 9
    have z10 := bz2.z 10
    clear bz2 hbv ftV hym hy hlt hne
    go_wp2
    refine bodyPost_ret (by simp [results, Tryd.results8, go_sem, v0, v1, v2, v3, v4, v5, v6, v7, v8, v9, v10]; rfl) rfl ?_
    exact ⟨rfl, HEND.out⟩
/- what Take answers of one that is remembered -/
def TkEnd (w : World) (m : Ms) (s : Int) (e : Ending) (w' : World) : Prop := ∃ m', e = .returned (.tuple #[.int .i64 s, .agg #[.int .u64 m'.ta, .int .u64 m'.rp, .int .u32 m'.id, .int .u16 m'.op, .int .u16 m'.st, .int .u64 m'.p, .int .u32 m'.o, .int .u8 m'.r, .int .u64 m'.c, .int .u64 m'.ar, .slice m'.so m'.sn m'.sc], .nilIface]) ∧ m'.nm = m ∧ m'.sn ≤ 140737488355328 ∧ m'.has w' ∧ OwnD w' m' ∧ New w m'.so ∧ Below w.heap.size w w'
theorem isR_nm (rp id : Int) (y : Rq) : isR rp id y.nm = isR rp id y := rfl
theorem take_known (p : Ms) (x : St w g L) (k : Nat) (hk : k < L.length) (hq : isR p.rp p.id (rq L k) = true) (hn : ∀ j, j < k → isR p.rp p.id (rq L j) = false) (hz : (rq L k).b = false → (rq L k).m = Ms.zero) (s : Int) (hs : s = if (rq L k).b then 2 else 1) :
    Calls Tryd.prog 8 #[.pointer (some ⟨g, 0, none⟩), .agg #[.int .u64 p.ta, .int .u64 p.rp, .int .u32 p.id, .int .u16 p.op, .int .u16 p.st, .int .u64 p.p, .int .u32 p.o, .int .u8 p.r, .int .u64 p.c, .int .u64 p.ar, .slice p.so p.sn p.sc]] w fun e w' => TkEnd w (rq L k).m s e w' := by
  obtain ⟨T, x, rfl⟩ := x
  rw [List.length_map] at hk
  rw [rq_nm, isR_nm] at hq
  rw [rq_nm] at hz hs ⊢
  obtain ⟨⟨rp, id, b, m⟩, hy⟩ : ∃ y, rq T k = y := ⟨_, rfl⟩
  rw [hy] at hz hs ⊢
  have hm := (x.has _ (rq_mem T k hk)).2.2
  rw [hy] at hm
  refine (take_k p x k hk hq (fun j hj => by have := hn j hj; rwa [rq_nm, isR_nm] at this) rp id b m hy hz s hs).mono ?_
  rintro e w' ⟨m', rfl, E⟩
  exact ⟨m', rfl, E.nm, by rw [E.sn]; exact hm, E.has, E.own, E.new, E.b⟩
theorem take_full (p : Ms) (x : St w g L) (hl : L.length = 32) (hn : ∀ j, j < L.length → isR p.rp p.id (rq L j) = false) (ho : ∀ j, j < L.length → (rq L j).b = false) :
    Calls Tryd.prog 8 #[.pointer (some ⟨g, 0, none⟩), .agg #[.int .u64 p.ta, .int .u64 p.rp, .int .u32 p.id, .int .u16 p.op, .int .u16 p.st, .int .u64 p.p, .int .u32 p.o, .int .u8 p.r, .int .u64 p.c, .int .u64 p.ar, .slice p.so p.sn p.sc]] w fun e w' => e = .returned (.tuple #[.int .i64 0, .agg #[.int .u64 0, .int .u64 0, .int .u32 0, .int .u16 0, .int .u16 0, .int .u64 0, .int .u32 0, .int .u8 0, .int .u64 0, .int .u64 0, .slice none 0 0], erN 5]) ∧ Below w.heap.size w w' := by
  obtain ⟨T, x, rfl⟩ := x
  rw [List.length_map] at hl hn ho
  exact take_f p x hl (fun j hj => by have := hn j hj; rwa [rq_nm, isR_nm] at this) (fun j hj => by have := ho j hj; rwa [rq_nm] at this)
theorem take_new (p : Ms) (x : St w g L) (hl : L.length < 32) (hn : ∀ j, j < L.length → isR p.rp p.id (rq L j) = false) :
    Calls Tryd.prog 8 #[.pointer (some ⟨g, 0, none⟩), .agg #[.int .u64 p.ta, .int .u64 p.rp, .int .u32 p.id, .int .u16 p.op, .int .u16 p.st, .int .u64 p.p, .int .u32 p.o, .int .u8 p.r, .int .u64 p.c, .int .u64 p.ar, .slice p.so p.sn p.sc]] w fun e w' => e = .returned (.tuple #[.int .i64 0, .agg #[.int .u64 0, .int .u64 0, .int .u32 0, .int .u16 0, .int .u16 0, .int .u64 0, .int .u32 0, .int .u8 0, .int .u64 0, .int .u64 0, .slice none 0 0], .nilIface]) ∧ StEnd w g (L ++ [⟨p.rp, p.id, false, Ms.zero⟩]) w' := by
  obtain ⟨T, x, rfl⟩ := x
  rw [List.length_map] at hl hn
  exact take_n p x hl (fun j hj => by have := hn j hj; rwa [rq_nm, isR_nm] at this)
theorem take_old (p : Ms) (x : St w g L) (hl : L.length = 32) (hn : ∀ j, j < L.length → isR p.rp p.id (rq L j) = false) (k : Nat) (hk : k < L.length) (hq : (rq L k).b = true) (ho : ∀ j, j < k → (rq L j).b = false) :
    Calls Tryd.prog 8 #[.pointer (some ⟨g, 0, none⟩), .agg #[.int .u64 p.ta, .int .u64 p.rp, .int .u32 p.id, .int .u16 p.op, .int .u16 p.st, .int .u64 p.p, .int .u32 p.o, .int .u8 p.r, .int .u64 p.c, .int .u64 p.ar, .slice p.so p.sn p.sc]] w fun e w' => e = .returned (.tuple #[.int .i64 0, .agg #[.int .u64 0, .int .u64 0, .int .u32 0, .int .u16 0, .int .u16 0, .int .u64 0, .int .u32 0, .int .u8 0, .int .u64 0, .int .u64 0, .slice none 0 0], .nilIface]) ∧ StEnd w g (L.eraseIdx k ++ [⟨p.rp, p.id, false, Ms.zero⟩]) w' := by
  obtain ⟨T, x, rfl⟩ := x
  rw [List.length_map] at hl hn hk
  rw [rq_nm] at hq
  exact take_o p x hl (fun j hj => by have := hn j hj; rwa [rq_nm, isR_nm] at this) k hk hq (fun j hj => by have := ho j hj; rwa [rq_nm] at this)
end Go.Proofs.YtnkfdnmaocfjnaaDoor
