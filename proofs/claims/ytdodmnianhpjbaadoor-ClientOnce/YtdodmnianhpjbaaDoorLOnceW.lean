/-
  The walk of ClientOnce.
-/
import Derived.Test.YtdodmnianhpjbaaDoorLFitsW
namespace Go.Proofs.YtdodmnianhpjbaaDoor
open Go.RowKit
structure On (w : World) (g hf hx : Nat) (F q : Ms) (wx : World) : Prop where
  st : St wx g 9 3 4 [⟨2, F.nm, 0, 0⟩]
  bf : BoxM wx hf F
  bx : BoxM wx hx q
  b : Below w.heap.size w wx
def OnRel (w : World) (g hf hx : Nat) (F q : Ms) (n gk : Nat) (vi : Value) (wr : World) : Prop := ∃ i : Nat, i + gk = n ∧ vi = .int .i64 (i : Int) ∧ On w g hf hx F q wr
set_option maxRecDepth 20000 in
set_option maxHeartbeats 6400000 in
theorem walk_once (p f s : Ms) (ticks : Nat) (w : World) (hp : p.has w) (hf : f.has w) (hps : p.sn ≤ 140737488355328) (hfs : f.sn ≤ 140737488355328) (hg : Glob w) :
    Calls Tryd.prog 4 #[.agg #[.int .u64 p.ta, .int .u64 p.rp, .int .u32 p.id, .int .u16 p.op, .int .u16 p.st, .int .u64 p.p, .int .u32 p.o, .int .u8 p.r, .int .u64 p.c, .int .u64 p.ar, .slice p.so p.sn p.sc], .agg #[.int .u64 f.ta, .int .u64 f.rp, .int .u32 f.id, .int .u16 f.op, .int .u16 f.st, .int .u64 f.p, .int .u32 f.o, .int .u8 f.r, .int .u64 f.c, .int .u64 f.ar, .slice f.so f.sn f.sc], .agg #[.int .u64 s.ta, .int .u64 s.rp, .int .u32 s.id, .int .u16 s.op, .int .u16 s.st, .int .u64 s.p, .int .u32 s.o, .int .u8 s.r, .int .u64 s.c, .int .u64 s.ar, .slice s.so s.sn s.sc], .int .u8 (ticks : Int)] w fun e w' => e = .returned (.bool true) ∧ Below w.heap.size w w' := by
  obtain ⟨X0, hX0⟩ : ∃ X0, (w.alloc (.cells #[.int .u64 p.ta, .int .u64 p.rp, .int .u32 p.id, .int .u16 p.op, .int .u16 p.st, .int .u64 p.p, .int .u32 p.o, .int .u8 p.r, .int .u64 p.c, .int .u64 p.ar, .slice p.so p.sn p.sc] 35)).alloc (.cells #[.int .u64 f.ta, .int .u64 f.rp, .int .u32 f.id, .int .u16 f.op, .int .u16 f.st, .int .u64 f.p, .int .u32 f.o, .int .u8 f.r, .int .u64 f.c, .int .u64 f.ar, .slice f.so f.sn f.sc] 35) = X0 := ⟨_, rfl⟩
  have hb0 : Below w.heap.size w X0 := hX0 ▸ below_one (below_alloc w _) (below_alloc _ _)
  have bp0 : BoxM X0 w.heap.size p := hX0 ▸ (boxM_new w p).grow (below_alloc _ _)
  have bf0 : BoxM X0 (w.heap.size + 1) f := by rw [← hX0, ← size_al w (.cells #[.int .u64 p.ta, .int .u64 p.rp, .int .u32 p.id, .int .u16 p.op, .int .u16 p.st, .int .u64 p.p, .int .u32 p.o, .int .u8 p.r, .int .u64 p.c, .int .u64 p.ar, .slice p.so p.sn p.sc] 35)]; exact boxM_new _ f
  have hsz : X0.heap.size = w.heap.size + 2 := by rw [← hX0, size_al, size_al]
  obtain ⟨X, hX⟩ : ∃ X, X0.alloc (.cells #[.int .u64 s.ta, .int .u64 s.rp, .int .u32 s.id, .int .u16 s.op, .int .u16 s.st, .int .u64 s.p, .int .u32 s.o, .int .u8 s.r, .int .u64 s.c, .int .u64 s.ar, .slice s.so s.sn s.sc] 35) = X := ⟨_, rfl⟩
  have hb : Below w.heap.size w X := hX ▸ below_one hb0 (below_alloc _ _)
  have bp : BoxM X w.heap.size p := hX ▸ bp0.grow (below_alloc _ _)
  have bf : BoxM X (w.heap.size + 1) f := hX ▸ bf0.grow (below_alloc _ _)
  have bs : BoxM X X0.heap.size s := hX ▸ boxM_new X0 s
  have HSZ := hide hsz
  have HG := hide (hg.grow hb hg.lt)
  have HP := hide hp
  have HPS := hide hps
  have HF := hide hf
  have HFS := hide hfs
  have HB := hide hb
  have HBP := hide bp
  have HBF := hide bf
  have HBS := hide bs
  clear hg hp hf hps hfs hb0 bp0 bf0 hb bp bf bs hsz
  go_enter Tryd.func4, Tryd.ntmps4
  go_wp2_with fail
  refine (awake_any _ HG.out).mono ?_; rintro e w0 ⟨rfl, b0⟩
  have HB0 := hide b0
  clear b0
  go_wp2_with fail
  refine (of_any 9 3 4 _ (by decide) (by decide)).mono ?_; rintro e w1 ⟨g, rfl, hgl, s1, b1⟩
  rw [show pos1 3 = 3 from rfl, show pos1 4 = 4 from rfl] at s1
  have bX1 := below_one HB0.out b1
  obtain ⟨i0, i1, i2, i3, i4, i5, i6, i7, i8, i9, i10⟩ := (HBP.out.grow bX1).all
  have HS1 := hide s1
  have HBX1 := hide bX1
  have HGX : Hid (X.heap.size ≤ g) := Nat.le_trans HB0.out.size hgl
  have HGL : Hid (w.heap.size ≤ g) := Nat.le_trans HB.out.size HGX.out
  clear s1 b1 hgl bX1
  go_wp2_with fail
  refine (start_yes p _ HS1.out (Bts.carry HP.out (below_one HB.out HBX1.out)) (OffG.of HP.out HGL.out) HPS.out (by decide)).mono ?_; rintro e w2 ⟨q, rfl, hq, hsn, hqh, E2⟩
  obtain ⟨s2, bw2⟩ := E2.below (below_one HB.out HBX1.out) HGL.out
  have bX2 : Below X.heap.size X w2 := foot_on HBX1.out HGX.out E2.2
  obtain ⟨Y, hY⟩ : ∃ Y, w2.alloc (.cells #[.int .u64 q.ta, .int .u64 q.rp, .int .u32 q.id, .int .u16 q.op, .int .u16 q.st, .int .u64 q.p, .int .u32 q.o, .int .u8 q.r, .int .u64 q.c, .int .u64 q.ar, .slice q.so q.sn q.sc] 35) = Y := ⟨_, rfl⟩
  have bY : Below w2.heap.size w2 Y := hY ▸ below_alloc w2 _
  have bq : BoxM Y w2.heap.size q := hY ▸ boxM_new w2 q
  have bf2 := HBF.out.grow (below_one bX2 bY)
  have bs2 := HBS.out.grow (below_one bX2 bY)
  obtain ⟨m, hm⟩ : ∃ m : Ms, (reqF 9 (([] : List Cl).length + 1) p).nm = m := ⟨_, rfl⟩
  have k0 : Y.cell? ⟨w2.heap.size, 0, none⟩ = some (.int .u64 p.ta) := by rw [show p.ta = q.ta from (congrArg Ms.ta hq).symm]; exact bq.all.1
  have k2 : Y.cell? ⟨w2.heap.size, 2, none⟩ = some (.int .u32 1) := by rw [show (1 : Int) = q.id from (congrArg Ms.id hq).symm]; exact bq.all.2.2.1
  obtain ⟨r0, r1, r2, r3, r4, r5, r6, r7, r8, r9, r10⟩ := bf2.all
  have z0 := bf2.z 0
  have z1 := bf2.z 1
  have z2 := bf2.z 2
  have HREL := hide (fi1 bf2 9 p.ta 1)
  have HMT : Hid (m.ta = p.ta) := by show _ = _; rw [← hm]; rfl
  have HS2 : Hid (St Y g 9 3 4 [⟨1, m, 1, 0⟩]) := by have := s2.grow bY; rw [hm] at this; exact this
  have HQ2 : Hid (BoxM Y w2.heap.size q ∧ q.id = 1 ∧ q.ta = p.ta) := ⟨bq, congrArg Ms.id hq, by have := congrArg Ms.ta hq; exact this⟩
  have HBY := hide (below_one bw2 bY)
  have HBFY := hide bf2
  have HBSY := hide bs2
  have hltx : X0.heap.size < w2.heap.size := by have := lt_of_heap HBS.out; have := bX2.size; omega
  have hltf : w.heap.size + 1 < X0.heap.size := by have := HSZ.out; omega
  have HGW : Hid (X0.heap.size < g) := by have := lt_of_heap HBS.out; have := HGX.out; show _ < _; omega
  have HGN : Hid (g < w2.heap.size) := s2.lt
  clear i0 i1 i2 i3 i4 i5 i6 i7 i8 i9 i10 E2 s2 bw2 bX2 bY bq bf2 bs2 hq hm hsn hqh
  go_upto_region 5 with fail
  go_cut [] from 27 to 33 (fun wx => Fi1 Y (w.heap.size + 1) (rF f 9 p.ta 1) wx)
  case first =>
    go_region_with (fail)
    all_goals (go_wp2_with fail; go_meet; exact HREL.out)
  case rest =>
    obtain ⟨V, rfl⟩ : ∃ V, V = wc := ⟨wc, rfl⟩
    obtain ⟨bv, fv⟩ := hcut
    have bsv := HBSY.out.foot fv (by omega)
    have bqv := HQ2.out.1.foot fv (by omega)
    have HSV := hide (HS2.out.box HBFY.out fv)
    have HBV := hide (fv.below HBY.out.size (fun k e => by omega) |> HBY.out.trans)
    have HBSV := hide bsv
    have HBQV := hide bqv
    have HBFV := hide bv
    clear r0 r1 r2 r3 r4 r5 r6 r7 r8 r9 r10 k0 k2 z0 z1 z2 HREL
    have k0 : V.cell? ⟨w2.heap.size, 0, none⟩ = some (.int .u64 p.ta) := by rw [← HQ2.out.2.2]; exact bqv.all.1
    have k2 : V.cell? ⟨w2.heap.size, 2, none⟩ = some (.int .u32 1) := by rw [← HQ2.out.2.1]; exact bqv.all.2.2.1
    obtain ⟨r0, r1, r2, r3, r4, r5, r6, r7, r8, r9, r10⟩ := bsv.all
    have z0 := bsv.z 0
    have z1 := bsv.z 1
    have z2 := bsv.z 2
    have HREL := hide (fi1 bsv 9 p.ta 1)
    clear bv fv bsv bqv
    go_upto_region 6 with fail
    go_cut [] from 34 to 40 (fun wx => Fi1 V X0.heap.size (rF s 9 p.ta 1) wx)
    case first =>
      go_region_with (fail)
      all_goals (go_wp2_with fail; go_meet; exact HREL.out)
    case rest =>
      obtain ⟨U, rfl⟩ : ∃ U, U = wc := ⟨wc, rfl⟩
      obtain ⟨bu, fu⟩ := hcut
      have bfu := HBFV.out.foot fu (by omega)
      have bqu := HBQV.out.foot fu (by omega)
      have HSU := hide (HSV.out.box HBSV.out fu)
      have HBU := hide (fu.below HBV.out.size (fun k e => by omega) |> HBV.out.trans)
      clear r0 r1 r2 r3 r4 r5 r6 r7 r8 r9 r10 k0 k2 z0 z1 z2 HREL
      obtain ⟨F, hF⟩ : ∃ F, rF f 9 p.ta 1 = F := ⟨_, rfl⟩
      obtain ⟨S, hS⟩ : ∃ S, rF s 9 p.ta 1 = S := ⟨_, rfl⟩
      rw [hF] at bfu
      rw [hS] at bu
      have HFF : Hid (F.has w ∧ F.sn ≤ 140737488355328 ∧ F.id = ((0 : Nat) : Int) + 1 ∧ F.ta = 9 ∧ F.rp = p.ta) := by subst hF; exact ⟨HF.out, HFS.out, rfl, rfl, rfl⟩
      have HSI : Hid (S.id = 1) := by subst hS; rfl
      obtain ⟨c0, c1, c2, c3, c4, c5, c6, c7, c8, c9, c10⟩ := bfu.all
      obtain ⟨d0, d1, d2, d3, d4, d5, d6, d7, d8, d9, d10⟩ := bu.all
      have HBFU := hide bfu
      have HBSU := hide bu
      have HBQU := hide bqu
      have HA1 : Hid (ansF [⟨1, m, 1, 0⟩] 9 F = true) := by
        show _ = _
        have h := HFF.out
        unfold ansF
        rw [h.2.2.1, h.2.2.2.1, h.2.2.2.2]
        show ((1 : Int) == 1 && (9 : Int) == 9 && p.ta == m.ta) = true
        rw [HMT.out]; simp
      have HA2 : Hid (ansF [⟨2, F.nm, 0, 0⟩] 9 S = false) := by
        show _ = _
        unfold ansF
        rw [HSI.out]; rfl
      clear bu fu bfu bqu hF hS
      go_upto_region 7 with fail
      go_cut [12, 13] from 41 to 46 (fun va vb wx => va = .bool true ∧ vb = .bool false ∧ On w g (w.heap.size + 1) w2.heap.size F q wx)
      case first =>
        go_region_with (first | (have := HST.out; go_at_call 12; go_must (refine (answer_no S _ HST.out HA2.out).mono ?_); rintro e w6 ⟨rfl, b6⟩; have HON : Hid (On w g (w.heap.size + 1) w2.heap.size F q w6) := ⟨HST.out.grow b6, HB5F.out.grow b6, HB5Q.out.grow b6, below_one HB5.out b6⟩; clear b6) | (go_at_call 12; go_must (refine (answer_ok F 0 _ (HSU.out.grow (below_d U 1)) HFF.out.2.2.1 (by show 0 < 1; omega) HA1.out (Bts.carry HFF.out.1 (below_one HBU.out (below_d U 1))) HFF.out.2.1).mono ?_); rintro e w5 ⟨rfl, E5⟩; have HST : Hid (St w5 g 9 3 4 [⟨2, F.nm, 0, 0⟩]) := E5.1; have ft5 : Foot (· = g) U w5 := (below_foot _ (below_d U 1)).then E5.2; have HB5 := hide (foot_on HBU.out HGL.out ft5); have bs5 := HBSU.out.foot ft5 (by have := HGW.out; omega); have HB5F := hide (HBFU.out.foot ft5 (by have := HGW.out; omega)); have HB5Q := hide (HBQU.out.foot ft5 (by have := HGN.out; omega)); obtain ⟨e0, e1, e2, e3, e4, e5, e6, e7, e8, e9, e10⟩ := bs5.all; clear E5 ft5 bs5) | fail)
        all_goals (go_wp2_with fail; go_meet; exact ⟨rfl, rfl, HON.out⟩)
      case rest =>
        obtain ⟨rfl, rfl, hon⟩ := hcut
        have HON := hide hon
        obtain ⟨n, hn⟩ : ∃ n, ticks % 30 = n := ⟨_, rfl⟩
        have hni : (ticks : Int) % 30 = (n : Int) := by omega
        have hn30 : n < 30 := by omega
        clear c0 c1 c2 c3 c4 c5 c6 c7 c8 c9 c10 d0 d1 d2 d3 d4 d5 d6 d7 d8 d9 d10 hon hn
        go_wp2
        go_loopg [14] n (fun gk vi wr => OnRel w g (w.heap.size + 1) w2.heap.size F q n gk vi wr)
        case atStart => exact ⟨0, by omega, rfl, HON.out⟩
        case round =>
          obtain ⟨i, hi, rfl, ho⟩ := hrel
          have HO := hide ho
          clear ho
          cases gk with
          | zero =>
            obtain rfl : i = n := by omega
            have j2 : wr.cell? ⟨w2.heap.size, 2, none⟩ = some (.int .u32 1) := by rw [← HQ2.out.2.1]; exact HO.out.bx.all.2.2.1
            go_wp2_with fail
            refine (get_ok 1 _ HO.out.st rfl).mono ?_; rintro e w7 ⟨t, rfl, ht, hth, b7⟩
            obtain ⟨Z, hZ⟩ : ∃ Z, w7.alloc (.cells #[.int .u64 t.ta, .int .u64 t.rp, .int .u32 t.id, .int .u16 t.op, .int .u16 t.st, .int .u64 t.p, .int .u32 t.o, .int .u8 t.r, .int .u64 t.c, .int .u64 t.ar, .slice t.so t.sn t.sc] 35) = Z := ⟨_, rfl⟩
            have bZ : Below w7.heap.size w7 Z := hZ ▸ below_alloc w7 _
            have bt : BoxM Z w7.heap.size t := hZ ▸ boxM_new w7 t
            obtain ⟨r0, r1, r2, r3, r4, r5, r6, r7, r8, r9, r10⟩ := bt.all
            obtain ⟨c0, c1, c2, c3, c4, c5, c6, c7, c8, c9, c10⟩ := ((HO.out.bf.grow b7).grow bZ).all
            have HBZ := hide (below_one (below_one HO.out.b b7) bZ)
            have HTN : Hid (t.nm = F.nm) := ht
            have HTH := hide (Bts.carry hth bZ)
            clear j2 b7 bZ bt ht hth
            go_wp2_with fail
            refine (same_yes t F _ HTH.out (Bts.carry HFF.out.1 HBZ.out) HTN.out).mono ?_; rintro e w8 ⟨rfl, b8⟩
            have HB8 := hide (below_one HBZ.out b8)
            clear b8
            go_wp2
            go_ret
            exact ⟨rfl, HB8.out⟩
          | succ g1 =>
            have hlt : (i : Int) < (n : Int) := by omega
            go_wp2_with fail
            refine (tick_any _ HO.out.st).mono ?_; rintro e w7 E
            obtain ⟨ao, cc, rfl, E7⟩ := tick_len E
            rw [show (tickM 3 4 [⟨2, F.nm, 0, 0⟩]).length = 0 from rfl]
            have HE : Hid (On w g (w.heap.size + 1) w2.heap.size F q w7) := ⟨E7.1, HO.out.bf.foot E7.2 (by have := HGW.out; omega), HO.out.bx.foot E7.2 (by have := HGN.out; omega), foot_on HO.out.b HGL.out E7.2⟩
            clear E E7
            go_wp2
            go_roundg g1
            case measure => omega
            case rel => exact ⟨i + 1, by omega, by go_num, HE.out⟩
end Go.Proofs.YtdodmnianhpjbaaDoor
