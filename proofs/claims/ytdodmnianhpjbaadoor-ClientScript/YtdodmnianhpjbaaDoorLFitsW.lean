/-
  The walk of ClientFits.
-/
import Derived.Test.YtdodmnianhpjbaaDoorLMsg
import Derived.Test.YtdodmnianhpjbaaDoorJSame
namespace Go.Proofs.YtdodmnianhpjbaaDoor
open Go.RowKit
/- a reply with other ports and another number -/
def rF (r : Ms) (ta rp id : Int) : Ms := ⟨ta, rp, id, r.op, r.st, r.p, r.o, r.r, r.c, r.ar, r.so, r.sn, r.sc, r.l⟩
theorem rF_has {w : World} {r : Ms} (h : r.has w) (ta rp id : Int) : (rF r ta rp id).has w := h
theorem box_rF {w : World} {h : Nat} {r : Ms} (b : BoxM w h r) (ta rp id : Int) : BoxM (((w.setCell ⟨h, 2, none⟩ (.int .u32 id)).setCell ⟨h, 0, none⟩ (.int .u64 ta)).setCell ⟨h, 1, none⟩ (.int .u64 rp)) h (rF r ta rp id) := by
  have h1 := heap_setCell_same w h 2 _ _ (.int .u32 id) b
  have h2 := heap_setCell_same _ h 0 _ _ (.int .u64 ta) h1
  have h3 := heap_setCell_same _ h 1 _ _ (.int .u64 rp) h2
  unfold BoxM
  rw [h3]; rfl
def Fi1 (Y : World) (h : Nat) (r : Ms) (wx : World) : Prop := BoxM wx h r ∧ Foot (fun j => j = h) Y wx
theorem fi1 {Y : World} {h : Nat} {r : Ms} (b : BoxM Y h r) (ta rp id : Int) : Fi1 Y h (rF r ta rp id) ((((Y.setCell ⟨h, 2, none⟩ (.int .u32 id)).setCell ⟨h, 0, none⟩ (.int .u64 ta)).setCell ⟨h, 1, none⟩ (.int .u64 rp)).drew) :=
  ⟨box_rF b ta rp id, ((((Foot.refl _ Y).put _ _).put _ _).put _ _).drewN 1⟩
theorem box_put0 {w : World} {h : Nat} {r : Ms} {ta rp id : Int} (b : BoxM w h (rF r ta rp id)) (z : Int) : BoxM (w.setCell ⟨h, 0, none⟩ (.int .u64 z)) h (rF r z rp id) := by
  unfold BoxM
  rw [heap_setCell_same w h 0 _ _ _ b]; rfl
theorem box_put1 {w : World} {h : Nat} {r : Ms} {ta rp id : Int} (b : BoxM w h (rF r ta rp id)) (z : Int) : BoxM (w.setCell ⟨h, 1, none⟩ (.int .u64 z)) h (rF r ta z id) := by
  unfold BoxM
  rw [heap_setCell_same w h 1 _ _ _ b]; rfl
theorem box_put2 {w : World} {h : Nat} {r : Ms} {ta rp id : Int} (b : BoxM w h (rF r ta rp id)) (z : Int) : BoxM (w.setCell ⟨h, 2, none⟩ (.int .u32 z)) h (rF r ta rp z) := by
  unfold BoxM
  rw [heap_setCell_same w h 2 _ _ _ b]; rfl
/- blocks of messages, and what is new, are not the client -/
theorem St.box {w w' : World} {g h : Nat} {rp wt tr : Int} {L : List Cl} {q : Ms} (s : St w g rp wt tr L) (b : BoxM w h q) (f : Foot (fun j => j = h) w w') : St w' g rp wt tr L := by
  refine s.foot f (fun k cur t e ht i => ?_)
  rw [i, b] at e
  cases e
  rcases ht with ht | ht <;> cases ht
set_option maxRecDepth 20000 in
set_option maxHeartbeats 6400000 in
theorem walk_fits (p r : Ms) (how : Nat) (w : World) (hp : p.has w) (hps : p.sn ≤ 140737488355328) (hg : Glob w) :
    Calls Tryd.prog 6 #[.agg #[.int .u64 p.ta, .int .u64 p.rp, .int .u32 p.id, .int .u16 p.op, .int .u16 p.st, .int .u64 p.p, .int .u32 p.o, .int .u8 p.r, .int .u64 p.c, .int .u64 p.ar, .slice p.so p.sn p.sc], .agg #[.int .u64 r.ta, .int .u64 r.rp, .int .u32 r.id, .int .u16 r.op, .int .u16 r.st, .int .u64 r.p, .int .u32 r.o, .int .u8 r.r, .int .u64 r.c, .int .u64 r.ar, .slice r.so r.sn r.sc], .int .u8 (how : Int)] w fun e w' => e = .returned (.bool true) ∧ Below w.heap.size w w' := by
  obtain ⟨X, hX⟩ : ∃ X, (w.alloc (.cells #[.int .u64 p.ta, .int .u64 p.rp, .int .u32 p.id, .int .u16 p.op, .int .u16 p.st, .int .u64 p.p, .int .u32 p.o, .int .u8 p.r, .int .u64 p.c, .int .u64 p.ar, .slice p.so p.sn p.sc] 35)).alloc (.cells #[.int .u64 r.ta, .int .u64 r.rp, .int .u32 r.id, .int .u16 r.op, .int .u16 r.st, .int .u64 r.p, .int .u32 r.o, .int .u8 r.r, .int .u64 r.c, .int .u64 r.ar, .slice r.so r.sn r.sc] 35) = X := ⟨_, rfl⟩
  have hb : Below w.heap.size w X := hX ▸ below_one (below_alloc w _) (below_alloc _ _)
  have bp : BoxM X w.heap.size p := hX ▸ (boxM_new w p).grow (below_alloc _ _)
  have br : BoxM X (w.heap.size + 1) r := by rw [← hX, ← size_al w (.cells #[.int .u64 p.ta, .int .u64 p.rp, .int .u32 p.id, .int .u16 p.op, .int .u16 p.st, .int .u64 p.p, .int .u32 p.o, .int .u8 p.r, .int .u64 p.c, .int .u64 p.ar, .slice p.so p.sn p.sc] 35)]; exact boxM_new _ r
  have HG := hide (hg.grow hb hg.lt)
  have HP := hide hp
  have HPS := hide hps
  have HB := hide hb
  have HBP := hide bp
  have HBR := hide br
  clear hg hp hps hb bp br
  go_enter Tryd.func6, Tryd.ntmps6
  go_wp2_with fail
  refine (awake_any _ HG.out).mono ?_; rintro e w0 ⟨rfl, b0⟩
  have HB0 := hide b0
  clear b0
  go_wp2_with fail
  refine (of_any 9 3 4 _ (by decide) (by decide)).mono ?_; rintro e w1 ⟨g, rfl, hgl, s1, b1⟩
  rw [show pos1 3 = 3 from rfl, show pos1 4 = 4 from rfl] at s1
  have bX1 := below_one HB0.out b1
  obtain ⟨i0, i1, i2, i3, i4, i5, i6, i7, i8, i9, i10⟩ := (HBP.out.grow bX1).all
  have HS1 := hide s1
  have HBX1 := hide bX1
  have HGX : Hid (X.heap.size ≤ g) := Nat.le_trans HB0.out.size hgl
  have HGL : Hid (w.heap.size ≤ g) := Nat.le_trans HB.out.size HGX.out
  clear s1 b1 hgl bX1
  go_wp2_with fail
  refine (start_yes p _ HS1.out (Bts.carry HP.out (below_one HB.out HBX1.out)) (OffG.of HP.out HGL.out) HPS.out (by decide)).mono ?_; rintro e w2 ⟨q, rfl, hq, hsn, hqh, E2⟩
  obtain ⟨s2, bw2⟩ := E2.below (below_one HB.out HBX1.out) HGL.out
  have bX2 : Below X.heap.size X w2 := foot_on HBX1.out HGX.out E2.2
  obtain ⟨Y, hY⟩ : ∃ Y, w2.alloc (.cells #[.int .u64 q.ta, .int .u64 q.rp, .int .u32 q.id, .int .u16 q.op, .int .u16 q.st, .int .u64 q.p, .int .u32 q.o, .int .u8 q.r, .int .u64 q.c, .int .u64 q.ar, .slice q.so q.sn q.sc] 35) = Y := ⟨_, rfl⟩
  have bY : Below w2.heap.size w2 Y := hY ▸ below_alloc w2 _
  have bq : BoxM Y w2.heap.size q := hY ▸ boxM_new w2 q
  have br2 := HBR.out.grow (below_one bX2 bY)
  obtain ⟨m, hm⟩ : ∃ m : Ms, (reqF 9 (([] : List Cl).length + 1) p).nm = m := ⟨_, rfl⟩
  have k0 : Y.cell? ⟨w2.heap.size, 0, none⟩ = some (.int .u64 p.ta) := by rw [show p.ta = q.ta from (congrArg Ms.ta hq).symm]; exact bq.all.1
  have k2 : Y.cell? ⟨w2.heap.size, 2, none⟩ = some (.int .u32 1) := by rw [show (1 : Int) = q.id from (congrArg Ms.id hq).symm]; exact bq.all.2.2.1
  obtain ⟨r0, r1, r2, r3, r4, r5, r6, r7, r8, r9, r10⟩ := br2.all
  have z0 := br2.z 0
  have z1 := br2.z 1
  have z2 := br2.z 2
  have HREL := hide (fi1 br2 9 p.ta 1)
  have HMT : Hid (m.ta = p.ta) := by show _ = _; rw [← hm]; rfl
  have HS2 : Hid (St Y g 9 3 4 [⟨1, m, 1, 0⟩]) := by have := s2.grow bY; rw [hm] at this; exact this
  have HQ2 : Hid (BoxM Y w2.heap.size q ∧ q.id = 1) := ⟨bq, congrArg Ms.id hq⟩
  have HBY := hide (below_one bw2 bY)
  have HBRY := hide br2
  have HNE : Hid (w2.heap.size ≠ w.heap.size + 1) := by have := lt_of_heap HBR.out; have := bX2.size; show _ ≠ _; omega
  have HGW : Hid (w.heap.size + 1 ≠ g) := by have := lt_of_heap HBR.out; have := HGX.out; show _ ≠ _; omega
  have hlt2 : w.heap.size + 1 < w2.heap.size := by have := lt_of_heap HBR.out; have := bX2.size; omega
  clear i0 i1 i2 i3 i4 i5 i6 i7 i8 i9 i10 E2 s2 bw2 bX2 bY bq br2 hq hm hsn hqh
  go_upto_region 5 with fail
  go_cut [] from 23 to 29 (fun wx => Fi1 Y (w.heap.size + 1) (rF r 9 p.ta 1) wx)
  case first =>
    go_region_with (fail)
    all_goals (go_wp2_with fail; go_meet; exact HREL.out)
  case rest =>
    obtain ⟨V, rfl⟩ : ∃ V, V = wc := ⟨wc, rfl⟩
    obtain ⟨bv, fv⟩ := hcut
    have HSV := hide (HS2.out.box HBRY.out fv)
    have HQV := hide (HQ2.out.1.foot fv HNE.out)
    have HBV := hide (fv.below HBY.out.size (fun k e => by omega) |> HBY.out.trans)
    have HBB := hide bv
    have hva := bv.all
    dsimp only [rF] at hva
    clear r0 r1 r2 r3 r4 r5 r6 r7 r8 r9 r10 k0 k2 z0 z1 z2 HREL bv fv
    obtain ⟨r0, r1, r2, r3, r4, r5, r6, r7, r8, r9, r10⟩ := hva
    rcases (show how % 3 = 0 ∨ how % 3 = 1 ∨ how % 3 = 2 by omega) with h3 | h3 | h3
    · have h3i : (how : Int) % 3 = 0 := by omega
      have fz := HBB.out.z 2
      obtain ⟨U, hU⟩ : ∃ U, V.setCell ⟨w.heap.size + 1, 2, none⟩ (.int .u32 2) = U := ⟨_, rfl⟩
      have bu : BoxM U (w.heap.size + 1) (rF r 9 p.ta 2) := hU ▸ box_put2 HBB.out _
      have fu : Foot (fun j => j = w.heap.size + 1) V U := hU ▸ foot_set V ⟨w.heap.size + 1, 2, none⟩ _
      have HSU := hide (HSV.out.box HBB.out fu)
      have HQU := hide (HQV.out.foot fu HNE.out)
      have HBU := hide (fu.below HBV.out.size (fun k e => by omega) |> HBV.out.trans)
      have hua := bu.all
      dsimp only [rF] at hua
      obtain ⟨ua, ub, uc, ud, ue, uf, ug, uh, ui, uj, uk⟩ := hua
      clear bu fu
      go_wp2_with fail
      refine (answer_no (rF r 9 p.ta 2) _ HSU.out (by rfl)).mono ?_; rintro e w5 ⟨rfl, b5⟩
      have hq5 := HQU.out.grow b5
      have j2 : w5.cell? ⟨w2.heap.size, 2, none⟩ = some (.int .u32 1) := by rw [← HQ2.out.2]; exact hq5.all.2.2.1
      have HS5 := hide (HSU.out.grow b5)
      have HB5 := hide (below_one HBU.out b5)
      clear b5 hq5 r0 r1 r2 r3 r4 r5 r6 r7 r8 r9 r10 ua ub uc ud ue uf ug uh ui uj uk
      go_wp2_with fail
      refine (get_wait 1 _ HS5.out rfl).mono ?_; rintro e w6 ⟨rfl, b6⟩
      rw [erN_zero]
      have HB6 : Hid (∀ o, Below w.heap.size w (w6.alloc o)) := fun o => below_one (below_one HB5.out b6) (below_alloc w6 o)
      clear b6 j2
      go_wp2
      go_ret
      exact ⟨rfl, HB6.out _⟩
    · have h3i : (how : Int) % 3 = 1 := by omega
      have fz := HBB.out.z 0
      obtain ⟨U, hU⟩ : ∃ U, V.setCell ⟨w.heap.size + 1, 0, none⟩ (.int .u64 10) = U := ⟨_, rfl⟩
      have bu : BoxM U (w.heap.size + 1) (rF r 10 p.ta 1) := hU ▸ box_put0 HBB.out _
      have fu : Foot (fun j => j = w.heap.size + 1) V U := hU ▸ foot_set V ⟨w.heap.size + 1, 0, none⟩ _
      have HSU := hide (HSV.out.box HBB.out fu)
      have HQU := hide (HQV.out.foot fu HNE.out)
      have HBU := hide (fu.below HBV.out.size (fun k e => by omega) |> HBV.out.trans)
      have hua := bu.all
      dsimp only [rF] at hua
      obtain ⟨ua, ub, uc, ud, ue, uf, ug, uh, ui, uj, uk⟩ := hua
      clear bu fu
      go_wp2_with fail
      refine (answer_no (rF r 10 p.ta 1) _ HSU.out (by rfl)).mono ?_; rintro e w5 ⟨rfl, b5⟩
      have hq5 := HQU.out.grow b5
      have j2 : w5.cell? ⟨w2.heap.size, 2, none⟩ = some (.int .u32 1) := by rw [← HQ2.out.2]; exact hq5.all.2.2.1
      have HS5 := hide (HSU.out.grow b5)
      have HB5 := hide (below_one HBU.out b5)
      clear b5 hq5 r0 r1 r2 r3 r4 r5 r6 r7 r8 r9 r10 ua ub uc ud ue uf ug uh ui uj uk
      go_wp2_with fail
      refine (get_wait 1 _ HS5.out rfl).mono ?_; rintro e w6 ⟨rfl, b6⟩
      rw [erN_zero]
      have HB6 : Hid (∀ o, Below w.heap.size w (w6.alloc o)) := fun o => below_one (below_one HB5.out b6) (below_alloc w6 o)
      clear b6 j2
      go_wp2
      go_ret
      exact ⟨rfl, HB6.out _⟩
    · have h3i : (how : Int) % 3 = 2 := by omega
      have fz := HBB.out.z 1
      obtain ⟨zz, hzz⟩ : ∃ zz, IntKind.u64.wrap (p.ta + 1) = zz := ⟨_, rfl⟩
      have HZZ : Hid (¬ zz = p.ta) := by
        show ¬ _
        rw [← hzz, IntKind.wrap_u64]
        omega
      obtain ⟨U, hU⟩ : ∃ U, V.setCell ⟨w.heap.size + 1, 1, none⟩ (.int .u64 zz) = U := ⟨_, rfl⟩
      have bu : BoxM U (w.heap.size + 1) (rF r 9 zz 1) := hU ▸ box_put1 HBB.out _
      have fu : Foot (fun j => j = w.heap.size + 1) V U := hU ▸ foot_set V ⟨w.heap.size + 1, 1, none⟩ _
      have HSU := hide (HSV.out.box HBB.out fu)
      have HQU := hide (HQV.out.foot fu HNE.out)
      have HBU := hide (fu.below HBV.out.size (fun k e => by omega) |> HBV.out.trans)
      have hua := bu.all
      dsimp only [rF] at hua
      obtain ⟨ua, ub, uc, ud, ue, uf, ug, uh, ui, uj, uk⟩ := hua
      clear bu fu
      go_wp2_with fail
      refine (answer_no (rF r 9 zz 1) _ HSU.out (by unfold ansF; show ((1 : Int) == 1 && (9 : Int) == 9 && zz == m.ta) = false; rw [HMT.out]; simp [HZZ.out])).mono ?_; rintro e w5 ⟨rfl, b5⟩
      have hq5 := HQU.out.grow b5
      have j2 : w5.cell? ⟨w2.heap.size, 2, none⟩ = some (.int .u32 1) := by rw [← HQ2.out.2]; exact hq5.all.2.2.1
      have HS5 := hide (HSU.out.grow b5)
      have HB5 := hide (below_one HBU.out b5)
      clear b5 hq5 r0 r1 r2 r3 r4 r5 r6 r7 r8 r9 r10 ua ub uc ud ue uf ug uh ui uj uk
      go_wp2_with fail
      refine (get_wait 1 _ HS5.out rfl).mono ?_; rintro e w6 ⟨rfl, b6⟩
      rw [erN_zero]
      have HB6 : Hid (∀ o, Below w.heap.size w (w6.alloc o)) := fun o => below_one (below_one HB5.out b6) (below_alloc w6 o)
      clear b6 j2
      go_wp2
      go_ret
      exact ⟨rfl, HB6.out _⟩
end Go.Proofs.YtdodmnianhpjbaaDoor
