/-
  What served's helpers answer, as contracts: alone, told, Len; a zero Served.
-/
import Derived.Test.YtnkfdnmaocfjnaaDoorNRow
import Derived.Lib.MinMax
import Derived.Deep.RegionLaw
namespace Go.Proofs.YtnkfdnmaocfjnaaDoor
open Go.RowKit
set_option maxHeartbeats 800000 in
theorem clone_own (ao : Option Addr) (n cap : Nat) (l : List UInt8) (w : World) (hb : Bts w ao n cap l) (hr : n ≤ 140737488355328) :
    Calls Tryd.prog 19 #[.slice ao n cap] w fun e w' => ∃ co cc, e = .returned (.slice co n cc) ∧ Bts w' co n cc l ∧ New w co ∧ Below w.heap.size w w' ∧ ∀ ad, co = some ad → ∃ cur, w'.heap[ad.block]? = some (.cells cur 5 (0, 0)) := by
  have HB : Hid (Bts w ao n cap l) := hb
  clear hb
  cases ao with
  | none =>
    obtain ⟨rfl, rfl⟩ := HB.out.none rfl
    have he := run_eql_slice_nil (P := Tryd.prog) w 30 5 none 0 0 Tryd.underlying30
    go_enter Tryd.func19, Tryd.ntmps19
    go_wp2
    go_ret
    exact ⟨none, 0, rfl, HB.out, new_none _, Below.refl _ _, fun _ e => by cases e⟩
  | some ad =>
    obtain ⟨i0, hi, hz0, hz1, hz2⟩ := info_parts Tryd.info5
    have hcm : cap ≤ 9223372036854775807 := HB.out.2.2.1
    have he := run_eql_slice_nil (P := Tryd.prog) w 30 5 (some ad) n cap Tryd.underlying30
    go_enter Tryd.func19, Tryd.ntmps19
    go_wp2_with (at_builtin; refine wpList_append_own _ rfl _ _ 30 rfl w.heap.size 5 i0 (.int .u8 0) 1 1 Tryd.underlying30 hi hz0 hz1 hz2 rfl (by decide) _ 0 [] rfl (own_empty w) ad n cap (cellsB l) rfl (by rw [cellsB_len]; have := HB.out.1; omega) ?c1 (cellsB_one l) (by unfold maxLen; omega) (by omega) ?c5 ?_)
    case c1 => exact (HB.out.carry (below_alloc w _)).news ad rfl
    case c5 => exact (below_alloc w _).size
    intro v' w2 hown2 hgrow2 _
    obtain ⟨co, cc, rfl, hb2⟩ := owns_bts hown2
    have HW : Hid (New w co) := owns_new hown2
    have HT : Hid (∀ ad, co = some ad → ∃ cur, w2.heap[ad.block]? = some (.cells cur 5 (0, 0))) := fun ad e => by
      rcases hown2.2 with ⟨h0, _⟩ | ⟨g, cap, cur, h1, _, h3, _⟩
      · cases h0; cases e
      · cases h1; cases e; exact ⟨cur, h3⟩
    have bel2 : Below w.heap.size w w2 := (below_alloc w (Obj.cells #[] 5)).grown hgrow2 (below_alloc w _).size (fun k e => by cases e; exact Nat.le_refl _)
    have HB2 : Hid (Bts w2 co n cc l) := hb2
    clear hown2 hgrow2 hb2
    go_wp2
    go_ret
    exact ⟨co, cc, rfl, HB2.out, HW.out, bel2, HT.out⟩
structure AlEnd (w : World) (p p' : Ms) (w' : World) : Prop where
  nm : p'.nm = p.nm
  sn : p'.sn = p.sn
  has : p'.has w'
  own : OwnD w' p'
  new : New w p'.so
  b : Below w.heap.size w w'
set_option maxRecDepth 20000 in
set_option maxHeartbeats 1600000 in
theorem alone_any (p : Ms) (w : World) (hp : p.has w) (hs : p.sn ≤ 140737488355328) :
    Calls Tryd.prog 13 #[.agg #[.int .u64 p.ta, .int .u64 p.rp, .int .u32 p.id, .int .u16 p.op, .int .u16 p.st, .int .u64 p.p, .int .u32 p.o, .int .u8 p.r, .int .u64 p.c, .int .u64 p.ar, .slice p.so p.sn p.sc]] w fun e w' => ∃ p', e = .returned (.agg #[.int .u64 p'.ta, .int .u64 p'.rp, .int .u32 p'.id, .int .u16 p'.op, .int .u16 p'.st, .int .u64 p'.p, .int .u32 p'.o, .int .u8 p'.r, .int .u64 p'.c, .int .u64 p'.ar, .slice p'.so p'.sn p'.sc]) ∧ AlEnd w p p' w' := by
  obtain ⟨X, hX⟩ : ∃ X, (w.alloc (.cells #[.int .u64 p.ta, .int .u64 p.rp, .int .u32 p.id, .int .u16 p.op, .int .u16 p.st, .int .u64 p.p, .int .u32 p.o, .int .u8 p.r, .int .u64 p.c, .int .u64 p.ar, .slice p.so p.sn p.sc] 32)).alloc (.cells #[.int .u64 0, .int .u64 0, .int .u32 0, .int .u16 0, .int .u16 0, .int .u64 0, .int .u32 0, .int .u8 0, .int .u64 0, .int .u64 0, .slice none 0 0] 32) = X := ⟨_, rfl⟩
  have hb : Below w.heap.size w X := hX ▸ below_one (below_alloc w _) (below_alloc _ _)
  have bp : BoxM X w.heap.size p := hX ▸ (boxM_new w p).grow (below_alloc _ _)
  have bq : BoxM X (w.heap.size + 1) Ms.zero := by rw [← hX, ← size_al w (.cells #[.int .u64 p.ta, .int .u64 p.rp, .int .u32 p.id, .int .u16 p.op, .int .u16 p.st, .int .u64 p.p, .int .u32 p.o, .int .u8 p.r, .int .u64 p.c, .int .u64 p.ar, .slice p.so p.sn p.sc] 32)]; exact boxM_new (w.alloc (.cells #[.int .u64 p.ta, .int .u64 p.rp, .int .u32 p.id, .int .u16 p.op, .int .u16 p.st, .int .u64 p.p, .int .u32 p.o, .int .u8 p.r, .int .u64 p.c, .int .u64 p.ar, .slice p.so p.sn p.sc] 32)) Ms.zero
  have HB := hide hb
  have HBP := hide bp
  have HBQ := hide bq
  have HPX := hide (Bts.carry hp hb)
  have c10 := bp.all.2.2.2.2.2.2.2.2.2.2
  clear bp bq hb
  go_enter Tryd.func13, Tryd.ntmps13
  go_wp2_with fail
  refine (clone_own _ _ _ p.l _ HPX.out hs).mono ?_; rintro e w2 ⟨co, cc, rfl, B2, N2, b2, T2⟩
  have hbx := HBP.out.grow b2
  have hby := HBQ.out.grow b2
  have d10 := hbx.all.2.2.2.2.2.2.2.2.2.2
  have dz10 := hbx.z 10
  obtain ⟨W, hW⟩ : ∃ W, w2.setCell ⟨w.heap.size, 10, none⟩ (.slice co p.sn cc) = W := ⟨_, rfl⟩
  obtain ⟨p', hp'⟩ : ∃ p' : Ms, p.at co p.sn cc = p' := ⟨_, rfl⟩
  have hbw : BoxM W w.heap.size p' := by rw [← hW, ← hp']; exact hbx.put10 co p.sn cc
  have ftW : Foot (fun jj => jj = w.heap.size) w2 W := by rw [← hW]; exact foot_set w2 ⟨w.heap.size, 10, none⟩ _
  have hbz : BoxM W (w.heap.size + 1) Ms.zero := (ftW.block _ (lt_of_heap hby) (by omega)).trans hby
  have HW1 : Hid (Foot (fun jj => w.heap.size ≤ jj ∧ jj ≤ w.heap.size + 1) w W) := ((below_foot _ (below_one HB.out b2)).then (ftW.mono (fun k e => by omega)))
  have hXs : w.heap.size + 1 < X.heap.size := lt_of_heap HBQ.out
  have HH : Hid (Bts W co p.sn cc p.l ∧ New w co ∧ New X co ∧ ∀ ad, co = some ad → ∃ cur, W.heap[ad.block]? = some (.cells cur 5 (0, 0))) := by
    refine ⟨Bts.foot B2 ftW (fun ad e _ => ?_), New.le N2 HB.out.size, N2, fun ad e => ?_⟩
    · have := N2 ad e
      omega
    · obtain ⟨cur, hc⟩ := T2 ad e
      exact ⟨cur, (ftW.block _ (lt_of_heap hc) (by have := N2 ad e; omega)).trans hc⟩
  obtain ⟨k0, k1, k2, k3, k4, k5, k6, k7, k8, k9, k10⟩ := hbw.all
  obtain ⟨y0, y1, y2, y3, y4, y5, y6, y7, y8, y9, y10⟩ := hbz.all
  have z0 := hbz.z 0
  have z1 := hbz.z 1
  have z2 := hbz.z 2
  have z3 := hbz.z 3
  have z4 := hbz.z 4
  have z5 := hbz.z 5
  have z6 := hbz.z 6
  have z7 := hbz.z 7
  have z8 := hbz.z 8
  have z9 := hbz.z 9
  have z10 := hbz.z 10
  obtain ⟨V, hV⟩ : ∃ V, lay11 W (w.heap.size + 1) p' = V := ⟨_, rfl⟩
  have hbv : BoxM V (w.heap.size + 1) p' := hV ▸ hbz.lay p'
  have ftV : Foot (fun j => j = w.heap.size + 1) W V := hV ▸ foot_lay11 W _ p'
  unfold lay11 at hV
  obtain ⟨v0, v1, v2, v3, v4, v5, v6, v7, v8, v9, v10⟩ := hbv.all
  have HEND : Hid (AlEnd w p p' V) := by
    refine ⟨by rw [← hp']; rfl, by rw [← hp']; rfl, ?_, ?_, by rw [← hp']; exact HH.out.2.1, ((HW1.out.then (ftV.mono (fun k e => by omega))).below (Nat.le_refl _) (fun k e => e.1))⟩
    · show Bts _ _ _ _ _
      rw [← hp']
      refine Bts.foot HH.out.1 ftV (fun ad e _ => ?_)
      have := HH.out.2.2.1 ad e
      omega
    · intro _ ad e
      rw [← hp'] at e
      obtain ⟨cur, hc⟩ := HH.out.2.2.2 ad e
      exact ⟨cur, (ftV.block _ (lt_of_heap hc) (by have := HH.out.2.2.1 ad e; omega)).trans hc⟩
  clear hbx hby hbw hbz ftW B2 N2 b2 T2 hp' hbv ftV hXs
  go_wp2
  refine bodyPost_ret (by simp [results, Tryd.results13, go_sem, v0, v1, v2, v3, v4, v5, v6, v7, v8, v9, v10]; rfl) rfl ?_
  exact ⟨p', rfl, HEND.out⟩
/- a Served that remembers nothing -/
def zeroC : List Value := (List.replicate 32 Rq.zero).flatMap Rq.cells ++ [.int .i64 0]
theorem Tryd.zeroServed (w : World) : (zeroValue 37).run Tryd.prog w = .ok (.agg zeroC.toArray) w := by kernel_rfl
theorem zeroC_ok : StC zeroC.toArray [] := ⟨by kernel_rfl, by kernel_rfl, fun j f hj => by cases hj⟩
theorem new_ok (w : World) : St (w.alloc (.cells zeroC.toArray 37)) w.heap.size [] :=
  ⟨[], ⟨⟨_, heap_alloc_new _ _, zeroC_ok⟩, Nat.zero_le _, fun _ h => by cases h⟩, rfl⟩
variable {w w' : World} {g : Nat} {T L : List Rq}
set_option maxHeartbeats 800000 in
theorem len_any (x : St w g L) :
    Calls Tryd.prog 11 #[.pointer (some ⟨g, 0, none⟩)] w fun e w' => e = .returned (.int .i64 (L.length : Int)) ∧ Below w.heap.size w w' := by
  obtain ⟨T, x, rfl⟩ := x
  have c3 := x.cm
  rw [List.length_map]
  clear x
  go_enter Tryd.func11, Tryd.ntmps11
  go_wp2
  go_ret
  exact ⟨rfl, Below.refl _ _⟩
set_option maxRecDepth 20000 in
set_option maxHeartbeats 1600000 in
theorem told_no (p i : Int) (m : Ms) (w : World) :
    Calls Tryd.prog 14 #[.agg #[.int .u64 p, .int .u32 i, .bool false, .int .u64 m.ta, .int .u64 m.rp, .int .u32 m.id, .int .u16 m.op, .int .u16 m.st, .int .u64 m.p, .int .u32 m.o, .int .u8 m.r, .int .u64 m.c, .int .u64 m.ar, .slice m.so m.sn m.sc]] w fun e w' => e = .returned (.tuple #[.int .i64 1, .agg #[.int .u64 0, .int .u64 0, .int .u32 0, .int .u16 0, .int .u16 0, .int .u64 0, .int .u32 0, .int .u8 0, .int .u64 0, .int .u64 0, .slice none 0 0]]) ∧ Below w.heap.size w w' := by
  go_enter Tryd.func14, Tryd.ntmps14
  go_wp2
  go_returns
  exact ⟨rfl, by go_grown⟩
set_option maxRecDepth 20000 in
set_option maxHeartbeats 1600000 in
theorem told_yes (p i : Int) (m : Ms) (w : World) (hp : m.has w) (hs : m.sn ≤ 140737488355328) :
    Calls Tryd.prog 14 #[.agg #[.int .u64 p, .int .u32 i, .bool true, .int .u64 m.ta, .int .u64 m.rp, .int .u32 m.id, .int .u16 m.op, .int .u16 m.st, .int .u64 m.p, .int .u32 m.o, .int .u8 m.r, .int .u64 m.c, .int .u64 m.ar, .slice m.so m.sn m.sc]] w fun e w' => ∃ m', e = .returned (.tuple #[.int .i64 2, .agg #[.int .u64 m'.ta, .int .u64 m'.rp, .int .u32 m'.id, .int .u16 m'.op, .int .u16 m'.st, .int .u64 m'.p, .int .u32 m'.o, .int .u8 m'.r, .int .u64 m'.c, .int .u64 m'.ar, .slice m'.so m'.sn m'.sc]]) ∧ AlEnd w m m' w' := by
  obtain ⟨X, hX⟩ : ∃ X, (w.alloc (.cells #[.int .u64 p, .int .u32 i, .bool true, .int .u64 m.ta, .int .u64 m.rp, .int .u32 m.id, .int .u16 m.op, .int .u16 m.st, .int .u64 m.p, .int .u32 m.o, .int .u8 m.r, .int .u64 m.c, .int .u64 m.ar, .slice m.so m.sn m.sc] 34)).alloc (.cells #[.int .u64 0, .int .u64 0, .int .u32 0, .int .u16 0, .int .u16 0, .int .u64 0, .int .u32 0, .int .u8 0, .int .u64 0, .int .u64 0, .slice none 0 0] 32) = X := ⟨_, rfl⟩
  have bX : Below w.heap.size w X := hX ▸ below_one (below_alloc w _) (below_alloc _ _)
  have br : BoxR X w.heap.size ⟨p, i, true, m⟩ := hX ▸ (boxR_new w ⟨p, i, true, m⟩).grow (below_alloc _ _)
  have bz : BoxM X (w.heap.size + 1) Ms.zero := by rw [← hX, ← size_al w (.cells #[.int .u64 p, .int .u32 i, .bool true, .int .u64 m.ta, .int .u64 m.rp, .int .u32 m.id, .int .u16 m.op, .int .u16 m.st, .int .u64 m.p, .int .u32 m.o, .int .u8 m.r, .int .u64 m.c, .int .u64 m.ar, .slice m.so m.sn m.sc] 34)]; exact boxM_new (w.alloc (.cells #[.int .u64 p, .int .u32 i, .bool true, .int .u64 m.ta, .int .u64 m.rp, .int .u32 m.id, .int .u16 m.op, .int .u16 m.st, .int .u64 m.p, .int .u32 m.o, .int .u8 m.r, .int .u64 m.c, .int .u64 m.ar, .slice m.so m.sn m.sc] 34)) Ms.zero
  have hra := br.all
  dsimp only at hra
  obtain ⟨k0, k1, k2, k3, k4, k5, k6, k7, k8, k9, k10, k11, k12, k13⟩ := hra
  have HBX := hide bX
  have HBZ := hide bz
  have HP := hide (Bts.carry hp bX)
  have HS := hide hs
  clear br bX bz hp hs
  go_enter Tryd.func14, Tryd.ntmps14
  go_wp2_with fail
  refine (alone_any m _ HP.out HS.out).mono ?_; rintro e w1 ⟨m', rfl, E⟩
  have bz1 := HBZ.out.grow E.b
  obtain ⟨y0, y1, y2, y3, y4, y5, y6, y7, y8, y9, y10⟩ := bz1.all
  have z0 := bz1.z 0
  have z1 := bz1.z 1
  have z2 := bz1.z 2
  have z3 := bz1.z 3
  have z4 := bz1.z 4
  have z5 := bz1.z 5
  have z6 := bz1.z 6
  have z7 := bz1.z 7
  have z8 := bz1.z 8
  have z9 := bz1.z 9
  have z10 := bz1.z 10
  obtain ⟨V, hV⟩ : ∃ V, lay11 w1 (w.heap.size + 1) m' = V := ⟨_, rfl⟩
  have hbv : BoxM V (w.heap.size + 1) m' := hV ▸ bz1.lay m'
  have ftV : Foot (fun j => j = w.heap.size + 1) w1 V := hV ▸ foot_lay11 w1 _ m'
  have HEND : Hid (AlEnd w m m' V) := by
    have hXs : w.heap.size + 1 < X.heap.size := lt_of_heap HBZ.out
    refine ⟨E.nm, E.sn, Bts.foot E.has ftV (fun ad e _ => by have := E.new ad e; omega), E.own.foot ftV (fun k cur hk e => ?_), New.le E.new HBX.out.size, foot_on (below_one HBX.out E.b) (by omega) ftV⟩
    subst e
    exact two_types hk bz1 (by decide) rfl
  unfold lay11 at hV
  obtain ⟨v0, v1, v2, v3, v4, v5, v6, v7, v8, v9, v10⟩ := hbv.all
  clear bz1 hbv ftV E k0 k1 k2 k3 k4 k5 k6 k7 k8 k9 k10 k11 k12 k13
  go_wp2
  refine bodyPost_ret (by simp [results, Tryd.results14, go_sem, v0, v1, v2, v3, v4, v5, v6, v7, v8, v9, v10]; rfl) rfl ?_
  exact ⟨m', rfl, HEND.out⟩
end Go.Proofs.YtnkfdnmaocfjnaaDoor
