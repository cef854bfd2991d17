/-
  What a wire's own helpers answer, as contracts: place, alone, take; and Len.
-/
import Derived.Test.YtdepjclbeocmhaaDoorWRow
namespace Go.Proofs.YtdepjclbeocmhaaDoor
open Go.RowKit
variable {w w' : World} {g : Nat} {bo : Option Addr} {bc : Nat} {K : List Pa} {S : Nat → Prop} {L : List Pa}
set_option maxHeartbeats 800000 in
theorem place_any (p : Int) (n : Nat) (w : World) (h0 : 0 < n) (hn : n ≤ 9223372036854775807) :
    Calls Tryd.prog 17 #[.int .i64 p, .int .i64 (n : Int)] w fun e w' => e = .returned (.int .i64 ((placeF p n : Nat) : Int)) ∧ w' = w := by
  have HP := hide (placeF_is p n h0)
  obtain ⟨k, hk⟩ : ∃ k, placeF p n = k := ⟨_, rfl⟩
  rw [hk]
  rw [hk] at HP
  have hz : ¬ ((n : Int) = 0) := by omega
  have h1 := Int.emod_nonneg p (show (n : Int) ≠ 0 by omega)
  have h2 := Int.emod_lt_of_pos p (show (0 : Int) < (n : Int) by omega)
  have h3 := Int.tmod_eq_emod (a := p) (b := (n : Int))
  obtain ⟨r, hr⟩ : ∃ r, p.tmod (n : Int) = r := ⟨_, rfl⟩
  rw [hr] at h3
  have hk2 : (k : Int) = p % (n : Int) := HP.out
  rw [← hk2] at h1 h2 h3
  have hneg : ¬ ((n : Int) < 0) := by omega
  clear hk HP
  by_cases hr0 : r < 0
  · have e : (k : Int) = r + (n : Int) := by
      split at h3 <;> omega
    have HE := hide e
    have hw : -9223372036854775808 ≤ r + (n : Int) ∧ r + (n : Int) ≤ 9223372036854775807 := by omega
    clear h3 hk2 e
    go_enter Tryd.func17, Tryd.ntmps17
    go_wp2
    go_ret
    exact ⟨by rw [HE.out]; rfl, rfl⟩
  · have e : (k : Int) = r := by
      split at h3 <;> omega
    have HE := hide e
    clear h3 hk2 e
    go_enter Tryd.func17, Tryd.ntmps17
    go_wp2
    go_ret
    exact ⟨by rw [HE.out]; rfl, rfl⟩
set_option maxHeartbeats 800000 in
theorem len_any (w : World) (x : St w g S L) :
    Calls Tryd.prog 13 #[.pointer (some ⟨g, 0, none⟩)] w fun e w' => e = .returned (.int .i64 (L.length : Int)) ∧ w' = w := by
  obtain ⟨bo, bc, K, x, _, rfl⟩ := x
  have c := x.c0
  rw [List.length_map]
  clear x
  go_enter Tryd.func13, Tryd.ntmps13
  go_wp2
  go_ret
  exact ⟨rfl, rfl⟩
theorem size_al (w : World) (o : Obj) : (w.alloc o).heap.size = w.heap.size + 1 := by simp
/- a packet is stored into a variable -/
def lay6 (w : World) (g : Nat) (y : Pa) : World :=
  (((((w.setCell ⟨g, 0, none⟩ (.int .i64 y.f)).setCell ⟨g, 1, none⟩ (.int .i64 y.t)).setCell ⟨g, 2, none⟩ (.int .u64 y.i)).setCell ⟨g, 3, none⟩ (.int .i64 y.x)).setCell ⟨g, 4, none⟩ (.int .i64 y.c)).setCell ⟨g, 5, none⟩ (.slice y.so y.sn y.sc)
theorem BoxK.lay {x : Pa} (h : BoxK w g x) (y : Pa) : BoxK (lay6 w g y) g y := by
  have h1 := heap_setCell_same w g 0 _ _ (.int .i64 y.f) h
  have h2 := heap_setCell_same _ g 1 _ _ (.int .i64 y.t) h1
  have h3 := heap_setCell_same _ g 2 _ _ (.int .u64 y.i) h2
  have h4 := heap_setCell_same _ g 3 _ _ (.int .i64 y.x) h3
  have h5 := heap_setCell_same _ g 4 _ _ (.int .i64 y.c) h4
  have h6 := heap_setCell_same _ g 5 _ _ (.slice y.so y.sn y.sc) h5
  unfold BoxK lay6
  rw [h6]
  simp
theorem foot_lay6 (w : World) (g : Nat) (y : Pa) : Foot (fun j => j = g) w (lay6 w g y) := by
  unfold lay6
  exact ((((((Foot.refl _ w).put _ _).put _ _).put _ _).put _ _).put _ _).put _ _
structure AlEnd (w : World) (p p' : Pa) (w' : World) : Prop where
  nm : p'.nm = p.nm
  sn : p'.sn = p.sn
  has : p'.has w'
  new : New w p'.so
  b : Below w.heap.size w w'
set_option maxRecDepth 20000 in
set_option maxHeartbeats 1600000 in
theorem alone_any (p : Pa) (w : World) (hp : p.has w) (hs : p.sn ≤ 140737488355328) :
    Calls Tryd.prog 15 #[.agg #[.int .i64 p.f, .int .i64 p.t, .int .u64 p.i, .int .i64 p.x, .int .i64 p.c, .slice p.so p.sn p.sc]] w fun e w' => ∃ p', e = .returned (.agg #[.int .i64 p'.f, .int .i64 p'.t, .int .u64 p'.i, .int .i64 p'.x, .int .i64 p'.c, .slice p'.so p'.sn p'.sc]) ∧ AlEnd w p p' w' := by
  obtain ⟨X, hX⟩ : ∃ X, (w.alloc (.cells #[.int .i64 p.f, .int .i64 p.t, .int .u64 p.i, .int .i64 p.x, .int .i64 p.c, .slice p.so p.sn p.sc] 33)).alloc (.cells #[.int .i64 0, .int .i64 0, .int .u64 0, .int .i64 0, .int .i64 0, .slice none 0 0] 33) = X := ⟨_, rfl⟩
  have hb : Below w.heap.size w X := hX ▸ below_one (below_alloc w _) (below_alloc _ _)
  have bp : BoxK X w.heap.size p := hX ▸ (boxK_new w p).carry (below_alloc _ _) (Nat.le_refl _)
  have bq : BoxK X (w.heap.size + 1) Pa.zero := by rw [← hX, ← size_al w (.cells #[.int .i64 p.f, .int .i64 p.t, .int .u64 p.i, .int .i64 p.x, .int .i64 p.c, .slice p.so p.sn p.sc] 33)]; exact boxK_new (w.alloc (.cells #[.int .i64 p.f, .int .i64 p.t, .int .u64 p.i, .int .i64 p.x, .int .i64 p.c, .slice p.so p.sn p.sc] 33)) Pa.zero
  have HB := hide hb
  have HBP := hide bp
  have HBQ := hide bq
  have HPX := hide (Bts.carry hp hb)
  have c5 := bp.c5
  clear bp bq hb
  go_enter Tryd.func15, Tryd.ntmps15
  go_wp2_with fail
  refine (clone_any _ _ _ p.l _ HPX.out hs).mono ?_; rintro e w2 ⟨co, cc, rfl, B2, N2, b2⟩
  have hbx := HBP.out.carry b2 (Nat.le_refl _)
  have hby := HBQ.out.carry b2 (Nat.le_refl _)
  have d5 := hbx.c5
  have dz5 := hbx.z 5
  obtain ⟨W, hW⟩ : ∃ W, w2.setCell ⟨w.heap.size, 5, none⟩ (.slice co p.sn cc) = W := ⟨_, rfl⟩
  obtain ⟨p', hp'⟩ : ∃ p' : Pa, ⟨p.f, p.t, p.i, p.x, p.c, co, p.sn, cc, p.l⟩ = p' := ⟨_, rfl⟩
  have hbw : BoxK W w.heap.size p' := by rw [← hW, ← hp']; exact hbx.put5 co p.sn cc
  have ftW : Foot (fun jj => jj = w.heap.size) w2 W := by rw [← hW]; exact foot_set w2 ⟨w.heap.size, 5, none⟩ _
  have hbz : BoxK W (w.heap.size + 1) Pa.zero := (ftW.block _ (lt_of_heap hby) (by omega)).trans hby
  have HW1 : Hid (Foot (fun jj => w.heap.size ≤ jj ∧ jj ≤ w.heap.size + 1) w W) := ((below_foot _ (below_one HB.out b2)).then (ftW.mono (fun k e => by omega)))
  have HH : Hid (Bts W co p.sn cc p.l ∧ New w co ∧ New X co) := by
    refine ⟨Bts.footN B2 ftW (fun _ ad e => ?_), New.le N2 HB.out.size, N2⟩
    have := N2 ad e
    have := lt_of_heap HBP.out
    omega
  obtain ⟨k0, k1, k2, k3, k4, k5⟩ := hbw.six (Below.refl _ _)
  obtain ⟨y0, y1, y2, y3, y4, y5⟩ := hbz.six (Below.refl _ _)
  have z0 := hbz.z 0
  have z1 := hbz.z 1
  have z2 := hbz.z 2
  have z3 := hbz.z 3
  have z4 := hbz.z 4
  have z5 := hbz.z 5
  obtain ⟨V, hV⟩ : ∃ V, lay6 W (w.heap.size + 1) p' = V := ⟨_, rfl⟩
  have hbv : BoxK V (w.heap.size + 1) p' := hV ▸ hbz.lay p'
  have ftV : Foot (fun j => j = w.heap.size + 1) W V := hV ▸ foot_lay6 W _ p'
  unfold lay6 at hV
  obtain ⟨v0, v1, v2, v3, v4, v5⟩ := hbv.six (Below.refl _ _)
  have HEND : Hid (AlEnd w p p' V) := by
    refine ⟨by rw [← hp']; rfl, by rw [← hp'], ?_, by rw [← hp']; exact HH.out.2.1, ((HW1.out.then (ftV.mono (fun k e => by omega))).below (Nat.le_refl _) (fun k e => e.1))⟩
    have := lt_of_heap HBQ.out
    show Bts _ _ _ _ _
    rw [← hp']
    refine Bts.footN HH.out.1 ftV (fun _ ad e => ?_)
    have := HH.out.2.2 ad e
    omega
  clear hbx hby hbw hbz ftW B2 N2 b2 hp' hbv ftV
  go_wp2
  refine bodyPost_ret (by simp [results, Tryd.results15, go_sem, v0, v1, v2, v3, v4, v5]; rfl) rfl ?_
  exact ⟨p', rfl, HEND.out⟩
theorem erase_td (K : List Pa) (k : Nat) : K.take k ++ K.drop (k + 1) = K.eraseIdx k := (List.eraseIdx_eq_take_drop_succ K k).symm
set_option maxRecDepth 20000 in
set_option maxHeartbeats 1600000 in
theorem take_any (k : Nat) (w : World) (x : Wr w g bo bc K) (hk : k < K.length) :
    Calls Tryd.prog 18 #[.pointer (some ⟨g, 0, none⟩), .int .i64 (k : Int)] w fun e w' => ∃ ao c, e = .returned (.tuple #[]) ∧ WrEnd w g bo K ao c (K.eraseIdx k) w' := by
  have HX := hide x
  have c1 := x.c0
  have z1 := x.z
  have hcap : bc ≤ 9223372036854775807 := x.row.1.2.2.1
  have hnc := x.row.1.2.1
  have hfew := x.few
  have hL1 := x.row.1.head k (by omega)
  have hL2 := x.row.1.tail (k + 1) (by omega)
  have HER := hide (erase_td K k)
  have HEL : Hid ((K.eraseIdx k).length ≤ 1024) := by show _ ≤ _; have := List.length_eraseIdx_le K k; omega
  have HEM : Hid (∀ p ∈ K.eraseIdx k, p ∈ K) := fun p hp => List.mem_of_mem_eraseIdx hp
  rw [cellsK_take] at hL1
  rw [cellsK_drop] at hL2
  obtain ⟨n, hn⟩ : ∃ n, K.length = n := ⟨_, rfl⟩
  rw [hn] at c1 hL2 hk hfew hnc
  have hww : IntKind.i64.wrap ((k : Int) + 1) = (k : Int) + 1 := by rw [IntKind.wrap_i64]; omega
  have hc1 := fun W : World => cutG_head Tryd.underlying25 Tryd.sizeOfP W bo n bc k (by omega)
  have hc2 := fun W : World => cutG_tail Tryd.underlying25 Tryd.sizeOfP W bo n bc (k + 1) (by omega)
  obtain ⟨ta, hta⟩ : ∃ X, tailG 6 bo (k + 1) bc = X := ⟨_, rfl⟩
  obtain ⟨m, hm⟩ : ∃ X, n - (k + 1) = X := ⟨_, rfl⟩
  obtain ⟨cm, hcm⟩ : ∃ X, bc - (k + 1) = X := ⟨_, rfl⟩
  rw [hta, hm, hcm] at hc2 hL2
  have hc2' : ∀ W : World, (Instr.slice 25 (.slice bo n bc) (some (.int .i64 ((k : Int) + 1))) none none).run Tryd.prog W = .ok (.slice ta m cm) W := fun W => by rw [← hc2 W]; rfl
  obtain ⟨ps, hps⟩ : ∃ ps : List Prt, [⟨bo, k, bc, cellsK (K.take k)⟩, ⟨ta, m, cm, cellsK (K.drop (k + 1))⟩] = ps := ⟨_, rfl⟩
  have HPA : Hid (Parts 6 (w.alloc (.cells #[.slice bo k bc, .slice ta m cm] 25)).drew ⟨w.heap.size, 0, none⟩ ps) := by
    rw [← hps]; exact parts_two hL1 hL2 (cellsK_one _) (cellsK_one _)
  have HL2 : Hid (ps.length = 2) := by show _ = _; rw [← hps]; rfl
  have HSU : Hid (sumN ps 2 = k + m) := by show _ = _; rw [← hps]; simp [sumN]
  have HFL : Hid (flatV ps 2 = cellsK (K.eraseIdx k)) := by show _ = _; rw [← HER.out, ← hps, cellsK_append]; simp [flatV]
  have hmm : k + m ≤ 1024 := by omega
  have HMM := hide hmm
  clear hm hcm hta hps hc2 hnc hn x hL1 hL2
  go_enter Tryd.func18, Tryd.ntmps18
  go_wp2_with fail
  go_region_with (first | (go_at_call 14; go_must (refine (concat_anyP _ 2 ps _ HL2.out (by omega) HPA.out (by rw [HSU.out]; have := HMM.out; omega)).mono ?_); rintro e w5 ⟨v5, rfl, ao5, c5, rfl, A5, b5, n5⟩; have b6 := below_one (below_ad w _) b5; have n6 := New.le n5 (below_ad w (.cells #[.slice bo k bc, .slice ta m cm] 25)).size; rw [HFL.out] at A5; have HEND := hide (wr_end HX.out A5 b6 n6 (fun p hp => .inl (HEM.out p hp)) HEL.out); have d5 := (HX.out.grow b6).c0; have zz5 := (HX.out.grow b6).z; clear A5 b5 b6 n5 n6))
  all_goals
    go_wp2
    go_returns
    exact ⟨_, _, rfl, HEND.out⟩
end Go.Proofs.YtdepjclbeocmhaaDoor
