/-
  What match's Offer answers, as contracts: a thread, or ErrFull, or the request waits.
-/
import Derived.Test.YtfjchchjdjjepaaDoorJCalls
namespace Go.Proofs.YtfjchchjdjjepaaDoor
open Go.RowKit
variable {w w' : World} {g : Nat} {S : Nat → Prop} {T : List Wt} {L : List Ms}
set_option maxRecDepth 20000 in
set_option maxHeartbeats 1600000 in
theorem offer_hit (m : Ms) (i : Nat) (w : World) (x : St w g S T L) (hS : ∀ k, S k → k < w.heap.size) (h : First (isP m.ta) Wt.zero T i) :
    Calls Tryd.prog 6 #[.pointer (some ⟨g, 0, none⟩), .agg #[.int .u64 m.ta, .int .u64 m.rp, .int .u32 m.id, .int .u16 m.op, .int .u16 m.st, .int .u64 m.p, .int .u32 m.o, .int .u8 m.r, .int .u64 m.c, .int .u64 m.ar, .slice m.so m.sn m.sc]] w fun e w' => e = .returned (.tuple #[.int .i64 (T.getD i Wt.zero).t, .bool true, .nilIface]) ∧ MtEnd w g S (T.eraseIdx i) L w' := by
  obtain ⟨X, hX⟩ : ∃ X, w.alloc (.cells #[.int .u64 m.ta, .int .u64 m.rp, .int .u32 m.id, .int .u16 m.op, .int .u16 m.st, .int .u64 m.p, .int .u32 m.o, .int .u8 m.r, .int .u64 m.c, .int .u64 m.ar, .slice m.so m.sn m.sc] 37) = X := ⟨_, rfl⟩
  have bX : Below w.heap.size w X := hX ▸ below_alloc w _
  have hbx : BoxM X w.heap.size m := hX ▸ boxM_new w m
  have HBX := hide hbx
  have HC : Hid (X.cell? ⟨w.heap.size, 0, none⟩ = some (.int .u64 m.ta)) := hbx.all.1
  have HB := hide bX
  obtain ⟨ao, ac, bo, bc, K, x1, hT, hR, hK⟩ := x.grow bX
  have HX1 := hide x1
  have HT := hide hT
  have HR := hide hR
  have HK := hide hK
  have k0 := x1.c0
  have HH := hide h
  have HS := hide hS
  obtain ⟨y, hy⟩ : ∃ y, T.getD i Wt.zero = y := ⟨_, rfl⟩
  rw [hy]
  have HY := hide hy
  clear x x1 h hS bX hbx hT hR hK hy
  go_enter Tryd.func6, Tryd.ntmps6
  go_wp2_with fail
  refine (index_anyW _ (isP m.ta) _ w.heap.size ao _ ac T _ HX1.out.thr HC.out (off_asks _ m.ta)).mono ?_; rintro e w1 ⟨r, rfl, hr, b1⟩
  obtain rfl := idxW_first hr HH.out
  have hge : (0 : Int) ≤ (i : Int) := by omega
  have HX2 := hide (HX1.out.grow b1)
  have HB1 := hide (below_one HB.out b1)
  obtain ⟨n, hn⟩ : ∃ n, T.length = n := ⟨_, rfl⟩
  have HN := hide hn
  have hin : i < n := hn ▸ HH.out.1
  have hlt : (i : Int) < (n : Int) := by omega
  have d0 := HX2.out.c0
  have hl := HX2.out.thr
  have hnc := hl.2.1
  have hcap : ac ≤ 9223372036854775807 := hl.2.2.1
  rw [hn] at d0 hl hnc
  obtain ⟨ad, rfl⟩ := hl.there hin
  obtain ⟨e0, e1⟩ := liesW_elem hl i hin y HY.out _ rfl
  have HL := hide hl
  clear b1 hr hn k0 hl hX
  go_wp2_with fail
  refine (without_anyW i (some ad) n ac T _ HL.out hin (by have := HX2.out.few.1; rw [HN.out] at this; exact this)).mono ?_; rintro e w2 ⟨co, c, rfl, hl, b2, hn⟩
  have j0 := (HX2.out.grow b2).c0
  have z0 := (HX2.out.grow b2).z 0
  rw [HN.out] at j0
  have HEND := hide (HX2.out.put0 (S := S) HR.out (fun k hk => Nat.lt_of_lt_of_le (HS.out k hk) HB1.out.size) hl b2 hn (Nat.le_trans (List.length_eraseIdx_le T i) HX2.out.few.1))
  clear hl b2 hn d0 e0 e1
  go_wp2
  go_ret3
  exact ⟨rfl, by rw [← HK.out]; exact HEND.out.from HB1.out⟩
set_option maxRecDepth 20000 in
set_option maxHeartbeats 1600000 in
theorem offer_full (m : Ms) (w : World) (x : St w g S T L) (h : T.any (isP m.ta) = false) (hf : 64 ≤ L.length) :
    Calls Tryd.prog 6 #[.pointer (some ⟨g, 0, none⟩), .agg #[.int .u64 m.ta, .int .u64 m.rp, .int .u32 m.id, .int .u16 m.op, .int .u16 m.st, .int .u64 m.p, .int .u32 m.o, .int .u8 m.r, .int .u64 m.c, .int .u64 m.ar, .slice m.so m.sn m.sc]] w fun e w' => e = .returned (.tuple #[.int .i64 0, .bool false, erN 5]) ∧ Below w.heap.size w w' := by
  obtain ⟨X, hX⟩ : ∃ X, w.alloc (.cells #[.int .u64 m.ta, .int .u64 m.rp, .int .u32 m.id, .int .u16 m.op, .int .u16 m.st, .int .u64 m.p, .int .u32 m.o, .int .u8 m.r, .int .u64 m.c, .int .u64 m.ar, .slice m.so m.sn m.sc] 37) = X := ⟨_, rfl⟩
  have bX : Below w.heap.size w X := hX ▸ below_alloc w _
  have hbx : BoxM X w.heap.size m := hX ▸ boxM_new w m
  have HBX := hide hbx
  have HC : Hid (X.cell? ⟨w.heap.size, 0, none⟩ = some (.int .u64 m.ta)) := hbx.all.1
  have HB := hide bX
  obtain ⟨ao, ac, bo, bc, K, x1, hT, hR, hK⟩ := x.grow bX
  have HX1 := hide x1
  have HT := hide hT
  have HR := hide hR
  have HK := hide hK
  have k0 := x1.c0
  have HH := hide h
  have hf2 : 64 ≤ K.length := by have := congrArg List.length hK; rw [List.length_map] at this; omega
  clear x x1 h bX hbx hT hR hK hf
  go_enter Tryd.func6, Tryd.ntmps6
  go_wp2_with fail
  refine (index_anyW _ (isP m.ta) _ w.heap.size ao _ ac T _ HX1.out.thr HC.out (off_asks _ m.ta)).mono ?_; rintro e w1 ⟨r, rfl, hr, b1⟩
  obtain rfl := idxW_no hr HH.out
  have HX2 := hide (HX1.out.grow b1)
  have HB1 := hide (below_one HB.out b1)
  obtain ⟨n, hn⟩ : ∃ n, K.length = n := ⟨_, rfl⟩
  have d1 := HX2.out.c1
  rw [hn] at d1 hf2
  have h64 : (64 : Int) ≤ (n : Int) := by omega
  clear b1 hr hn k0 hX
  go_wp2
  go_ret3
  exact ⟨rfl, HB1.out⟩
set_option maxRecDepth 20000 in
set_option maxHeartbeats 3200000 in
theorem offer_wait (m : Ms) (w : World) (x : St w g S T L) (hS : ∀ k, S k → k < w.heap.size) (hp : m.has w) (hs : m.sn ≤ 140737488355328) (h : T.any (isP m.ta) = false) (hf : L.length < 64) :
    Calls Tryd.prog 6 #[.pointer (some ⟨g, 0, none⟩), .agg #[.int .u64 m.ta, .int .u64 m.rp, .int .u32 m.id, .int .u16 m.op, .int .u16 m.st, .int .u64 m.p, .int .u32 m.o, .int .u8 m.r, .int .u64 m.c, .int .u64 m.ar, .slice m.so m.sn m.sc]] w fun e w' => e = .returned (.tuple #[.int .i64 0, .bool false, .nilIface]) ∧ MtEnd w g S T (L ++ [m.nm]) w' := by
  obtain ⟨X, hX⟩ : ∃ X, w.alloc (.cells #[.int .u64 m.ta, .int .u64 m.rp, .int .u32 m.id, .int .u16 m.op, .int .u16 m.st, .int .u64 m.p, .int .u32 m.o, .int .u8 m.r, .int .u64 m.c, .int .u64 m.ar, .slice m.so m.sn m.sc] 37) = X := ⟨_, rfl⟩
  have bX : Below w.heap.size w X := hX ▸ below_alloc w _
  have hbx : BoxM X w.heap.size m := hX ▸ boxM_new w m
  have HBX := hide hbx
  have HC : Hid (X.cell? ⟨w.heap.size, 0, none⟩ = some (.int .u64 m.ta)) := hbx.all.1
  have HB := hide bX
  obtain ⟨ao, ac, bo, bc, K, x1, hT, hR, hK⟩ := x.grow bX
  have HX1 := hide x1
  have HT := hide hT
  have HR := hide hR
  have HK := hide hK
  have k0 := x1.c0
  have HH := hide h
  have HS := hide hS
  have HPX := hide (Bts.carry hp bX)
  have hf2 : K.length < 64 := by have := congrArg List.length hK; rw [List.length_map] at this; omega
  clear x x1 h hS bX hbx hT hR hK hf hp
  go_enter Tryd.func6, Tryd.ntmps6
  go_wp2_with fail
  refine (index_anyW _ (isP m.ta) _ w.heap.size ao _ ac T _ HX1.out.thr HC.out (off_asks _ m.ta)).mono ?_; rintro e w1 ⟨r, rfl, hr, b1⟩
  obtain rfl := idxW_no hr HH.out
  have HX2 := hide (HX1.out.grow b1)
  have HB1 := hide (below_one HB.out b1)
  have HP1 := hide (Bts.carry HPX.out b1)
  obtain ⟨n, hn⟩ : ∃ n, K.length = n := ⟨_, rfl⟩
  have HN := hide hn
  have d1 := HX2.out.c1
  have HRW := hide HX2.out.req.1
  rw [hn] at d1 hf2 HRW
  have h64 : ¬ ((64 : Int) ≤ (n : Int)) := by omega
  obtain ⟨k0, k1, k2, k3, k4, k5, k6, k7, k8, k9, k10⟩ := (HBX.out.grow b1).all
  clear b1 hr hn hX
  go_wp2_with fail
  go_region_with (first
    | (go_at_call 17
       go_must (refine (alone_any m _ (Bts.carry HP1.out (below_d w1 1)) hs).mono ?_)
       rintro e w4 ⟨p', rfl, E4⟩
       have b4 := below_one (below_d w1 1) E4.b
       have c4 := (HX2.out.grow b4).c1
       rw [HN.out] at c4
       have HE4 := hide E4
       have HB4 := hide b4
       clear E4 b4
       obtain ⟨Y, hY⟩ : ∃ Y, w4.alloc (.cells #[.int .u64 p'.ta, .int .u64 p'.rp, .int .u32 p'.id, .int .u16 p'.op, .int .u16 p'.st, .int .u64 p'.p, .int .u32 p'.o, .int .u8 p'.r, .int .u64 p'.c, .int .u64 p'.ar, .slice p'.so p'.sn p'.sc] 37) = Y := ⟨_, rfl⟩
       have bY : Below w4.heap.size w4 Y := hY ▸ below_alloc w4 _
       have cY := (HX2.out.grow (below_one HB4.out bY)).c1
       rw [HN.out] at cY
       obtain ⟨ps, hps⟩ : ∃ ps : List Prt, [⟨bo, n, bc, cellsM K⟩, ⟨some ⟨w4.heap.size, 0, none⟩, 1, 1, cellsM [p']⟩] = ps := ⟨_, rfl⟩
       have HPA : Hid (Parts 11 (Y.alloc (.cells #[.slice bo n bc, .slice (some ⟨w4.heap.size, 0, none⟩) 1 1] 26)) ⟨Y.heap.size, 0, none⟩ ps) := by
         have := parts_two (T := 26) (HRW.out.carry (below_one HB4.out bY) (Nat.le_refl _)) (hY ▸ lies_alloc (sz := 11) (n := 1) (X := w4) (T := 37) (C := #[.int .u64 p'.ta, .int .u64 p'.rp, .int .u32 p'.id, .int .u16 p'.op, .int .u16 p'.st, .int .u64 p'.p, .int .u32 p'.o, .int .u8 p'.r, .int .u64 p'.c, .int .u64 p'.ar, .slice p'.so p'.sn p'.sc]) (cs := cellsM [p']) rfl rfl (by omega)) (cellsM_one _) (cellsM_one _)
         rw [← hps]; exact this
       have HL2 : Hid (ps.length = 2) := by show _ = _; rw [← hps]; rfl
       have HSU : Hid (sumN ps 2 = n + 1) := by show _ = _; rw [← hps]; simp [sumN]
       have HFL : Hid (flatV ps 2 = cellsM (K ++ [p'])) := by show _ = _; rw [← hps, cellsM_append]; simp [flatV]
       have HBY := hide (below_one HB4.out (below_one bY (below_alloc Y (.cells #[.slice bo n bc, .slice (some ⟨w4.heap.size, 0, none⟩) 1 1] 26))))
       have HBZ := hide (below_one bY (below_alloc Y (.cells #[.slice bo n bc, .slice (some ⟨w4.heap.size, 0, none⟩) 1 1] 26)))
       clear hps bY)
    | (go_at_call 16
       go_must (refine (concat_anyM _ 2 ps _ HL2.out (by omega) HPA.out (by rw [HSU.out]; omega)).mono ?_)
       rintro e w5 ⟨v5, rfl, ao5, c5, rfl, A5, b5, n5⟩
       rw [HFL.out] at A5
       have b6 := below_one HBY.out b5
       have HEND := hide (HX2.out.put1 (S := S) HT.out HR.out (fun k hk => Nat.lt_of_lt_of_le (HS.out k hk) HB1.out.size) A5 b6 (New.le n5 HBY.out.size) (fun q hq => by
         rcases List.mem_append.1 hq with hq | hq
         · exact .inl hq
         · obtain rfl := List.mem_singleton.1 hq
           exact .inr ⟨Bts.carry HE4.out.has (below_one HBZ.out b5), HE4.out.new, by rw [HE4.out.sn]; exact hs⟩) (by rw [List.length_append, HN.out]; show n + 1 ≤ 64; omega))
       have d5 := (HX2.out.grow b6).c1
       have zz5 := (HX2.out.grow b6).z 1
       rw [HN.out] at d5
       clear A5 b5 b6 n5))
  all_goals
    go_wp2
    go_ret3
    refine ⟨rfl, ?_⟩
    have := HEND.out.from HB1.out
    rw [List.map_append, List.map_singleton, HE4.out.nm, HK.out] at this
    exact this
end Go.Proofs.YtfjchchjdjjepaaDoor
