/-
  What match's Get answers, as contracts: ErrState, a request, ErrFull, or the thread waits.
-/
import Derived.Test.YtfjchchjdjjepaaDoorJDeeds
namespace Go.Proofs.YtfjchchjdjjepaaDoor
open Go.RowKit
variable {w w' : World} {g : Nat} {S : Nat → Prop} {T : List Wt} {L : List Ms}
theorem map_erase (K : List Ms) (i : Nat) : (K.eraseIdx i).map Ms.nm = (K.map Ms.nm).eraseIdx i := by
  rw [List.eraseIdx_eq_take_drop_succ, List.eraseIdx_eq_take_drop_succ, List.map_append, List.map_take, List.map_drop]
/- S, and the variable of the answer -/
def Sv (w : World) (S : Nat → Prop) (k : Nat) : Prop := S k ∨ k = w.heap.size + 1
theorem St.with (x : St w g S T L) {X : World} (b : Below w.heap.size w X) : St X g (Sv w S) T L := (x.either (S' := Sv w S) (fun k h => h.imp id (fun e => by omega))).grow b
theorem St.part {U : Nat → Prop} (h : St w g S T L) (f : Foot U w w') (hU : ∀ k, U k → S k) (hg : ¬ U g) : St w' g S T L := by
  obtain ⟨ao, ac, bo, bc, K, h1, h2, h3, h4⟩ := h
  exact ⟨ao, ac, bo, bc, K, h1.foot f hg (fun hn ad e x => h2 hn ad e (hU _ x)) ⟨fun hn ad e x => h3.1 hn ad e (hU _ x), fun y hy hn ad e x => h3.2 y hy hn ad e (hU _ x)⟩, h2, h3, h4⟩
theorem get_close {T0 : List Wt} {L0 : List Ms} {X Z V : World} (x : St w g S T0 L0) (bX : Below w.heap.size w X) (m : MtEnd X g (Sv w S) T L Z) (fV : Foot (fun j => j = w.heap.size + 1) Z V) : MtEnd w g S T L V := by
  have hg := x.lt
  refine ⟨(m.1.part fV (fun k h => .inr h) (by omega)).either (fun k h => .inl (.inl h)), ((below_foot _ bX).then m.2).trans fV (fun j h => .inr (by omega))⟩
theorem sv_lt {X : World} (hS : ∀ k, S k → k < w.heap.size) (b : Below w.heap.size w X) (h : w.heap.size + 1 < X.heap.size) (k : Nat) (hk : Sv w S k) : k < X.heap.size := by
  rcases hk with hk | rfl
  · exact Nat.lt_of_lt_of_le (hS k hk) b.size
  · exact h
set_option maxRecDepth 20000 in
set_option maxHeartbeats 3200000 in
theorem get_state (port t : Int) (w : World) (x : St w g S T L) (h : waitsF T t = true) :
    Calls Tryd.prog 8 #[.pointer (some ⟨g, 0, none⟩), .int .u64 port, .int .i64 t] w fun e w' => e = .returned (.tuple #[.agg #[.int .u64 0, .int .u64 0, .int .u32 0, .int .u16 0, .int .u16 0, .int .u64 0, .int .u32 0, .int .u8 0, .int .u64 0, .int .u64 0, .slice none 0 0], .bool false, erN 15]) ∧ MtEnd w g S T L w' := by
  obtain ⟨X, hX⟩ : ∃ X, (w.alloc (.cells #[.int .u64 port] 30)).alloc (.cells #[.int .u64 0, .int .u64 0, .int .u32 0, .int .u16 0, .int .u16 0, .int .u64 0, .int .u32 0, .int .u8 0, .int .u64 0, .int .u64 0, .slice none 0 0] 37) = X := ⟨_, rfl⟩
  have bX : Below w.heap.size w X := hX ▸ below_one (below_alloc w _) (below_alloc _ _)
  have HBP : Hid (BoxM X (w.heap.size + 1) Ms.zero) := by
    show BoxM _ _ _
    rw [← hX, ← size_al w (.cells #[.int .u64 port] 30)]; exact boxM_new (w.alloc (.cells #[.int .u64 port] 30)) Ms.zero
  have HC : Hid (X.cell? ⟨w.heap.size, 0, none⟩ = some (.int .u64 port)) := by show _ = _; rw [← hX]; simp
  have HB := hide bX
  have HO := hide x
  have HX := hide (x.with bX)
  have HH := hide h
  clear x bX h
  go_enter Tryd.func8, Tryd.ntmps8
  go_wp2_with fail
  refine (waits_any t _ HX.out).mono ?_; rintro e w1 ⟨rfl, b1⟩
  have hbz := HBP.out.grow b1
  rw [HH.out]
  obtain ⟨y0, y1, y2, y3, y4, y5, y6, y7, y8, y9, y10⟩ := hbz.all
  have z0 := hbz.z 0
  have z1 := hbz.z 1
  have z2 := hbz.z 2
  have z3 := hbz.z 3
  have z4 := hbz.z 4
  have z5 := hbz.z 5
  have z6 := hbz.z 6
  have z7 := hbz.z 7
  have z8 := hbz.z 8
  have z9 := hbz.z 9
  have z10 := hbz.z 10
  obtain ⟨V, hV⟩ : ∃ V, lay11 w1 (w.heap.size + 1) Ms.zero = V := ⟨_, rfl⟩
  have hbv : BoxM V (w.heap.size + 1) Ms.zero := hV ▸ hbz.lay Ms.zero
  have ftV : Foot (fun j => j = w.heap.size + 1) w1 V := hV ▸ foot_lay11 w1 _ Ms.zero
  have HEND : Hid (MtEnd w g S T L V) := get_close HO.out HB.out (HX.out.same b1) ftV
  unfold lay11 at hV
  obtain ⟨v0, v1, v2, v3, v4, v5, v6, v7, v8, v9, v10⟩ := hbv.all
  simp only [Ms.zero] at hV v0 v1 v2 v3 v4 v5 v6 v7 v8 v9 v10 y0 y1 y2 y3 y4 y5 y6 y7 y8 y9 y10
  clear b1 hbz hbv ftV hX
  go_wp2
  refine bodyPost_ret (by simp [results, Tryd.results8, go_sem, v0, v1, v2, v3, v4, v5, v6, v7, v8, v9, v10]; rfl) rfl ?_
  exact ⟨rfl, HEND.out⟩

set_option maxRecDepth 20000 in
set_option maxHeartbeats 3200000 in
theorem get_hit (port t : Int) (i : Nat) (w : World) (x : St w g S T L) (hS : ∀ k, S k → k < w.heap.size) (h : waitsF T t = false) (hi : First (isTo port) Ms.zero L i) :
    Calls Tryd.prog 8 #[.pointer (some ⟨g, 0, none⟩), .int .u64 port, .int .i64 t] w fun e w' => ∃ q : Ms, e = .returned (.tuple #[.agg #[.int .u64 q.ta, .int .u64 q.rp, .int .u32 q.id, .int .u16 q.op, .int .u16 q.st, .int .u64 q.p, .int .u32 q.o, .int .u8 q.r, .int .u64 q.c, .int .u64 q.ar, .slice q.so q.sn q.sc], .bool true, .nilIface]) ∧ q.nm = L.getD i Ms.zero ∧ q.has w' ∧ New w q.so ∧ MtEnd w g S T (L.eraseIdx i) w' := by
  obtain ⟨X, hX⟩ : ∃ X, (w.alloc (.cells #[.int .u64 port] 30)).alloc (.cells #[.int .u64 0, .int .u64 0, .int .u32 0, .int .u16 0, .int .u16 0, .int .u64 0, .int .u32 0, .int .u8 0, .int .u64 0, .int .u64 0, .slice none 0 0] 37) = X := ⟨_, rfl⟩
  have bX : Below w.heap.size w X := hX ▸ below_one (below_alloc w _) (below_alloc _ _)
  have HBP : Hid (BoxM X (w.heap.size + 1) Ms.zero) := by
    show BoxM _ _ _
    rw [← hX, ← size_al w (.cells #[.int .u64 port] 30)]; exact boxM_new (w.alloc (.cells #[.int .u64 port] 30)) Ms.zero
  have HC : Hid (X.cell? ⟨w.heap.size, 0, none⟩ = some (.int .u64 port)) := by show _ = _; rw [← hX]; simp
  have HB := hide bX
  have HO := hide x
  have HX := hide (x.with bX)
  have HH := hide h
  have HI := hide hi
  have HS := hide (sv_lt hS bX (lt_of_heap HBP.out))
  clear x bX h hi hS
  go_enter Tryd.func8, Tryd.ntmps8
  go_wp2_with fail
  refine (waits_any t _ HX.out).mono ?_; rintro e w1 ⟨rfl, b1⟩
  have HX1 := hide (HX.out.grow b1)
  have HB1 := hide b1
  have HC1 : Hid (w1.cell? ⟨w.heap.size, 0, none⟩ = some (.int .u64 port)) := by show _ = _; rw [b1.cell (lt_of_cell HC.out), HC.out]
  obtain ⟨ao, ac, bo, bc, K, x2, hT, hR, hK⟩ := HX1.out
  have HX2 := hide x2
  have HT := hide hT
  have HR := hide hR
  have HK := hide hK
  have k1 := x2.c1
  rw [HH.out]
  clear b1 x2 hT hR hK
  go_wp2_with fail
  refine (index_anyM _ (isTo port) _ w.heap.size bo _ bc K _ HX2.out.req.1 HC1.out (get_asks _ port)).mono ?_; rintro e w2 ⟨r, rfl, hr, b2⟩
  have HFI : Hid (First (isTo port) Ms.zero K i) := by
    have h0 := HI.out
    have hKK := HK.out
    subst hKK
    obtain ⟨a1, a2, a3⟩ := h0
    rw [List.length_map] at a1
    refine ⟨a1, ?_, fun j hj => ?_⟩
    · rw [getM_nm] at a2; exact a2
    · have := a3 j hj; rw [getM_nm] at this; exact this
  obtain rfl := idxM_first hr HFI.out
  have hge : (0 : Int) ≤ (i : Int) := by omega
  have HX3 := hide (HX2.out.grow b2)
  have HB3 := hide (below_one HB1.out b2)
  obtain ⟨n, hn⟩ : ∃ n, K.length = n := ⟨_, rfl⟩
  have HN := hide hn
  have hin : i < n := hn ▸ HFI.out.1
  have hlt : (i : Int) < (n : Int) := by omega
  have d1 := HX3.out.c1
  have hl := HX3.out.req.1
  have hnc := hl.2.1
  have hcap : bc ≤ 9223372036854775807 := hl.2.2.1
  rw [hn] at d1 hl hnc
  obtain ⟨ad, rfl⟩ := hl.there hin
  obtain ⟨y, hy⟩ : ∃ y, K.getD i Ms.zero = y := ⟨_, rfl⟩
  have hyK : y ∈ K := hy ▸ getM_mem K i (by rw [hn]; exact hin)
  obtain ⟨e0, e1, e2, e3, e4, e5, e6, e7, e8, e9, e10⟩ := lies_elem hl i hin y hy _ rfl
  have HYH := hide (HX3.out.req.2 y hyK)
  have HYS := hide (HX3.out.low y hyK)
  have HY := hide hy
  have HZ3 : Hid (BoxM w2 (w.heap.size + 1) Ms.zero) := HBP.out.grow HB3.out
  clear b2 hr hn hy hyK k1 hl hX
  go_wp2_with fail
  refine (alone_any y _ HYH.out HYS.out).mono ?_; rintro e w3 ⟨p', rfl, E3⟩
  have HE3 := hide E3
  obtain ⟨Y, hY⟩ : ∃ Y, w3.alloc (.cells #[.int .u64 p'.ta, .int .u64 p'.rp, .int .u32 p'.id, .int .u16 p'.op, .int .u16 p'.st, .int .u64 p'.p, .int .u32 p'.o, .int .u8 p'.r, .int .u64 p'.c, .int .u64 p'.ar, .slice p'.so p'.sn p'.sc] 37) = Y := ⟨_, rfl⟩
  have bY : Below w3.heap.size w3 Y := hY ▸ below_alloc w3 _
  have hbp : BoxM Y w3.heap.size p' := hY ▸ boxM_new w3 p'
  have HBQ := hide hbp
  have HX4 := hide (HX3.out.grow (below_one E3.b bY))
  have HB4 := hide (below_one HB3.out (below_one E3.b bY))
  have HE4 := hide (Bts.carry E3.has bY)
  have c1 := HX4.out.c1
  have hl4 := HX4.out.req.1
  rw [HN.out] at c1 hl4
  have HL4 := hide hl4
  have HZ4 := hide (HZ3.out.grow (below_one E3.b bY))
  clear E3 bY hbp e0 e1 e2 e3 e4 e5 e6 e7 e8 e9 e10 d1 hl4
  go_wp2_with fail
  refine (without_anyM i (some ad) n bc K _ HL4.out hin (by have := HX4.out.few.2; rw [HN.out] at this; exact this)).mono ?_; rintro e w5 ⟨co, c, rfl, hl, b5, hnw⟩
  have j1 := (HX4.out.grow b5).c1
  have zz1 := (HX4.out.grow b5).z 1
  rw [HN.out] at j1
  have hEND := HX4.out.put1 (S := Sv w S) HT.out HR.out (fun k hk => Nat.lt_of_lt_of_le (HS.out k hk) HB4.out.size) hl b5 hnw (fun q hq => .inl (List.mem_of_mem_eraseIdx hq)) (Nat.le_trans (List.length_eraseIdx_le K i) HX4.out.few.2)
  obtain ⟨Z, hZ⟩ : ∃ Z, w5.setCell ⟨g, 1, none⟩ (.slice co (n - 1) c) = Z := ⟨_, rfl⟩
  rw [hZ] at hEND
  have ftZ : Foot (· = g) w5 Z := hZ ▸ foot_set w5 ⟨g, 1, none⟩ _
  have hgw : g < w.heap.size := HO.out.lt
  have hXs : w.heap.size + 1 < X.heap.size := lt_of_heap HBP.out
  have hY3 : X.heap.size ≤ w3.heap.size := Nat.le_trans HB3.out.size HE3.out.b.size
  have hbz : BoxM Z (w.heap.size + 1) Ms.zero := (HZ4.out.grow b5).foot ftZ (by omega)
  have hbq : BoxM Z w3.heap.size p' := (HBQ.out.grow b5).foot ftZ (by omega)
  obtain ⟨k0, k1, k2, k3, k4, k5, k6, k7, k8, k9, k10⟩ := hbq.all
  have HEQ : Hid (p'.has Z) := Bts.foot (Bts.carry HE4.out b5) ftZ (fun ad e _ => by have := HE3.out.new ad e; have := Nat.le_trans HB.out.size HB3.out.size; omega)
  obtain ⟨y0, y1, y2, y3, y4, y5, y6, y7, y8, y9, y10⟩ := hbz.all
  have z0 := hbz.z 0
  have z1 := hbz.z 1
  have z2 := hbz.z 2
  have z3 := hbz.z 3
  have z4 := hbz.z 4
  have z5 := hbz.z 5
  have z6 := hbz.z 6
  have z7 := hbz.z 7
  have z8 := hbz.z 8
  have z9 := hbz.z 9
  have z10 := hbz.z 10
  obtain ⟨V, hV⟩ : ∃ V, lay11 Z (w.heap.size + 1) p' = V := ⟨_, rfl⟩
  have hbv : BoxM V (w.heap.size + 1) p' := hV ▸ hbz.lay p'
  have ftV : Foot (fun j => j = w.heap.size + 1) Z V := hV ▸ foot_lay11 Z _ p'
  have HEND := hide (get_close HO.out HB.out (hEND.from HB4.out) ftV)
  have HQV : Hid (p'.has V) := Bts.foot HEQ.out ftV (fun ad e _ => by have := HE3.out.new ad e; have := HB3.out.size; omega)
  have HQN : Hid (New w p'.so) := New.le HE3.out.new (Nat.le_trans HB.out.size HB3.out.size)
  unfold lay11 at hV
  obtain ⟨v0, v1, v2, v3, v4, v5, v6, v7, v8, v9, v10⟩ := hbv.all
  clear hl b5 hnw hEND ftZ hgw hXs hY3 hbz hbq hbv ftV c1 hY
  go_wp2
  refine bodyPost_ret (by simp [results, Tryd.results8, go_sem, v0, v1, v2, v3, v4, v5, v6, v7, v8, v9, v10]; rfl) rfl ?_
  refine ⟨p', rfl, ?_, HQV.out, HQN.out, ?_⟩
  · rw [← HK.out, getM_nm, HY.out]; exact HE3.out.nm
  · have := HEND.out
    rw [map_erase, HK.out] at this
    exact this
set_option maxRecDepth 20000 in
set_option maxHeartbeats 3200000 in
theorem get_full (port t : Int) (w : World) (x : St w g S T L) (h : waitsF T t = false) (hi : L.any (isTo port) = false) (hf : 64 ≤ T.length) :
    Calls Tryd.prog 8 #[.pointer (some ⟨g, 0, none⟩), .int .u64 port, .int .i64 t] w fun e w' => e = .returned (.tuple #[.agg #[.int .u64 0, .int .u64 0, .int .u32 0, .int .u16 0, .int .u16 0, .int .u64 0, .int .u32 0, .int .u8 0, .int .u64 0, .int .u64 0, .slice none 0 0], .bool false, erN 5]) ∧ MtEnd w g S T L w' := by
  obtain ⟨X, hX⟩ : ∃ X, (w.alloc (.cells #[.int .u64 port] 30)).alloc (.cells #[.int .u64 0, .int .u64 0, .int .u32 0, .int .u16 0, .int .u16 0, .int .u64 0, .int .u32 0, .int .u8 0, .int .u64 0, .int .u64 0, .slice none 0 0] 37) = X := ⟨_, rfl⟩
  have bX : Below w.heap.size w X := hX ▸ below_one (below_alloc w _) (below_alloc _ _)
  have HBP : Hid (BoxM X (w.heap.size + 1) Ms.zero) := by
    show BoxM _ _ _
    rw [← hX, ← size_al w (.cells #[.int .u64 port] 30)]; exact boxM_new (w.alloc (.cells #[.int .u64 port] 30)) Ms.zero
  have HC : Hid (X.cell? ⟨w.heap.size, 0, none⟩ = some (.int .u64 port)) := by show _ = _; rw [← hX]; simp
  have HB := hide bX
  have HO := hide x
  have HX := hide (x.with bX)
  have HH := hide h
  have HI := hide hi
  clear x bX h hi
  go_enter Tryd.func8, Tryd.ntmps8
  go_wp2_with fail
  refine (waits_any t _ HX.out).mono ?_; rintro e w1 ⟨rfl, b1⟩
  have HX1 := hide (HX.out.grow b1)
  have HB1 := hide b1
  have HC1 : Hid (w1.cell? ⟨w.heap.size, 0, none⟩ = some (.int .u64 port)) := by show _ = _; rw [b1.cell (lt_of_cell HC.out), HC.out]
  obtain ⟨ao, ac, bo, bc, K, x2, hT, hR, hK⟩ := HX1.out
  have HX2 := hide x2
  have HT := hide hT
  have HR := hide hR
  have HK := hide hK
  have k1 := x2.c1
  rw [HH.out]
  clear b1 x2 hT hR hK
  go_wp2_with fail
  refine (index_anyM _ (isTo port) _ w.heap.size bo _ bc K _ HX2.out.req.1 HC1.out (get_asks _ port)).mono ?_; rintro e w2 ⟨r, rfl, hr, b2⟩
  have HFI : Hid (K.any (isTo port) = false) := by
    have h0 := HI.out
    have hKK := HK.out
    subst hKK
    rw [List.any_map] at h0
    exact h0
  obtain rfl := idxM_no hr HFI.out
  have HX3 := hide (HX2.out.grow b2)
  have HB3 := hide (below_one HB1.out b2)
  obtain ⟨n, hn⟩ : ∃ n, T.length = n := ⟨_, rfl⟩
  have d0 := HX3.out.c0
  rw [hn] at d0 hf
  have h64 : (64 : Int) ≤ (n : Int) := by omega
  have hbz : BoxM w2 (w.heap.size + 1) Ms.zero := HBP.out.grow HB3.out
  obtain ⟨y0, y1, y2, y3, y4, y5, y6, y7, y8, y9, y10⟩ := hbz.all
  have z0 := hbz.z 0
  have z1 := hbz.z 1
  have z2 := hbz.z 2
  have z3 := hbz.z 3
  have z4 := hbz.z 4
  have z5 := hbz.z 5
  have z6 := hbz.z 6
  have z7 := hbz.z 7
  have z8 := hbz.z 8
  have z9 := hbz.z 9
  have z10 := hbz.z 10
  obtain ⟨V, hV⟩ : ∃ V, lay11 w2 (w.heap.size + 1) Ms.zero = V := ⟨_, rfl⟩
  have hbv : BoxM V (w.heap.size + 1) Ms.zero := hV ▸ hbz.lay Ms.zero
  have ftV : Foot (fun j => j = w.heap.size + 1) w2 V := hV ▸ foot_lay11 w2 _ Ms.zero
  have HEND : Hid (MtEnd w g S T L V) := get_close HO.out HB.out (HX.out.same HB3.out) ftV
  unfold lay11 at hV
  obtain ⟨v0, v1, v2, v3, v4, v5, v6, v7, v8, v9, v10⟩ := hbv.all
  simp only [Ms.zero] at hV v0 v1 v2 v3 v4 v5 v6 v7 v8 v9 v10 y0 y1 y2 y3 y4 y5 y6 y7 y8 y9 y10
  clear b2 hr hbz hbv ftV hX hn k1
  go_wp2
  refine bodyPost_ret (by simp [results, Tryd.results8, go_sem, v0, v1, v2, v3, v4, v5, v6, v7, v8, v9, v10]; rfl) rfl ?_
  exact ⟨rfl, HEND.out⟩
set_option maxRecDepth 20000 in
set_option maxHeartbeats 3200000 in
theorem get_wait (port t : Int) (w : World) (x : St w g S T L) (hS : ∀ k, S k → k < w.heap.size) (h : waitsF T t = false) (hi : L.any (isTo port) = false) (hf : T.length < 64) :
    Calls Tryd.prog 8 #[.pointer (some ⟨g, 0, none⟩), .int .u64 port, .int .i64 t] w fun e w' => e = .returned (.tuple #[.agg #[.int .u64 0, .int .u64 0, .int .u32 0, .int .u16 0, .int .u16 0, .int .u64 0, .int .u32 0, .int .u8 0, .int .u64 0, .int .u64 0, .slice none 0 0], .bool false, .nilIface]) ∧ MtEnd w g S (T ++ [⟨port, t⟩]) L w' := by
  obtain ⟨X, hX⟩ : ∃ X, (w.alloc (.cells #[.int .u64 port] 30)).alloc (.cells #[.int .u64 0, .int .u64 0, .int .u32 0, .int .u16 0, .int .u16 0, .int .u64 0, .int .u32 0, .int .u8 0, .int .u64 0, .int .u64 0, .slice none 0 0] 37) = X := ⟨_, rfl⟩
  have bX : Below w.heap.size w X := hX ▸ below_one (below_alloc w _) (below_alloc _ _)
  have HBP : Hid (BoxM X (w.heap.size + 1) Ms.zero) := by
    show BoxM _ _ _
    rw [← hX, ← size_al w (.cells #[.int .u64 port] 30)]; exact boxM_new (w.alloc (.cells #[.int .u64 port] 30)) Ms.zero
  have HC : Hid (X.cell? ⟨w.heap.size, 0, none⟩ = some (.int .u64 port)) := by show _ = _; rw [← hX]; simp
  have HB := hide bX
  have HO := hide x
  have HX := hide (x.with bX)
  have HH := hide h
  have HI := hide hi
  have HS := hide (sv_lt hS bX (lt_of_heap HBP.out))
  clear x bX h hi hS
  go_enter Tryd.func8, Tryd.ntmps8
  go_wp2_with fail
  refine (waits_any t _ HX.out).mono ?_; rintro e w1 ⟨rfl, b1⟩
  have HX1 := hide (HX.out.grow b1)
  have HB1 := hide b1
  have HC1 : Hid (w1.cell? ⟨w.heap.size, 0, none⟩ = some (.int .u64 port)) := by show _ = _; rw [b1.cell (lt_of_cell HC.out), HC.out]
  obtain ⟨ao, ac, bo, bc, K, x2, hT, hR, hK⟩ := HX1.out
  have HX2 := hide x2
  have HT := hide hT
  have HR := hide hR
  have HK := hide hK
  have k1 := x2.c1
  rw [HH.out]
  clear b1 x2 hT hR hK
  go_wp2_with fail
  refine (index_anyM _ (isTo port) _ w.heap.size bo _ bc K _ HX2.out.req.1 HC1.out (get_asks _ port)).mono ?_; rintro e w2 ⟨r, rfl, hr, b2⟩
  have HFI : Hid (K.any (isTo port) = false) := by
    have h0 := HI.out
    have hKK := HK.out
    subst hKK
    rw [List.any_map] at h0
    exact h0
  obtain rfl := idxM_no hr HFI.out
  have HX3 := hide (HX2.out.grow b2)
  have HB3 := hide (below_one HB1.out b2)
  obtain ⟨n, hn⟩ : ∃ n, T.length = n := ⟨_, rfl⟩
  have HN := hide hn
  have d0 := HX3.out.c0
  have hl := HX3.out.thr
  rw [hn] at d0 hf hl
  have HL := hide hl
  have h64 : ¬ ((64 : Int) ≤ (n : Int)) := by omega
  have p0 : w2.cell? ⟨w.heap.size, 0, none⟩ = some (.int .u64 port) := by rw [b2.cell (lt_of_cell HC1.out), HC1.out]
  obtain ⟨Y, hY⟩ : ∃ Y, w2.alloc (.cells #[.int .u64 port, .int .i64 t] 58) = Y := ⟨_, rfl⟩
  have bY : Below w2.heap.size w2 Y := hY ▸ below_alloc w2 _
  have cY := (HX3.out.grow bY).c0
  rw [hn] at cY
  obtain ⟨ps, hps⟩ : ∃ ps : List Prt, [⟨ao, n, ac, cellsW T⟩, ⟨some ⟨w2.heap.size, 0, none⟩, 1, 1, cellsW [⟨port, t⟩]⟩] = ps := ⟨_, rfl⟩
  have HPA : Hid (Parts 2 (Y.alloc (.cells #[.slice ao n ac, .slice (some ⟨w2.heap.size, 0, none⟩) 1 1] 25)).drew ⟨Y.heap.size, 0, none⟩ ps) := by
    have := parts_two (T := 25) (HL.out.carry bY (Nat.le_refl _)) (hY ▸ lies_alloc (sz := 2) (n := 1) (X := w2) (T := 58) (C := #[.int .u64 port, .int .i64 t]) (cs := cellsW [⟨port, t⟩]) rfl rfl (by omega)) (cellsW_one _) (cellsW_one _)
    rw [← hps]; exact this
  have HL2 : Hid (ps.length = 2) := by show _ = _; rw [← hps]; rfl
  have HSU : Hid (sumN ps 2 = n + 1) := by show _ = _; rw [← hps]; simp [sumN]
  have HFL : Hid (flatV ps 2 = cellsW (T ++ [⟨port, t⟩])) := by show _ = _; rw [← hps, cellsW_append]; simp [flatV]
  have HBY := hide (below_one bY (below_ad Y (.cells #[.slice ao n ac, .slice (some ⟨w2.heap.size, 0, none⟩) 1 1] 25)))
  clear b2 hr hn k1 hl hX hps bY
  go_wp2_with fail
  go_region_with (first
    | (go_at_call 22
       go_must (refine (concat_anyW _ 2 ps _ HL2.out (by omega) HPA.out (by rw [HSU.out]; omega)).mono ?_)
       rintro e w5 ⟨v5, rfl, ao5, c5, rfl, A5, b5, n5⟩
       rw [HFL.out] at A5
       have b6 := below_one HBY.out b5
       have HMT := hide (HX3.out.put0 (S := Sv w S) HR.out (fun k hk => Nat.lt_of_lt_of_le (HS.out k hk) HB3.out.size) A5 b6 (New.le n5 HBY.out.size) (by rw [List.length_append, HN.out]; show n + 1 ≤ 64; omega))
       have d5 := (HX3.out.grow b6).c0
       have zz5 := (HX3.out.grow b6).z 0
       rw [HN.out] at d5
       obtain ⟨Z, hZ⟩ : ∃ Z, w5.setCell ⟨g, 0, none⟩ (.slice ao5 (sumN ps 2) c5) = Z := ⟨_, rfl⟩
       rw [hZ] at HMT
       have ftZ : Foot (· = g) w5 Z := hZ ▸ foot_set w5 ⟨g, 0, none⟩ _
       have hgw : g < w.heap.size := HO.out.lt
       have HZB : Hid (BoxM Z (w.heap.size + 1) Ms.zero) := (HBP.out.grow (below_one HB3.out b6)).foot ftZ (by omega)
       clear A5 b5 b6 n5 hgw ftZ))
  all_goals
    have hbz := HZB.out
    obtain ⟨y0, y1, y2, y3, y4, y5, y6, y7, y8, y9, y10⟩ := hbz.all
    have z0 := hbz.z 0
    have z1 := hbz.z 1
    have z2 := hbz.z 2
    have z3 := hbz.z 3
    have z4 := hbz.z 4
    have z5 := hbz.z 5
    have z6 := hbz.z 6
    have z7 := hbz.z 7
    have z8 := hbz.z 8
    have z9 := hbz.z 9
    have z10 := hbz.z 10
    obtain ⟨V, hV⟩ : ∃ V, lay11 Z (w.heap.size + 1) Ms.zero = V := ⟨_, rfl⟩
    have hbv : BoxM V (w.heap.size + 1) Ms.zero := hV ▸ hbz.lay Ms.zero
    have ftV : Foot (fun j => j = w.heap.size + 1) Z V := hV ▸ foot_lay11 Z _ Ms.zero
    have HEND : Hid (MtEnd w g S (T ++ [⟨port, t⟩]) L V) := by
      have := get_close HO.out HB.out (HMT.out.from HB3.out) ftV
      rw [HK.out] at this
      exact this
    unfold lay11 at hV
    obtain ⟨v0, v1, v2, v3, v4, v5, v6, v7, v8, v9, v10⟩ := hbv.all
    simp only [Ms.zero] at hV v0 v1 v2 v3 v4 v5 v6 v7 v8 v9 v10 y0 y1 y2 y3 y4 y5 y6 y7 y8 y9 y10
    clear hbz hbv ftV
    go_wp2
    refine bodyPost_ret (by simp [results, Tryd.results8, go_sem, v0, v1, v2, v3, v4, v5, v6, v7, v8, v9, v10]; rfl) rfl ?_
    exact ⟨rfl, HEND.out⟩
end Go.Proofs.YtfjchchjdjjepaaDoor
