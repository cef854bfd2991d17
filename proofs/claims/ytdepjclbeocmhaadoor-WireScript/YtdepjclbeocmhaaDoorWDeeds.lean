/-
  What a wire's Send answers, as a contract.
-/
import Derived.Test.YtdepjclbeocmhaaDoorWCalls
namespace Go.Proofs.YtdepjclbeocmhaaDoor
open Go.RowKit
variable {w w' : World} {g : Nat} {bo : Option Addr} {bc : Nat} {K : List Pa} {S : Nat → Prop} {L : List Pa}
def sendE (L : List Pa) : Int := if 1024 ≤ L.length then 5 else 0
def sendL (L : List Pa) (p : Pa) : List Pa := if 1024 ≤ L.length then L else L ++ [p]
def SdEnd (w : World) (g : Nat) (S : Nat → Prop) (L : List Pa) (p : Pa) (e : Ending) (w' : World) : Prop := e = .returned (erN (sendE L)) ∧ St w' g S (sendL L p.nm) ∧ Foot (· = g) w w'
set_option maxRecDepth 20000 in
set_option maxHeartbeats 3200000 in
theorem send_any (p : Pa) (w : World) (x : St w g S L) (hS : ∀ k, S k → k < w.heap.size) (hp : p.has w) (hs : p.sn ≤ 140737488355328) :
    Calls Tryd.prog 5 #[.pointer (some ⟨g, 0, none⟩), .agg #[.int .i64 p.f, .int .i64 p.t, .int .u64 p.i, .int .i64 p.x, .int .i64 p.c, .slice p.so p.sn p.sc]] w fun e w' => SdEnd w g S L p e w' := by
  obtain ⟨bo, bc, K, x, hF, rfl⟩ := x
  obtain ⟨X, hX⟩ : ∃ X, w.alloc (.cells #[.int .i64 p.f, .int .i64 p.t, .int .u64 p.i, .int .i64 p.x, .int .i64 p.c, .slice p.so p.sn p.sc] 33) = X := ⟨_, rfl⟩
  have bX : Below w.heap.size w X := hX ▸ below_alloc w _
  have xX := x.grow bX
  have HX := hide xX
  have HB := hide bX
  have HBX : Hid (BoxK X w.heap.size p) := hX ▸ boxK_new w p
  have HPX := hide (Bts.carry hp bX)
  have c1 := xX.c0
  have z1 := xX.z
  have hfew := x.few
  have HF := hide hF
  have HS : Hid (∀ k, S k → k < X.heap.size) := fun k h => Nat.lt_of_lt_of_le (hS k h) bX.size
  have HLE : Hid ((K.map Pa.nm).length = K.length) := List.length_map ..
  by_cases h : 1024 ≤ K.length
  · obtain ⟨n, hn⟩ : ∃ n, K.length = n := ⟨_, rfl⟩
    have HN := hide hn
    rw [hn] at c1 h
    have h1 : (1024 : Int) ≤ (n : Int) := by omega
    clear hn xX x hF hS bX hp
    go_enter Tryd.func5, Tryd.ntmps5
    go_wp2
    go_ret
    refine ⟨?_, ?_, below_foot _ HB.out⟩
    · unfold sendE; rw [if_pos (by rw [HLE.out, HN.out]; exact h)]; rfl
    · unfold sendL; rw [if_pos (by rw [HLE.out, HN.out]; exact h)]; exact ⟨bo, bc, K, HX.out, HF.out, rfl⟩
  · obtain ⟨n, hn⟩ : ∃ n, K.length = n := ⟨_, rfl⟩
    have HN := hide hn
    have HRW := hide xX.row.1
    rw [hn] at c1 h HRW
    have h1 : ¬ ((1024 : Int) ≤ (n : Int)) := by omega
    obtain ⟨k0, k1, k2, k3, k4, k5⟩ := HBX.out.six (Below.refl _ _)
    clear hn xX x hF hS bX hp hfew
    go_enter Tryd.func5, Tryd.ntmps5
    go_wp2_with fail
    go_region_with (first
      | (go_at_call 15
         go_must (refine (alone_any p _ (Bts.carry HPX.out (below_d X 1)) hs).mono ?_)
         rintro e w4 ⟨p', rfl, E4⟩
         have b4 := below_one (below_d X 1) E4.b
         have c4 := (HX.out.grow b4).c0
         rw [HN.out] at c4
         have HE4 := hide E4
         have HB4 := hide b4
         clear E4 b4
         obtain ⟨Y, hY⟩ : ∃ Y, w4.alloc (.cells #[.int .i64 p'.f, .int .i64 p'.t, .int .u64 p'.i, .int .i64 p'.x, .int .i64 p'.c, .slice p'.so p'.sn p'.sc] 33) = Y := ⟨_, rfl⟩
         have bY : Below w4.heap.size w4 Y := hY ▸ below_alloc w4 _
         have cY := (HX.out.grow (below_one HB4.out bY)).c0
         rw [HN.out] at cY
         obtain ⟨ps, hps⟩ : ∃ ps : List Prt, [⟨bo, n, bc, cellsK K⟩, ⟨some ⟨w4.heap.size, 0, none⟩, 1, 1, cellsK [p']⟩] = ps := ⟨_, rfl⟩
         have HPA : Hid (Parts 6 (Y.alloc (.cells #[.slice bo n bc, .slice (some ⟨w4.heap.size, 0, none⟩) 1 1] 25)) ⟨Y.heap.size, 0, none⟩ ps) := by
           have := parts_two (T := 25) (HRW.out.carry (below_one HB4.out bY) (Nat.le_refl _)) (hY ▸ lies_alloc (sz := 6) (n := 1) (X := w4) (T := 33) (C := #[.int .i64 p'.f, .int .i64 p'.t, .int .u64 p'.i, .int .i64 p'.x, .int .i64 p'.c, .slice p'.so p'.sn p'.sc]) (cs := cellsK [p']) rfl rfl (by omega)) (cellsK_one _) (cellsK_one _)
           rw [← hps]; exact this
         have HL2 : Hid (ps.length = 2) := by show _ = _; rw [← hps]; rfl
         have HSU : Hid (sumN ps 2 = n + 1) := by show _ = _; rw [← hps]; simp [sumN]
         have HFL : Hid (flatV ps 2 = cellsK (K ++ [p'])) := by show _ = _; rw [← hps, cellsK_append]; simp [flatV]
         have HBY := hide (below_one HB4.out (below_one bY (below_alloc Y (.cells #[.slice bo n bc, .slice (some ⟨w4.heap.size, 0, none⟩) 1 1] 25))))
         have HBZ := hide (below_one bY (below_alloc Y (.cells #[.slice bo n bc, .slice (some ⟨w4.heap.size, 0, none⟩) 1 1] 25)))
         clear hps bY)
      | (go_at_call 14
         go_must (refine (concat_anyP _ 2 ps _ HL2.out (by omega) HPA.out (by rw [HSU.out]; omega)).mono ?_)
         rintro e w5 ⟨v5, rfl, ao5, c5, rfl, A5, b5, n5⟩
         rw [HFL.out] at A5
         have b6 := below_one HBY.out b5
         have HEND := hide (wr_end HX.out A5 b6 (New.le n5 HBY.out.size) (fun q hq => by
           rcases List.mem_append.1 hq with hq | hq
           · exact .inl hq
           · obtain rfl := List.mem_singleton.1 hq
             exact .inr ⟨Bts.carry HE4.out.has (below_one HBZ.out b5), HE4.out.new, by rw [HE4.out.sn]; exact hs⟩) (by rw [List.length_append, HN.out]; show n + 1 ≤ 1024; omega))
         have d5 := (HX.out.grow b6).c0
         have zz5 := (HX.out.grow b6).z
         rw [HN.out] at d5
         clear A5 b5 b6 n5))
    all_goals
      go_wp2
      go_ret
      refine ⟨?_, ?_, (below_foot _ HB.out).then HEND.out.ft⟩
      · unfold sendE; rw [if_neg (by rw [HLE.out, HN.out]; omega)]; rfl
      · unfold sendL
        rw [if_neg (by rw [HLE.out, HN.out]; omega)]
        have := HEND.out.st HF.out HS.out
        rw [List.map_append, List.map_singleton, HE4.out.nm] at this
        exact this
end Go.Proofs.YtdepjclbeocmhaaDoor
