/-
  A message with one packet more, as a contract.
-/
import Derived.Test.YtdfakeddhoolcaaGBeg
import Derived.Deep.RegionLaw
namespace Go.Proofs.Ytdfakeddhoolcaa
open Go.RowKit
theorem BoxK.put5 {w : World} {g : Nat} {x : Pa} (h : BoxK w g x) (so : Option Addr) (sn sc : Nat) : BoxK (w.setCell ⟨g, 5, none⟩ (.slice so sn sc)) g ⟨x.f, x.t, x.i, x.x, x.c, so, sn, sc, x.l⟩ := by
  unfold BoxK
  rw [heap_setCell_same w g 5 _ _ _ h]; rfl
theorem cellsK_take (L : List Pa) (k : Nat) : (cellsK L).take (k * 6) = cellsK (L.take k) := by
  have h := cellsK_drop L k
  have e : cellsK L = cellsK (L.take k) ++ cellsK (L.drop k) := by rw [← cellsK_append, List.take_append_drop]
  rcases Nat.lt_or_ge k L.length with hk | hk
  · rw [e, List.take_append_of_le_length (by rw [cellsK_len, List.length_take]; omega), List.take_of_length_le (by rw [cellsK_len, List.length_take]; omega)]
  · rw [List.take_of_length_le (by rw [cellsK_len]; omega), List.take_of_length_le hk]
def WthYes (w : World) (L : List Pa) (p : Pa) (e : Ending) (w' : World) : Prop :=
  ∃ ao c p', e = .returned (.tuple #[.slice ao (L.length + 1) c, .bool true]) ∧ Pks w' ao (L.length + 1) c (insF L p') ∧ p'.nm = p.nm ∧ p'.sn = p.sn ∧ New w ao ∧ New w p'.so
def WthEnd (w : World) (L : List Pa) (p : Pa) (e : Ending) (w' : World) : Prop :=
  Below w.heap.size w w' ∧ (okW L p = true → WthYes w L p e w') ∧ (okW L p = false → e = .returned (.tuple #[.slice none 0 0, .bool false]))
theorem wth_no {w w' : World} {L : List Pa} {p : Pa} (h : okW L p = false) (b : Below w.heap.size w w') : WthEnd w L p (.returned (.tuple #[.slice none 0 0, .bool false])) w' := ⟨b, (fun e => by rw [h] at e; cases e), fun _ => rfl⟩
theorem wth_end {w W Y w5 : World} {ma ao5 co : Option Addr} {n mc m c5 : Nat} {L : List Pa} {p p' : Pa} (hM : Pks w ma n mc L) (hW : Below w.heap.size w W) (hL : Pks W ma n mc L) (hp : p'.has W) (hn : p'.nm = p.nm ∧ p'.sn = p.sn ∧ p'.x = p.x ∧ p'.so = co) (hN : New w co) (bY : Below W.heap.size W Y) (A5 : Lies 6 w5 ao5 m c5 (cellsK (insF L p'))) (b5 : Below Y.heap.size Y w5) (n5 : New Y ao5) (hm : m = n + 1) :
    okW L p = true → WthEnd w L p (.returned (.tuple #[.slice ao5 (n + 1) c5, .bool true])) w5 := by
  intro ho
  have hl := hM.len
  have b := below_one bY b5
  subst hm
  subst hl
  refine ⟨below_one hW b, fun _ => ⟨ao5, c5, p', rfl, ⟨A5, fun x hx => ?_⟩, hn.1, hn.2.1, New.le n5 (Nat.le_trans hW.size bY.size), by rw [hn.2.2.2]; exact hN⟩, fun h => by rw [ho] at h; cases h⟩
  rcases ins_mem.1 hx with rfl | hx
  · exact Bts.carry hp b
  · exact Bts.carry (hL.2 x hx) b
def WtRel (X : World) (k gk : Nat) (vi : Value) (wq : World) : Prop := ∃ j : Nat, j + gk = k ∧ vi = .int .i64 (j : Int) ∧ Below X.heap.size X wq
set_option maxRecDepth 20000 in
set_option maxHeartbeats 6400000 in
theorem wth_any (ma : Option Addr) (n mc : Nat) (L : List Pa) (p : Pa) (w : World) (hm : Pks w ma n mc L) (hp : p.has w) (hn : n ≤ 256) (hs : p.sn ≤ 32768) :
    Calls Try.prog 16 #[.slice ma n mc, .agg #[.int .i64 p.f, .int .i64 p.t, .int .u64 p.i, .int .i64 p.x, .int .i64 p.c, .slice p.so p.sn p.sc]] w fun e w' => WthEnd w L p e w' := by
  obtain ⟨X, hX⟩ : ∃ X, w.alloc (.cells #[.int .i64 p.f, .int .i64 p.t, .int .u64 p.i, .int .i64 p.x, .int .i64 p.c, .slice p.so p.sn p.sc] 35) = X := ⟨_, rfl⟩
  have bX : Below w.heap.size w X := hX ▸ below_alloc w _
  have HBX : Hid (BoxK X w.heap.size p) := hX ▸ boxK_new w p
  have HWX := hide bX
  have HPM := hide hm
  have HPH := hide hp
  have hnc := hm.1.2.1
  have hcap : mc ≤ 9223372036854775807 := hm.1.2.2.1
  have HLN := hide hm.len
  obtain ⟨k, hk⟩ : ∃ k, plcF L p.x = k := ⟨_, rfl⟩
  have hkn : k ≤ n := by rw [← hk, hm.len]; exact plc_le L p.x
  have HPL := hide hk
  have HLOW : Hid (∀ j, j < k → (L.getD j Pa.zero).x < p.x) := fun j hj => plc_lt L p.x j (by rw [hk]; exact hj)
  have HGE : Hid (k < n → p.x ≤ (L.getD k Pa.zero).x) := fun h => by
    have := plc_ge L p.x (by rw [hk, ← hm.len]; exact h)
    rw [hk] at this; exact this
  have HDUP : Hid (dupF L p.x = (decide (k < n) && ((L.getD k Pa.zero).x == p.x))) := by
    show _ = _; unfold dupF; rw [hk, hm.len]
  have HMIS : Hid (misF L p.c = (decide (0 < n) && ((L.getD 0 Pa.zero).c != p.c))) := by
    show _ = _; unfold misF hd; rw [hm.len]
  clear hm hp bX hk
  go_enter Try.func16, Try.ntmps16
  go_wp2
  go_loopg [6] k (fun gk vi wq => WtRel X k gk vi wq)
  case atStart => exact ⟨0, by omega, rfl, Below.refl _ _⟩
  case round =>
    obtain ⟨j, hj, rfl, b⟩ := hrel
    have HB := hide b
    have HBW := hide (below_one HWX.out b)
    have p3 := fun q => (HBX.out.six (below_one b (below_d wr q))).2.2.2.1
    have p4 := fun q => (HBX.out.six (below_one b (below_d wr q))).2.2.2.2.1
    have p5 := (HBX.out.six b).2.2.2.2.2
    have HPW := hide (HPM.out.carry HBW.out)
    clear b
    cases gk with
    | succ g1 =>
      have hjn : j < n := by omega
      have hlt : (j : Int) < (n : Int) := by omega
      have hlo := HLOW.out j (by omega)
      obtain ⟨ad, rfl⟩ := HPW.out.there (k := j) hjn
      have e3 := fun q => ((HPW.out.carry (below_d wr q)).elem j hjn).c3
      obtain ⟨y, hy⟩ : ∃ y, L.getD j Pa.zero = y := ⟨_, rfl⟩
      rw [hy] at e3 hlo
      clear hy p4 p5
      go_wp2_with fail
      go_quiet (fail)
      go_wp2
      go_roundg g1
      case measure => omega
      case rel => exact ⟨j + 1, by omega, by go_num, below_one HB.out (below_d wr _)⟩
    | zero =>
      obtain rfl : j = k := by omega
      by_cases hlt : j < n
      · have hlti : (j : Int) < (n : Int) := by omega
        obtain ⟨ad, rfl⟩ := HPW.out.there (k := j) hlt
        have hn0 : 0 < n := by omega
        have hn0i : (0 : Int) < (n : Int) := by omega
        have hnz : ¬ n = 0 := by omega
        have e3 := fun q => ((HPW.out.carry (below_d wr q)).elem j hlt).c3
        have hge := HGE.out hlt
        have hdup := HDUP.out
        rw [decide_eq_true hlt, Bool.true_and] at hdup
        obtain ⟨y, hy⟩ : ∃ y, L.getD j Pa.zero = y := ⟨_, rfl⟩
        rw [hy] at e3 hge hdup
        have hnl : ¬ y.x < p.x := by omega
        have z0 := HPW.out.six0 (Below.refl _ _) hn0 _ rfl
        have hmis := HMIS.out
        rw [decide_eq_true hn0, Bool.true_and] at hmis
        obtain ⟨z, hz⟩ : ∃ z, L.getD 0 Pa.zero = z := ⟨_, rfl⟩
        rw [hz] at hmis
        have z4 := fun q => (HPW.out.six0 (below_d wr q) hn0 z hz).2.2.2.2.1
        clear hy hz z0 hge
        cases hx : (y.x == p.x) with
        | true =>
          have HOK : Hid (okW L p = false) := by show _ = _; unfold okW; rw [hdup, hx]; rfl
          clear hdup hmis
          go_wp2_with fail
          go_quiet (fail)
          go_wp2_with fail
          go_quiet (fail)
          go_wp2
          go_ret2
          exact wth_no HOK.out (below_one HBW.out (below_one (below_d wr _) (below_d _ _)))
        | false =>
          cases hc : (z.c != p.c) with
          | true =>
            have HOK : Hid (okW L p = false) := by show _ = _; unfold okW; rw [hmis, hc]; simp
            clear hdup hmis
            go_wp2_with fail
            go_quiet (fail)
            go_wp2_with fail
            go_quiet (fail)
            go_wp2_with fail
            go_quiet (fail)

            go_wp2
            go_ret2
            exact wth_no HOK.out (below_one HBW.out (below_one (below_one (below_d wr _) (below_d _ _)) (below_d _ _)))
          | false =>
            have HOK : Hid (okW L p = true) := by show _ = _; unfold okW; rw [hdup, hmis, hx, hc]; rfl
            clear hdup hmis
            go_wp2_with fail
            go_quiet (fail)
            go_wp2_with fail
            go_quiet (fail)
            go_wp2_with fail
            go_quiet (fail)

            generalize hV : World.drewN (World.drewN (World.drewN wr _) _) _ = V
            have HWV : Hid (Below wr.heap.size wr V) := by show Below _ _ _; rw [← hV]; exact below_one (below_one (below_d wr _) (below_d _ _)) (below_d _ _)
            have HB := hide (below_one HB.out HWV.out)
            have HBW := hide (below_one HBW.out HWV.out)
            have v5 := (HBX.out.six HB.out).2.2.2.2.2
            clear hV p3 p4 p5

            go_wp2_with fail
            refine (clone_any _ _ _ p.l _ (Bts.carry HPH.out HBW.out) (by omega)).mono ?_; rintro e w2 ⟨co, cc, rfl, B2, N2, b2⟩
            have hbx := HBX.out.carry (below_one HB.out b2) (Nat.le_refl _)
            have d5 := hbx.c5
            have dz5 := hbx.z 5
            obtain ⟨W, hW⟩ : ∃ W, w2.setCell ⟨w.heap.size, 5, none⟩ (.slice co p.sn cc) = W := ⟨_, rfl⟩
            obtain ⟨p', hp'⟩ : ∃ p' : Pa, ⟨p.f, p.t, p.i, p.x, p.c, co, p.sn, cc, p.l⟩ = p' := ⟨_, rfl⟩
            have HBP : Hid (BoxK W w.heap.size p') := by show BoxK _ _ _; rw [← hW, ← hp']; exact hbx.put5 co p.sn cc
            have HFW : Hid (Foot (fun jj => jj = w.heap.size) w2 W) := by show Foot _ _ _; rw [← hW]; exact foot_set w2 ⟨w.heap.size, 5, none⟩ _
            have b3 := below_one HBW.out b2
            have HBW2 : Hid (Below w.heap.size w W) := ((below_foot (fun jj => jj = w.heap.size) b3).then HFW.out).below (Nat.le_refl _) (fun kk e => by omega)
            have HLW := hide (HPM.out.carry HBW2.out)
            have HNN : Hid (New w co) := New.le N2 HBW.out.size
            have HPH2 : Hid (p'.has W) := by
              show Bts _ _ _ _ _
              rw [← hp']
              refine Bts.foot B2 HFW.out (fun ad e _ => ?_)
              have := N2 ad e
              have := lt_of_heap (HBX.out.carry HB.out (Nat.le_refl _))
              show ¬ ad.block = w.heap.size
              omega
            have HNM : Hid (p'.nm = p.nm ∧ p'.sn = p.sn ∧ p'.x = p.x ∧ p'.so = co) := by rw [← hp']; exact ⟨rfl, rfl, rfl, rfl⟩
            have hc1 := fun W : World => cutG_head Try.underlying52 Try.sizeOfP W (some ad) n mc j (by omega)
            have hc2 := fun W : World => cutG_tail Try.underlying52 Try.sizeOfP W (some ad) n mc j (by omega)
            have hL1 := HLW.out.1.head j (by omega)
            have hL2 := HLW.out.1.tail j (by omega)
            obtain ⟨ta, hta⟩ : ∃ X, tailG 6 (some ad) j mc = X := ⟨_, rfl⟩
            obtain ⟨tn, htn⟩ : ∃ X, n - j = X := ⟨_, rfl⟩
            obtain ⟨tc, htc⟩ : ∃ X, mc - j = X := ⟨_, rfl⟩
            rw [hta, htn, htc] at hc2 hL2
            rw [cellsK_take] at hL1
            rw [cellsK_drop] at hL2
            have htnn : j + tn = n := by omega
            have HTN := hide htnn
            obtain ⟨Y, hY⟩ : ∃ Y, W.alloc (.cells #[.int .i64 p'.f, .int .i64 p'.t, .int .u64 p'.i, .int .i64 p'.x, .int .i64 p'.c, .slice p'.so p'.sn p'.sc] 35) = Y := ⟨_, rfl⟩
            have bY : Below W.heap.size W Y := hY ▸ below_alloc W _
            have HBY := hide bY
            obtain ⟨ps, hps⟩ : ∃ ps : List Prt, [⟨some ad, j, mc, cellsK (L.take j)⟩, ⟨some ⟨W.heap.size, 0, none⟩, 1, 1, cellsK [p']⟩, ⟨ta, tn, tc, cellsK (L.drop j)⟩] = ps := ⟨_, rfl⟩
            have HPA : Hid (Parts 6 (Y.alloc (.cells #[.slice (some ad) j mc, .slice (some ⟨W.heap.size, 0, none⟩) 1 1, .slice ta tn tc] 52)) ⟨Y.heap.size, 0, none⟩ ps) := by
              have := parts_three (T := 52) (hL1.carry bY (Nat.le_refl _)) (hY ▸ lies_alloc (sz := 6) (n := 1) (X := W) (T := 35) (C := #[.int .i64 p'.f, .int .i64 p'.t, .int .u64 p'.i, .int .i64 p'.x, .int .i64 p'.c, .slice p'.so p'.sn p'.sc]) (cs := cellsK [p']) rfl rfl (by omega)) (hL2.carry bY (Nat.le_refl _)) (cellsK_one _) (cellsK_one _) (cellsK_one _)
              rw [← hps]; exact this
            have HL3 : Hid (ps.length = 3) := by show _ = _; rw [← hps]; rfl
            have HSU : Hid (sumN ps 3 = n + 1) := by show _ = _; rw [← hps]; simp [sumN]; omega
            have HFL : Hid (flatV ps 3 = cellsK (insF L p')) := by
              show _ = _
              rw [← hps]
              unfold insF
              rw [HNM.out.2.2.1, HPL.out]
              simp [flatV, cellsK]
            have f0 := HBP.out.c0
            have f1 := HBP.out.c1
            have f2 := HBP.out.c2
            have f3 := HBP.out.c3
            have f4 := HBP.out.c4
            have f5 := HBP.out.c5
            clear hps hp' hta htn htc bY hL1 hL2 b2 B2 N2 hbx b3
            go_wp2_with fail
            go_region_with (first | (go_at_call 20; go_must (refine (concat_anyP _ 3 ps _ HL3.out (by omega) (HPA.out.carry (below_d _ 1)) (by rw [HSU.out]; omega)).mono ?_); rintro e w5 ⟨v5, rfl, ao5, c5, rfl, A5, b5, n5⟩; have HEND := hide (wth_end HPM.out HBW2.out HLW.out HPH2.out HNM.out HNN.out (below_one (below_one HBY.out (below_alloc Y (.cells #[.slice (some ad) j mc, .slice (some ⟨W.heap.size, 0, none⟩) 1 1, .slice ta tn tc] 52))) (below_d _ 1)) (HFL.out ▸ A5) b5 n5 HSU.out); rw [HSU.out]; clear A5 b5 n5))
            all_goals
              go_wp2
              go_ret2
              exact HEND.out HOK.out
      · obtain rfl : j = n := by omega
        have hlti : ¬ ((j : Int) < (j : Int)) := by omega
        have hdup := HDUP.out
        rw [decide_eq_false hlt, Bool.false_and] at hdup
        have hmis := HMIS.out
        by_cases hj0 : j = 0
        · have hn0i : ¬ ((0 : Int) < (j : Int)) := by omega
          rw [decide_eq_false (by omega), Bool.false_and] at hmis
          have HOK : Hid (okW L p = true) := by show _ = _; unfold okW; rw [hdup, hmis]; rfl
          clear hdup hmis
          subst hj0
          have HLNIL : Hid (L = []) := List.eq_nil_of_length_eq_zero HLN.out.symm
          go_wp2_with fail
          go_quiet (fail)
          go_wp2_with fail
          go_quiet (fail)
          go_wp2_with fail
          go_quiet (fail)

          generalize hV : World.drewN (World.drewN (World.drewN wr _) _) _ = V
          have HWV : Hid (Below wr.heap.size wr V) := by show Below _ _ _; rw [← hV]; exact below_one (below_one (below_d wr _) (below_d _ _)) (below_d _ _)
          have HB := hide (below_one HB.out HWV.out)
          have HBW := hide (below_one HBW.out HWV.out)
          have v5 := (HBX.out.six HB.out).2.2.2.2.2
          clear hV p3 p4 p5

          go_wp2_with fail
          refine (clone_any _ _ _ p.l _ (Bts.carry HPH.out HBW.out) (by omega)).mono ?_; rintro e w2 ⟨co, cc, rfl, B2, N2, b2⟩
          have hbx := HBX.out.carry (below_one HB.out b2) (Nat.le_refl _)
          have d5 := hbx.c5
          have dz5 := hbx.z 5
          obtain ⟨W, hW⟩ : ∃ W, w2.setCell ⟨w.heap.size, 5, none⟩ (.slice co p.sn cc) = W := ⟨_, rfl⟩
          obtain ⟨p', hp'⟩ : ∃ p' : Pa, ⟨p.f, p.t, p.i, p.x, p.c, co, p.sn, cc, p.l⟩ = p' := ⟨_, rfl⟩
          have HBP : Hid (BoxK W w.heap.size p') := by show BoxK _ _ _; rw [← hW, ← hp']; exact hbx.put5 co p.sn cc
          have HFW : Hid (Foot (fun jj => jj = w.heap.size) w2 W) := by show Foot _ _ _; rw [← hW]; exact foot_set w2 ⟨w.heap.size, 5, none⟩ _
          have b3 := below_one HBW.out b2
          have HBW2 : Hid (Below w.heap.size w W) := ((below_foot (fun jj => jj = w.heap.size) b3).then HFW.out).below (Nat.le_refl _) (fun kk e => by omega)
          have HLW := hide (HPM.out.carry HBW2.out)
          have HNN : Hid (New w co) := New.le N2 HBW.out.size
          have HPH2 : Hid (p'.has W) := by
            show Bts _ _ _ _ _
            rw [← hp']
            refine Bts.foot B2 HFW.out (fun ad e _ => ?_)
            have := N2 ad e
            have := lt_of_heap (HBX.out.carry HB.out (Nat.le_refl _))
            show ¬ ad.block = w.heap.size
            omega
          have HNM : Hid (p'.nm = p.nm ∧ p'.sn = p.sn ∧ p'.x = p.x ∧ p'.so = co) := by rw [← hp']; exact ⟨rfl, rfl, rfl, rfl⟩
          have hL1 := HLW.out.1.head 0 (Nat.le_refl _)
          rw [Nat.zero_mul, List.take_zero] at hL1
          obtain ⟨Y, hY⟩ : ∃ Y, W.alloc (.cells #[.int .i64 p'.f, .int .i64 p'.t, .int .u64 p'.i, .int .i64 p'.x, .int .i64 p'.c, .slice p'.so p'.sn p'.sc] 35) = Y := ⟨_, rfl⟩
          have bY : Below W.heap.size W Y := hY ▸ below_alloc W _
          have HBY := hide bY
          obtain ⟨ps, hps⟩ : ∃ ps : List Prt, [⟨ma, 0, mc, []⟩, ⟨some ⟨W.heap.size, 0, none⟩, 1, 1, cellsK [p']⟩, ⟨ma, 0, mc, []⟩] = ps := ⟨_, rfl⟩
          have HPA : Hid (Parts 6 (Y.alloc (.cells #[.slice ma 0 mc, .slice (some ⟨W.heap.size, 0, none⟩) 1 1, .slice ma 0 mc] 52)) ⟨Y.heap.size, 0, none⟩ ps) := by
            have := parts_three (T := 52) (hL1.carry bY (Nat.le_refl _)) (hY ▸ lies_alloc (sz := 6) (n := 1) (X := W) (T := 35) (C := #[.int .i64 p'.f, .int .i64 p'.t, .int .u64 p'.i, .int .i64 p'.x, .int .i64 p'.c, .slice p'.so p'.sn p'.sc]) (cs := cellsK [p']) rfl rfl (by omega)) (hL1.carry bY (Nat.le_refl _)) (fun _ h => by cases h) (cellsK_one _) (fun _ h => by cases h)
            rw [← hps]; exact this
          have HL3 : Hid (ps.length = 3) := by show _ = _; rw [← hps]; rfl
          have HSU : Hid (sumN ps 3 = 0 + 1) := by show _ = _; rw [← hps]; simp [sumN]
          have HFL : Hid (flatV ps 3 = cellsK (insF L p')) := by
            show _ = _
            rw [← hps]
            rw [HLNIL.out, ins_nil]
            simp [flatV, cellsK]
          have f0 := HBP.out.c0
          have f1 := HBP.out.c1
          have f2 := HBP.out.c2
          have f3 := HBP.out.c3
          have f4 := HBP.out.c4
          have f5 := HBP.out.c5
          clear hps hp' bY hL1 b2 B2 N2 hbx b3
          go_wp2_with fail
          go_region_with (first | (go_at_call 20; go_must (refine (concat_anyP _ 3 ps _ HL3.out (by omega) (HPA.out.carry (below_d _ 1)) (by rw [HSU.out]; omega)).mono ?_); rintro e w5 ⟨v5, rfl, ao5, c5, rfl, A5, b5, n5⟩; have HEND := hide (wth_end HPM.out HBW2.out HLW.out HPH2.out HNM.out HNN.out (below_one (below_one HBY.out (below_alloc Y (.cells #[.slice ma 0 mc, .slice (some ⟨W.heap.size, 0, none⟩) 1 1, .slice ma 0 mc] 52))) (below_d _ 1)) (HFL.out ▸ A5) b5 n5 HSU.out); rw [HSU.out]; clear A5 b5 n5))
          all_goals
            go_wp2
            go_ret2
            exact HEND.out HOK.out
        · have hn0 : 0 < j := by omega
          have hn0i : (0 : Int) < (j : Int) := by omega
          obtain ⟨ad, rfl⟩ := HPW.out.there (k := 0) hn0
          rw [decide_eq_true hn0, Bool.true_and] at hmis
          obtain ⟨z, hz⟩ : ∃ z, L.getD 0 Pa.zero = z := ⟨_, rfl⟩
          rw [hz] at hmis
          have z4 := fun q => (HPW.out.six0 (below_d wr q) hn0 z hz).2.2.2.2.1
          clear hz
          cases hc : (z.c != p.c) with
          | true =>
            have HOK : Hid (okW L p = false) := by show _ = _; unfold okW; rw [hmis, hc]; simp
            clear hdup hmis
            go_wp2_with fail
            go_quiet (fail)
            go_wp2_with fail
            go_quiet (fail)
            go_wp2_with fail
            go_quiet (fail)

            go_wp2
            go_ret2
            exact wth_no HOK.out (below_one HBW.out (below_one (below_one (below_d wr _) (below_d _ _)) (below_d _ _)))
          | false =>
            have HOK : Hid (okW L p = true) := by show _ = _; unfold okW; rw [hdup, hmis, hc]; rfl
            clear hdup hmis
            go_wp2_with fail
            go_quiet (fail)
            go_wp2_with fail
            go_quiet (fail)
            go_wp2_with fail
            go_quiet (fail)

            generalize hV : World.drewN (World.drewN (World.drewN wr _) _) _ = V
            have HWV : Hid (Below wr.heap.size wr V) := by show Below _ _ _; rw [← hV]; exact below_one (below_one (below_d wr _) (below_d _ _)) (below_d _ _)
            have HB := hide (below_one HB.out HWV.out)
            have HBW := hide (below_one HBW.out HWV.out)
            have v5 := (HBX.out.six HB.out).2.2.2.2.2
            clear hV p3 p4 p5

            go_wp2_with fail
            refine (clone_any _ _ _ p.l _ (Bts.carry HPH.out HBW.out) (by omega)).mono ?_; rintro e w2 ⟨co, cc, rfl, B2, N2, b2⟩
            have hbx := HBX.out.carry (below_one HB.out b2) (Nat.le_refl _)
            have d5 := hbx.c5
            have dz5 := hbx.z 5
            obtain ⟨W, hW⟩ : ∃ W, w2.setCell ⟨w.heap.size, 5, none⟩ (.slice co p.sn cc) = W := ⟨_, rfl⟩
            obtain ⟨p', hp'⟩ : ∃ p' : Pa, ⟨p.f, p.t, p.i, p.x, p.c, co, p.sn, cc, p.l⟩ = p' := ⟨_, rfl⟩
            have HBP : Hid (BoxK W w.heap.size p') := by show BoxK _ _ _; rw [← hW, ← hp']; exact hbx.put5 co p.sn cc
            have HFW : Hid (Foot (fun jj => jj = w.heap.size) w2 W) := by show Foot _ _ _; rw [← hW]; exact foot_set w2 ⟨w.heap.size, 5, none⟩ _
            have b3 := below_one HBW.out b2
            have HBW2 : Hid (Below w.heap.size w W) := ((below_foot (fun jj => jj = w.heap.size) b3).then HFW.out).below (Nat.le_refl _) (fun kk e => by omega)
            have HLW := hide (HPM.out.carry HBW2.out)
            have HNN : Hid (New w co) := New.le N2 HBW.out.size
            have HPH2 : Hid (p'.has W) := by
              show Bts _ _ _ _ _
              rw [← hp']
              refine Bts.foot B2 HFW.out (fun ad e _ => ?_)
              have := N2 ad e
              have := lt_of_heap (HBX.out.carry HB.out (Nat.le_refl _))
              show ¬ ad.block = w.heap.size
              omega
            have HNM : Hid (p'.nm = p.nm ∧ p'.sn = p.sn ∧ p'.x = p.x ∧ p'.so = co) := by rw [← hp']; exact ⟨rfl, rfl, rfl, rfl⟩
            have hc1 := fun W : World => cutG_head Try.underlying52 Try.sizeOfP W (some ad) j mc j (by omega)
            have hc2 := fun W : World => cutG_tail Try.underlying52 Try.sizeOfP W (some ad) j mc j (by omega)
            have hL1 := HLW.out.1.head j (by omega)
            have hL2 := HLW.out.1.tail j (by omega)
            obtain ⟨ta, hta⟩ : ∃ X, tailG 6 (some ad) j mc = X := ⟨_, rfl⟩
            obtain ⟨tn, htn⟩ : ∃ X, j - j = X := ⟨_, rfl⟩
            obtain ⟨tc, htc⟩ : ∃ X, mc - j = X := ⟨_, rfl⟩
            rw [hta, htn, htc] at hc2 hL2
            rw [cellsK_take] at hL1
            rw [cellsK_drop] at hL2
            have htnn : j + tn = j := by omega
            have HTN := hide htnn
            obtain ⟨Y, hY⟩ : ∃ Y, W.alloc (.cells #[.int .i64 p'.f, .int .i64 p'.t, .int .u64 p'.i, .int .i64 p'.x, .int .i64 p'.c, .slice p'.so p'.sn p'.sc] 35) = Y := ⟨_, rfl⟩
            have bY : Below W.heap.size W Y := hY ▸ below_alloc W _
            have HBY := hide bY
            obtain ⟨ps, hps⟩ : ∃ ps : List Prt, [⟨some ad, j, mc, cellsK (L.take j)⟩, ⟨some ⟨W.heap.size, 0, none⟩, 1, 1, cellsK [p']⟩, ⟨ta, tn, tc, cellsK (L.drop j)⟩] = ps := ⟨_, rfl⟩
            have HPA : Hid (Parts 6 (Y.alloc (.cells #[.slice (some ad) j mc, .slice (some ⟨W.heap.size, 0, none⟩) 1 1, .slice ta tn tc] 52)) ⟨Y.heap.size, 0, none⟩ ps) := by
              have := parts_three (T := 52) (hL1.carry bY (Nat.le_refl _)) (hY ▸ lies_alloc (sz := 6) (n := 1) (X := W) (T := 35) (C := #[.int .i64 p'.f, .int .i64 p'.t, .int .u64 p'.i, .int .i64 p'.x, .int .i64 p'.c, .slice p'.so p'.sn p'.sc]) (cs := cellsK [p']) rfl rfl (by omega)) (hL2.carry bY (Nat.le_refl _)) (cellsK_one _) (cellsK_one _) (cellsK_one _)
              rw [← hps]; exact this
            have HL3 : Hid (ps.length = 3) := by show _ = _; rw [← hps]; rfl
            have HSU : Hid (sumN ps 3 = j + 1) := by show _ = _; rw [← hps]; simp [sumN]; omega
            have HFL : Hid (flatV ps 3 = cellsK (insF L p')) := by
              show _ = _
              rw [← hps]
              unfold insF
              rw [HNM.out.2.2.1, HPL.out]
              simp [flatV, cellsK]
            have f0 := HBP.out.c0
            have f1 := HBP.out.c1
            have f2 := HBP.out.c2
            have f3 := HBP.out.c3
            have f4 := HBP.out.c4
            have f5 := HBP.out.c5
            clear hps hp' hta htn htc bY hL1 hL2 b2 B2 N2 hbx b3
            go_wp2_with fail
            go_region_with (first | (go_at_call 20; go_must (refine (concat_anyP _ 3 ps _ HL3.out (by omega) (HPA.out.carry (below_d _ 1)) (by rw [HSU.out]; omega)).mono ?_); rintro e w5 ⟨v5, rfl, ao5, c5, rfl, A5, b5, n5⟩; have HEND := hide (wth_end HPM.out HBW2.out HLW.out HPH2.out HNM.out HNN.out (below_one (below_one HBY.out (below_alloc Y (.cells #[.slice (some ad) j mc, .slice (some ⟨W.heap.size, 0, none⟩) 1 1, .slice ta tn tc] 52))) (below_d _ 1)) (HFL.out ▸ A5) b5 n5 HSU.out); rw [HSU.out]; clear A5 b5 n5))
            all_goals
              go_wp2
              go_ret2
              exact HEND.out HOK.out
end Go.Proofs.Ytdfakeddhoolcaa
