/-
  SegmentScript (P9.1 to P9.3): segments that are made, grown, written, read and deleted are what the document says, deed by deed; pages are left as they say: of up to 40 pages: its walk.
-/
import Derived.Test.YtppdammgmnihgaaDoorSStep
import Derived.Test.YtppdammgmnihgaaDoorSAct
namespace Go.Proofs.YtppdammgmnihgaaDoor
open Go.RowKit
set_option maxRecDepth 100000 in
theorem new_model (n : Nat) : Tryd.zeroCells31.setIfInBounds 128 (.int .i64 (n : Int)) = boxM n L0 (fun _ => .slice none 0 0) := by rfl
theorem mod_new {w : World} (B n : Nat) (hB : B ≤ w.heap.size) : ModAt (w.alloc (.cells (boxM n L0 (fun _ => .slice none 0 0)) 31)) B w.heap.size n L0 (fun _ => .slice none 0 0) :=
  ⟨heap_alloc_new _ _, hB, fun _ _ => rfl, (fun _ _ e => by cases e), (fun _ _ _ _ _ e => by cases e)⟩
theorem addS (a : Addr) (j : Nat) : a.add (j + 1) = { block := a.block, off := a.off + (j + 1) } := by unfold Addr.add; rw [if_neg (by omega)]
def ScrRel (w1 : World) (B st mo n N gk : Nat) (vi : Value) (wr : World) : Prop := ∃ k : Nat, k + gk = N ∧ vi = .int .i64 k ∧ Hid (Both w1 B st mo n wr)
def EndRel (w1 : World) (B st mo n : Nat) (L : Nat → Option (List UInt8)) (sl : Nat → Value) (gk : Nat) (vi : Value) (wr : World) : Prop := ∃ k : Nat, k + gk = 64 ∧ vi = .int .i64 k ∧ Hid (St wr B st n L) ∧ Hid (ModAt wr B mo n L sl) ∧ Hid (Below B w1 wr)
set_option maxRecDepth 20000 in
set_option maxHeartbeats 1600000 in
theorem walk_script (q : Nat) (ao : Option Addr) (N cap : Nat) (xs : List Ac) (w : World) (_hq : q ≤ 255) (ha : Acts w ao N cap xs) (hN : N ≤ 140737488351232) (hg : Glob w) :
    Calls Tryd.prog 3 #[.int .u8 (q : Int), .slice ao N cap] w fun e w' => e = .returned (.bool true) ∧ Below w.heap.size w w' := by
  have HG := hide hg
  have HA := hide ha
  have hcap : cap ≤ 9223372036854775807 := ha.2.2.1
  have hnc : N ≤ cap := ha.2.1
  obtain ⟨n, hn⟩ : ∃ n, q % 41 = n := ⟨_, rfl⟩
  have hqm : (q : Int) % 41 = (n : Int) := by omega
  have hqt : (q : Int).tmod 41 = (n : Int) := by rw [← hn]; rfl
  have hn40 : n ≤ 40 := by omega
  obtain ⟨C, hC⟩ : ∃ C, Tryd.zeroCells31.setIfInBounds 128 (.int .i64 (n : Int)) = C := ⟨_, rfl⟩
  have HC := hide ((new_model n).symm.trans hC)
  clear hg ha hn
  go_enter Tryd.func3, Tryd.ntmps3
  go_wp2_with fail
  refine (awake_any _ HG.out).mono ?_; rintro e w1 ⟨rfl, b1⟩
  have HB1 := hide b1
  have HG1 := hide (HG.out.grow b1 HG.out.lt)
  have HA1 := hide (HA.out.carry b1)
  clear b1 HA HG
  go_wp2_with fail
  refine (sof_any (n : Int) w1 n (by unfold clampF; omega) (by omega)).mono ?_; rintro e w2 ⟨st, rfl, S2, b2⟩
  have H2 : Hid (St w2 w1.heap.size st n L0) := S2
  have HB2 := hide b2
  clear S2 b2
  go_wp2_with fail
  obtain ⟨mo, hmo⟩ : ∃ mo, w2.heap.size = mo := ⟨_, rfl⟩
  have M2 := mod_new (w := w2) w1.heap.size n HB2.out.size
  rw [HC.out, hmo] at M2
  have HBO : Hid (Both w1 w1.heap.size st mo n (w2.alloc (.cells C 31))) := ⟨_, _, H2.out.grow (below_alloc _ _), M2, HB2.out.trans ((below_alloc _ _).mono HB2.out.size)⟩
  rw [hmo]
  clear M2 hmo hC HC H2
  go_loopg [25] N (fun gk vi wr => ScrRel w1 w1.heap.size st mo n N gk vi wr)
  case atStart => exact ⟨0, by omega, rfl, HBO⟩
  case round =>
    clear HBO
    obtain ⟨k, hk, rfl, HBO⟩ := hrel
    obtain ⟨L, sl, S3, M3, b3⟩ := HBO.out
    have H3 := hide S3
    have HM3 := hide M3
    have HB3 := hide b3
    clear HBO S3 M3 b3
    cases gk with
    | zero =>
      as_aux_lemma =>
        have hlt : ¬ ((k : Int) < (N : Int)) := by omega
        go_wp2_with fail
        go_loopg [9] 64 (fun gk vi wq => EndRel w1 w1.heap.size st mo n L sl gk vi wq)
        case atStart => exact ⟨0, by omega, rfl, H3, HM3, HB3⟩
        case round =>
          rename World => wq
          clear H3 HM3 HB3 hlt
          obtain ⟨j, hj, rfl, H3, HM3, HB3⟩ := hrel
          cases gk with
          | zero =>
            obtain rfl : j = 64 := by omega
            go_wp2
            go_ret
            exact ⟨rfl, HB1.out.trans (HB3.out.mono HB1.out.size)⟩
          | succ g1 =>
            have hlt : ((j : Int) < 64) := by omega
            have hj64 : j < 64 := by omega
            have hj0 : (0 : Int) ≤ (j : Int) := by omega
            have ct := HM3.out.ct j hj64
            have cs := HM3.out.cs j hj64
            cases hL : L j with
            | none =>
              rw [hL] at ct
              rw [HM3.out.nil j hL] at cs
              replace ct : wq.cell? ⟨mo, j, none⟩ = some (.bool false) := ct
              have HNO : Hid (pickF L (j : Int) = none) := by show _ = _; rw [pickF_nat L j hj64]; exact hL
              clear hL
              go_wp2_with fail
              refine (tread_none (j : Int) 0 0 _ H3.out HNO.out).mono ?_; rintro e w5 ⟨rfl, rfl⟩
              unfold errV
              go_wp2_with fail
              go_quiet (fail)
              go_wp2
              go_roundg g1
              case measure => omega
              case rel => exact ⟨j + 1, by omega, by go_num, H3.out.grow (below_drewN (Below.refl _ _) _), HM3.out.grow (below_drewN (Below.refl _ _) _), below_drewN HB3.out _⟩
            | some l =>
              rw [hL] at ct
              replace ct : wq.cell? ⟨mo, j, none⟩ = some (.bool true) := ct
              obtain ⟨co, cc, hform, hcc, hlc⟩ := HM3.out.form j l hL
              rw [hform] at cs
              obtain ⟨m, hm⟩ : ∃ m, l.length = m := ⟨_, rfl⟩
              have HLEN := hide hm
              have HFORM := hide hform
              have HL := hide hL
              have hmost := (H3.out.most j l hL).1
              rw [hm] at cs hlc hmost HFORM
              clear hm hform hL
              go_wp2_with fail
              refine (tread_yes j 0 m l _ H3.out HL.out (by rw [HLEN.out]; omega)).mono ?_; rintro e w5 ⟨c5, cc5, rfl, R5, b5⟩
              rw [show pieceF l 0 m = l by unfold pieceF; rw [List.drop_zero, List.take_of_length_le (by rw [HLEN.out]; omega)]] at R5
              have H5 := hide (H3.out.grow b5)
              have HM5 := hide (HM3.out.grow b5)
              have HB5 := hide (HB3.out.trans (b5.mono HB3.out.size))
              have ct5 := HM5.out.ct j hj64
              rw [HL.out] at ct5
              replace ct5 : w5.cell? ⟨mo, j, none⟩ = some (.bool true) := ct5
              have cs5 := HM5.out.cs j hj64
              rw [HFORM.out] at cs5
              have B5 : Bts w5 co m cc l := by
                have := HM5.out.row j l HL.out
                rw [HFORM.out, HLEN.out] at this; exact row5_bts this
              obtain ⟨Z, hZ⟩ : ∃ Z, str l = Z := ⟨_, rfl⟩
              have cv1 : ∀ q, (convert 28 9 (.slice c5 m cc5)).run Tryd.prog (w5.drewN q) = .ok (.string Z) (w5.drewN q) := fun q => by rw [← hZ]; exact conv_bts ((row5_bts R5).drewN q)
              have cv2 : ∀ q, (convert 28 9 (.slice co m cc)).run Tryd.prog (w5.drewN q) = .ok (.string Z) (w5.drewN q) := fun q => by rw [← hZ]; exact conv_bts (B5.drewN q)
              clear R5 b5 B5 hZ cs ct
              go_wp2_with fail
              go_quiet (fail)
              go_wp2
              go_roundg g1
              case measure => omega
              case rel => exact ⟨j + 1, by omega, by go_num, H5.out.grow (below_drewN (Below.refl _ _) _), HM5.out.grow (below_drewN (Below.refl _ _) _), below_drewN HB5.out _⟩
    | succ g1 =>
      have hlt : ((k : Int) < (N : Int)) := by omega
      have hkN : k < N := by omega
      cases ao with
      | none => have := HA1.out.2.2.2.1 rfl; omega
      | some ad =>
        obtain ⟨o, id, x, y, so, sn, sc, l, hact⟩ : ∃ o id x y so sn sc l, xs.getD k Ac.zero = ⟨o, id, x, y, so, sn, sc, l⟩ := ⟨_, _, _, _, _, _, _, _, rfl⟩
        obtain ⟨⟨ho, hid, hx, hy⟩, _, e0, e1, e2, e3, e4⟩ := (HA1.out.carry HB3.out).2.2.2.2 ad rfl k hkN
        have hbts := (HA1.out.2.2.2.2 ad rfl k hkN).2.1
        simp only [hact] at ho hid hx hy hbts e0 e1 e2 e3 e4
        rw [addS _ 0] at e1
        rw [addS _ 1] at e2
        rw [addS _ 2] at e3
        rw [addS _ 3] at e4
        have HNU : Hid (Nums id x y) := ⟨hid.1, hid.2, hx.1, hx.2, hy.1, hy.2⟩
        have HD1 : Hid (Dat w1.heap.size w1 so sn sc l) := ⟨hbts, fun h0 ad e => by
          have := lt_of_cell (hbts.2.2.2.2 ad e 0 (by rw [← hbts.1]; exact h0)); rw [add_block] at this; exact this⟩
        obtain ⟨X, hX⟩ : ∃ X, wr.alloc (.cells #[.int .u8 (o : Int), .int .i8 id, .int .i16 x, .int .i16 y, .slice so sn sc] 35) = X := ⟨_, rfl⟩
        have belX : Below wr.heap.size wr X := hX ▸ below_alloc wr _
        have HBX := hide (HB3.out.trans (belX.mono HB3.out.size))
        have HIN : Hid (In X w1.heap.size st mo n L sl so sn sc l) := ⟨H3.out.grow belX, HM3.out.grow belX, HD1.out.carry HBX.out, HG1.out.grow HBX.out HG1.out.lt, HG1.out.lt, HBX.out.size⟩
        have AX : ActAt X wr.heap.size (o : Int) id x y (.slice so sn sc) := by rw [← hX]; exact heap_alloc_new _ _
        have d0 := AX.c0
        have d1 := AX.c1
        have d2 := AX.c2
        have d3 := AX.c3
        have d4 := AX.c4
        clear hact hbts belX H3 HM3 HB3 hid hx hy HD1 AX
        go_wp2_with fail
        refine (step_any o _ HIN.out HNU.out).mono ?_; rintro e w5 ⟨rfl, B5⟩
        obtain ⟨L5, sl5, S5, M5, b5⟩ := B5
        have H5 := hide S5
        have HM5 := hide M5
        have HB5 := hide (HBX.out.trans b5)
        obtain ⟨z, hz⟩ : ∃ z, leftL n L5 = z := ⟨_, rfl⟩
        have HZ := hide hz
        clear S5 M5 b5 hz HIN hX d0 d1 d2 d3 d4 e0 e1 e2 e3 e4
        go_wp2_with fail
        refine (sleft_any _ H5.out).mono ?_; rintro e w6 ⟨rfl, rfl⟩
        rw [HZ.out]
        go_wp2_with fail
        refine (mleft_any _ HM5.out (by omega) H5.out.sum.1).mono ?_; rintro e w7 ⟨rfl, rfl⟩
        rw [HZ.out]
        go_wp2
        go_roundg g1
        case measure => omega
        case rel => exact ⟨k + 1, by omega, by go_num, _, _, H5.out, HM5.out, HB5.out⟩
end Go.Proofs.YtppdammgmnihgaaDoor
