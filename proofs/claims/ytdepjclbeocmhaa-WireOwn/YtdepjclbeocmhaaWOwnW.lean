/-
  The walk of WireOwn.
-/
import Derived.Test.YtdepjclbeocmhaaFRead
namespace Go.Proofs.Ytdepjclbeocmhaa
open Go.RowKit
/- the block that a slice lies in -/
def Bk (ao : Option Addr) (k : Nat) : Prop := ∃ ad, ao = some ad ∧ ad.block = k
/- a row of one's own, of bytes whatever -/
def OwnB (w : World) (b n : Nat) : Prop := ∃ cur, w.heap[b]? = some (.cells cur 5 (0, 0)) ∧ ∀ j, j < n → ∃ z : Nat, z ≤ 255 ∧ cur[j]? = some (.int .u8 (z : Int))
theorem OwnB.put {w : World} {b n : Nat} (h : OwnB w b n) (i z : Nat) (hz : z ≤ 255) : OwnB (w.setCell ⟨b, i, none⟩ (.int .u8 (z : Int))) b n := by
  obtain ⟨cur, h1, h2⟩ := h
  refine ⟨_, heap_setCell_same w b i _ _ _ h1, fun j hj => ?_⟩
  obtain ⟨y, hy, hc⟩ := h2 j hj
  have hl := (Array.getElem?_eq_some_iff.1 hc).1
  rw [Array.getElem?_setIfInBounds]
  by_cases e : i = j
  · subst e
    exact ⟨z, hz, by rw [if_pos rfl, if_pos hl]⟩
  · exact ⟨y, hy, by rw [if_neg e]; exact hc⟩
theorem own_any {w : World} {B n cap : Nat} {ao : Option Addr} {l : List UInt8} (h : w.ownsRow B 5 1 (.slice ao n cap) n (cellsB l)) : ∀ ad, ao = some ad → ad = ⟨ad.block, 0, none⟩ ∧ B ≤ ad.block ∧ ad.block < w.heap.size ∧ OwnB w ad.block n := by
  intro ad e
  obtain ⟨ao', cap', e2, hb⟩ := owns_bts h
  cases e2
  rcases h.2 with ⟨h0, _⟩ | ⟨k, c, cur, h1, h2, h3, h4, h5, h6, _⟩
  · cases h0; cases e
  · cases h1; cases e
    refine ⟨rfl, h2, lt_of_heap h3, cur, h3, fun j hj => ?_⟩
    have := hb.2.2.2.2 _ rfl j (by rw [← hb.1]; exact hj)
    rw [add0, cell_of_row w k j _ _ _ h3] at this
    exact ⟨_, by have := (l.getD j 0).toNat_lt; omega, this⟩
def OwRel (w : World) (g : Nat) (so : Option Addr) (p : Pa) (n gk : Nat) (vi : Value) (wq : World) : Prop :=
  ∃ i : Nat, i + gk = n ∧ vi = .int .i64 (i : Int) ∧ St wq g (Bk so) [p, p] ∧ (∀ ad, so = some ad → OwnB wq ad.block n) ∧ Below w.heap.size w wq
set_option maxRecDepth 20000 in
set_option maxHeartbeats 3200000 in
theorem walk_own (ao : Option Addr) (n cap : Nat) (zs : List Int) (z : Nat) (w : World) (hr : RowOf .u8 w ao n cap zs) (hs : cap * 1 ≤ 140737488351232) (_hz : z ≤ 255) :
    Calls Try.prog 4 #[.slice ao n cap, .int .u8 (z : Int)] w fun e w' => e = .returned (.bool true) ∧ Below w.heap.size w w' := by
  obtain ⟨l, hb⟩ := hr.bytes
  have HD := hide hb
  have hnc := hb.2.1
  clear hr hb
  go_enter Try.func4, Try.ntmps4
  go_wp2_with fail
  refine (awake_any _).mono ?_; rintro e W ⟨rfl, b1⟩
  have HB1 := hide b1
  clear b1
  obtain ⟨X, hX⟩ : ∃ X, W.alloc (.cells #[.slice none 0 0] 26) = X := ⟨_, rfl⟩
  have HBX : Hid (Below w.heap.size w X) := below_one HB1.out (hX ▸ below_alloc W _)
  obtain ⟨g, hg⟩ : ∃ g, W.heap.size = g := ⟨_, rfl⟩
  have HST : Hid (∀ S, St X g S []) := fun S => by rw [← hX, ← hg]; exact st_new W S
  have HG : Hid (w.heap.size ≤ g) := by show _ ≤ _; rw [← hg]; exact HB1.out.size
  obtain ⟨v1, w1, hr, own, hB⟩ := app_bytes X X.heap.size (.slice none 0 0) 0 [] (owns_nil _ _ _ _) ao n cap l (HD.out.carry HBX.out) (Nat.le_refl _) (by omega)
  rw [Nat.zero_add, List.nil_append] at own
  have bw1 := hB X (Below.refl _ _)
  obtain ⟨so, sc, rfl, hbs⟩ := owns_bts own
  have ho := own_any own
  have HR := hide hr
  have HOW := hide ho
  have HBS := hide hbs
  have HBW := hide bw1
  have HBW0 := hide (below_one HBX.out bw1)
  have HS1 : Hid (St w1 g (Bk so) []) := (HST.out _).grow bw1
  have HGL : Hid (g < X.heap.size) := (HST.out NoS).lt
  have HK : Hid (∀ k, Bk so k → X.heap.size ≤ k ∧ k < w1.heap.size) := fun k h => by
    obtain ⟨ad, e, rfl⟩ := h
    exact ⟨(HOW.out ad e).2.1, (HOW.out ad e).2.2.1⟩
  obtain ⟨q, hq⟩ : ∃ q : Pa, q = (⟨0, 0, 0, 0, 0, so, n, sc, l⟩ : Pa).nm := ⟨_, rfl⟩
  have HPL : Hid (q.l = l) := by rw [hq]; rfl
  have HQ := hide hq
  clear hq
  clear hr own hB hbs ho bw1
  go_wp2_with (at_builtin; refine wpList_append_run rfl _ _ _ rfl _ _ _ _ rfl rfl HR.out ?_)
  clear hX hg
  go_wp2_with fail
  refine (send_any ⟨0, 0, 0, 0, 0, so, n, sc, l⟩ _ HS1.out (fun k h => (HK.out k h).2) HBS.out (show n ≤ _ by omega)).mono ?_; rintro e w2 ⟨rfl, s2, f2⟩
  rw [show sendE [] = 0 from rfl, erN_zero]
  rw [← HQ.out, show sendL [] q = [q] from rfl] at s2
  have HS2 := hide s2
  have HB2 := hide (foot_on HBW0.out HG.out f2)
  have HF2 := hide f2
  clear s2 f2
  go_wp2_with fail
  refine (double_any 0 _ HS2.out (fun k h => Nat.lt_of_lt_of_le (HK.out k h).2 HF2.out.size)).mono ?_; rintro e w3 ⟨rfl, s3, f3⟩
  rw [show dblE [q] = 0 from rfl, erN_zero]
  rw [show dblL [q] 0 = [q, q] from rfl] at s3
  have HS3 := hide s3
  have HB3 := hide (foot_on HB2.out HG.out f3)
  have HF3 := hide (HF2.out.then f3)
  have HO3 : Hid (∀ ad, so = some ad → OwnB w3 ad.block n) := fun ad e => by
    obtain ⟨_, h2, h3, cur, h4, h5⟩ := HOW.out ad e
    exact ⟨cur, (HF3.out.block _ h3 (by have := HGL.out; omega)).trans h4, h5⟩
  clear s3 f3
  go_wp2
  go_loopg [28] n (fun gk vi wq => OwRel w g so q n gk vi wq)
  case atStart => exact ⟨0, by omega, rfl, HS3.out, HO3.out, HB3.out⟩
  case round =>
    rename World => wq
    obtain ⟨i, hi, rfl, st, ow, b⟩ := hrel
    have HS := hide st
    have HB := hide b
    have HO := hide ow
    clear st b ow
    cases gk with
    | zero =>
      obtain rfl : i = n := by omega
      have hlt : ¬ ((i : Int) < (i : Int)) := by omega
      clear hi
      have HSZ : Hid (∀ k, Bk so k → k < wq.heap.size) := fun k h => by
        obtain ⟨ad, e, rfl⟩ := h
        obtain ⟨cur, h1, _⟩ := HO.out ad e
        exact lt_of_heap h1
      go_wp2_with fail
      refine (arrive_any 0 _ HS.out HSZ.out (by simp)).mono ?_; rintro e w4 ⟨y, rfl, E4⟩
      have s4 := E4.st
      rw [show placeF 0 [q, q].length = 0 from rfl, show [q, q].eraseIdx 0 = [q] from rfl] at s4
      have HYL : Hid (y.l = l) := by
        have := congrArg Pa.l E4.nm
        rw [show placeF 0 [q, q].length = 0 from rfl, show [q, q].getD 0 Pa.zero = q from rfl, HPL.out] at this
        exact this
      have b4 := foot_on HB.out HG.out E4.ft
      have n4 := E4.new
      have h4 : Bts w4 y.so y.sn y.sc y.l := E4.has
      obtain ⟨Y, hY⟩ : ∃ Y, w4.alloc (.cells #[.int .i64 y.f, .int .i64 y.t, .int .u64 y.i, .int .i64 y.x, .int .i64 y.c, .slice y.so y.sn y.sc] 33) = Y := ⟨_, rfl⟩
      have bY : Below w4.heap.size w4 Y := hY ▸ below_alloc w4 _
      have HBQ : Hid (BoxK Y w4.heap.size y) := hY ▸ boxK_new w4 y
      have HSY := hide (s4.grow bY)
      have HBY := hide (below_one b4 bY)
      have HHY := hide (h4.carry bY)
      have HNY : Hid (OffO (· = g) y.sn y.so) := fun _ ad e h => by have := n4 ad e; have := HS.out.lt; omega
      have HSY2 : Hid (∀ k, Bk so k → k < Y.heap.size) := fun k h => Nat.lt_of_lt_of_le (HSZ.out k h) (Nat.le_trans E4.ft.size bY.size)
      have HGY : Hid (g < w4.heap.size) := s4.lt
      obtain ⟨r, hr⟩ : ∃ r, w4.heap.size = r := ⟨_, rfl⟩
      rw [hr] at HBQ HGY
      clear E4 s4 b4 bY n4 h4
      go_wp2_with fail
      refine (arrive_any 0 _ HSY.out HSY2.out (by simp)).mono ?_; rintro e w5 ⟨x, rfl, E5⟩
      have HXL : Hid (x.l = l) := by
        have := congrArg Pa.l E5.nm
        rw [show placeF 0 [q].length = 0 from rfl, show [q].getD 0 Pa.zero = q from rfl, HPL.out] at this
        exact this
      have b5 := foot_on HBY.out HG.out E5.ft
      have h5 : Bts w5 x.so x.sn x.sc x.l := E5.has
      obtain ⟨Z, hZ⟩ : ∃ Z, w5.alloc (.cells #[.int .i64 x.f, .int .i64 x.t, .int .u64 x.i, .int .i64 x.x, .int .i64 x.c, .slice x.so x.sn x.sc] 33) = Z := ⟨_, rfl⟩
      have bZ : Below w5.heap.size w5 Z := hZ ▸ below_alloc w5 _
      have hbx : BoxK Z w5.heap.size x := hZ ▸ boxK_new w5 x
      have hby : BoxK Z r y := (BoxK.carry ((E5.ft.block _ (lt_of_heap HBQ.out) (by have := HGY.out; omega)).trans HBQ.out) bZ (Nat.le_refl _))
      have k1 := conv_bts (h5.carry bZ)
      have k2 := conv_bts ((Bts.footN HHY.out E5.ft HNY.out).carry bZ)
      have HBZ := hide (below_one b5 bZ)
      have k3 := conv_bts (HD.out.carry HBZ.out)
      rw [HXL.out] at k1
      rw [HYL.out] at k2
      have m1 := hbx.c5
      have m2 := hby.c5
      clear E5 b5 h5 bZ hbx hby
      go_wp2
      go_ret
      exact ⟨rfl, HBZ.out⟩
    | succ g1 =>
      have hin : i < n := by omega
      have hlt : (i : Int) < (n : Int) := by omega
      cases so with
      | none => exfalso; have := HBS.out.none rfl; omega
      | some ad =>
        obtain ⟨hadz, _, _, _⟩ := HOW.out ad rfl
        obtain ⟨b, hb⟩ : ∃ b, ad.block = b := ⟨_, rfl⟩
        rw [hb] at hadz
        subst hadz
        obtain ⟨cur, h1, h2⟩ := HO.out _ rfl
        obtain ⟨y, hy, hc⟩ := h2 i hin
        have k1 : wq.cell? ⟨b, i, none⟩ = some (.int .u8 (y : Int)) := by rw [cell_of_row wq b i _ _ _ h1]; exact hc
        have z1 : wq.frozen? ⟨b, i, none⟩ = false := frozen_of_row wq b i _ _ h1
        have hw : IntKind.u8.wrap ((y : Int) + (z : Int)) = (((y + z) % 256 : Nat) : Int) := by
          rw [IntKind.wrap_u8]; omega
        have hi2 : (i : Int) ≤ 140737488351232 := by omega
        obtain ⟨u, hu⟩ : ∃ u, (y + z) % 256 = u := ⟨_, rfl⟩
        have hu2 : u ≤ 255 := by omega
        rw [hu] at hw
        have HSN := hide (HS.out.foot ((foot_set wq ⟨b, i, none⟩ (.int .u8 (u : Int))).mono (fun k e => ⟨_, rfl, e.symm⟩)) (fun h => by have := (HK.out _ h).1; have := HGL.out; omega))
        have HON := hide ((HO.out _ rfl).put i u hu2)
        have HBN := hide (HB.out.trans ((foot_set wq ⟨b, i, none⟩ (.int .u8 (u : Int))).below HB.out.size (fun k e => by
          have h1 := (HK.out b ⟨_, rfl, rfl⟩).1
          have h2 := HBX.out.size
          rw [e]; exact Nat.le_trans h2 h1)))
        clear h1 h2 hc hu hb
        go_wp2
        go_roundg g1
        case measure => omega
        case rel => exact ⟨i + 1, by omega, by go_num, HSN.out, fun ad e => by cases e; exact HON.out, HBN.out⟩
end Go.Proofs.Ytdepjclbeocmhaa
