/-
  The walk of MailboxOwn.
-/
import Derived.Test.YtibdhjohjkdgdaaDoorFRead
namespace Go.Proofs.YtibdhjohjkdgdaaDoor
open Go.RowKit Go.Conc
/- append(b, d...) of an own row of bytes -/
theorem app_bytes (W : World) (B : Nat) (vb : Value) (m : Nat) (l : List UInt8) (own : W.ownsRow B 5 1 vb m (cellsB l)) (so : Option Addr) (sn sc : Nat) (r : List UInt8) (hb : Bts W so sn sc r) (hB : B ≤ W.heap.size) (hsz : m + sn ≤ 140737488355328) :
    ∃ v' w', (Builtin.append_ #[33, 33] 33 #[vb, .slice so sn sc]).run Tryd.prog W = .ok v' w' ∧ w'.ownsRow B 5 1 v' (m + sn) (cellsB (l ++ r)) ∧ (∀ a, Below B a W → Below B a w') := by
  obtain ⟨i0, hi, hz0, hz1, hz2⟩ := info_parts Tryd.info5
  cases so with
  | none =>
    obtain ⟨rfl, rfl⟩ := hb.none rfl
    obtain rfl : r = [] := List.eq_nil_of_length_eq_zero hb.1.symm
    obtain ⟨oa, oc, rfl, hl⟩ := owns_lies own
    exact ⟨_, W, app_none W Tryd.underlying33 hi oa m oc hl.2.1 hl.2.2.2.1, by simpa using own, fun _ h => h⟩
  | some ad =>
    obtain ⟨v4, w4, hrun, hown4, hgr4, _, _⟩ := run_append_own_at (P := Tryd.prog) W B 33 33 5 i0 _ 1 1 Tryd.underlying33 hi hz0 hz1 hz2 rfl (by omega) vb m _ own ad sn sc (cellsB r) (by rw [cellsB_len]; have := hb.1; omega) (hb.news ad rfl) (cellsB_one _) (by unfold maxLen; omega) (by omega) hB
    exact ⟨v4, w4, hrun, by rw [cellsB_append]; exact hown4, fun a h => below_grown h hB own hgr4⟩
def OwnB (w : World) (b n : Nat) : Prop := ∃ cur, w.heap[b]? = some (.cells cur 5 (0, 0)) ∧ ∀ j, j < n → ∃ z : Nat, z ≤ 255 ∧ cur[j]? = some (.int .u8 (z : Int))
theorem OwnB.put {w : World} {b n : Nat} (h : OwnB w b n) (i z : Nat) (hz : z ≤ 255) : OwnB (w.setCell ⟨b, i, none⟩ (.int .u8 (z : Int))) b n := by
  obtain ⟨cur, h1, h2⟩ := h
  refine ⟨_, heap_setCell_same w b i _ _ _ h1, fun j hj => ?_⟩
  obtain ⟨y, hy, hc⟩ := h2 j hj
  have hl := (Array.getElem?_eq_some_iff.1 hc).1
  rw [Array.getElem?_setIfInBounds]
  by_cases e : i = j
  · subst e
    exact ⟨z, hz, by rw [if_pos rfl, if_pos hl]⟩
  · exact ⟨y, hy, by rw [if_neg e]; exact hc⟩
theorem own_any {w : World} {B n cap : Nat} {ao : Option Addr} {l : List UInt8} (h : w.ownsRow B 5 1 (.slice ao n cap) n (cellsB l)) : ∀ ad, ao = some ad → ad = ⟨ad.block, 0, none⟩ ∧ B ≤ ad.block ∧ ad.block < w.heap.size ∧ OwnB w ad.block n := by
  intro ad e
  obtain ⟨ao', cap', e2, hb⟩ := owns_bts h
  cases e2
  rcases h.2 with ⟨h0, _⟩ | ⟨k, c, cur, h1, h2, h3, h4, h5, h6, _⟩
  · cases h0; cases e
  · cases h1; cases e
    refine ⟨rfl, h2, lt_of_heap h3, cur, h3, fun j hj => ?_⟩
    have := hb.2.2.2.2 _ rfl j (by rw [← hb.1]; exact hj)
    rw [add0, cell_of_row w k j _ _ _ h3] at this
    exact ⟨_, by have := (l.getD j 0).toNat_lt; omega, this⟩
theorem Bx.footN {w w' : World} {b cu co N : Nat} {U O : List Ms} {S : Nat → Prop} (x : Bx w b cu co N U O) (f : Foot S w w') (h1 : ¬ S b) (h2 : ¬ S cu) (h3 : ¬ S co) (hS : ∀ y ∈ U ++ O, ∀ ad, y.so = some ad → ¬ S ad.block) : Bx w' b cu co N U O :=
  ⟨(f.block b (lt_of_heap x.box) h1).trans x.box, x.urg.foot f h2, x.oth.foot f h3, x.ne, fun y hy => ⟨Bts.foot (x.has y hy).1 f (fun ad e _ => hS y hy ad e), fun hn ad e => by
    obtain ⟨cur, hc⟩ := (x.has y hy).2.1 hn ad e
    exact ⟨cur, (f.block _ (lt_of_heap hc) (hS y hy ad e)).trans hc⟩, (x.has y hy).2.2⟩, x.few⟩
theorem Bx.bne {w : World} {b cu co N : Nat} {U O : List Ms} (x : Bx w b cu co N U O) : b ≠ cu ∧ b ≠ co := by
  have h := x.box
  obtain ⟨s, r, h1⟩ := x.urg
  obtain ⟨s', r', h2⟩ := x.oth
  refine ⟨fun e => ?_, fun e => ?_⟩
  · rw [e, h1] at h; cases h
  · rw [e, h2] at h; cases h
set_option maxHeartbeats 800000 in
theorem no_asks (g : Nat) (o : Obj) : AsksOf 16 #[] g o (fun _ => false) := by
  refine ⟨fun xs w => by kernel_rfl, ?_, fun _ _ _ => rfl⟩
  intro y w _
  show Calls _ _ #[.agg #[.int .u64 y.ta, .int .u64 y.rp, .int .u32 y.id, .int .u16 y.op, .int .u16 y.st, .int .u64 y.p, .int .u32 y.o, .int .u8 y.r, .int .u64 y.c, .int .u64 y.ar, .slice y.so y.sn y.sc]] w _
  go_enter Tryd.func16, Tryd.ntmps16
  go_wp2
  go_ret
  exact ⟨rfl, below_alloc _ _⟩
theorem keep_no (K : List Ms) : keepF (fun _ => false) K = K := by unfold keepF; simp
theorem out_no (K : List Ms) : outF (fun _ => false) K = [] := by unfold outF; simp
def OwRelU (w : World) (b cu co : Nat) (so : Option Addr) (p : Ms) (n gk : Nat) (vi : Value) (wq : World) : Prop :=
  ∃ i : Nat, i + gk = n ∧ vi = .int .i64 (i : Int) ∧ Bx wq b cu co 1 [p] [] ∧ (∀ ad, so = some ad → OwnB wq ad.block n) ∧ Below w.heap.size w wq
set_option maxRecDepth 20000 in
set_option maxHeartbeats 6400000 in
theorem walk_own_true (ao : Option Addr) (n cap : Nat) (l : List UInt8) (z : Nat) (w : World) (hb : Bts w ao n cap l) (hn : n ≤ 140737488351232) (_hz : z ≤ 255) (hg : Glob w) :
    Calls Tryd.prog 5 #[.slice ao n cap, .int .u8 (z : Int), .bool true] w fun e w' => e = .returned (.bool true) ∧ Below w.heap.size w w' := by
  have HD := hide hb
  have HG := hide hg
  clear hb hg
  go_enter Tryd.func5, Tryd.ntmps5
  go_wp2_with fail
  refine (awake_any _ HG.out).mono ?_; rintro e w0 ⟨rfl, b0⟩
  have HB0 := hide b0
  clear b0
  go_wp2_with fail
  refine (of_any 1 _).mono ?_; rintro e X ⟨b, cu, co, rfl, x1, b1, h1, h2, h3⟩
  rw [show roomF 1 = 1 from rfl] at x1
  have HX1 := hide x1
  have H1 : Hid (w.heap.size ≤ b) := Nat.le_trans HB0.out.size h1
  have H2 : Hid (w.heap.size ≤ cu) := Nat.le_trans HB0.out.size h2
  have H3 : Hid (w.heap.size ≤ co) := Nat.le_trans HB0.out.size h3
  have HBX := hide (below_one HB0.out b1)
  clear x1 b1 h1 h2 h3
  obtain ⟨v1, w1, hr, own, hB⟩ := app_bytes X X.heap.size (.slice none 0 0) 0 [] (owns_nil _ _ _ _) ao n cap l (HD.out.carry HBX.out) (Nat.le_refl _) (by omega)
  rw [Nat.zero_add, List.nil_append] at own
  have bw1 := hB X (Below.refl _ _)
  obtain ⟨so, sc, rfl, hbs⟩ := owns_bts own
  have ho := own_any own
  have HR := hide hr
  have HOW := hide ho
  have HBS := hide hbs
  have HX2 := hide (HX1.out.grow bw1)
  have HB2 := hide (below_one HBX.out bw1)
  have hscm : sc ≤ 9223372036854775807 := hbs.2.2.1
  have hnsc := hbs.2.1
  clear hr own hB hbs ho bw1
  go_wp2_with (at_builtin; refine wpList_append_run rfl _ _ _ rfl _ _ _ _ rfl rfl HR.out ?_)
  go_wp2_with fail
  refine (putU_room ⟨0, 0, 0, 0, 0, 0, 0, 0, 0, 0, so, n, sc, l⟩ _ HX2.out HBS.out (show n ≤ _ by omega) (by decide)).mono ?_; rintro e w3 ⟨⟨p, rfl, hp, hpn, x3⟩, f3⟩
  have HX3 : Hid (Bx w3 b cu co 1 [p] []) := x3
  have HPN := hide hpn
  have HPL : Hid (p.l = l) := congrArg Ms.l hp
  have HB3 := hide (two_on HB2.out H2.out H3.out f3)
  have HO3 : Hid (∀ ad, so = some ad → OwnB w3 ad.block n) := fun ad e => by
    obtain ⟨_, _, _, cur, h4, h5⟩ := HOW.out ad e
    exact ⟨cur, HX2.out.other f3 h4, h5⟩
  clear x3 f3 hp hpn
  go_wp2
  go_loopg [26] n (fun gk vi wq => OwRelU w b cu co so p n gk vi wq)
  case atStart => exact ⟨0, by omega, rfl, HX3.out, HO3.out, HB3.out⟩
  case round =>
    obtain ⟨i, hi, rfl, st, ow, bl⟩ := hrel
    have HI := hide hi
    have HS := hide st
    have HB := hide bl
    have HO := hide ow
    clear st bl ow hi
    cases gk with
    | zero =>
      obtain rfl : i = n := by have := HI.out; omega
      have hlt : ¬ ((i : Int) < (i : Int)) := by omega
      go_wp2_with fail
      refine (all_any (no_asks b _) _ HS.out HS.out.box HS.out.bne.1 HS.out.bne.2).mono ?_; rintro e w4 ⟨v4, rfl, E4⟩
      have r4 := E4.row
      rw [out_no, out_no, List.append_nil] at r4
      obtain ⟨ao4, ac4, rfl, _⟩ := owns_lies r4
      have x4 := E4.bx
      rw [keep_no, keep_no] at x4
      have HX4 := hide x4
      have HB4 := hide (two_on HB.out H2.out H3.out E4.ft)
      rw [show ([] : List Ms).length = 0 from rfl]
      clear r4 x4 E4
      go_wp2_with fail
      refine (getU p _ HX4.out).mono ?_; rintro e w5 ⟨rfl, E5⟩
      obtain ⟨Z, hZ⟩ : ∃ Z, w5.alloc (.cells #[.int .u64 p.ta, .int .u64 p.rp, .int .u32 p.id, .int .u16 p.op, .int .u16 p.st, .int .u64 p.p, .int .u32 p.o, .int .u8 p.r, .int .u64 p.c, .int .u64 p.ar, .slice p.so p.sn p.sc] 35) = Z := ⟨_, rfl⟩
      have bZ : Below w5.heap.size w5 Z := hZ ▸ below_alloc w5 _
      have hbx : BoxM Z w5.heap.size p := hZ ▸ boxM_new w5 p
      have HBZ := hide (below_one (two_on HB4.out H2.out H3.out E5.ft) bZ)
      have k1 := conv_bts (Bts.carry E5.has bZ)
      have k2 := conv_bts (HD.out.carry HBZ.out)
      rw [HPL.out] at k1
      have m1 := hbx.all.2.2.2.2.2.2.2.2.2.2
      clear E5 bZ hbx
      go_wp2
      go_ret
      exact ⟨rfl, HBZ.out⟩
    | succ g1 =>
      have hin : i < n := by have := HI.out; omega
      have hlt : (i : Int) < (n : Int) := by omega
      cases so with
      | none => exfalso; have := HBS.out.none rfl; omega
      | some ad =>
        obtain ⟨hadz, hX, hw1, _⟩ := HOW.out ad rfl
        obtain ⟨c, hc0⟩ : ∃ c, ad.block = c := ⟨_, rfl⟩
        rw [hc0] at hadz hX hw1
        subst hadz
        obtain ⟨cur, h1, h2⟩ := HO.out _ rfl
        obtain ⟨y, hy, hc⟩ := h2 i hin
        have k1 : wr.cell? ⟨c, i, none⟩ = some (.int .u8 (y : Int)) := by rw [cell_of_row wr c i _ _ _ h1]; exact hc
        have z1 : wr.frozen? ⟨c, i, none⟩ = false := frozen_of_row wr c i _ _ h1
        have hw : IntKind.u8.wrap ((y : Int) + (z : Int)) = (((y + z) % 256 : Nat) : Int) := by
          rw [IntKind.wrap_u8]; omega
        obtain ⟨t, ht⟩ : ∃ t, (y + z) % 256 = t := ⟨_, rfl⟩
        have ht2 : t ≤ 255 := by omega
        rw [ht] at hw
        have ft := foot_set wr ⟨c, i, none⟩ (.int .u8 (t : Int))
        have hlow : ∀ k, k < X.heap.size → ¬ k = c := fun k h e => by omega
        have HSN := hide (HS.out.footN ft (hlow b (lt_of_heap HX1.out.box)) (hlow cu HX1.out.urg.lt) (hlow co HX1.out.oth.lt) (fun y hy ad e => by
          have e2 : y = p := by simpa using hy
          rw [e2] at e
          have := HPN.out ad e
          show ¬ ad.block = c
          omega))
        have HON := hide ((HO.out _ rfl).put i t ht2)
        have HBN := hide (HB.out.trans (ft.below HB.out.size (fun k e => by
          have h2 := HBX.out.size
          have e2 : k = c := e
          omega)))
        clear h1 h2 hc ht hc0 ft hlow hX hw1
        go_wp2
        go_roundg g1
        case measure => omega
        case rel => exact ⟨i + 1, by have := HI.out; omega, by go_num, HSN.out, fun ad e => by cases e; exact HON.out, HBN.out⟩
def OwRelO (w : World) (b cu co : Nat) (so : Option Addr) (p : Ms) (n gk : Nat) (vi : Value) (wq : World) : Prop :=
  ∃ i : Nat, i + gk = n ∧ vi = .int .i64 (i : Int) ∧ Bx wq b cu co 1 [] [p] ∧ (∀ ad, so = some ad → OwnB wq ad.block n) ∧ Below w.heap.size w wq
set_option maxRecDepth 20000 in
set_option maxHeartbeats 6400000 in
theorem walk_own_false (ao : Option Addr) (n cap : Nat) (l : List UInt8) (z : Nat) (w : World) (hb : Bts w ao n cap l) (hn : n ≤ 140737488351232) (_hz : z ≤ 255) (hg : Glob w) :
    Calls Tryd.prog 5 #[.slice ao n cap, .int .u8 (z : Int), .bool false] w fun e w' => e = .returned (.bool true) ∧ Below w.heap.size w w' := by
  have HD := hide hb
  have HG := hide hg
  clear hb hg
  go_enter Tryd.func5, Tryd.ntmps5
  go_wp2_with fail
  refine (awake_any _ HG.out).mono ?_; rintro e w0 ⟨rfl, b0⟩
  have HB0 := hide b0
  clear b0
  go_wp2_with fail
  refine (of_any 1 _).mono ?_; rintro e X ⟨b, cu, co, rfl, x1, b1, h1, h2, h3⟩
  rw [show roomF 1 = 1 from rfl] at x1
  have HX1 := hide x1
  have H1 : Hid (w.heap.size ≤ b) := Nat.le_trans HB0.out.size h1
  have H2 : Hid (w.heap.size ≤ cu) := Nat.le_trans HB0.out.size h2
  have H3 : Hid (w.heap.size ≤ co) := Nat.le_trans HB0.out.size h3
  have HBX := hide (below_one HB0.out b1)
  clear x1 b1 h1 h2 h3
  obtain ⟨v1, w1, hr, own, hB⟩ := app_bytes X X.heap.size (.slice none 0 0) 0 [] (owns_nil _ _ _ _) ao n cap l (HD.out.carry HBX.out) (Nat.le_refl _) (by omega)
  rw [Nat.zero_add, List.nil_append] at own
  have bw1 := hB X (Below.refl _ _)
  obtain ⟨so, sc, rfl, hbs⟩ := owns_bts own
  have ho := own_any own
  have HR := hide hr
  have HOW := hide ho
  have HBS := hide hbs
  have HX2 := hide (HX1.out.grow bw1)
  have HB2 := hide (below_one HBX.out bw1)
  have hscm : sc ≤ 9223372036854775807 := hbs.2.2.1
  have hnsc := hbs.2.1
  clear hr own hB hbs ho bw1
  go_wp2_with (at_builtin; refine wpList_append_run rfl _ _ _ rfl _ _ _ _ rfl rfl HR.out ?_)
  go_wp2_with fail
  refine (putO_room ⟨0, 0, 0, 0, 0, 0, 0, 0, 0, 0, so, n, sc, l⟩ _ HX2.out HBS.out (show n ≤ _ by omega) (by decide)).mono ?_; rintro e w3 ⟨⟨p, rfl, hp, hpn, x3⟩, f3⟩
  have HX3 : Hid (Bx w3 b cu co 1 [] [p]) := x3
  have HPN := hide hpn
  have HPL : Hid (p.l = l) := congrArg Ms.l hp
  have HB3 := hide (two_on HB2.out H2.out H3.out f3)
  have HO3 : Hid (∀ ad, so = some ad → OwnB w3 ad.block n) := fun ad e => by
    obtain ⟨_, _, _, cur, h4, h5⟩ := HOW.out ad e
    exact ⟨cur, HX2.out.other f3 h4, h5⟩
  clear x3 f3 hp hpn
  go_wp2
  go_loopg [26] n (fun gk vi wq => OwRelO w b cu co so p n gk vi wq)
  case atStart => exact ⟨0, by omega, rfl, HX3.out, HO3.out, HB3.out⟩
  case round =>
    obtain ⟨i, hi, rfl, st, ow, bl⟩ := hrel
    have HI := hide hi
    have HS := hide st
    have HB := hide bl
    have HO := hide ow
    clear st bl ow hi
    cases gk with
    | zero =>
      obtain rfl : i = n := by have := HI.out; omega
      have hlt : ¬ ((i : Int) < (i : Int)) := by omega
      go_wp2_with fail
      refine (all_any (no_asks b _) _ HS.out HS.out.box HS.out.bne.1 HS.out.bne.2).mono ?_; rintro e w4 ⟨v4, rfl, E4⟩
      have r4 := E4.row
      rw [out_no, out_no, List.append_nil] at r4
      obtain ⟨ao4, ac4, rfl, _⟩ := owns_lies r4
      have x4 := E4.bx
      rw [keep_no, keep_no] at x4
      have HX4 := hide x4
      have HB4 := hide (two_on HB.out H2.out H3.out E4.ft)
      rw [show ([] : List Ms).length = 0 from rfl]
      clear r4 x4 E4
      go_wp2_with fail
      refine (getO p _ HX4.out).mono ?_; rintro e w5 ⟨rfl, E5⟩
      obtain ⟨Z, hZ⟩ : ∃ Z, w5.alloc (.cells #[.int .u64 p.ta, .int .u64 p.rp, .int .u32 p.id, .int .u16 p.op, .int .u16 p.st, .int .u64 p.p, .int .u32 p.o, .int .u8 p.r, .int .u64 p.c, .int .u64 p.ar, .slice p.so p.sn p.sc] 35) = Z := ⟨_, rfl⟩
      have bZ : Below w5.heap.size w5 Z := hZ ▸ below_alloc w5 _
      have hbx : BoxM Z w5.heap.size p := hZ ▸ boxM_new w5 p
      have HBZ := hide (below_one (two_on HB4.out H2.out H3.out E5.ft) bZ)
      have k1 := conv_bts (Bts.carry E5.has bZ)
      have k2 := conv_bts (HD.out.carry HBZ.out)
      rw [HPL.out] at k1
      have m1 := hbx.all.2.2.2.2.2.2.2.2.2.2
      clear E5 bZ hbx
      go_wp2
      go_ret
      exact ⟨rfl, HBZ.out⟩
    | succ g1 =>
      have hin : i < n := by have := HI.out; omega
      have hlt : (i : Int) < (n : Int) := by omega
      cases so with
      | none => exfalso; have := HBS.out.none rfl; omega
      | some ad =>
        obtain ⟨hadz, hX, hw1, _⟩ := HOW.out ad rfl
        obtain ⟨c, hc0⟩ : ∃ c, ad.block = c := ⟨_, rfl⟩
        rw [hc0] at hadz hX hw1
        subst hadz
        obtain ⟨cur, h1, h2⟩ := HO.out _ rfl
        obtain ⟨y, hy, hc⟩ := h2 i hin
        have k1 : wr.cell? ⟨c, i, none⟩ = some (.int .u8 (y : Int)) := by rw [cell_of_row wr c i _ _ _ h1]; exact hc
        have z1 : wr.frozen? ⟨c, i, none⟩ = false := frozen_of_row wr c i _ _ h1
        have hw : IntKind.u8.wrap ((y : Int) + (z : Int)) = (((y + z) % 256 : Nat) : Int) := by
          rw [IntKind.wrap_u8]; omega
        obtain ⟨t, ht⟩ : ∃ t, (y + z) % 256 = t := ⟨_, rfl⟩
        have ht2 : t ≤ 255 := by omega
        rw [ht] at hw
        have ft := foot_set wr ⟨c, i, none⟩ (.int .u8 (t : Int))
        have hlow : ∀ k, k < X.heap.size → ¬ k = c := fun k h e => by omega
        have HSN := hide (HS.out.footN ft (hlow b (lt_of_heap HX1.out.box)) (hlow cu HX1.out.urg.lt) (hlow co HX1.out.oth.lt) (fun y hy ad e => by
          have e2 : y = p := by simpa using hy
          rw [e2] at e
          have := HPN.out ad e
          show ¬ ad.block = c
          omega))
        have HON := hide ((HO.out _ rfl).put i t ht2)
        have HBN := hide (HB.out.trans (ft.below HB.out.size (fun k e => by
          have h2 := HBX.out.size
          have e2 : k = c := e
          omega)))
        clear h1 h2 hc ht hc0 ft hlow hX hw1
        go_wp2
        go_roundg g1
        case measure => omega
        case rel => exact ⟨i + 1, by have := HI.out; omega, by go_num, HSN.out, fun ad e => by cases e; exact HON.out, HBN.out⟩
theorem walk_own (ao : Option Addr) (n cap : Nat) (l : List UInt8) (z : Nat) (u : Bool) (w : World) (hb : Bts w ao n cap l) (hn : n ≤ 140737488351232) (hz : z ≤ 255) (hg : Glob w) :
    Calls Tryd.prog 5 #[.slice ao n cap, .int .u8 (z : Int), .bool u] w fun e w' => e = .returned (.bool true) ∧ Below w.heap.size w w' := by
  cases u
  · exact walk_own_false ao n cap l z w hb hn hz hg
  · exact walk_own_true ao n cap l z w hb hn hz hg
end Go.Proofs.YtibdhjohjkdgdaaDoor
