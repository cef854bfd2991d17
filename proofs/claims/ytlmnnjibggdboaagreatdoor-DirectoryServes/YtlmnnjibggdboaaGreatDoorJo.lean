/-
  What the model's own deed answers, and what it leaves: bad, exists, missing, list.
  What the model's own deed answers, and what it leaves: look255, look1.
  What the model's own deed answers, and what it leaves: look0.
-/
import Derived.Test.YtlmnnjibggdboaaGreatDoorJn
import Derived.Deep.RegionHeld
import Derived.Deep.RegionHeldLaw
import Derived.Deep.CutRange
namespace Go.Proofs.YtlmnnjibggdboaaGreatDoor
section
open Go.RowKit
variable {w0 w w1 w2 w' : World} {A A' : Ad} {p : Nat} {ws : List Nat} {s s' s1 : Hs} {r g : Nat}
set_option maxRecDepth 20000 in
set_option maxHeartbeats 6400000 in
theorem mdo_bad4 (z : Int) (m : Msg) (so : Option Addr) (sn sc : Nat) (l : List UInt8) (w : World) (h : A.sb.2 = true) (x : Sv w0 w A p ws s) (k : Dok z s) (hd : A.dv ≠ none) (hb : Bts w so sn sc l) (hop : m.op ≠ 100 ∧ m.op ≠ 105) (hno : hasNm l = false) :
    Calls Tryz.prog 41 #[.pointer (some ⟨A.sb.1, 0, none⟩), .agg #[.int .u64 m.ta, .int .u64 m.rp, .int .u32 m.id, .int .u16 m.op, .int .u16 m.st, .int .u64 m.p, .int .u32 m.o, .int .u8 m.r, .int .u64 m.c, .int .u64 m.ar, .slice so sn sc], .int .i64 z] w fun e w' => MdoEnd w0 w A p ws (badF s 4) e w' := by
  obtain ⟨X, hX, bm, bc, bX⟩ := mdo_vars w m (.slice so sn sc)
  have HS := hide h
  have HX := hide (x.grow bX)
  have HB := hide (hb.carry bX)
  have HM := hide bm
  have HC := hide bc
  have HBX := hide bX
  have HW0 : Hid (w0.heap.size ≤ w.heap.size) := x.bel.size
  have HK := hide k
  have HSZ : Hid (w.heap.size + 1 < X.heap.size) := lt_of_heap bc
  obtain ⟨bd, hbd⟩ : ∃ b, A.dv = some b := Option.ne_none_iff_exists'.1 hd
  have HD := hide hbd
  have n100 : ((m.op : Int) == 100) = false := by rw [beq_eq_false_iff_ne]; omega
  have n105 : ((m.op : Int) == 105) = false := by rw [beq_eq_false_iff_ne]; omega
  obtain ⟨k0, k1, k2, k3, k4, k5, k6, k7, k8, k9, k10⟩ := HM.out.all
  have hl := hb.1
  obtain ⟨xn, hxn⟩ : ∃ x, nmN l = x := ⟨_, rfl⟩
  have HXN : Hid (numF ((l.drop 0).take 2) = xn) := hxn
  have hN : ¬ ((2 ≤ l.length ∧ 2 + xn ≤ l.length) ∧ 1 ≤ xn ∧ xn ≤ 32) := by
    intro h; unfold hasNm at hno; rw [hxn] at hno; exact absurd h (of_decide_eq_false hno)
  rw [← hl] at hN
  clear bm bc bX x hb k h hd hbd hno hxn hl
  by_cases h1 : 2 ≤ sn ∧ 2 + xn ≤ sn
  · by_cases h2 : xn = 0
    · have hlt : (xn : Int) < 1 := by omega
      go_enter Tryz.func41, Tryz.ntmps41
      go_wp2_with fail
      refine (gb_yes so sn sc l _ HB.out xn HXN.out h1.1 h1.2 _ rfl).mono ?_; rintro e w1 ⟨co, cc, rfl, _, _, b1⟩
      have HC1 := hide (HC.out.grow b1)
      have HE1 := hide ((HX.out.stayK.to b1).from HBX.out)
      clear b1 k0 k1 k2 k3 k4 k5 k6 k7 k8 k9 k10
      have y0 := HC1.out.c0
      have y1 := HC1.out.c1
      have y2 := HC1.out.c2
      have y3 := HC1.out.c3
      have x0 := HC1.out.z' 0
      have x1 := HC1.out.z' 1
      have x2 := HC1.out.z' 2
      have x3 := HC1.out.z' 3
      have HZZ := hide (HC1.out.put 0 0 0 0)
      have HEZ := hide (HE1.out.cbi HW0.out HC1.out (by omega) (foot_cap4 w1 (w.heap.size + 1) 0 0 0 0))
      obtain ⟨wz, hwz⟩ : ∃ wz, (((w1.setCell ⟨w.heap.size + 1, 0, none⟩ (.int .u64 0)).setCell ⟨w.heap.size + 1, 1, none⟩ (.int .u32 0)).setCell ⟨w.heap.size + 1, 2, none⟩ (.int .u8 0)).setCell ⟨w.heap.size + 1, 3, none⟩ (.int .u64 0) = wz := ⟨_, rfl⟩
      rw [hwz] at HZZ HEZ
      have v0 := HZZ.out.c0
      have v1 := HZZ.out.c1
      have v2 := HZZ.out.c2
      have v3 := HZZ.out.c3
      go_wp2
      refine bodyPost_ret (by simp [results, Tryz.results41, go_sem, v0, v1, v2, v3]; rfl) rfl ?_
      exact mdo_bad rfl HEZ.out
    · have hlt : ¬ (xn : Int) < 1 := by omega
      have hgt : (xn : Int) > 32 := by omega
      go_enter Tryz.func41, Tryz.ntmps41
      go_wp2_with fail
      refine (gb_yes so sn sc l _ HB.out xn HXN.out h1.1 h1.2 _ rfl).mono ?_; rintro e w1 ⟨co, cc, rfl, _, _, b1⟩
      have HC1 := hide (HC.out.grow b1)
      have HE1 := hide ((HX.out.stayK.to b1).from HBX.out)
      clear b1 k0 k1 k2 k3 k4 k5 k6 k7 k8 k9 k10
      have y0 := HC1.out.c0
      have y1 := HC1.out.c1
      have y2 := HC1.out.c2
      have y3 := HC1.out.c3
      have x0 := HC1.out.z' 0
      have x1 := HC1.out.z' 1
      have x2 := HC1.out.z' 2
      have x3 := HC1.out.z' 3
      have HZZ := hide (HC1.out.put 0 0 0 0)
      have HEZ := hide (HE1.out.cbi HW0.out HC1.out (by omega) (foot_cap4 w1 (w.heap.size + 1) 0 0 0 0))
      obtain ⟨wz, hwz⟩ : ∃ wz, (((w1.setCell ⟨w.heap.size + 1, 0, none⟩ (.int .u64 0)).setCell ⟨w.heap.size + 1, 1, none⟩ (.int .u32 0)).setCell ⟨w.heap.size + 1, 2, none⟩ (.int .u8 0)).setCell ⟨w.heap.size + 1, 3, none⟩ (.int .u64 0) = wz := ⟨_, rfl⟩
      rw [hwz] at HZZ HEZ
      have v0 := HZZ.out.c0
      have v1 := HZZ.out.c1
      have v2 := HZZ.out.c2
      have v3 := HZZ.out.c3
      go_wp2
      refine bodyPost_ret (by simp [results, Tryz.results41, go_sem, v0, v1, v2, v3]; rfl) rfl ?_
      exact mdo_bad rfl HEZ.out
  · go_enter Tryz.func41, Tryz.ntmps41
    go_wp2_with fail
    refine (gb_no so sn sc l _ HB.out xn HXN.out h1).mono ?_; rintro e w1 ⟨rfl, b1⟩
    have HC1 := hide (HC.out.grow b1)
    have HE1 := hide ((HX.out.stayK.to b1).from HBX.out)
    clear b1 k0 k1 k2 k3 k4 k5 k6 k7 k8 k9 k10
    have y0 := HC1.out.c0
    have y1 := HC1.out.c1
    have y2 := HC1.out.c2
    have y3 := HC1.out.c3
    have x0 := HC1.out.z' 0
    have x1 := HC1.out.z' 1
    have x2 := HC1.out.z' 2
    have x3 := HC1.out.z' 3
    have HZZ := hide (HC1.out.put 0 0 0 0)
    have HEZ := hide (HE1.out.cbi HW0.out HC1.out (by omega) (foot_cap4 w1 (w.heap.size + 1) 0 0 0 0))
    obtain ⟨wz, hwz⟩ : ∃ wz, (((w1.setCell ⟨w.heap.size + 1, 0, none⟩ (.int .u64 0)).setCell ⟨w.heap.size + 1, 1, none⟩ (.int .u32 0)).setCell ⟨w.heap.size + 1, 2, none⟩ (.int .u8 0)).setCell ⟨w.heap.size + 1, 3, none⟩ (.int .u64 0) = wz := ⟨_, rfl⟩
    rw [hwz] at HZZ HEZ
    have v0 := HZZ.out.c0
    have v1 := HZZ.out.c1
    have v2 := HZZ.out.c2
    have v3 := HZZ.out.c3
    go_wp2
    refine bodyPost_ret (by simp [results, Tryz.results41, go_sem, v0, v1, v2, v3]; rfl) rfl ?_
    exact mdo_bad rfl HEZ.out
set_option maxRecDepth 20000 in
set_option maxHeartbeats 6400000 in
theorem mdo_exists (z : Int) (m : Msg) (so : Option Addr) (sn sc : Nat) (l : List UInt8) (w : World) (h : A.sb.2 = true) (x : Sv w0 w A p ws s) (k : Dok z s) (hd : A.dv ≠ none) (hb : Bts w so sn sc l) (hop : m.op = 102) (hyes : hasNm l = true) (hidx : idxR (s.L z) (nmOf l) < (s.L z).length) :
    Calls Tryz.prog 41 #[.pointer (some ⟨A.sb.1, 0, none⟩), .agg #[.int .u64 m.ta, .int .u64 m.rp, .int .u32 m.id, .int .u16 m.op, .int .u16 m.st, .int .u64 m.p, .int .u32 m.o, .int .u8 m.r, .int .u64 m.c, .int .u64 m.ar, .slice so sn sc], .int .i64 z] w fun e w' => MdoEnd w0 w A p ws (badF s 11) e w' := by
  obtain ⟨X, hX, bm, bc, bX⟩ := mdo_vars w m (.slice so sn sc)
  have HS := hide h
  have HX := hide (x.grow bX)
  have HB := hide (hb.carry bX)
  have HM := hide bm
  have HC := hide bc
  have HBX := hide bX
  have HW0 : Hid (w0.heap.size ≤ w.heap.size) := x.bel.size
  have HK := hide k
  have HSZ : Hid (w.heap.size + 1 < X.heap.size) := lt_of_heap bc
  obtain ⟨bd, hbd⟩ : ∃ b, A.dv = some b := Option.ne_none_iff_exists'.1 hd
  have HD := hide hbd
  obtain ⟨k0, k1, k2, k3, k4, k5, k6, k7, k8, k9, k10⟩ := HM.out.all
  have hopi : (m.op : Int) = 102 := by omega
  rw [hopi] at k3 hX
  have HM3 := hide hopi
  have hl := hb.1
  obtain ⟨xn, hxn⟩ : ∃ x, nmN l = x := ⟨_, rfl⟩
  have HXN : Hid (numF ((l.drop 0).take 2) = xn) := hxn
  have hN : (2 ≤ l.length ∧ 2 + xn ≤ l.length) ∧ 1 ≤ xn ∧ xn ≤ 32 := by
    unfold hasNm at hyes; rw [hxn] at hyes; exact of_decide_eq_true hyes
  rw [← hl] at hN
  have g1 : 2 ≤ sn := by omega
  have g2 : 2 + xn ≤ sn := by omega
  have hlt1 : ¬ (xn : Int) < 1 := by omega
  have hgt1 : ¬ (xn : Int) > 32 := by omega
  obtain ⟨ke, hke⟩ : ∃ k, 2 + xn = k := ⟨_, rfl⟩
  have HKE := hide (show 2 + nmN l = ke by rw [hxn]; exact hke)
  have HYES := hide hyes
  obtain ⟨nm, hnm⟩ : ∃ nm, nmOf l = nm := ⟨_, rfl⟩
  have HNM : Hid ((l.drop 2).take xn = nm) := by show _ = _; rw [← hxn]; exact hnm
  obtain ⟨L, hL⟩ : ∃ L, s.L z = L := ⟨_, rfl⟩
  have HLL := hide hL
  have hG := x.good z
  obtain ⟨v, hv⟩ : ∃ v, A.nv z = v := ⟨_, rfl⟩
  have HV := hide hv
  have hown := x.lawR h z
  rw [hv, hL] at hown
  rw [hL] at hG
  have HG := hide hG
  rw [hnm, hL] at hidx
  have HNMO := hide hnm
  obtain ⟨ao, cap, hve, hnc, hcap⟩ := hown.form
  obtain ⟨n, hn⟩ : ∃ n, L.length = n := ⟨_, rfl⟩
  have HN := hide hn
  rw [hn] at hve
  subst hve
  try rw [hL, hnm]
  obtain ⟨ki, hk9⟩ : ∃ k, idxR L nm = k := ⟨_, rfl⟩
  have HK9 := hide hk9
  rw [hk9] at hidx
  have HIX := hide hidx
  try rw [hk9]
  have hk0 : (0 : Int) ≤ (ki : Int) := by omega
  have hk1 : ¬ (ki : Int) < 0 := by omega
  have hk2 : (ki : Int) < (n : Int) := by omega
  have HZ := hide k.z
  clear bm bc bX x hb k h hd hbd hyes hxn hl hN hnm hL hv hown hG hidx hk9 hop
  go_enter Tryz.func41, Tryz.ntmps41
  go_wp2_with fail
  refine (gb_yes so sn sc l _ HB.out xn HXN.out g1 g2 ke hke).mono ?_; rw [HNM.out]; rintro e w1 ⟨no, nc, rfl, B1, N1, b1⟩
  have HNB := hide B1
  have HX1 := hide (HX.out.grow b1)
  have HM1 := hide (HM.out.grow b1)
  have HC1 := hide (HC.out.grow b1)
  have HB1 := hide (HB.out.carry b1)
  have HBX1 := hide (below_one HBX.out b1)
  have hlk := HX1.out.lookL HZ.out
  rw [HV.out] at hlk
  have c2 := HX1.out.bx.c2
  have HOW := hide (HX1.out.lawR HS.out z)
  rw [HV.out, HLL.out] at HOW
  obtain ⟨sv, hsv⟩ : ∃ t, str nm = t := ⟨_, rfl⟩
  have HSVS := hide hsv
  clear B1 N1 b1 g1 g2 hke hsv k0 k1 k2 k3 k4 k5 k6 k7 k8 k9 k10
  go_wp2_with fail
  go_loopg [17, 106] n (fun gk va vi wr => ∃ i : Nat, i + gk = n ∧ vi = .int .i64 (i : Int) ∧ va = .int .i64 (atF L nm i) ∧ Below w1.heap.size w1 wr)
  case atStart => exact ⟨0, by omega, rfl, by rw [at_zero], Below.refl _ _⟩
  case round =>
    obtain ⟨i, hi, rfl, rfl, bl⟩ := hrel
    have HBL := hide bl
    clear bl
    cases gk with
    | succ g1 =>
      have hlt : (i : Int) < (n : Int) := by omega
      have hil : i < L.length := by have := HN.out; omega
      obtain ⟨y, hy⟩ : ∃ y, L.getD i Rw.zero = y := ⟨_, rfl⟩
      obtain ⟨h, ac, e, _, _, _, _, ⟨c0, c1, c2', c3, c4, c5⟩, _⟩ := OwnR.elem (T := 145) (HOW.out.grow HBL.out) i hil y hy
      obtain ⟨rfl, rfl⟩ : ao = some ⟨h, 0, none⟩ ∧ cap = ac := by simp only [Value.slice.injEq] at e; exact ⟨e.1, e.2.2⟩
      clear e
      have cvw := fun U (b : Below wr.heap.size wr U) => conv_bts ((HNB.out.carry HBL.out).carry b)
      rw [HSVS.out] at cvw
      obtain ⟨X9, hX9⟩ : ∃ X, wr.alloc (.cells #[.string (str y.n), .int .u64 (y.c.p : Int), .int .u32 (y.c.o : Int), .int .u8 (y.c.r : Int), .int .u64 (y.c.c : Int), .int .u8 (y.m : Int)] 145) = X := ⟨_, rfl⟩
      have b9 : Below wr.heap.size wr X9 := hX9 ▸ below_alloc wr _
      have d0 : X9.cell? ⟨wr.heap.size, 0, none⟩ = some (.string (str y.n)) := by rw [← hX9]; simp
      have cvd := cvw X9 b9
      have HBX9 := hide (below_one HBL.out b9)
      clear cvw b9
      by_cases hx : y.n = nm
      · have HAT := hide (at_yes (nm := nm) HG.out.2.2 hil (by rw [hy]; exact hx))
        have hbq : (sv.toList == sv.toList) = true := by simp
        rw [hx, HSVS.out] at c0 hX9 d0
        clear hx hil hy
        go_wp2_with fail
        go_roundg g1
        case measure => omega
        case rel => exact ⟨i + 1, by omega, by go_num, by rw [HAT.out], HBX9.out⟩
      · have HAT := hide (at_no (nm := nm) hil (by rw [hy]; exact hx))
        obtain ⟨sx, hsx⟩ : ∃ t, str y.n = t := ⟨_, rfl⟩
        have hbq : (sx.toList == sv.toList) = false := by rw [← hsx, ← HSVS.out, list_beq]; exact decide_eq_false hx
        rw [hsx] at c0 hX9 d0
        clear hx hil hy hsx
        go_wp2_with fail
        go_roundg g1
        case measure => omega
        case rel => exact ⟨i + 1, by omega, by go_num, by rw [HAT.out], HBX9.out⟩
    | zero =>
      obtain rfl : i = n := by omega
      have hlt : ¬ ((i : Int) < (i : Int)) := by omega
      rw [show atF L nm i = (ki : Int) from by rw [← HN.out, at_in (by rw [HK9.out]; exact HIX.out), HK9.out]]
      have HXr := hide (HX1.out.grow HBL.out)
      have HMr := hide (HM1.out.grow HBL.out)
      have HCr := hide (HC1.out.grow HBL.out)
      have HBr := hide (HB1.out.carry HBL.out)
      have HNr := hide (HNB.out.carry HBL.out)
      have HBXr := hide (below_one HBX1.out HBL.out)
      have HOr := hide (HOW.out.grow HBL.out)
      have HEr := hide ((HXr.out.stayK).from HBXr.out)
      clear c2 hlk
      have k3 : wr.cell? ⟨w.heap.size, 3, none⟩ = some (.int .u16 102) := by have := HMr.out.all.2.2.2.1; rw [HM3.out] at this; exact this
      have y0 := HCr.out.c0
      have y1 := HCr.out.c1
      have y2 := HCr.out.c2
      have y3 := HCr.out.c3
      have x0 := HCr.out.z' 0
      have x1 := HCr.out.z' 1
      have x2 := HCr.out.z' 2
      have x3 := HCr.out.z' 3
      have HZZ := hide (HCr.out.put 0 0 0 0)
      have HEZ := hide (HEr.out.cbi HW0.out HCr.out (by omega) (foot_cap4 wr (w.heap.size + 1) 0 0 0 0))
      obtain ⟨wz, hwz⟩ : ∃ wz, (((wr.setCell ⟨w.heap.size + 1, 0, none⟩ (.int .u64 0)).setCell ⟨w.heap.size + 1, 1, none⟩ (.int .u32 0)).setCell ⟨w.heap.size + 1, 2, none⟩ (.int .u8 0)).setCell ⟨w.heap.size + 1, 3, none⟩ (.int .u64 0) = wz := ⟨_, rfl⟩
      rw [hwz] at HZZ HEZ
      have v0 := HZZ.out.c0
      have v1 := HZZ.out.c1
      have v2 := HZZ.out.c2
      have v3 := HZZ.out.c3
      go_wp2
      refine bodyPost_ret (by simp [results, Tryz.results41, go_sem, v0, v1, v2, v3]; rfl) rfl ?_
      exact mdo_bad rfl HEZ.out
set_option maxRecDepth 20000 in
set_option maxHeartbeats 6400000 in
theorem mdo_missing (z : Int) (m : Msg) (so : Option Addr) (sn sc : Nat) (l : List UInt8) (w : World) (h : A.sb.2 = true) (x : Sv w0 w A p ws s) (k : Dok z s) (hd : A.dv ≠ none) (hb : Bts w so sn sc l) (hop : m.op ≠ 100 ∧ m.op ≠ 105 ∧ m.op ≠ 102) (hyes : hasNm l = true) (hidx : ¬ idxR (s.L z) (nmOf l) < (s.L z).length) :
    Calls Tryz.prog 41 #[.pointer (some ⟨A.sb.1, 0, none⟩), .agg #[.int .u64 m.ta, .int .u64 m.rp, .int .u32 m.id, .int .u16 m.op, .int .u16 m.st, .int .u64 m.p, .int .u32 m.o, .int .u8 m.r, .int .u64 m.c, .int .u64 m.ar, .slice so sn sc], .int .i64 z] w fun e w' => MdoEnd w0 w A p ws (badF s 12) e w' := by
  obtain ⟨X, hX, bm, bc, bX⟩ := mdo_vars w m (.slice so sn sc)
  have HS := hide h
  have HX := hide (x.grow bX)
  have HB := hide (hb.carry bX)
  have HM := hide bm
  have HC := hide bc
  have HBX := hide bX
  have HW0 : Hid (w0.heap.size ≤ w.heap.size) := x.bel.size
  have HK := hide k
  have HSZ : Hid (w.heap.size + 1 < X.heap.size) := lt_of_heap bc
  obtain ⟨bd, hbd⟩ : ∃ b, A.dv = some b := Option.ne_none_iff_exists'.1 hd
  have HD := hide hbd
  have n100 : ((m.op : Int) == 100) = false := by rw [beq_eq_false_iff_ne]; omega
  have n105 : ((m.op : Int) == 105) = false := by rw [beq_eq_false_iff_ne]; omega
  have n102 : ((m.op : Int) == 102) = false := by rw [beq_eq_false_iff_ne]; omega
  obtain ⟨k0, k1, k2, k3, k4, k5, k6, k7, k8, k9, k10⟩ := HM.out.all
  have hl := hb.1
  obtain ⟨xn, hxn⟩ : ∃ x, nmN l = x := ⟨_, rfl⟩
  have HXN : Hid (numF ((l.drop 0).take 2) = xn) := hxn
  have hN : (2 ≤ l.length ∧ 2 + xn ≤ l.length) ∧ 1 ≤ xn ∧ xn ≤ 32 := by
    unfold hasNm at hyes; rw [hxn] at hyes; exact of_decide_eq_true hyes
  rw [← hl] at hN
  have g1 : 2 ≤ sn := by omega
  have g2 : 2 + xn ≤ sn := by omega
  have hlt1 : ¬ (xn : Int) < 1 := by omega
  have hgt1 : ¬ (xn : Int) > 32 := by omega
  obtain ⟨ke, hke⟩ : ∃ k, 2 + xn = k := ⟨_, rfl⟩
  have HKE := hide (show 2 + nmN l = ke by rw [hxn]; exact hke)
  have HYES := hide hyes
  obtain ⟨nm, hnm⟩ : ∃ nm, nmOf l = nm := ⟨_, rfl⟩
  have HNM : Hid ((l.drop 2).take xn = nm) := by show _ = _; rw [← hxn]; exact hnm
  obtain ⟨L, hL⟩ : ∃ L, s.L z = L := ⟨_, rfl⟩
  have HLL := hide hL
  have hG := x.good z
  obtain ⟨v, hv⟩ : ∃ v, A.nv z = v := ⟨_, rfl⟩
  have HV := hide hv
  have hown := x.lawR h z
  rw [hv, hL] at hown
  rw [hL] at hG
  have HG := hide hG
  rw [hnm, hL] at hidx
  have HNMO := hide hnm
  obtain ⟨ao, cap, hve, hnc, hcap⟩ := hown.form
  obtain ⟨n, hn⟩ : ∃ n, L.length = n := ⟨_, rfl⟩
  have HN := hide hn
  rw [hn] at hve
  subst hve
  try rw [hL, hnm]
  have HIX := hide hidx
  have HZ := hide k.z
  clear bm bc bX x hb k h hd hbd hyes hxn hl hN hnm hL hv hown hG hidx
  go_enter Tryz.func41, Tryz.ntmps41
  go_wp2_with fail
  refine (gb_yes so sn sc l _ HB.out xn HXN.out g1 g2 ke hke).mono ?_; rw [HNM.out]; rintro e w1 ⟨no, nc, rfl, B1, N1, b1⟩
  have HNB := hide B1
  have HX1 := hide (HX.out.grow b1)
  have HM1 := hide (HM.out.grow b1)
  have HC1 := hide (HC.out.grow b1)
  have HB1 := hide (HB.out.carry b1)
  have HBX1 := hide (below_one HBX.out b1)
  have hlk := HX1.out.lookL HZ.out
  rw [HV.out] at hlk
  have c2 := HX1.out.bx.c2
  have HOW := hide (HX1.out.lawR HS.out z)
  rw [HV.out, HLL.out] at HOW
  obtain ⟨sv, hsv⟩ : ∃ t, str nm = t := ⟨_, rfl⟩
  have HSVS := hide hsv
  clear B1 N1 b1 g1 g2 hke hsv k0 k1 k2 k3 k4 k5 k6 k7 k8 k9 k10
  go_wp2_with fail
  go_loopg [17, 106] n (fun gk va vi wr => ∃ i : Nat, i + gk = n ∧ vi = .int .i64 (i : Int) ∧ va = .int .i64 (atF L nm i) ∧ Below w1.heap.size w1 wr)
  case atStart => exact ⟨0, by omega, rfl, by rw [at_zero], Below.refl _ _⟩
  case round =>
    obtain ⟨i, hi, rfl, rfl, bl⟩ := hrel
    have HBL := hide bl
    clear bl
    cases gk with
    | succ g1 =>
      have hlt : (i : Int) < (n : Int) := by omega
      have hil : i < L.length := by have := HN.out; omega
      obtain ⟨y, hy⟩ : ∃ y, L.getD i Rw.zero = y := ⟨_, rfl⟩
      obtain ⟨h, ac, e, _, _, _, _, ⟨c0, c1, c2', c3, c4, c5⟩, _⟩ := OwnR.elem (T := 145) (HOW.out.grow HBL.out) i hil y hy
      obtain ⟨rfl, rfl⟩ : ao = some ⟨h, 0, none⟩ ∧ cap = ac := by simp only [Value.slice.injEq] at e; exact ⟨e.1, e.2.2⟩
      clear e
      have cvw := fun U (b : Below wr.heap.size wr U) => conv_bts ((HNB.out.carry HBL.out).carry b)
      rw [HSVS.out] at cvw
      obtain ⟨X9, hX9⟩ : ∃ X, wr.alloc (.cells #[.string (str y.n), .int .u64 (y.c.p : Int), .int .u32 (y.c.o : Int), .int .u8 (y.c.r : Int), .int .u64 (y.c.c : Int), .int .u8 (y.m : Int)] 145) = X := ⟨_, rfl⟩
      have b9 : Below wr.heap.size wr X9 := hX9 ▸ below_alloc wr _
      have d0 : X9.cell? ⟨wr.heap.size, 0, none⟩ = some (.string (str y.n)) := by rw [← hX9]; simp
      have cvd := cvw X9 b9
      have HBX9 := hide (below_one HBL.out b9)
      clear cvw b9
      by_cases hx : y.n = nm
      · have HAT := hide (at_yes (nm := nm) HG.out.2.2 hil (by rw [hy]; exact hx))
        have hbq : (sv.toList == sv.toList) = true := by simp
        rw [hx, HSVS.out] at c0 hX9 d0
        clear hx hil hy
        go_wp2_with fail
        go_roundg g1
        case measure => omega
        case rel => exact ⟨i + 1, by omega, by go_num, by rw [HAT.out], HBX9.out⟩
      · have HAT := hide (at_no (nm := nm) hil (by rw [hy]; exact hx))
        obtain ⟨sx, hsx⟩ : ∃ t, str y.n = t := ⟨_, rfl⟩
        have hbq : (sx.toList == sv.toList) = false := by rw [← hsx, ← HSVS.out, list_beq]; exact decide_eq_false hx
        rw [hsx] at c0 hX9 d0
        clear hx hil hy hsx
        go_wp2_with fail
        go_roundg g1
        case measure => omega
        case rel => exact ⟨i + 1, by omega, by go_num, by rw [HAT.out], HBX9.out⟩
    | zero =>
      obtain rfl : i = n := by omega
      have hlt : ¬ ((i : Int) < (i : Int)) := by omega
      rw [show atF L nm i = -1 from by rw [← HN.out, at_out HIX.out]]
      have hk1 : ((-1 : Int)) < 0 := by omega
      have hk0 : ¬ ((0 : Int) ≤ -1) := by omega
      have HXr := hide (HX1.out.grow HBL.out)
      have HMr := hide (HM1.out.grow HBL.out)
      have HCr := hide (HC1.out.grow HBL.out)
      have HBr := hide (HB1.out.carry HBL.out)
      have HNr := hide (HNB.out.carry HBL.out)
      have HBXr := hide (below_one HBX1.out HBL.out)
      have HOr := hide (HOW.out.grow HBL.out)
      have HEr := hide ((HXr.out.stayK).from HBXr.out)
      clear c2 hlk
      have k3 : wr.cell? ⟨w.heap.size, 3, none⟩ = some (.int .u16 (m.op : Int)) := by have := HMr.out.all.2.2.2.1; exact this
      have y0 := HCr.out.c0
      have y1 := HCr.out.c1
      have y2 := HCr.out.c2
      have y3 := HCr.out.c3
      have x0 := HCr.out.z' 0
      have x1 := HCr.out.z' 1
      have x2 := HCr.out.z' 2
      have x3 := HCr.out.z' 3
      have HZZ := hide (HCr.out.put 0 0 0 0)
      have HEZ := hide (HEr.out.cbi HW0.out HCr.out (by omega) (foot_cap4 wr (w.heap.size + 1) 0 0 0 0))
      obtain ⟨wz, hwz⟩ : ∃ wz, (((wr.setCell ⟨w.heap.size + 1, 0, none⟩ (.int .u64 0)).setCell ⟨w.heap.size + 1, 1, none⟩ (.int .u32 0)).setCell ⟨w.heap.size + 1, 2, none⟩ (.int .u8 0)).setCell ⟨w.heap.size + 1, 3, none⟩ (.int .u64 0) = wz := ⟨_, rfl⟩
      rw [hwz] at HZZ HEZ
      have v0 := HZZ.out.c0
      have v1 := HZZ.out.c1
      have v2 := HZZ.out.c2
      have v3 := HZZ.out.c3
      go_wp2
      refine bodyPost_ret (by simp [results, Tryz.results41, go_sem, v0, v1, v2, v3]; rfl) rfl ?_
      exact mdo_bad rfl HEZ.out
set_option maxRecDepth 20000 in
set_option maxHeartbeats 6400000 in
theorem mdo_list (z : Int) (m : Msg) (so : Option Addr) (sn sc : Nat) (l : List UInt8) (w : World) (h : A.sb.2 = true) (x : Sv w0 w A p ws s) (k : Dok z s) (hd : A.dv ≠ none) (hb : Bts w so sn sc l) (hop : m.op = 105) :
    Calls Tryz.prog 41 #[.pointer (some ⟨A.sb.1, 0, none⟩), .agg #[.int .u64 m.ta, .int .u64 m.rp, .int .u32 m.id, .int .u16 m.op, .int .u16 m.st, .int .u64 m.p, .int .u32 m.o, .int .u8 m.r, .int .u64 m.c, .int .u64 m.ar, .slice so sn sc], .int .i64 z] w fun e w' => MdoEnd w0 w A p ws ⟨0, Cp.zero, 0, lstD (s.L z), s⟩ e w' := by
  obtain ⟨X, hX, bm, bc, bX⟩ := mdo_vars w m (.slice so sn sc)
  have HS := hide h
  have HX := hide (x.grow bX)
  have HB := hide (hb.carry bX)
  have HM := hide bm
  have HC := hide bc
  have HBX := hide bX
  have HW0 : Hid (w0.heap.size ≤ w.heap.size) := x.bel.size
  have HK := hide k
  have HSZ : Hid (w.heap.size + 1 < X.heap.size) := lt_of_heap bc
  obtain ⟨bd, hbd⟩ : ∃ b, A.dv = some b := Option.ne_none_iff_exists'.1 hd
  have HD := hide hbd
  obtain ⟨k0, k1, k2, k3, k4, k5, k6, k7, k8, k9, k10⟩ := HM.out.all
  have hopi : (m.op : Int) = 105 := by omega
  rw [hopi] at k3 hX ⊢
  have HZ := hide k.z
  have c2 := HX.out.bx.c2
  have hlk := HX.out.lookL HZ.out
  have hr := HX.out.lawR HS.out z
  have hg := x.good z
  obtain ⟨v, hv⟩ : ∃ v, A.nv z = v := ⟨_, rfl⟩
  obtain ⟨L, hL⟩ : ∃ L, s.L z = L := ⟨_, rfl⟩
  rw [hv, hL] at hr
  rw [hv] at hlk
  rw [hL] at hg ⊢
  obtain ⟨ao, cap, rfl, hnc, hcap⟩ := hr.form
  obtain ⟨n, hn⟩ : ∃ n, L.length = n := ⟨_, rfl⟩
  have HLEN := hide hn
  rw [hn] at hnc hlk
  have HA := hide hr
  rw [hn] at HA
  have HG := hide hg
  clear bm bc bX x hb k h hd hbd hr hn hg hop hv hL
  go_enter Tryz.func41, Tryz.ntmps41
  go_wp2_with fail
  go_loopg [11, 63] n (fun gk vb vi wr => LstRel X L n gk vb vi wr)
  case atStart => exact ⟨0, none, 0, 0, by omega, rfl, rfl, bts_nil _, new_none _, Below.refl _ _⟩
  case round =>
    obtain ⟨i, co, mm, cc, hi, rfl, rfl, hb, hw, bl⟩ := hrel
    have HBQ := hide hb
    have HW := hide hw
    have HBL := hide bl
    clear hb hw bl
    cases gk with
    | zero =>
      have hlt : ¬ ((i : Int) < (n : Int)) := by omega
      have e : L.take i = L := List.take_of_length_le (by have := HLEN.out; omega)
      have HB2 : Hid (Bts wr co mm cc (lstD L)) := by show Bts _ _ _ _ _; rw [← e]; exact HBQ.out
      have hm : mm ≤ 4096 := by
        have h1 := HB2.out.1
        have h2 := lstD_len L (fun y hy => (HG.out.2.1 y hy).1.2)
        have h3 := HG.out.1
        omega
      have HMM := hide hm
      have HCr := hide (HC.out.grow HBL.out)
      have HEr := hide (((HX.out.stayK).to HBL.out).from HBX.out)
      have HN4 : Hid (New w co) := HW.out.le HBX.out.size
      clear hm e
      have HNX := hide HW.out
      have HN4 : Hid (New X co) := HNX.out
      have y0 := HCr.out.c0
      have y1 := HCr.out.c1
      have y2 := HCr.out.c2
      have y3 := HCr.out.c3
      have x0 := HCr.out.z' 0
      have x1 := HCr.out.z' 1
      have x2 := HCr.out.z' 2
      have x3 := HCr.out.z' 3
      have HZZ := hide (HCr.out.put 0 0 0 0)
      have HEZ := hide (HEr.out.cbi HW0.out HCr.out (by omega) (foot_cap4 wr (w.heap.size + 1) 0 0 0 0))
      have HBZ := hide (Bts.foot HB2.out (foot_cap4 wr (w.heap.size + 1) 0 0 0 0) (fun ad e _ (h : ad.block = w.heap.size + 1) => by have := HN4.out ad e; have := HSZ.out; omega))
      obtain ⟨wz, hwz⟩ : ∃ wz, (((wr.setCell ⟨w.heap.size + 1, 0, none⟩ (.int .u64 0)).setCell ⟨w.heap.size + 1, 1, none⟩ (.int .u32 0)).setCell ⟨w.heap.size + 1, 2, none⟩ (.int .u8 0)).setCell ⟨w.heap.size + 1, 3, none⟩ (.int .u64 0) = wz := ⟨_, rfl⟩
      rw [hwz] at HZZ HEZ HBZ
      have v0 := HZZ.out.c0
      have v1 := HZZ.out.c1
      have v2 := HZZ.out.c2
      have v3 := HZZ.out.c3
      go_wp2
      refine bodyPost_ret (by simp [results, Tryz.results41, go_sem, v0, v1, v2, v3]; rfl) rfl ?_
      exact ⟨co, mm, cc, rfl, HBZ.out, HN4.out.le HBX.out.size, HMM.out, HEZ.out⟩
    | succ g1 =>
      have hlt : (i : Int) < (n : Int) := by omega
      obtain ⟨y, hy⟩ : ∃ y, L.getD i Rw.zero = y := ⟨_, rfl⟩
      have HLM : Hid (lstD (L.take (i + 1)) = lstD (L.take i) ++ putF y.n.length 2 ++ y.n) := lstD_snoc L i (by have := HLEN.out; omega) y hy
      have hyn : y.n.length ≤ 32 := by rw [← hy]; exact (HG.out.2.1 _ (mem_getR (by have := HLEN.out; omega))).1.2
      have hmm : mm ≤ 2176 := by
        have h1 := HBQ.out.1
        have h2 := lstD_len (L.take i) (fun y hy => (HG.out.2.1 y (List.mem_of_mem_take hy)).1.2)
        have h3 := HG.out.1
        rw [List.length_take] at h2
        omega
      obtain ⟨h, ac, e, _, _, _, _, ⟨c0, c1, c2', c3, c4, c5⟩, _⟩ := OwnR.elem (T := 145) (HA.out.grow HBL.out) i (by have := HLEN.out; omega) y hy
      obtain ⟨rfl, rfl⟩ : ao = some ⟨h, 0, none⟩ ∧ cap = ac := by simp only [Value.slice.injEq] at e; exact ⟨e.1, e.2.2⟩
      clear hy e
      obtain ⟨X1, hX1⟩ : ∃ X, wr.alloc (.cells #[.string (str y.n), .int .u64 (y.c.p : Int), .int .u32 (y.c.o : Int), .int .u8 (y.c.r : Int), .int .u64 (y.c.c : Int), .int .u8 (y.m : Int)] 145) = X := ⟨_, rfl⟩
      have bX1 : Below wr.heap.size wr X1 := hX1 ▸ below_alloc wr _
      have d0 : X1.cell? ⟨wr.heap.size, 0, none⟩ = some (.string (str y.n)) := by rw [← hX1]; simp
      obtain ⟨yc, X2, hcv, B2, b2⟩ := str_bytes y.n X1 (by omega)
      obtain ⟨ln, hln⟩ : ∃ ln, y.n.length = ln := ⟨_, rfl⟩
      rw [hln] at hcv B2 hyn HLM
      have HB2 := hide B2
      have HBX1 := hide bX1
      have HB3 := hide b2
      have HLB := hide (Nat.le_trans HBL.out.size bX1.size)
      clear B2 b2 bX1 hln
      go_wp2_with fail
      refine (putBytes_yes co mm cc _ _ ln yc y.n _ ((HBQ.out.carry HBX1.out).carry HB3.out) HB2.out (by omega) (by omega)).mono ?_; rintro e w1 ⟨co2, cc2, rfl, B4, N4, b4⟩
      have HB4 := hide B4
      have HN4 := hide N4
      have HBL4 := hide (below_one (below_one (below_one HBL.out HBX1.out) HB3.out) b4)
      have HLT := hide HB3.out.size
      clear B4 N4 b4 c0 c1 c2' c3 c4 c5
      go_wp2
      go_roundg g1
      case measure => omega
      case rel =>
        exact ⟨i + 1, co2, mm + 2 + ln, cc2, by omega, by go_num, rfl, by rw [HLM.out]; exact HB4.out, HN4.out.le (Nat.le_trans HLB.out HLT.out), HBL4.out⟩
end
end Go.Proofs.YtlmnnjibggdboaaGreatDoor
namespace Go.Proofs.YtlmnnjibggdboaaGreatDoor
section
open Go.RowKit
variable {w0 w w1 w2 w' : World} {A A' : Ad} {p : Nat} {ws : List Nat} {s s' s1 : Hs} {r g : Nat}
set_option maxRecDepth 20000 in
set_option maxHeartbeats 6400000 in
theorem mdo_look255 (z : Int) (m : Msg) (so : Option Addr) (sn sc : Nat) (l : List UInt8) (w : World) (h : A.sb.2 = true) (x : Sv w0 w A p ws s) (k : Dok z s) (hd : A.dv ≠ none) (hb : Bts w so sn sc l) (hop : m.op = 101) (hyes : hasNm l = true) (hidx : idxR (s.L z) (nmOf l) < (s.L z).length) (hfit : ((s.L z).getD (idxR (s.L z) (nmOf l)) Rw.zero).m = 255) :
    Calls Tryz.prog 41 #[.pointer (some ⟨A.sb.1, 0, none⟩), .agg #[.int .u64 m.ta, .int .u64 m.rp, .int .u32 m.id, .int .u16 m.op, .int .u16 m.st, .int .u64 m.p, .int .u32 m.o, .int .u8 m.r, .int .u64 m.c, .int .u64 m.ar, .slice so sn sc], .int .i64 z] w fun e w' => MdoEnd w0 w A p ws (lookF ws s ((s.L z).getD (idxR (s.L z) (nmOf l)) Rw.zero)) e w' := by
  obtain ⟨X, hX, bm, bc, bX⟩ := mdo_vars w m (.slice so sn sc)
  have HS := hide h
  have HX := hide (x.grow bX)
  have HB := hide (hb.carry bX)
  have HM := hide bm
  have HC := hide bc
  have HBX := hide bX
  have HW0 : Hid (w0.heap.size ≤ w.heap.size) := x.bel.size
  have HK := hide k
  have HSZ : Hid (w.heap.size + 1 < X.heap.size) := lt_of_heap bc
  obtain ⟨bd, hbd⟩ : ∃ b, A.dv = some b := Option.ne_none_iff_exists'.1 hd
  have HD := hide hbd
  obtain ⟨k0, k1, k2, k3, k4, k5, k6, k7, k8, k9, k10⟩ := HM.out.all
  have hopi : (m.op : Int) = 101 := by omega
  rw [hopi] at k3 hX
  have HM3 := hide hopi
  have hl := hb.1
  obtain ⟨xn, hxn⟩ : ∃ x, nmN l = x := ⟨_, rfl⟩
  have HXN : Hid (numF ((l.drop 0).take 2) = xn) := hxn
  have hN : (2 ≤ l.length ∧ 2 + xn ≤ l.length) ∧ 1 ≤ xn ∧ xn ≤ 32 := by
    unfold hasNm at hyes; rw [hxn] at hyes; exact of_decide_eq_true hyes
  rw [← hl] at hN
  have g1 : 2 ≤ sn := by omega
  have g2 : 2 + xn ≤ sn := by omega
  have hlt1 : ¬ (xn : Int) < 1 := by omega
  have hgt1 : ¬ (xn : Int) > 32 := by omega
  obtain ⟨ke, hke⟩ : ∃ k, 2 + xn = k := ⟨_, rfl⟩
  have HKE := hide (show 2 + nmN l = ke by rw [hxn]; exact hke)
  have HYES := hide hyes
  obtain ⟨nm, hnm⟩ : ∃ nm, nmOf l = nm := ⟨_, rfl⟩
  have HNM : Hid ((l.drop 2).take xn = nm) := by show _ = _; rw [← hxn]; exact hnm
  obtain ⟨L, hL⟩ : ∃ L, s.L z = L := ⟨_, rfl⟩
  have HLL := hide hL
  have hG := x.good z
  obtain ⟨v, hv⟩ : ∃ v, A.nv z = v := ⟨_, rfl⟩
  have HV := hide hv
  have hown := x.lawR h z
  rw [hv, hL] at hown
  rw [hL] at hG
  have HG := hide hG
  rw [hnm, hL] at hidx
  have HNMO := hide hnm
  obtain ⟨ao, cap, hve, hnc, hcap⟩ := hown.form
  obtain ⟨n, hn⟩ : ∃ n, L.length = n := ⟨_, rfl⟩
  have HN := hide hn
  rw [hn] at hve
  subst hve
  try rw [hL, hnm]
  obtain ⟨ki, hk9⟩ : ∃ k, idxR L nm = k := ⟨_, rfl⟩
  have HK9 := hide hk9
  rw [hk9] at hidx
  have HIX := hide hidx
  try rw [hk9]
  have hk0 : (0 : Int) ≤ (ki : Int) := by omega
  have hk1 : ¬ (ki : Int) < 0 := by omega
  have hk2 : (ki : Int) < (n : Int) := by omega
  have HZ := hide k.z
  clear bm bc bX x hb k h hd hbd hyes hxn hl hN hnm hL hv hown hG hidx hk9 hop
  go_enter Tryz.func41, Tryz.ntmps41
  go_wp2_with fail
  refine (gb_yes so sn sc l _ HB.out xn HXN.out g1 g2 ke hke).mono ?_; rw [HNM.out]; rintro e w1 ⟨no, nc, rfl, B1, N1, b1⟩
  have HNB := hide B1
  have HX1 := hide (HX.out.grow b1)
  have HM1 := hide (HM.out.grow b1)
  have HC1 := hide (HC.out.grow b1)
  have HB1 := hide (HB.out.carry b1)
  have HBX1 := hide (below_one HBX.out b1)
  have hlk := HX1.out.lookL HZ.out
  rw [HV.out] at hlk
  have c2 := HX1.out.bx.c2
  have HOW := hide (HX1.out.lawR HS.out z)
  rw [HV.out, HLL.out] at HOW
  obtain ⟨sv, hsv⟩ : ∃ t, str nm = t := ⟨_, rfl⟩
  have HSVS := hide hsv
  clear B1 N1 b1 g1 g2 hke hsv k0 k1 k2 k3 k4 k5 k6 k7 k8 k9 k10
  go_wp2_with fail
  go_loopg [17, 106] n (fun gk va vi wr => ∃ i : Nat, i + gk = n ∧ vi = .int .i64 (i : Int) ∧ va = .int .i64 (atF L nm i) ∧ Below w1.heap.size w1 wr)
  case atStart => exact ⟨0, by omega, rfl, by rw [at_zero], Below.refl _ _⟩
  case round =>
    obtain ⟨i, hi, rfl, rfl, bl⟩ := hrel
    have HBL := hide bl
    clear bl
    cases gk with
    | succ g1 =>
      have hlt : (i : Int) < (n : Int) := by omega
      have hil : i < L.length := by have := HN.out; omega
      obtain ⟨y, hy⟩ : ∃ y, L.getD i Rw.zero = y := ⟨_, rfl⟩
      obtain ⟨h, ac, e, _, _, _, _, ⟨c0, c1, c2', c3, c4, c5⟩, _⟩ := OwnR.elem (T := 145) (HOW.out.grow HBL.out) i hil y hy
      obtain ⟨rfl, rfl⟩ : ao = some ⟨h, 0, none⟩ ∧ cap = ac := by simp only [Value.slice.injEq] at e; exact ⟨e.1, e.2.2⟩
      clear e
      have cvw := fun U (b : Below wr.heap.size wr U) => conv_bts ((HNB.out.carry HBL.out).carry b)
      rw [HSVS.out] at cvw
      obtain ⟨X9, hX9⟩ : ∃ X, wr.alloc (.cells #[.string (str y.n), .int .u64 (y.c.p : Int), .int .u32 (y.c.o : Int), .int .u8 (y.c.r : Int), .int .u64 (y.c.c : Int), .int .u8 (y.m : Int)] 145) = X := ⟨_, rfl⟩
      have b9 : Below wr.heap.size wr X9 := hX9 ▸ below_alloc wr _
      have d0 : X9.cell? ⟨wr.heap.size, 0, none⟩ = some (.string (str y.n)) := by rw [← hX9]; simp
      have cvd := cvw X9 b9
      have HBX9 := hide (below_one HBL.out b9)
      clear cvw b9
      by_cases hx : y.n = nm
      · have HAT := hide (at_yes (nm := nm) HG.out.2.2 hil (by rw [hy]; exact hx))
        have hbq : (sv.toList == sv.toList) = true := by simp
        rw [hx, HSVS.out] at c0 hX9 d0
        clear hx hil hy
        go_wp2_with fail
        go_roundg g1
        case measure => omega
        case rel => exact ⟨i + 1, by omega, by go_num, by rw [HAT.out], HBX9.out⟩
      · have HAT := hide (at_no (nm := nm) hil (by rw [hy]; exact hx))
        obtain ⟨sx, hsx⟩ : ∃ t, str y.n = t := ⟨_, rfl⟩
        have hbq : (sx.toList == sv.toList) = false := by rw [← hsx, ← HSVS.out, list_beq]; exact decide_eq_false hx
        rw [hsx] at c0 hX9 d0
        clear hx hil hy hsx
        go_wp2_with fail
        go_roundg g1
        case measure => omega
        case rel => exact ⟨i + 1, by omega, by go_num, by rw [HAT.out], HBX9.out⟩
    | zero =>
      obtain rfl : i = n := by omega
      have hlt : ¬ ((i : Int) < (i : Int)) := by omega
      rw [show atF L nm i = (ki : Int) from by rw [← HN.out, at_in (by rw [HK9.out]; exact HIX.out), HK9.out]]
      have HXr := hide (HX1.out.grow HBL.out)
      have HMr := hide (HM1.out.grow HBL.out)
      have HCr := hide (HC1.out.grow HBL.out)
      have HBr := hide (HB1.out.carry HBL.out)
      have HNr := hide (HNB.out.carry HBL.out)
      have HBXr := hide (below_one HBX1.out HBL.out)
      have HOr := hide (HOW.out.grow HBL.out)
      have HEr := hide ((HXr.out.stayK).from HBXr.out)
      clear c2 hlk
      have c2 := HXr.out.bx.c2
      have hlk := HXr.out.lookL HZ.out
      rw [HV.out] at hlk
      obtain ⟨v5, w5, hr5, ho5, hb5, hv5⟩ := copy_any HOr.out HG.out.1 HXr.out.nw 143
      obtain ⟨y, hy⟩ : ∃ y, L.getD ki Rw.zero = y := ⟨_, rfl⟩
      have HYE := hide hy
      obtain ⟨h5, c5, e5, hc5, hm5, _, _, hce5, hfz5⟩ := ho5.elem ki HIX.out y hy
      rw [HN.out] at e5
      subst e5
      have HR5 := hide hr5
      have HO5 := hide ho5
      have HV5 := hide hv5
      have HB5 := hide hb5
      have HX5 := hide (HXr.out.grow hb5)
      have HM5 := hide (HMr.out.grow hb5)
      have HC5 := hide (HCr.out.grow hb5)
      have HBb5 := hide (HBr.out.carry hb5)
      have HNn5 := hide (HNr.out.carry hb5)
      have HBX5 := hide (below_one HBXr.out hb5)
      have HE5 := hide (HEr.out.to hb5)
      have HC55 := hide hc5
      have k3 : wr.cell? ⟨w.heap.size, 3, none⟩ = some (.int .u16 101) := by have := HMr.out.all.2.2.2.1; rw [HM3.out] at this; exact this
      obtain ⟨j0, j1, j2, j3, j4, j5, j6, j7, j8, j9, j10⟩ := HM5.out.all
      rw [HM3.out] at j3
      clear hr5 ho5 hv5 hb5 hm5
      have HYK := hide ((HG.out.2.1 _ (mem_getR HIX.out)))
      rw [hy] at HYK
      have HYE := hide hy
      obtain ⟨⟨yn, ⟨cp, co, cr, cc⟩, ym⟩, hyy⟩ : ∃ q, y = q := ⟨_, rfl⟩
      subst hyy
      obtain ⟨e0, e1, e2, e3, e4, e5'⟩ := hce5
      simp only at e0 e1 e2 e3 e4 e5'
      obtain ⟨V, hV⟩ : ∃ V, w5.alloc (.cells #[.string (str yn), .int .u64 (cp : Int), .int .u32 (co : Int), .int .u8 (cr : Int), .int .u64 (cc : Int), .int .u8 (ym : Int)] 145) = V := ⟨_, rfl⟩
      have bV : Below w5.heap.size w5 V := hV ▸ below_alloc _ _
      have HRV : Hid (RwL V w5.heap.size ⟨yn, ⟨cp, co, cr, cc⟩, ym⟩) := hV ▸ rwl_new w5 ⟨yn, ⟨cp, co, cr, cc⟩, ym⟩
      obtain ⟨a0, a1, a2, a3, a4, a5⟩ := HRV.out.all
      simp only at a0 a1 a2 a3 a4 a5
      have HCV := hide (HC5.out.grow bV)
      have HEV := hide (HE5.out.to bV)
      have HXV := hide (HX5.out.grow bV)
      have HBXV := hide (below_one HBX5.out bV)
      have hcr : cr < 256 := by have := HYK.out.2.1.2.2.1; simp only at this; omega
      have hym : ym < 256 := by have := HYK.out.2.2; simp only at this; omega
      clear bV hy
      have hk3 : (ki : Int) < (i : Int) := hk2
      have HFT : Hid (lookF ws s ⟨yn, ⟨cp, co, cr, cc⟩, 255⟩ = ⟨0, ⟨cp, co, cr, cc⟩, 0, [], s⟩) := by show _ = _; unfold lookF; rw [if_pos (by show cr &&& (255 - 255) = 0; simp)]
      have hm255 : ym = 255 := by have := hfit; rw [HLL.out, HNMO.out, HK9.out, HYE.out] at this; exact this
      subst hm255
      rw [show (((255 : Nat)) : Int) = 255 from rfl] at e5' a5 hV
      clear hfit
      clear hcr hym
      have y0 := HCV.out.c0
      have y1 := HCV.out.c1
      have y2 := HCV.out.c2
      have y3 := HCV.out.c3
      have x0 := HCV.out.z' 0
      have x1 := HCV.out.z' 1
      have x2 := HCV.out.z' 2
      have x3 := HCV.out.z' 3
      have HZZ := hide (HCV.out.put (cp : Int) (co : Int) (cr : Int) (cc : Int))
      have HEZ := hide (HEV.out.cbi HW0.out HCV.out (by omega) (foot_cap4 V (w.heap.size + 1) (cp : Int) (co : Int) (cr : Int) (cc : Int)))
      obtain ⟨wz, hwz⟩ : ∃ wz, (((V.setCell ⟨w.heap.size + 1, 0, none⟩ (.int .u64 (cp : Int))).setCell ⟨w.heap.size + 1, 1, none⟩ (.int .u32 (co : Int))).setCell ⟨w.heap.size + 1, 2, none⟩ (.int .u8 (cr : Int))).setCell ⟨w.heap.size + 1, 3, none⟩ (.int .u64 (cc : Int)) = wz := ⟨_, rfl⟩
      rw [hwz] at HZZ HEZ
      have v0 := HZZ.out.c0
      have v1 := HZZ.out.c1
      have v2 := HZZ.out.c2
      have v3 := HZZ.out.c3
      go_wp2_with (at_builtin; refine wpList_append_run rfl _ _ _ rfl _ _ _ _ rfl rfl HR5.out ?_)
      refine bodyPost_ret (by simp [results, Tryz.results41, go_sem, v0, v1, v2, v3]; rfl) rfl ?_
      rw [show L[ki]?.getD Rw.zero = (⟨yn, ⟨cp, co, cr, cc⟩, 255⟩ : Rw) from by rw [← List.getD_eq_getElem?_getD]; exact HYE.out, HFT.out]
      exact ⟨none, 0, 0, rfl, bts_nil _, new_none _, by omega, HEZ.out⟩
set_option maxRecDepth 20000 in
set_option maxHeartbeats 6400000 in
theorem mdo_look1 (z : Int) (m : Msg) (so : Option Addr) (sn sc : Nat) (l : List UInt8) (w : World) (h : A.sb.2 = true) (x : Sv w0 w A p ws s) (k : Dok z s) (hd : A.dv ≠ none) (hb : Bts w so sn sc l) (hop : m.op = 101) (hyes : hasNm l = true) (hidx : idxR (s.L z) (nmOf l) < (s.L z).length) (hfit : ¬ ((s.L z).getD (idxR (s.L z) (nmOf l)) Rw.zero).m = 255 ∧ ((s.L z).getD (idxR (s.L z) (nmOf l)) Rw.zero).c.r &&& (255 - ((s.L z).getD (idxR (s.L z) (nmOf l)) Rw.zero).m) = 0) :
    Calls Tryz.prog 41 #[.pointer (some ⟨A.sb.1, 0, none⟩), .agg #[.int .u64 m.ta, .int .u64 m.rp, .int .u32 m.id, .int .u16 m.op, .int .u16 m.st, .int .u64 m.p, .int .u32 m.o, .int .u8 m.r, .int .u64 m.c, .int .u64 m.ar, .slice so sn sc], .int .i64 z] w fun e w' => MdoEnd w0 w A p ws (lookF ws s ((s.L z).getD (idxR (s.L z) (nmOf l)) Rw.zero)) e w' := by
  obtain ⟨X, hX, bm, bc, bX⟩ := mdo_vars w m (.slice so sn sc)
  have HS := hide h
  have HX := hide (x.grow bX)
  have HB := hide (hb.carry bX)
  have HM := hide bm
  have HC := hide bc
  have HBX := hide bX
  have HW0 : Hid (w0.heap.size ≤ w.heap.size) := x.bel.size
  have HK := hide k
  have HSZ : Hid (w.heap.size + 1 < X.heap.size) := lt_of_heap bc
  obtain ⟨bd, hbd⟩ : ∃ b, A.dv = some b := Option.ne_none_iff_exists'.1 hd
  have HD := hide hbd
  obtain ⟨k0, k1, k2, k3, k4, k5, k6, k7, k8, k9, k10⟩ := HM.out.all
  have hopi : (m.op : Int) = 101 := by omega
  rw [hopi] at k3 hX
  have HM3 := hide hopi
  have hl := hb.1
  obtain ⟨xn, hxn⟩ : ∃ x, nmN l = x := ⟨_, rfl⟩
  have HXN : Hid (numF ((l.drop 0).take 2) = xn) := hxn
  have hN : (2 ≤ l.length ∧ 2 + xn ≤ l.length) ∧ 1 ≤ xn ∧ xn ≤ 32 := by
    unfold hasNm at hyes; rw [hxn] at hyes; exact of_decide_eq_true hyes
  rw [← hl] at hN
  have g1 : 2 ≤ sn := by omega
  have g2 : 2 + xn ≤ sn := by omega
  have hlt1 : ¬ (xn : Int) < 1 := by omega
  have hgt1 : ¬ (xn : Int) > 32 := by omega
  obtain ⟨ke, hke⟩ : ∃ k, 2 + xn = k := ⟨_, rfl⟩
  have HKE := hide (show 2 + nmN l = ke by rw [hxn]; exact hke)
  have HYES := hide hyes
  obtain ⟨nm, hnm⟩ : ∃ nm, nmOf l = nm := ⟨_, rfl⟩
  have HNM : Hid ((l.drop 2).take xn = nm) := by show _ = _; rw [← hxn]; exact hnm
  obtain ⟨L, hL⟩ : ∃ L, s.L z = L := ⟨_, rfl⟩
  have HLL := hide hL
  have hG := x.good z
  obtain ⟨v, hv⟩ : ∃ v, A.nv z = v := ⟨_, rfl⟩
  have HV := hide hv
  have hown := x.lawR h z
  rw [hv, hL] at hown
  rw [hL] at hG
  have HG := hide hG
  rw [hnm, hL] at hidx
  have HNMO := hide hnm
  obtain ⟨ao, cap, hve, hnc, hcap⟩ := hown.form
  obtain ⟨n, hn⟩ : ∃ n, L.length = n := ⟨_, rfl⟩
  have HN := hide hn
  rw [hn] at hve
  subst hve
  try rw [hL, hnm]
  obtain ⟨ki, hk9⟩ : ∃ k, idxR L nm = k := ⟨_, rfl⟩
  have HK9 := hide hk9
  rw [hk9] at hidx
  have HIX := hide hidx
  try rw [hk9]
  have hk0 : (0 : Int) ≤ (ki : Int) := by omega
  have hk1 : ¬ (ki : Int) < 0 := by omega
  have hk2 : (ki : Int) < (n : Int) := by omega
  have HZ := hide k.z
  clear bm bc bX x hb k h hd hbd hyes hxn hl hN hnm hL hv hown hG hidx hk9 hop
  go_enter Tryz.func41, Tryz.ntmps41
  go_wp2_with fail
  refine (gb_yes so sn sc l _ HB.out xn HXN.out g1 g2 ke hke).mono ?_; rw [HNM.out]; rintro e w1 ⟨no, nc, rfl, B1, N1, b1⟩
  have HNB := hide B1
  have HX1 := hide (HX.out.grow b1)
  have HM1 := hide (HM.out.grow b1)
  have HC1 := hide (HC.out.grow b1)
  have HB1 := hide (HB.out.carry b1)
  have HBX1 := hide (below_one HBX.out b1)
  have hlk := HX1.out.lookL HZ.out
  rw [HV.out] at hlk
  have c2 := HX1.out.bx.c2
  have HOW := hide (HX1.out.lawR HS.out z)
  rw [HV.out, HLL.out] at HOW
  obtain ⟨sv, hsv⟩ : ∃ t, str nm = t := ⟨_, rfl⟩
  have HSVS := hide hsv
  clear B1 N1 b1 g1 g2 hke hsv k0 k1 k2 k3 k4 k5 k6 k7 k8 k9 k10
  go_wp2_with fail
  go_loopg [17, 106] n (fun gk va vi wr => ∃ i : Nat, i + gk = n ∧ vi = .int .i64 (i : Int) ∧ va = .int .i64 (atF L nm i) ∧ Below w1.heap.size w1 wr)
  case atStart => exact ⟨0, by omega, rfl, by rw [at_zero], Below.refl _ _⟩
  case round =>
    obtain ⟨i, hi, rfl, rfl, bl⟩ := hrel
    have HBL := hide bl
    clear bl
    cases gk with
    | succ g1 =>
      have hlt : (i : Int) < (n : Int) := by omega
      have hil : i < L.length := by have := HN.out; omega
      obtain ⟨y, hy⟩ : ∃ y, L.getD i Rw.zero = y := ⟨_, rfl⟩
      obtain ⟨h, ac, e, _, _, _, _, ⟨c0, c1, c2', c3, c4, c5⟩, _⟩ := OwnR.elem (T := 145) (HOW.out.grow HBL.out) i hil y hy
      obtain ⟨rfl, rfl⟩ : ao = some ⟨h, 0, none⟩ ∧ cap = ac := by simp only [Value.slice.injEq] at e; exact ⟨e.1, e.2.2⟩
      clear e
      have cvw := fun U (b : Below wr.heap.size wr U) => conv_bts ((HNB.out.carry HBL.out).carry b)
      rw [HSVS.out] at cvw
      obtain ⟨X9, hX9⟩ : ∃ X, wr.alloc (.cells #[.string (str y.n), .int .u64 (y.c.p : Int), .int .u32 (y.c.o : Int), .int .u8 (y.c.r : Int), .int .u64 (y.c.c : Int), .int .u8 (y.m : Int)] 145) = X := ⟨_, rfl⟩
      have b9 : Below wr.heap.size wr X9 := hX9 ▸ below_alloc wr _
      have d0 : X9.cell? ⟨wr.heap.size, 0, none⟩ = some (.string (str y.n)) := by rw [← hX9]; simp
      have cvd := cvw X9 b9
      have HBX9 := hide (below_one HBL.out b9)
      clear cvw b9
      by_cases hx : y.n = nm
      · have HAT := hide (at_yes (nm := nm) HG.out.2.2 hil (by rw [hy]; exact hx))
        have hbq : (sv.toList == sv.toList) = true := by simp
        rw [hx, HSVS.out] at c0 hX9 d0
        clear hx hil hy
        go_wp2_with fail
        go_roundg g1
        case measure => omega
        case rel => exact ⟨i + 1, by omega, by go_num, by rw [HAT.out], HBX9.out⟩
      · have HAT := hide (at_no (nm := nm) hil (by rw [hy]; exact hx))
        obtain ⟨sx, hsx⟩ : ∃ t, str y.n = t := ⟨_, rfl⟩
        have hbq : (sx.toList == sv.toList) = false := by rw [← hsx, ← HSVS.out, list_beq]; exact decide_eq_false hx
        rw [hsx] at c0 hX9 d0
        clear hx hil hy hsx
        go_wp2_with fail
        go_roundg g1
        case measure => omega
        case rel => exact ⟨i + 1, by omega, by go_num, by rw [HAT.out], HBX9.out⟩
    | zero =>
      obtain rfl : i = n := by omega
      have hlt : ¬ ((i : Int) < (i : Int)) := by omega
      rw [show atF L nm i = (ki : Int) from by rw [← HN.out, at_in (by rw [HK9.out]; exact HIX.out), HK9.out]]
      have HXr := hide (HX1.out.grow HBL.out)
      have HMr := hide (HM1.out.grow HBL.out)
      have HCr := hide (HC1.out.grow HBL.out)
      have HBr := hide (HB1.out.carry HBL.out)
      have HNr := hide (HNB.out.carry HBL.out)
      have HBXr := hide (below_one HBX1.out HBL.out)
      have HOr := hide (HOW.out.grow HBL.out)
      have HEr := hide ((HXr.out.stayK).from HBXr.out)
      clear c2 hlk
      have c2 := HXr.out.bx.c2
      have hlk := HXr.out.lookL HZ.out
      rw [HV.out] at hlk
      obtain ⟨v5, w5, hr5, ho5, hb5, hv5⟩ := copy_any HOr.out HG.out.1 HXr.out.nw 143
      obtain ⟨y, hy⟩ : ∃ y, L.getD ki Rw.zero = y := ⟨_, rfl⟩
      have HYE := hide hy
      obtain ⟨h5, c5, e5, hc5, hm5, _, _, hce5, hfz5⟩ := ho5.elem ki HIX.out y hy
      rw [HN.out] at e5
      subst e5
      have HR5 := hide hr5
      have HO5 := hide ho5
      have HV5 := hide hv5
      have HB5 := hide hb5
      have HX5 := hide (HXr.out.grow hb5)
      have HM5 := hide (HMr.out.grow hb5)
      have HC5 := hide (HCr.out.grow hb5)
      have HBb5 := hide (HBr.out.carry hb5)
      have HNn5 := hide (HNr.out.carry hb5)
      have HBX5 := hide (below_one HBXr.out hb5)
      have HE5 := hide (HEr.out.to hb5)
      have HC55 := hide hc5
      have k3 : wr.cell? ⟨w.heap.size, 3, none⟩ = some (.int .u16 101) := by have := HMr.out.all.2.2.2.1; rw [HM3.out] at this; exact this
      obtain ⟨j0, j1, j2, j3, j4, j5, j6, j7, j8, j9, j10⟩ := HM5.out.all
      rw [HM3.out] at j3
      clear hr5 ho5 hv5 hb5 hm5
      have HYK := hide ((HG.out.2.1 _ (mem_getR HIX.out)))
      rw [hy] at HYK
      have HYE := hide hy
      obtain ⟨⟨yn, ⟨cp, co, cr, cc⟩, ym⟩, hyy⟩ : ∃ q, y = q := ⟨_, rfl⟩
      subst hyy
      obtain ⟨e0, e1, e2, e3, e4, e5'⟩ := hce5
      simp only at e0 e1 e2 e3 e4 e5'
      obtain ⟨V, hV⟩ : ∃ V, w5.alloc (.cells #[.string (str yn), .int .u64 (cp : Int), .int .u32 (co : Int), .int .u8 (cr : Int), .int .u64 (cc : Int), .int .u8 (ym : Int)] 145) = V := ⟨_, rfl⟩
      have bV : Below w5.heap.size w5 V := hV ▸ below_alloc _ _
      have HRV : Hid (RwL V w5.heap.size ⟨yn, ⟨cp, co, cr, cc⟩, ym⟩) := hV ▸ rwl_new w5 ⟨yn, ⟨cp, co, cr, cc⟩, ym⟩
      obtain ⟨a0, a1, a2, a3, a4, a5⟩ := HRV.out.all
      simp only at a0 a1 a2 a3 a4 a5
      have HCV := hide (HC5.out.grow bV)
      have HEV := hide (HE5.out.to bV)
      have HXV := hide (HX5.out.grow bV)
      have HBXV := hide (below_one HBX5.out bV)
      have hcr : cr < 256 := by have := HYK.out.2.1.2.2.1; simp only at this; omega
      have hym : ym < 256 := by have := HYK.out.2.2; simp only at this; omega
      clear bV hy
      have hk3 : (ki : Int) < (i : Int) := hk2
      have h255 : ¬ ym = 255 := by have := hfit.1; rw [HLL.out, HNMO.out, HK9.out, HYE.out] at this; exact this
      have n255 : ((ym : Int) == 255) = false := by rw [beq_eq_false_iff_ne]; omega
      have hand := u8_and_nat cr ym hcr hym
      have h2 := hfit.2
      rw [HLL.out, HNMO.out, HK9.out, HYE.out] at h2
      simp only at h2
      have h3 := (mask_all cr ym (by omega) (by omega)).1 h2
      rw [h3] at hand
      have HFT : Hid (lookF ws s ⟨yn, ⟨cp, co, cr, cc⟩, ym⟩ = ⟨0, ⟨cp, co, cr, cc⟩, 0, [], s⟩) := by show _ = _; unfold lookF; rw [if_pos h2]
      clear hfit h2 h3 h255
      clear hcr hym
      have y0 := HCV.out.c0
      have y1 := HCV.out.c1
      have y2 := HCV.out.c2
      have y3 := HCV.out.c3
      have x0 := HCV.out.z' 0
      have x1 := HCV.out.z' 1
      have x2 := HCV.out.z' 2
      have x3 := HCV.out.z' 3
      have HZZ := hide (HCV.out.put (cp : Int) (co : Int) (cr : Int) (cc : Int))
      have HEZ := hide (HEV.out.cbi HW0.out HCV.out (by omega) (foot_cap4 V (w.heap.size + 1) (cp : Int) (co : Int) (cr : Int) (cc : Int)))
      obtain ⟨wz, hwz⟩ : ∃ wz, (((V.setCell ⟨w.heap.size + 1, 0, none⟩ (.int .u64 (cp : Int))).setCell ⟨w.heap.size + 1, 1, none⟩ (.int .u32 (co : Int))).setCell ⟨w.heap.size + 1, 2, none⟩ (.int .u8 (cr : Int))).setCell ⟨w.heap.size + 1, 3, none⟩ (.int .u64 (cc : Int)) = wz := ⟨_, rfl⟩
      rw [hwz] at HZZ HEZ
      have v0 := HZZ.out.c0
      have v1 := HZZ.out.c1
      have v2 := HZZ.out.c2
      have v3 := HZZ.out.c3
      go_wp2_with (at_builtin; refine wpList_append_run rfl _ _ _ rfl _ _ _ _ rfl rfl HR5.out ?_)
      refine bodyPost_ret (by simp [results, Tryz.results41, go_sem, v0, v1, v2, v3]; rfl) rfl ?_
      rw [show L[ki]?.getD Rw.zero = (⟨yn, ⟨cp, co, cr, cc⟩, ym⟩ : Rw) from by rw [← List.getD_eq_getElem?_getD]; exact HYE.out, HFT.out]
      exact ⟨none, 0, 0, rfl, bts_nil _, new_none _, by omega, HEZ.out⟩
end
end Go.Proofs.YtlmnnjibggdboaaGreatDoor
namespace Go.Proofs.YtlmnnjibggdboaaGreatDoor
section
open Go.RowKit
variable {w0 w w1 w2 w' : World} {A A' : Ad} {p : Nat} {ws : List Nat} {s s' s1 : Hs} {r g : Nat}
set_option maxRecDepth 20000 in
set_option maxHeartbeats 6400000 in
theorem mdo_look0 (z : Int) (m : Msg) (so : Option Addr) (sn sc : Nat) (l : List UInt8) (w : World) (h : A.sb.2 = true) (x : Sv w0 w A p ws s) (k : Dok z s) (hd : A.dv ≠ none) (hb : Bts w so sn sc l) (hop : m.op = 101) (hyes : hasNm l = true) (hidx : idxR (s.L z) (nmOf l) < (s.L z).length) (hfit : ¬ ((s.L z).getD (idxR (s.L z) (nmOf l)) Rw.zero).m = 255 ∧ ((s.L z).getD (idxR (s.L z) (nmOf l)) Rw.zero).c.r &&& (255 - ((s.L z).getD (idxR (s.L z) (nmOf l)) Rw.zero).m) ≠ 0) :
    Calls Tryz.prog 41 #[.pointer (some ⟨A.sb.1, 0, none⟩), .agg #[.int .u64 m.ta, .int .u64 m.rp, .int .u32 m.id, .int .u16 m.op, .int .u16 m.st, .int .u64 m.p, .int .u32 m.o, .int .u8 m.r, .int .u64 m.c, .int .u64 m.ar, .slice so sn sc], .int .i64 z] w fun e w' => MdoEnd w0 w A p ws (lookF ws s ((s.L z).getD (idxR (s.L z) (nmOf l)) Rw.zero)) e w' := by
  obtain ⟨X, hX, bm, bc, bX⟩ := mdo_vars w m (.slice so sn sc)
  have HS := hide h
  have HX := hide (x.grow bX)
  have HB := hide (hb.carry bX)
  have HM := hide bm
  have HC := hide bc
  have HBX := hide bX
  have HW0 : Hid (w0.heap.size ≤ w.heap.size) := x.bel.size
  have HK := hide k
  have HSZ : Hid (w.heap.size + 1 < X.heap.size) := lt_of_heap bc
  obtain ⟨bd, hbd⟩ : ∃ b, A.dv = some b := Option.ne_none_iff_exists'.1 hd
  have HD := hide hbd
  obtain ⟨k0, k1, k2, k3, k4, k5, k6, k7, k8, k9, k10⟩ := HM.out.all
  have hopi : (m.op : Int) = 101 := by omega
  rw [hopi] at k3 hX
  have HM3 := hide hopi
  have hl := hb.1
  obtain ⟨xn, hxn⟩ : ∃ x, nmN l = x := ⟨_, rfl⟩
  have HXN : Hid (numF ((l.drop 0).take 2) = xn) := hxn
  have hN : (2 ≤ l.length ∧ 2 + xn ≤ l.length) ∧ 1 ≤ xn ∧ xn ≤ 32 := by
    unfold hasNm at hyes; rw [hxn] at hyes; exact of_decide_eq_true hyes
  rw [← hl] at hN
  have g1 : 2 ≤ sn := by omega
  have g2 : 2 + xn ≤ sn := by omega
  have hlt1 : ¬ (xn : Int) < 1 := by omega
  have hgt1 : ¬ (xn : Int) > 32 := by omega
  obtain ⟨ke, hke⟩ : ∃ k, 2 + xn = k := ⟨_, rfl⟩
  have HKE := hide (show 2 + nmN l = ke by rw [hxn]; exact hke)
  have HYES := hide hyes
  obtain ⟨nm, hnm⟩ : ∃ nm, nmOf l = nm := ⟨_, rfl⟩
  have HNM : Hid ((l.drop 2).take xn = nm) := by show _ = _; rw [← hxn]; exact hnm
  obtain ⟨L, hL⟩ : ∃ L, s.L z = L := ⟨_, rfl⟩
  have HLL := hide hL
  have hG := x.good z
  obtain ⟨v, hv⟩ : ∃ v, A.nv z = v := ⟨_, rfl⟩
  have HV := hide hv
  have hown := x.lawR h z
  rw [hv, hL] at hown
  rw [hL] at hG
  have HG := hide hG
  rw [hnm, hL] at hidx
  have HNMO := hide hnm
  obtain ⟨ao, cap, hve, hnc, hcap⟩ := hown.form
  obtain ⟨n, hn⟩ : ∃ n, L.length = n := ⟨_, rfl⟩
  have HN := hide hn
  rw [hn] at hve
  subst hve
  try rw [hL, hnm]
  obtain ⟨ki, hk9⟩ : ∃ k, idxR L nm = k := ⟨_, rfl⟩
  have HK9 := hide hk9
  rw [hk9] at hidx
  have HIX := hide hidx
  try rw [hk9]
  have hk0 : (0 : Int) ≤ (ki : Int) := by omega
  have hk1 : ¬ (ki : Int) < 0 := by omega
  have hk2 : (ki : Int) < (n : Int) := by omega
  have HZ := hide k.z
  clear bm bc bX x hb k h hd hbd hyes hxn hl hN hnm hL hv hown hG hidx hk9 hop
  go_enter Tryz.func41, Tryz.ntmps41
  go_wp2_with fail
  refine (gb_yes so sn sc l _ HB.out xn HXN.out g1 g2 ke hke).mono ?_; rw [HNM.out]; rintro e w1 ⟨no, nc, rfl, B1, N1, b1⟩
  have HNB := hide B1
  have HX1 := hide (HX.out.grow b1)
  have HM1 := hide (HM.out.grow b1)
  have HC1 := hide (HC.out.grow b1)
  have HB1 := hide (HB.out.carry b1)
  have HBX1 := hide (below_one HBX.out b1)
  have hlk := HX1.out.lookL HZ.out
  rw [HV.out] at hlk
  have c2 := HX1.out.bx.c2
  have HOW := hide (HX1.out.lawR HS.out z)
  rw [HV.out, HLL.out] at HOW
  obtain ⟨sv, hsv⟩ : ∃ t, str nm = t := ⟨_, rfl⟩
  have HSVS := hide hsv
  clear B1 N1 b1 g1 g2 hke hsv k0 k1 k2 k3 k4 k5 k6 k7 k8 k9 k10
  go_wp2_with fail
  go_loopg [17, 106] n (fun gk va vi wr => ∃ i : Nat, i + gk = n ∧ vi = .int .i64 (i : Int) ∧ va = .int .i64 (atF L nm i) ∧ Below w1.heap.size w1 wr)
  case atStart => exact ⟨0, by omega, rfl, by rw [at_zero], Below.refl _ _⟩
  case round =>
    obtain ⟨i, hi, rfl, rfl, bl⟩ := hrel
    have HBL := hide bl
    clear bl
    cases gk with
    | succ g1 =>
      have hlt : (i : Int) < (n : Int) := by omega
      have hil : i < L.length := by have := HN.out; omega
      obtain ⟨y, hy⟩ : ∃ y, L.getD i Rw.zero = y := ⟨_, rfl⟩
      obtain ⟨h, ac, e, _, _, _, _, ⟨c0, c1, c2', c3, c4, c5⟩, _⟩ := OwnR.elem (T := 145) (HOW.out.grow HBL.out) i hil y hy
      obtain ⟨rfl, rfl⟩ : ao = some ⟨h, 0, none⟩ ∧ cap = ac := by simp only [Value.slice.injEq] at e; exact ⟨e.1, e.2.2⟩
      clear e
      have cvw := fun U (b : Below wr.heap.size wr U) => conv_bts ((HNB.out.carry HBL.out).carry b)
      rw [HSVS.out] at cvw
      obtain ⟨X9, hX9⟩ : ∃ X, wr.alloc (.cells #[.string (str y.n), .int .u64 (y.c.p : Int), .int .u32 (y.c.o : Int), .int .u8 (y.c.r : Int), .int .u64 (y.c.c : Int), .int .u8 (y.m : Int)] 145) = X := ⟨_, rfl⟩
      have b9 : Below wr.heap.size wr X9 := hX9 ▸ below_alloc wr _
      have d0 : X9.cell? ⟨wr.heap.size, 0, none⟩ = some (.string (str y.n)) := by rw [← hX9]; simp
      have cvd := cvw X9 b9
      have HBX9 := hide (below_one HBL.out b9)
      clear cvw b9
      by_cases hx : y.n = nm
      · have HAT := hide (at_yes (nm := nm) HG.out.2.2 hil (by rw [hy]; exact hx))
        have hbq : (sv.toList == sv.toList) = true := by simp
        rw [hx, HSVS.out] at c0 hX9 d0
        clear hx hil hy
        go_wp2_with fail
        go_roundg g1
        case measure => omega
        case rel => exact ⟨i + 1, by omega, by go_num, by rw [HAT.out], HBX9.out⟩
      · have HAT := hide (at_no (nm := nm) hil (by rw [hy]; exact hx))
        obtain ⟨sx, hsx⟩ : ∃ t, str y.n = t := ⟨_, rfl⟩
        have hbq : (sx.toList == sv.toList) = false := by rw [← hsx, ← HSVS.out, list_beq]; exact decide_eq_false hx
        rw [hsx] at c0 hX9 d0
        clear hx hil hy hsx
        go_wp2_with fail
        go_roundg g1
        case measure => omega
        case rel => exact ⟨i + 1, by omega, by go_num, by rw [HAT.out], HBX9.out⟩
    | zero =>
      obtain rfl : i = n := by omega
      have hlt : ¬ ((i : Int) < (i : Int)) := by omega
      rw [show atF L nm i = (ki : Int) from by rw [← HN.out, at_in (by rw [HK9.out]; exact HIX.out), HK9.out]]
      have HXr := hide (HX1.out.grow HBL.out)
      have HMr := hide (HM1.out.grow HBL.out)
      have HCr := hide (HC1.out.grow HBL.out)
      have HBr := hide (HB1.out.carry HBL.out)
      have HNr := hide (HNB.out.carry HBL.out)
      have HBXr := hide (below_one HBX1.out HBL.out)
      have HOr := hide (HOW.out.grow HBL.out)
      have HEr := hide ((HXr.out.stayK).from HBXr.out)
      clear c2 hlk
      have c2 := HXr.out.bx.c2
      have hlk := HXr.out.lookL HZ.out
      rw [HV.out] at hlk
      obtain ⟨v5, w5, hr5, ho5, hb5, hv5⟩ := copy_any HOr.out HG.out.1 HXr.out.nw 143
      obtain ⟨y, hy⟩ : ∃ y, L.getD ki Rw.zero = y := ⟨_, rfl⟩
      have HYE := hide hy
      obtain ⟨h5, c5, e5, hc5, hm5, _, _, hce5, hfz5⟩ := ho5.elem ki HIX.out y hy
      rw [HN.out] at e5
      subst e5
      have HR5 := hide hr5
      have HO5 := hide ho5
      have HV5 := hide hv5
      have HB5 := hide hb5
      have HX5 := hide (HXr.out.grow hb5)
      have HM5 := hide (HMr.out.grow hb5)
      have HC5 := hide (HCr.out.grow hb5)
      have HBb5 := hide (HBr.out.carry hb5)
      have HNn5 := hide (HNr.out.carry hb5)
      have HBX5 := hide (below_one HBXr.out hb5)
      have HE5 := hide (HEr.out.to hb5)
      have HC55 := hide hc5
      have k3 : wr.cell? ⟨w.heap.size, 3, none⟩ = some (.int .u16 101) := by have := HMr.out.all.2.2.2.1; rw [HM3.out] at this; exact this
      obtain ⟨j0, j1, j2, j3, j4, j5, j6, j7, j8, j9, j10⟩ := HM5.out.all
      rw [HM3.out] at j3
      clear hr5 ho5 hv5 hb5 hm5
      have HYK := hide ((HG.out.2.1 _ (mem_getR HIX.out)))
      rw [hy] at HYK
      have HYE := hide hy
      obtain ⟨⟨yn, ⟨cp, co, cr, cc⟩, ym⟩, hyy⟩ : ∃ q, y = q := ⟨_, rfl⟩
      subst hyy
      obtain ⟨e0, e1, e2, e3, e4, e5'⟩ := hce5
      simp only at e0 e1 e2 e3 e4 e5'
      obtain ⟨V, hV⟩ : ∃ V, w5.alloc (.cells #[.string (str yn), .int .u64 (cp : Int), .int .u32 (co : Int), .int .u8 (cr : Int), .int .u64 (cc : Int), .int .u8 (ym : Int)] 145) = V := ⟨_, rfl⟩
      have bV : Below w5.heap.size w5 V := hV ▸ below_alloc _ _
      have HRV : Hid (RwL V w5.heap.size ⟨yn, ⟨cp, co, cr, cc⟩, ym⟩) := hV ▸ rwl_new w5 ⟨yn, ⟨cp, co, cr, cc⟩, ym⟩
      obtain ⟨a0, a1, a2, a3, a4, a5⟩ := HRV.out.all
      simp only at a0 a1 a2 a3 a4 a5
      have HCV := hide (HC5.out.grow bV)
      have HEV := hide (HE5.out.to bV)
      have HXV := hide (HX5.out.grow bV)
      have HBXV := hide (below_one HBX5.out bV)
      have hcr : cr < 256 := by have := HYK.out.2.1.2.2.1; simp only at this; omega
      have hym : ym < 256 := by have := HYK.out.2.2; simp only at this; omega
      clear bV hy
      have hk3 : (ki : Int) < (i : Int) := hk2
      have h255 : ¬ ym = 255 := by have := hfit.1; rw [HLL.out, HNMO.out, HK9.out, HYE.out] at this; exact this
      have n255 : ((ym : Int) == 255) = false := by rw [beq_eq_false_iff_ne]; omega
      have hand := u8_and_nat cr ym hcr hym
      have h2 := hfit.2
      rw [HLL.out, HNMO.out, HK9.out, HYE.out] at h2
      simp only at h2
      obtain ⟨dd, hdd⟩ : ∃ d, cr &&& ym = d := ⟨_, rfl⟩
      have h3 : ¬ dd = cr := fun e => h2 ((mask_all cr ym (by omega) (by omega)).2 (by rw [hdd]; exact e))
      rw [hdd] at hand
      have ndd : ((dd : Int) == (cr : Int)) = false := by rw [beq_eq_false_iff_ne]; omega
      obtain ⟨RF, hRF⟩ : ∃ R, lookF ws s ⟨yn, ⟨cp, co, cr, cc⟩, ym⟩ = R := ⟨_, rfl⟩
      obtain ⟨er, her⟩ : ∃ er, erN (RF.e : Int) = er := ⟨_, rfl⟩
      have HEE := hide her
      obtain ⟨⟨qp, qo, qr, qc⟩, hq⟩ : ∃ q, RF.c = q := ⟨_, rfl⟩
      have HQ := hide hq
      have HAR : Hid (RF.d = []) := hRF ▸ (look_ar _).2
      have HT : Hid (∀ W, Sv w0 W A p ws s → Calls Tryz.prog 62 #[.pointer (some ⟨A.go, 0, none⟩), .agg #[.int .u64 (cp : Int), .int .u32 (co : Int), .int .u8 (cr : Int), .int .u64 (cc : Int)], .int .u8 (ym : Int)] W fun e w' => e = .returned (.tuple #[.agg #[.int .u64 (qp : Int), .int .u32 (qo : Int), .int .u8 (qr : Int), .int .u64 (qc : Int)], er]) ∧ SvK w0 W A p ws w' RF.s) := fun W x => by
        have h := tokk_res ⟨yn, ⟨cp, co, cr, cc⟩, ym⟩ W x HYK.out h2 HK.out.el
        rw [hRF, hq, her] at h
        exact h
      have HRES : Hid (lookF ws s ⟨yn, ⟨cp, co, cr, cc⟩, ym⟩ = RF) := hRF
      clear hfit h2 h3 h255 hdd hRF her hq
      clear hcr hym
      go_wp2_with (at_builtin; refine wpList_append_run rfl _ _ _ rfl _ _ _ _ rfl rfl HR5.out ?_)
      go_upto_region 33 with fail
      have HNS : Hid (¬ SvS A w5.heap.size) := fun e => by have := (HX5.out.up e).2; omega
      have HLV : Hid (w.heap.size + 1 < V.heap.size ∧ w5.heap.size < V.heap.size) := ⟨lt_of_heap HCV.out, lt_of_heap HRV.out⟩
      go_cut [22, 23] from 167 to 178 (fun v1 v2 wx => ∃ gq, v1 = .pointer (some ⟨gq, 0, none⟩) ∧ v2 = er ∧ CBI wx gq qp qo qr qc ∧ w.heap.size + 1 < gq ∧ CBI wx (w.heap.size + 1) 0 0 0 0 ∧ SvK w0 w A p ws wx RF.s)
      case first =>
        have Ed : Hid (V.drew.cell? ⟨A.sb.1, 1, none⟩ = some (.pointer (some ⟨A.go, 0, none⟩)) ∧ V.drew.cell? ⟨w5.heap.size, 1, none⟩ = some (.int .u64 (cp : Int)) ∧ V.drew.cell? ⟨w5.heap.size, 2, none⟩ = some (.int .u32 (co : Int)) ∧ V.drew.cell? ⟨w5.heap.size, 3, none⟩ = some (.int .u8 (cr : Int)) ∧ V.drew.cell? ⟨w5.heap.size, 4, none⟩ = some (.int .u64 (cc : Int)) ∧ V.drew.cell? ⟨w5.heap.size, 5, none⟩ = some (.int .u8 (ym : Int))) := ⟨HXV.out.bx.c1, RwL.five (RwL.dr HRV.out)⟩
        have Eda : Hid ((V.alloc (.cells #[.int .u64 0, .int .u32 0, .int .u8 0, .int .u64 0] 40)).drew.cell? ⟨A.sb.1, 1, none⟩ = some (.pointer (some ⟨A.go, 0, none⟩)) ∧ (V.alloc (.cells #[.int .u64 0, .int .u32 0, .int .u8 0, .int .u64 0] 40)).drew.cell? ⟨w5.heap.size, 1, none⟩ = some (.int .u64 (cp : Int)) ∧ (V.alloc (.cells #[.int .u64 0, .int .u32 0, .int .u8 0, .int .u64 0] 40)).drew.cell? ⟨w5.heap.size, 2, none⟩ = some (.int .u32 (co : Int)) ∧ (V.alloc (.cells #[.int .u64 0, .int .u32 0, .int .u8 0, .int .u64 0] 40)).drew.cell? ⟨w5.heap.size, 3, none⟩ = some (.int .u8 (cr : Int)) ∧ (V.alloc (.cells #[.int .u64 0, .int .u32 0, .int .u8 0, .int .u64 0] 40)).drew.cell? ⟨w5.heap.size, 4, none⟩ = some (.int .u64 (cc : Int)) ∧ (V.alloc (.cells #[.int .u64 0, .int .u32 0, .int .u8 0, .int .u64 0] 40)).drew.cell? ⟨w5.heap.size, 5, none⟩ = some (.int .u8 (ym : Int))) := ⟨(HXV.out.grow (below_alloc V (.cells #[.int .u64 0, .int .u32 0, .int .u8 0, .int .u64 0] 40))).bx.c1, RwL.five (RwL.dr (HRV.out.grow (below_alloc V (.cells #[.int .u64 0, .int .u32 0, .int .u8 0, .int .u64 0] 40))))⟩
        go_region_held (fun U => U.cell? ⟨A.sb.1, 1, none⟩ = some (.pointer (some ⟨A.go, 0, none⟩)) ∧ U.cell? ⟨w5.heap.size, 1, none⟩ = some (.int .u64 (cp : Int)) ∧ U.cell? ⟨w5.heap.size, 2, none⟩ = some (.int .u32 (co : Int)) ∧ U.cell? ⟨w5.heap.size, 3, none⟩ = some (.int .u8 (cr : Int)) ∧ U.cell? ⟨w5.heap.size, 4, none⟩ = some (.int .u64 (cc : Int)) ∧ U.cell? ⟨w5.heap.size, 5, none⟩ = some (.int .u8 (ym : Int)))
          (first | with_reducible exact Ed.out | with_reducible exact Eda.out | with_reducible exact E2.out | with_reducible exact E2a.out | with_reducible exact E2b.out | with_reducible exact E2c.out)
          (first
            | (go_at_call 62; refine (HT.out _ (HXV.out.grow (by go_grown))).mono ?_; rintro e w2 ⟨rfl, E⟩
               have xg : Sv w0 _ A p ws s := HXV.out.grow (by go_grown)
               have k2 := Sv.khK (HXV.out.grow (by go_grown)) E
               have HC2 := hide (CBI.kh (HCV.out.grow (by go_grown)) k2)
               have HE2 := hide (SvK.from E (below_one HBXV.out (by go_grown)))
               have HSZ2 : Hid (V.heap.size ≤ w2.heap.size) := Nat.le_trans (by simp) k2.size
               have HR2 : Hid (RwL w2 w5.heap.size ⟨yn, ⟨cp, co, cr, cc⟩, ym⟩) := by
                 obtain ⟨_, _, _, F, _⟩ := E
                 exact RwL.foot (HRV.out.grow (by go_grown)) F HNS.out
               have bx2 : w2.cell? ⟨A.sb.1, 1, none⟩ = some (.pointer (some ⟨A.go, 0, none⟩)) := by
                 obtain ⟨_, _, X2, _⟩ := E
                 exact X2.bx.c1
               have HB2 := hide bx2
               have lsb : A.sb.1 < w2.heap.size := lt_of_cell bx2
               have HLS := hide lsb
               have E2 : Hid (w2.cell? ⟨A.sb.1, 1, none⟩ = some (.pointer (some ⟨A.go, 0, none⟩)) ∧ w2.cell? ⟨w5.heap.size, 1, none⟩ = some (.int .u64 (cp : Int)) ∧ w2.cell? ⟨w5.heap.size, 2, none⟩ = some (.int .u32 (co : Int)) ∧ w2.cell? ⟨w5.heap.size, 3, none⟩ = some (.int .u8 (cr : Int)) ∧ w2.cell? ⟨w5.heap.size, 4, none⟩ = some (.int .u64 (cc : Int)) ∧ w2.cell? ⟨w5.heap.size, 5, none⟩ = some (.int .u8 (ym : Int))) := ⟨bx2, HR2.out.five⟩
               have E2a : Hid ((w2.alloc (.cells #[.int .u64 0, .int .u32 0, .int .u8 0, .int .u64 0] 40)).cell? ⟨A.sb.1, 1, none⟩ = some (.pointer (some ⟨A.go, 0, none⟩)) ∧ (w2.alloc (.cells #[.int .u64 0, .int .u32 0, .int .u8 0, .int .u64 0] 40)).cell? ⟨w5.heap.size, 1, none⟩ = some (.int .u64 (cp : Int)) ∧ (w2.alloc (.cells #[.int .u64 0, .int .u32 0, .int .u8 0, .int .u64 0] 40)).cell? ⟨w5.heap.size, 2, none⟩ = some (.int .u32 (co : Int)) ∧ (w2.alloc (.cells #[.int .u64 0, .int .u32 0, .int .u8 0, .int .u64 0] 40)).cell? ⟨w5.heap.size, 3, none⟩ = some (.int .u8 (cr : Int)) ∧ (w2.alloc (.cells #[.int .u64 0, .int .u32 0, .int .u8 0, .int .u64 0] 40)).cell? ⟨w5.heap.size, 4, none⟩ = some (.int .u64 (cc : Int)) ∧ (w2.alloc (.cells #[.int .u64 0, .int .u32 0, .int .u8 0, .int .u64 0] 40)).cell? ⟨w5.heap.size, 5, none⟩ = some (.int .u8 (ym : Int))) := ⟨by rw [(below_alloc w2 _).cell lsb]; exact bx2, (HR2.out.grow (below_alloc w2 _)).five⟩
               have E2b : Hid ((w2.alloc (.cells #[.int .u64 (qp : Int), .int .u32 (qo : Int), .int .u8 (qr : Int), .int .u64 (qc : Int)] 40)).cell? ⟨A.sb.1, 1, none⟩ = some (.pointer (some ⟨A.go, 0, none⟩)) ∧ (w2.alloc (.cells #[.int .u64 (qp : Int), .int .u32 (qo : Int), .int .u8 (qr : Int), .int .u64 (qc : Int)] 40)).cell? ⟨w5.heap.size, 1, none⟩ = some (.int .u64 (cp : Int)) ∧ (w2.alloc (.cells #[.int .u64 (qp : Int), .int .u32 (qo : Int), .int .u8 (qr : Int), .int .u64 (qc : Int)] 40)).cell? ⟨w5.heap.size, 2, none⟩ = some (.int .u32 (co : Int)) ∧ (w2.alloc (.cells #[.int .u64 (qp : Int), .int .u32 (qo : Int), .int .u8 (qr : Int), .int .u64 (qc : Int)] 40)).cell? ⟨w5.heap.size, 3, none⟩ = some (.int .u8 (cr : Int)) ∧ (w2.alloc (.cells #[.int .u64 (qp : Int), .int .u32 (qo : Int), .int .u8 (qr : Int), .int .u64 (qc : Int)] 40)).cell? ⟨w5.heap.size, 4, none⟩ = some (.int .u64 (cc : Int)) ∧ (w2.alloc (.cells #[.int .u64 (qp : Int), .int .u32 (qo : Int), .int .u8 (qr : Int), .int .u64 (qc : Int)] 40)).cell? ⟨w5.heap.size, 5, none⟩ = some (.int .u8 (ym : Int))) := ⟨by rw [(below_alloc w2 _).cell lsb]; exact bx2, (HR2.out.grow (below_alloc w2 _)).five⟩
               (try
                  have C0 := CBI.kh (show CBI (V.alloc (.cells #[.int .u64 0, .int .u32 0, .int .u8 0, .int .u64 0] 40)).drew V.heap.size 0 0 0 0 from CBI.new _ 0 0 0 0) k2
                  have HC0 := hide C0
                  have d0 := C0.c0
                  have d1 := C0.c1
                  have d2 := C0.c2
                  have d3 := C0.c3
                  have x0 := C0.z'
                  have ne1 : ¬ w5.heap.size = V.heap.size := by have := HLV.out.2; omega
                  have ne2 : ¬ A.sb.1 = V.heap.size := by have := lt_of_heap HXV.out.bx; omega
                  have f4 := foot_cap4 w2 V.heap.size (qp : Int) (qo : Int) (qr : Int) (qc : Int)
                  have E2c : Hid (((((w2.setCell ⟨V.heap.size, 0, none⟩ (.int .u64 (qp : Int))).setCell ⟨V.heap.size, 1, none⟩ (.int .u32 (qo : Int))).setCell ⟨V.heap.size, 2, none⟩ (.int .u8 (qr : Int))).setCell ⟨V.heap.size, 3, none⟩ (.int .u64 (qc : Int))).cell? ⟨A.sb.1, 1, none⟩ = some (.pointer (some ⟨A.go, 0, none⟩)) ∧ ((((w2.setCell ⟨V.heap.size, 0, none⟩ (.int .u64 (qp : Int))).setCell ⟨V.heap.size, 1, none⟩ (.int .u32 (qo : Int))).setCell ⟨V.heap.size, 2, none⟩ (.int .u8 (qr : Int))).setCell ⟨V.heap.size, 3, none⟩ (.int .u64 (qc : Int))).cell? ⟨w5.heap.size, 1, none⟩ = some (.int .u64 (cp : Int)) ∧ ((((w2.setCell ⟨V.heap.size, 0, none⟩ (.int .u64 (qp : Int))).setCell ⟨V.heap.size, 1, none⟩ (.int .u32 (qo : Int))).setCell ⟨V.heap.size, 2, none⟩ (.int .u8 (qr : Int))).setCell ⟨V.heap.size, 3, none⟩ (.int .u64 (qc : Int))).cell? ⟨w5.heap.size, 2, none⟩ = some (.int .u32 (co : Int)) ∧ ((((w2.setCell ⟨V.heap.size, 0, none⟩ (.int .u64 (qp : Int))).setCell ⟨V.heap.size, 1, none⟩ (.int .u32 (qo : Int))).setCell ⟨V.heap.size, 2, none⟩ (.int .u8 (qr : Int))).setCell ⟨V.heap.size, 3, none⟩ (.int .u64 (qc : Int))).cell? ⟨w5.heap.size, 3, none⟩ = some (.int .u8 (cr : Int)) ∧ ((((w2.setCell ⟨V.heap.size, 0, none⟩ (.int .u64 (qp : Int))).setCell ⟨V.heap.size, 1, none⟩ (.int .u32 (qo : Int))).setCell ⟨V.heap.size, 2, none⟩ (.int .u8 (qr : Int))).setCell ⟨V.heap.size, 3, none⟩ (.int .u64 (qc : Int))).cell? ⟨w5.heap.size, 4, none⟩ = some (.int .u64 (cc : Int)) ∧ ((((w2.setCell ⟨V.heap.size, 0, none⟩ (.int .u64 (qp : Int))).setCell ⟨V.heap.size, 1, none⟩ (.int .u32 (qo : Int))).setCell ⟨V.heap.size, 2, none⟩ (.int .u8 (qr : Int))).setCell ⟨V.heap.size, 3, none⟩ (.int .u64 (qc : Int))).cell? ⟨w5.heap.size, 5, none⟩ = some (.int .u8 (ym : Int))) := ⟨(f4.cell _ lsb ne2).trans bx2, (HR2.out.foot f4 ne1).five⟩
                  clear C0 f4)
               clear E k2 xg bx2 lsb))
        all_goals go_wp2_with fail
        all_goals go_meet
        all_goals first
          | exact ⟨_, rfl, rfl, CBI.new _ _ _ _ _, by have := HLV.out.1; have := HSZ2.out; omega, HC2.out.grow (below_alloc _ _), HE2.out.to (below_alloc _ _)⟩
          | exact ⟨_, rfl, rfl, HC0.out.put _ _ _ _, HLV.out.1, HC2.out.foot (foot_cap4 _ _ _ _ _ _) (fun e => by have := HLV.out.1; omega), HE2.out.cbi HW0.out HC0.out (by have := HLV.out.1; omega) (foot_cap4 _ _ _ _ _ _)⟩
      case rest =>
        obtain ⟨V6, rfl⟩ : ∃ x, x = wc := ⟨wc, rfl⟩
        obtain ⟨gq, rfl, rfl, cq, hgq, c1, E6⟩ := hcut
        have HCQ := hide cq
        have HC6 := hide c1
        have HE6 := hide E6
        have t0 := HCQ.out.c0
        have t1 := HCQ.out.c1
        have t2 := HCQ.out.c2
        have t3 := HCQ.out.c3
        clear cq c1 E6 hgq
        have y0 := HC6.out.c0
        have y1 := HC6.out.c1
        have y2 := HC6.out.c2
        have y3 := HC6.out.c3
        have x0 := HC6.out.z' 0
        have x1 := HC6.out.z' 1
        have x2 := HC6.out.z' 2
        have x3 := HC6.out.z' 3
        have HZZ := hide (HC6.out.put (qp : Int) (qo : Int) (qr : Int) (qc : Int))
        have HEZ := hide (HE6.out.cbi HW0.out HC6.out (by omega) (foot_cap4 V6 (w.heap.size + 1) (qp : Int) (qo : Int) (qr : Int) (qc : Int)))
        obtain ⟨wz, hwz⟩ : ∃ wz, (((V6.setCell ⟨w.heap.size + 1, 0, none⟩ (.int .u64 (qp : Int))).setCell ⟨w.heap.size + 1, 1, none⟩ (.int .u32 (qo : Int))).setCell ⟨w.heap.size + 1, 2, none⟩ (.int .u8 (qr : Int))).setCell ⟨w.heap.size + 1, 3, none⟩ (.int .u64 (qc : Int)) = wz := ⟨_, rfl⟩
        rw [hwz] at HZZ HEZ
        have v0 := HZZ.out.c0
        have v1 := HZZ.out.c1
        have v2 := HZZ.out.c2
        have v3 := HZZ.out.c3
        go_wp2
        refine bodyPost_ret (by simp [results, Tryz.results41, go_sem, v0, v1, v2, v3]; rfl) rfl ?_
        rw [HYE.out, HRES.out]
        exact ⟨none, 0, 0, by rw [HQ.out, HEE.out]; rfl, by rw [HAR.out]; exact bts_nil _, new_none _, by omega, HEZ.out⟩
end
end Go.Proofs.YtlmnnjibggdboaaGreatDoor
