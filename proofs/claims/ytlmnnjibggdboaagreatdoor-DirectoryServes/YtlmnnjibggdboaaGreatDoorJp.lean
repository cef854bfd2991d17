/-
  What the model's own deed answers, and what it leaves: del, rep.
  What the model's own deed answers, and what it leaves: ebad3a, ebad3b, ebad2a, ebad2b.
  What the model's own deed answers, and what it leaves: full, enter.
-/
import Derived.Test.YtlmnnjibggdboaaGreatDoorJn
import Derived.Deep.RegionHeld
import Derived.Deep.RegionHeldLaw
import Derived.Deep.CutRange
namespace Go.Proofs.YtlmnnjibggdboaaGreatDoor
section
open Go.RowKit
variable {w0 w w1 w2 w' : World} {A A' : Ad} {p : Nat} {ws : List Nat} {s s' s1 : Hs} {r g : Nat}
set_option maxRecDepth 20000 in
set_option maxHeartbeats 6400000 in
theorem mdo_del (z : Int) (m : Msg) (so : Option Addr) (sn sc : Nat) (l : List UInt8) (w : World) (h : A.sb.2 = true) (x : Sv w0 w A p ws s) (k : Dok z s) (hd : A.dv ≠ none) (hb : Bts w so sn sc l) (hop : m.op = 104) (hyes : hasNm l = true) (hidx : idxR (s.L z) (nmOf l) < (s.L z).length) :
    Calls Tryz.prog 41 #[.pointer (some ⟨A.sb.1, 0, none⟩), .agg #[.int .u64 m.ta, .int .u64 m.rp, .int .u32 m.id, .int .u16 m.op, .int .u16 m.st, .int .u64 m.p, .int .u32 m.o, .int .u8 m.r, .int .u64 m.c, .int .u64 m.ar, .slice so sn sc], .int .i64 z] w fun e w' => MdoEnd w0 w A p ws (badF (s.row z (delR (s.L z) (idxR (s.L z) (nmOf l)))) 0) e w' := by
  obtain ⟨X, hX, bm, bc, bX⟩ := mdo_vars w m (.slice so sn sc)
  have HS := hide h
  have HX := hide (x.grow bX)
  have HB := hide (hb.carry bX)
  have HM := hide bm
  have HC := hide bc
  have HBX := hide bX
  have HW0 : Hid (w0.heap.size ≤ w.heap.size) := x.bel.size
  have HK := hide k
  have HSZ : Hid (w.heap.size + 1 < X.heap.size) := lt_of_heap bc
  obtain ⟨bd, hbd⟩ : ∃ b, A.dv = some b := Option.ne_none_iff_exists'.1 hd
  have HD := hide hbd
  obtain ⟨k0, k1, k2, k3, k4, k5, k6, k7, k8, k9, k10⟩ := HM.out.all
  have hopi : (m.op : Int) = 104 := by omega
  rw [hopi] at k3 hX
  have HM3 := hide hopi
  have hl := hb.1
  obtain ⟨xn, hxn⟩ : ∃ x, nmN l = x := ⟨_, rfl⟩
  have HXN : Hid (numF ((l.drop 0).take 2) = xn) := hxn
  have hN : (2 ≤ l.length ∧ 2 + xn ≤ l.length) ∧ 1 ≤ xn ∧ xn ≤ 32 := by
    unfold hasNm at hyes; rw [hxn] at hyes; exact of_decide_eq_true hyes
  rw [← hl] at hN
  have g1 : 2 ≤ sn := by omega
  have g2 : 2 + xn ≤ sn := by omega
  have hlt1 : ¬ (xn : Int) < 1 := by omega
  have hgt1 : ¬ (xn : Int) > 32 := by omega
  obtain ⟨ke, hke⟩ : ∃ k, 2 + xn = k := ⟨_, rfl⟩
  have HKE := hide (show 2 + nmN l = ke by rw [hxn]; exact hke)
  have HYES := hide hyes
  obtain ⟨nm, hnm⟩ : ∃ nm, nmOf l = nm := ⟨_, rfl⟩
  have HNM : Hid ((l.drop 2).take xn = nm) := by show _ = _; rw [← hxn]; exact hnm
  obtain ⟨L, hL⟩ : ∃ L, s.L z = L := ⟨_, rfl⟩
  have HLL := hide hL
  have hG := x.good z
  obtain ⟨v, hv⟩ : ∃ v, A.nv z = v := ⟨_, rfl⟩
  have HV := hide hv
  have hown := x.lawR h z
  rw [hv, hL] at hown
  rw [hL] at hG
  have HG := hide hG
  rw [hnm, hL] at hidx
  have HNMO := hide hnm
  obtain ⟨ao, cap, hve, hnc, hcap⟩ := hown.form
  obtain ⟨n, hn⟩ : ∃ n, L.length = n := ⟨_, rfl⟩
  have HN := hide hn
  rw [hn] at hve
  subst hve
  try rw [hL, hnm]
  obtain ⟨ki, hk9⟩ : ∃ k, idxR L nm = k := ⟨_, rfl⟩
  have HK9 := hide hk9
  rw [hk9] at hidx
  have HIX := hide hidx
  try rw [hk9]
  have hk0 : (0 : Int) ≤ (ki : Int) := by omega
  have hk1 : ¬ (ki : Int) < 0 := by omega
  have hk2 : (ki : Int) < (n : Int) := by omega
  have HZ := hide k.z
  clear bm bc bX x hb k h hd hbd hyes hxn hl hN hnm hL hv hown hG hidx hk9 hop
  go_enter Tryz.func41, Tryz.ntmps41
  go_wp2_with fail
  refine (gb_yes so sn sc l _ HB.out xn HXN.out g1 g2 ke hke).mono ?_; rw [HNM.out]; rintro e w1 ⟨no, nc, rfl, B1, N1, b1⟩
  have HNB := hide B1
  have HX1 := hide (HX.out.grow b1)
  have HM1 := hide (HM.out.grow b1)
  have HC1 := hide (HC.out.grow b1)
  have HB1 := hide (HB.out.carry b1)
  have HBX1 := hide (below_one HBX.out b1)
  have hlk := HX1.out.lookL HZ.out
  rw [HV.out] at hlk
  have c2 := HX1.out.bx.c2
  have HOW := hide (HX1.out.lawR HS.out z)
  rw [HV.out, HLL.out] at HOW
  obtain ⟨sv, hsv⟩ : ∃ t, str nm = t := ⟨_, rfl⟩
  have HSVS := hide hsv
  clear B1 N1 b1 g1 g2 hke hsv k0 k1 k2 k3 k4 k5 k6 k7 k8 k9 k10
  go_wp2_with fail
  go_loopg [17, 106] n (fun gk va vi wr => ∃ i : Nat, i + gk = n ∧ vi = .int .i64 (i : Int) ∧ va = .int .i64 (atF L nm i) ∧ Below w1.heap.size w1 wr)
  case atStart => exact ⟨0, by omega, rfl, by rw [at_zero], Below.refl _ _⟩
  case round =>
    obtain ⟨i, hi, rfl, rfl, bl⟩ := hrel
    have HBL := hide bl
    clear bl
    cases gk with
    | succ g1 =>
      have hlt : (i : Int) < (n : Int) := by omega
      have hil : i < L.length := by have := HN.out; omega
      obtain ⟨y, hy⟩ : ∃ y, L.getD i Rw.zero = y := ⟨_, rfl⟩
      obtain ⟨h, ac, e, _, _, _, _, ⟨c0, c1, c2', c3, c4, c5⟩, _⟩ := OwnR.elem (T := 145) (HOW.out.grow HBL.out) i hil y hy
      obtain ⟨rfl, rfl⟩ : ao = some ⟨h, 0, none⟩ ∧ cap = ac := by simp only [Value.slice.injEq] at e; exact ⟨e.1, e.2.2⟩
      clear e
      have cvw := fun U (b : Below wr.heap.size wr U) => conv_bts ((HNB.out.carry HBL.out).carry b)
      rw [HSVS.out] at cvw
      obtain ⟨X9, hX9⟩ : ∃ X, wr.alloc (.cells #[.string (str y.n), .int .u64 (y.c.p : Int), .int .u32 (y.c.o : Int), .int .u8 (y.c.r : Int), .int .u64 (y.c.c : Int), .int .u8 (y.m : Int)] 145) = X := ⟨_, rfl⟩
      have b9 : Below wr.heap.size wr X9 := hX9 ▸ below_alloc wr _
      have d0 : X9.cell? ⟨wr.heap.size, 0, none⟩ = some (.string (str y.n)) := by rw [← hX9]; simp
      have cvd := cvw X9 b9
      have HBX9 := hide (below_one HBL.out b9)
      clear cvw b9
      by_cases hx : y.n = nm
      · have HAT := hide (at_yes (nm := nm) HG.out.2.2 hil (by rw [hy]; exact hx))
        have hbq : (sv.toList == sv.toList) = true := by simp
        rw [hx, HSVS.out] at c0 hX9 d0
        clear hx hil hy
        go_wp2_with fail
        go_roundg g1
        case measure => omega
        case rel => exact ⟨i + 1, by omega, by go_num, by rw [HAT.out], HBX9.out⟩
      · have HAT := hide (at_no (nm := nm) hil (by rw [hy]; exact hx))
        obtain ⟨sx, hsx⟩ : ∃ t, str y.n = t := ⟨_, rfl⟩
        have hbq : (sx.toList == sv.toList) = false := by rw [← hsx, ← HSVS.out, list_beq]; exact decide_eq_false hx
        rw [hsx] at c0 hX9 d0
        clear hx hil hy hsx
        go_wp2_with fail
        go_roundg g1
        case measure => omega
        case rel => exact ⟨i + 1, by omega, by go_num, by rw [HAT.out], HBX9.out⟩
    | zero =>
      obtain rfl : i = n := by omega
      have hlt : ¬ ((i : Int) < (i : Int)) := by omega
      rw [show atF L nm i = (ki : Int) from by rw [← HN.out, at_in (by rw [HK9.out]; exact HIX.out), HK9.out]]
      have HXr := hide (HX1.out.grow HBL.out)
      have HMr := hide (HM1.out.grow HBL.out)
      have HCr := hide (HC1.out.grow HBL.out)
      have HBr := hide (HB1.out.carry HBL.out)
      have HNr := hide (HNB.out.carry HBL.out)
      have HBXr := hide (below_one HBX1.out HBL.out)
      have HOr := hide (HOW.out.grow HBL.out)
      have HEr := hide ((HXr.out.stayK).from HBXr.out)
      clear c2 hlk
      have c2 := HXr.out.bx.c2
      have hlk := HXr.out.lookL HZ.out
      rw [HV.out] at hlk
      obtain ⟨v5, w5, hr5, ho5, hb5, hv5⟩ := copy_any HOr.out HG.out.1 HXr.out.nw 143
      obtain ⟨y, hy⟩ : ∃ y, L.getD ki Rw.zero = y := ⟨_, rfl⟩
      have HYE := hide hy
      obtain ⟨h5, c5, e5, hc5, hm5, _, _, hce5, hfz5⟩ := ho5.elem ki HIX.out y hy
      rw [HN.out] at e5
      subst e5
      have HR5 := hide hr5
      have HO5 := hide ho5
      have HV5 := hide hv5
      have HB5 := hide hb5
      have HX5 := hide (HXr.out.grow hb5)
      have HM5 := hide (HMr.out.grow hb5)
      have HC5 := hide (HCr.out.grow hb5)
      have HBb5 := hide (HBr.out.carry hb5)
      have HNn5 := hide (HNr.out.carry hb5)
      have HBX5 := hide (below_one HBXr.out hb5)
      have HE5 := hide (HEr.out.to hb5)
      have HC55 := hide hc5
      have k3 : wr.cell? ⟨w.heap.size, 3, none⟩ = some (.int .u16 104) := by have := HMr.out.all.2.2.2.1; rw [HM3.out] at this; exact this
      obtain ⟨j0, j1, j2, j3, j4, j5, j6, j7, j8, j9, j10⟩ := HM5.out.all
      rw [HM3.out] at j3
      clear hr5 ho5 hv5 hb5 hm5
      have hki : ki < i := by have := HIX.out; have := HN.out; omega
      have hwt : IntKind.i64.wrap ((ki : Int) + 1) = (ki : Int) + 1 := by rw [IntKind.wrap_i64]; have := HG.out.1; have := HN.out; omega
      have hkm1 : (ki : Int) ≤ (i : Int) := by omega
      have hkm2 : (ki : Int) + 1 ≤ (i : Int) := by omega
      have hkm3 : (0 : Int) ≤ (ki : Int) + 1 := by omega
      have hic : i ≤ c5 := by have := HC55.out; have := HN.out; omega
      have ho : w5.drew.ownsRow A.N 145 6 (.slice (some ⟨h5, 0, none⟩) i c5) i (cellsR L) := by
        have h1 : w5.ownsRow A.N 145 6 (.slice (some ⟨h5, 0, none⟩) i c5) L.length (cellsR L) := HO5.out
        rw [HN.out] at h1
        exact owns_grow h1 (Below.refl _ _).drew
      obtain ⟨w6, hr6, ho6, hf6⟩ := app_tail lawTy (ty := 143) ki hki HN.out ho hic
      have hgd : Good (delR L ki) := HG.out.del ki
      obtain ⟨W7, hmu, hSb, hSc, E7⟩ := lay_step HXr.out HS.out HZ.out HD.out (M := delR L ki) (v' := .slice (some ⟨h5, 0, none⟩) (i - 1) c5) (by
        show World.ownsRow _ _ _ _ _ _ _
        rw [del_len L ki (by have := HN.out; omega), HN.out]; exact ho6) (HB5.out.drew.trans (hf6.below (Nat.le_trans HB5.out.size (by simp)) (fun j (e : j = h5) => by rw [e]; exact HV5.out h5 rfl))) (fun r e => HV5.out r e) HK.out.q hgd
      have HC7 := hide (HCr.out.kh (HXr.out.khK E7))
      have HE7 := hide (E7.from HBXr.out)
      have HR6 := hide hr6
      have HSa : Hid (w5.drew.cell? ⟨A.sb.1, 2, none⟩ = some (.map A.dv)) := HX5.out.bx.c2
      have HSb := hide hSb
      have HSc := hide hSc
      have htl := fun W => cut_tlA lawTy W h5 i c5 (ki + 1) (by omega)
      have hhd := fun W => cut_headR lawTy W (some ⟨h5, 0, none⟩) i c5 ki (by omega)
      obtain ⟨m1, hm1⟩ : ∃ x, i - (ki + 1) = x := ⟨_, rfl⟩
      obtain ⟨d1, hd1⟩ : ∃ x, c5 - (ki + 1) = x := ⟨_, rfl⟩
      obtain ⟨a1, ha1⟩ : ∃ x, tlA h5 c5 (ki + 1) = x := ⟨_, rfl⟩
      rw [hm1, hd1, ha1, show ((ki + 1 : Nat) : Int) = (ki : Int) + 1 by omega] at htl
      rw [hm1, hd1, ha1] at HR6
      have hbd := HD.out
      clear ho hr6 ho6 hf6 hgd hSb hSc E7 hm1 hd1 ha1 hki hic hbd hy
      go_wp2_with (at_builtin; refine wpList_append_run rfl _ _ _ rfl _ _ _ _ rfl rfl HR5.out ?_)
      go_upto_region 36 with fail
      go_region_held_law (fun U => U.cell? ⟨A.sb.1, 2, none⟩ = some (.map A.dv))
        (first | with_reducible exact HSa.out | with_reducible exact HSb.out | with_reducible exact HSc.out)
        (refine step_append_run (by rfl) _ _ _ (by rfl) _ _ _ _ (by rfl) (by rfl) HR6.out ?_)
      have y0 := HC7.out.c0
      have y1 := HC7.out.c1
      have y2 := HC7.out.c2
      have y3 := HC7.out.c3
      have x0 := HC7.out.z' 0
      have x1 := HC7.out.z' 1
      have x2 := HC7.out.z' 2
      have x3 := HC7.out.z' 3
      have HZZ := hide (HC7.out.put 0 0 0 0)
      have HEZ := hide (HE7.out.cbi HW0.out HC7.out (by omega) (foot_cap4 W7 (w.heap.size + 1) 0 0 0 0))
      obtain ⟨wz, hwz⟩ : ∃ wz, (((W7.setCell ⟨w.heap.size + 1, 0, none⟩ (.int .u64 0)).setCell ⟨w.heap.size + 1, 1, none⟩ (.int .u32 0)).setCell ⟨w.heap.size + 1, 2, none⟩ (.int .u8 0)).setCell ⟨w.heap.size + 1, 3, none⟩ (.int .u64 0) = wz := ⟨_, rfl⟩
      rw [hwz] at HZZ HEZ
      have v0 := HZZ.out.c0
      have v1 := HZZ.out.c1
      have v2 := HZZ.out.c2
      have v3 := HZZ.out.c3
      go_wp2
      refine bodyPost_ret (by simp [results, Tryz.results41, go_sem, v0, v1, v2, v3]; rfl) rfl ?_
      exact mdo_bad rfl HEZ.out
set_option maxRecDepth 20000 in
set_option maxHeartbeats 6400000 in
theorem mdo_rep (z : Int) (m : Msg) (so : Option Addr) (sn sc : Nat) (l : List UInt8) (w : World) (h : A.sb.2 = true) (x : Sv w0 w A p ws s) (k : Dok z s) (hd : A.dv ≠ none) (hb : Bts w so sn sc l) (hop : m.op = 103) (hyes : hasNm l = true) (hidx : idxR (s.L z) (nmOf l) < (s.L z).length) (h16 : (restOf l).length = 16) (har : m.ar ≤ 255) :
    Calls Tryz.prog 41 #[.pointer (some ⟨A.sb.1, 0, none⟩), .agg #[.int .u64 m.ta, .int .u64 m.rp, .int .u32 m.id, .int .u16 m.op, .int .u16 m.st, .int .u64 m.p, .int .u32 m.o, .int .u8 m.r, .int .u64 m.c, .int .u64 m.ar, .slice so sn sc], .int .i64 z] w fun e w' => MdoEnd w0 w A p ws (badF (s.row z ((s.L z).set (idxR (s.L z) (nmOf l)) ⟨nmOf l, capD (restOf l), m.ar⟩)) 0) e w' := by
  obtain ⟨X, hX, bm, bc, bX⟩ := mdo_vars w m (.slice so sn sc)
  have HS := hide h
  have HX := hide (x.grow bX)
  have HB := hide (hb.carry bX)
  have HM := hide bm
  have HC := hide bc
  have HBX := hide bX
  have HW0 : Hid (w0.heap.size ≤ w.heap.size) := x.bel.size
  have HK := hide k
  have HSZ : Hid (w.heap.size + 1 < X.heap.size) := lt_of_heap bc
  obtain ⟨bd, hbd⟩ : ∃ b, A.dv = some b := Option.ne_none_iff_exists'.1 hd
  have HD := hide hbd
  obtain ⟨k0, k1, k2, k3, k4, k5, k6, k7, k8, k9, k10⟩ := HM.out.all
  have hopi : (m.op : Int) = 103 := by omega
  rw [hopi] at k3 hX
  have HM3 := hide hopi
  have hl := hb.1
  obtain ⟨xn, hxn⟩ : ∃ x, nmN l = x := ⟨_, rfl⟩
  have HXN : Hid (numF ((l.drop 0).take 2) = xn) := hxn
  have hN : (2 ≤ l.length ∧ 2 + xn ≤ l.length) ∧ 1 ≤ xn ∧ xn ≤ 32 := by
    unfold hasNm at hyes; rw [hxn] at hyes; exact of_decide_eq_true hyes
  rw [← hl] at hN
  have g1 : 2 ≤ sn := by omega
  have g2 : 2 + xn ≤ sn := by omega
  have hlt1 : ¬ (xn : Int) < 1 := by omega
  have hgt1 : ¬ (xn : Int) > 32 := by omega
  obtain ⟨ke, hke⟩ : ∃ k, 2 + xn = k := ⟨_, rfl⟩
  have HKE := hide (show 2 + nmN l = ke by rw [hxn]; exact hke)
  have HYES := hide hyes
  obtain ⟨nm, hnm⟩ : ∃ nm, nmOf l = nm := ⟨_, rfl⟩
  have HNM : Hid ((l.drop 2).take xn = nm) := by show _ = _; rw [← hxn]; exact hnm
  obtain ⟨L, hL⟩ : ∃ L, s.L z = L := ⟨_, rfl⟩
  have HLL := hide hL
  have hG := x.good z
  obtain ⟨v, hv⟩ : ∃ v, A.nv z = v := ⟨_, rfl⟩
  have HV := hide hv
  have hown := x.lawR h z
  rw [hv, hL] at hown
  rw [hL] at hG
  have HG := hide hG
  rw [hnm, hL] at hidx
  have HNMO := hide hnm
  obtain ⟨ao, cap, hve, hnc, hcap⟩ := hown.form
  obtain ⟨n, hn⟩ : ∃ n, L.length = n := ⟨_, rfl⟩
  have HN := hide hn
  rw [hn] at hve
  subst hve
  try rw [hL, hnm]
  obtain ⟨ki, hk9⟩ : ∃ k, idxR L nm = k := ⟨_, rfl⟩
  have HK9 := hide hk9
  rw [hk9] at hidx
  have HIX := hide hidx
  try rw [hk9]
  have hk0 : (0 : Int) ≤ (ki : Int) := by omega
  have hk1 : ¬ (ki : Int) < 0 := by omega
  have hk2 : (ki : Int) < (n : Int) := by omega
  have HZ := hide k.z
  clear bm bc bX x hb k h hd hbd hyes hxn hl hN hnm hL hv hown hG hidx hk9 hop
  go_enter Tryz.func41, Tryz.ntmps41
  go_wp2_with fail
  refine (gb_yes so sn sc l _ HB.out xn HXN.out g1 g2 ke hke).mono ?_; rw [HNM.out]; rintro e w1 ⟨no, nc, rfl, B1, N1, b1⟩
  have HNB := hide B1
  have HX1 := hide (HX.out.grow b1)
  have HM1 := hide (HM.out.grow b1)
  have HC1 := hide (HC.out.grow b1)
  have HB1 := hide (HB.out.carry b1)
  have HBX1 := hide (below_one HBX.out b1)
  have hlk := HX1.out.lookL HZ.out
  rw [HV.out] at hlk
  have c2 := HX1.out.bx.c2
  have HOW := hide (HX1.out.lawR HS.out z)
  rw [HV.out, HLL.out] at HOW
  obtain ⟨sv, hsv⟩ : ∃ t, str nm = t := ⟨_, rfl⟩
  have HSVS := hide hsv
  clear B1 N1 b1 g1 g2 hke hsv k0 k1 k2 k3 k4 k5 k6 k7 k8 k9 k10
  go_wp2_with fail
  go_loopg [17, 106] n (fun gk va vi wr => ∃ i : Nat, i + gk = n ∧ vi = .int .i64 (i : Int) ∧ va = .int .i64 (atF L nm i) ∧ Below w1.heap.size w1 wr)
  case atStart => exact ⟨0, by omega, rfl, by rw [at_zero], Below.refl _ _⟩
  case round =>
    obtain ⟨i, hi, rfl, rfl, bl⟩ := hrel
    have HBL := hide bl
    clear bl
    cases gk with
    | succ g1 =>
      have hlt : (i : Int) < (n : Int) := by omega
      have hil : i < L.length := by have := HN.out; omega
      obtain ⟨y, hy⟩ : ∃ y, L.getD i Rw.zero = y := ⟨_, rfl⟩
      obtain ⟨h, ac, e, _, _, _, _, ⟨c0, c1, c2', c3, c4, c5⟩, _⟩ := OwnR.elem (T := 145) (HOW.out.grow HBL.out) i hil y hy
      obtain ⟨rfl, rfl⟩ : ao = some ⟨h, 0, none⟩ ∧ cap = ac := by simp only [Value.slice.injEq] at e; exact ⟨e.1, e.2.2⟩
      clear e
      have cvw := fun U (b : Below wr.heap.size wr U) => conv_bts ((HNB.out.carry HBL.out).carry b)
      rw [HSVS.out] at cvw
      obtain ⟨X9, hX9⟩ : ∃ X, wr.alloc (.cells #[.string (str y.n), .int .u64 (y.c.p : Int), .int .u32 (y.c.o : Int), .int .u8 (y.c.r : Int), .int .u64 (y.c.c : Int), .int .u8 (y.m : Int)] 145) = X := ⟨_, rfl⟩
      have b9 : Below wr.heap.size wr X9 := hX9 ▸ below_alloc wr _
      have d0 : X9.cell? ⟨wr.heap.size, 0, none⟩ = some (.string (str y.n)) := by rw [← hX9]; simp
      have cvd := cvw X9 b9
      have HBX9 := hide (below_one HBL.out b9)
      clear cvw b9
      by_cases hx : y.n = nm
      · have HAT := hide (at_yes (nm := nm) HG.out.2.2 hil (by rw [hy]; exact hx))
        have hbq : (sv.toList == sv.toList) = true := by simp
        rw [hx, HSVS.out] at c0 hX9 d0
        clear hx hil hy
        go_wp2_with fail
        go_roundg g1
        case measure => omega
        case rel => exact ⟨i + 1, by omega, by go_num, by rw [HAT.out], HBX9.out⟩
      · have HAT := hide (at_no (nm := nm) hil (by rw [hy]; exact hx))
        obtain ⟨sx, hsx⟩ : ∃ t, str y.n = t := ⟨_, rfl⟩
        have hbq : (sx.toList == sv.toList) = false := by rw [← hsx, ← HSVS.out, list_beq]; exact decide_eq_false hx
        rw [hsx] at c0 hX9 d0
        clear hx hil hy hsx
        go_wp2_with fail
        go_roundg g1
        case measure => omega
        case rel => exact ⟨i + 1, by omega, by go_num, by rw [HAT.out], HBX9.out⟩
    | zero =>
      obtain rfl : i = n := by omega
      have hlt : ¬ ((i : Int) < (i : Int)) := by omega
      rw [show atF L nm i = (ki : Int) from by rw [← HN.out, at_in (by rw [HK9.out]; exact HIX.out), HK9.out]]
      have HXr := hide (HX1.out.grow HBL.out)
      have HMr := hide (HM1.out.grow HBL.out)
      have HCr := hide (HC1.out.grow HBL.out)
      have HBr := hide (HB1.out.carry HBL.out)
      have HNr := hide (HNB.out.carry HBL.out)
      have HBXr := hide (below_one HBX1.out HBL.out)
      have HOr := hide (HOW.out.grow HBL.out)
      have HEr := hide ((HXr.out.stayK).from HBXr.out)
      clear c2 hlk
      have c2 := HXr.out.bx.c2
      have hlk := HXr.out.lookL HZ.out
      rw [HV.out] at hlk
      obtain ⟨v5, w5, hr5, ho5, hb5, hv5⟩ := copy_any HOr.out HG.out.1 HXr.out.nw 143
      obtain ⟨y, hy⟩ : ∃ y, L.getD ki Rw.zero = y := ⟨_, rfl⟩
      have HYE := hide hy
      obtain ⟨h5, c5, e5, hc5, hm5, _, _, hce5, hfz5⟩ := ho5.elem ki HIX.out y hy
      rw [HN.out] at e5
      subst e5
      have HR5 := hide hr5
      have HO5 := hide ho5
      have HV5 := hide hv5
      have HB5 := hide hb5
      have HX5 := hide (HXr.out.grow hb5)
      have HM5 := hide (HMr.out.grow hb5)
      have HC5 := hide (HCr.out.grow hb5)
      have HBb5 := hide (HBr.out.carry hb5)
      have HNn5 := hide (HNr.out.carry hb5)
      have HBX5 := hide (below_one HBXr.out hb5)
      have HE5 := hide (HEr.out.to hb5)
      have HC55 := hide hc5
      have k3 : wr.cell? ⟨w.heap.size, 3, none⟩ = some (.int .u16 103) := by have := HMr.out.all.2.2.2.1; rw [HM3.out] at this; exact this
      obtain ⟨j0, j1, j2, j3, j4, j5, j6, j7, j8, j9, j10⟩ := HM5.out.all
      rw [HM3.out] at j3
      clear hr5 ho5 hv5 hb5 hm5
      obtain ⟨a2, n2, d2, hcut, hbr⟩ := cut_rest HBb5.out HYES.out ke HKE.out
      have HBR := hide hbr
      obtain ⟨lr, hlr⟩ : ∃ x, restOf l = x := ⟨_, rfl⟩
      rw [hlr] at HBR h16
      obtain ⟨ma, hma⟩ : ∃ x, m.ar = x := ⟨_, rfl⟩
      have HMA := hide hma
      rw [hma] at j9
      have HLR := hide hlr
      obtain rfl : n2 = 16 := by have := HBR.out.1; omega
      obtain ⟨cp, hcp⟩ : ∃ x, numF ((lr.drop 0).take 6) = x := ⟨_, rfl⟩
      obtain ⟨co, hco⟩ : ∃ x, numF ((lr.drop 6).take 3) = x := ⟨_, rfl⟩
      obtain ⟨cr, hcr⟩ : ∃ x, numF ((lr.drop 9).take 1) = x := ⟨_, rfl⟩
      obtain ⟨cc, hcc⟩ : ∃ x, numF ((lr.drop 10).take 6) = x := ⟨_, rfl⟩
      have HD6 := hide (fun W hb => decode_yes a2 d2 lr W hb cp co cr cc hcp hco hcr hcc)
      have HCD : Hid (capD lr = ⟨cp, co, cr, cc⟩) := by show _ = _; unfold capD; rw [hcp, hco, hcr, hcc]
      rw [hma] at har
      have hgt : ¬ (ma : Int) > 255 := by omega
      have hw8 : IntKind.u8.wrap (ma : Int) = (ma : Int) := wrap8 ma har
      have HAR := hide har
      clear hbr hlr hma h16 hcp hco hcr hcc har hy
      go_wp2_with (at_builtin; refine wpList_append_run rfl _ _ _ rfl _ _ _ _ rfl rfl HR5.out ?_)
      refine (HD6.out _ HBR.out).mono ?_; rintro e w6 ⟨rfl, b6⟩
      obtain ⟨w7, hw7⟩ : ∃ w7, w6.alloc (.cells #[.int .u64 (cp : Int), .int .u32 (co : Int), .int .u8 (cr : Int), .int .u64 (cc : Int)] 40) = w7 := ⟨_, rfl⟩
      have b7 : Below w6.heap.size w6 w7 := hw7 ▸ below_alloc _ _
      have HQ7 : Hid (CBI w7 w6.heap.size cp co cr cc) := hw7 ▸ CBI.new w6 _ _ _ _
      have B7 := below_one b6 b7
      have HC7 := hide (HC5.out.grow B7)
      have HE7 := hide (HE5.out.to B7)
      have HX7 := hide (HX5.out.grow B7)
      have HM7 := hide (HM5.out.grow B7)
      have HO7 := hide (HO5.out.grow B7)
      have HB7 := hide B7
      have HBX7 := hide (below_one HBX5.out B7)
      have HN7 := hide (HNn5.out.carry B7)
      clear j0 j1 j2 j3 j4 j5 j6 j7 j8 j9 j10
      obtain ⟨j0, j1, j2, j3, j4, j5, j6, j7, j8, j9, j10⟩ := HM7.out.all
      rw [HM3.out] at j3
      rw [HMA.out] at j9
      clear b6 B7 b7
      have cvd := conv_bts HN7.out
      rw [HSVS.out] at cvd
      have t0 := HQ7.out.c0
      have t1 := HQ7.out.c1
      have t2 := HQ7.out.c2
      have t3 := HQ7.out.c3
      obtain ⟨w8, hw8a⟩ : ∃ w8, w7.alloc (.cells #[.string sv, .int .u64 (cp : Int), .int .u32 (co : Int), .int .u8 (cr : Int), .int .u64 (cc : Int), .int .u8 (ma : Int)] 145) = w8 := ⟨_, rfl⟩
      have b8 : Below w7.heap.size w7 w8 := hw8a ▸ below_alloc _ _
      have HY8 : Hid (RwL w8 w7.heap.size ⟨nm, ⟨cp, co, cr, cc⟩, ma⟩) := by
        have := rwl_new w7 ⟨nm, ⟨cp, co, cr, cc⟩, ma⟩
        simp only [HSVS.out] at this
        rw [hw8a] at this
        exact this
      obtain ⟨a0, a1, a2x, a3, a4, a5⟩ := HY8.out.all
      simp only [HSVS.out] at a0
      have HC8 := hide (HC7.out.grow b8)
      have HE8 := hide (HE7.out.to b8)
      have HX8 := hide (HX7.out.grow b8)
      have HO8 := hide (HO7.out.grow b8)
      have HB8 := hide (below_one HB7.out b8)
      have HB58 := hide (below_one HB5.out HB8.out)
      have HYO : Hid (Rw.ok ⟨nm, ⟨cp, co, cr, cc⟩, ma⟩) := by have h := row_ok HYES.out HAR.out; rw [HNMO.out, HLR.out, HCD.out] at h; exact h
      clear b8
      have hk3 : (ki : Int) < (i : Int) := hk2
      obtain ⟨h6, c6, e6, _, _, _, _, ⟨q0, q1, q2, q3, q4, q5⟩, fz⟩ := OwnR.elem HO8.out ki HIX.out y HYE.out
      obtain ⟨rfl, rfl⟩ : h5 = h6 ∧ c5 = c6 := by simp only [Value.slice.injEq, Option.some.injEq, Addr.mk.injEq] at e6; exact ⟨e6.1.1, e6.2.2⟩
      have f0 := fz (ki * 6)
      have f1 := fz (ki * 6 + 1)
      have f2 := fz (ki * 6 + 2)
      have f3 := fz (ki * 6 + 3)
      have f4 := fz (ki * 6 + 4)
      have f5 := fz (ki * 6 + 5)
      have ho9 := OwnR.set HO8.out ki HIX.out h5 i c5 rfl ⟨nm, ⟨cp, co, cr, cc⟩, ma⟩
      have hf9 := foot_setR w8 h5 ki ⟨nm, ⟨cp, co, cr, cc⟩, ma⟩
      obtain ⟨w9, hw9⟩ : ∃ w9, setR w8 h5 ki ⟨nm, ⟨cp, co, cr, cc⟩, ma⟩ = w9 := ⟨_, rfl⟩
      rw [hw9] at ho9 hf9
      have hgd : Good (L.set ki ⟨nm, ⟨cp, co, cr, cc⟩, ma⟩) := HG.out.set ki _ HYO.out HIX.out (by have := idx_at (L := L) (nm := nm) (by rw [HK9.out]; exact HIX.out); rw [HK9.out] at this; exact this)
      obtain ⟨W10, hmu, hSb, hSc, E10⟩ := lay_step HXr.out HS.out HZ.out HD.out (M := L.set ki ⟨nm, ⟨cp, co, cr, cc⟩, ma⟩) (v' := .slice (some ⟨h5, 0, none⟩) i c5) ho9 (HB58.out.trans (hf9.below HB58.out.size (fun j (e : j = h5) => by rw [e]; exact HV5.out h5 rfl))) (fun r e => HV5.out r e) HK.out.q hgd
      have HC10 := hide (HCr.out.kh (HXr.out.khK E10))
      have HE10 := hide (E10.from HBXr.out)
      unfold setR at hw9
      simp only [HSVS.out] at hw9
      have c2w : w9.cell? ⟨A.sb.1, 2, none⟩ = some (.map A.dv) := hSb
      rw [HD.out] at hmu c2w
      have HRS : Hid (s.row z (L.set ki ⟨nm, ⟨cp, co, cr, cc⟩, ma⟩) = s.row z (L.set ki ⟨nmOf l, capD (restOf l), m.ar⟩)) := by show _ = _; rw [HNMO.out, HLR.out, HCD.out, HMA.out]
      clear e6 fz ho9 hf9 hgd hSb hSc E10
      have y0 := HC10.out.c0
      have y1 := HC10.out.c1
      have y2 := HC10.out.c2
      have y3 := HC10.out.c3
      have x0 := HC10.out.z' 0
      have x1 := HC10.out.z' 1
      have x2 := HC10.out.z' 2
      have x3 := HC10.out.z' 3
      have HZZ := hide (HC10.out.put 0 0 0 0)
      have HEZ := hide (HE10.out.cbi HW0.out HC10.out (by omega) (foot_cap4 W10 (w.heap.size + 1) 0 0 0 0))
      obtain ⟨wz, hwz⟩ : ∃ wz, (((W10.setCell ⟨w.heap.size + 1, 0, none⟩ (.int .u64 0)).setCell ⟨w.heap.size + 1, 1, none⟩ (.int .u32 0)).setCell ⟨w.heap.size + 1, 2, none⟩ (.int .u8 0)).setCell ⟨w.heap.size + 1, 3, none⟩ (.int .u64 0) = wz := ⟨_, rfl⟩
      rw [hwz] at HZZ HEZ
      have v0 := HZZ.out.c0
      have v1 := HZZ.out.c1
      have v2 := HZZ.out.c2
      have v3 := HZZ.out.c3
      go_wp2
      refine bodyPost_ret (by simp [results, Tryz.results41, go_sem, v0, v1, v2, v3]; rfl) rfl ?_
      rw [HRS.out] at HEZ
      first | exact mdo_bad rfl HEZ.out | (rw [HNMO.out] at HEZ; exact mdo_bad rfl HEZ.out)
end
end Go.Proofs.YtlmnnjibggdboaaGreatDoor
namespace Go.Proofs.YtlmnnjibggdboaaGreatDoor
section
open Go.RowKit
variable {w0 w w1 w2 w' : World} {A A' : Ad} {p : Nat} {ws : List Nat} {s s' s1 : Hs} {r g : Nat}
set_option maxRecDepth 20000 in
set_option maxHeartbeats 6400000 in
theorem mdo_ebad103_16 (z : Int) (m : Msg) (so : Option Addr) (sn sc : Nat) (l : List UInt8) (w : World) (h : A.sb.2 = true) (x : Sv w0 w A p ws s) (k : Dok z s) (hd : A.dv ≠ none) (hb : Bts w so sn sc l) (hop : m.op = 103) (hyes : hasNm l = true) (hidx : idxR (s.L z) (nmOf l) < (s.L z).length) (h16 : (restOf l).length ≠ 16) :
    Calls Tryz.prog 41 #[.pointer (some ⟨A.sb.1, 0, none⟩), .agg #[.int .u64 m.ta, .int .u64 m.rp, .int .u32 m.id, .int .u16 m.op, .int .u16 m.st, .int .u64 m.p, .int .u32 m.o, .int .u8 m.r, .int .u64 m.c, .int .u64 m.ar, .slice so sn sc], .int .i64 z] w fun e w' => MdoEnd w0 w A p ws (badF s 4) e w' := by
  obtain ⟨X, hX, bm, bc, bX⟩ := mdo_vars w m (.slice so sn sc)
  have HS := hide h
  have HX := hide (x.grow bX)
  have HB := hide (hb.carry bX)
  have HM := hide bm
  have HC := hide bc
  have HBX := hide bX
  have HW0 : Hid (w0.heap.size ≤ w.heap.size) := x.bel.size
  have HK := hide k
  have HSZ : Hid (w.heap.size + 1 < X.heap.size) := lt_of_heap bc
  obtain ⟨bd, hbd⟩ : ∃ b, A.dv = some b := Option.ne_none_iff_exists'.1 hd
  have HD := hide hbd
  obtain ⟨k0, k1, k2, k3, k4, k5, k6, k7, k8, k9, k10⟩ := HM.out.all
  have hopi : (m.op : Int) = 103 := by omega
  rw [hopi] at k3 hX
  have HM3 := hide hopi
  have hl := hb.1
  obtain ⟨xn, hxn⟩ : ∃ x, nmN l = x := ⟨_, rfl⟩
  have HXN : Hid (numF ((l.drop 0).take 2) = xn) := hxn
  have hN : (2 ≤ l.length ∧ 2 + xn ≤ l.length) ∧ 1 ≤ xn ∧ xn ≤ 32 := by
    unfold hasNm at hyes; rw [hxn] at hyes; exact of_decide_eq_true hyes
  rw [← hl] at hN
  have g1 : 2 ≤ sn := by omega
  have g2 : 2 + xn ≤ sn := by omega
  have hlt1 : ¬ (xn : Int) < 1 := by omega
  have hgt1 : ¬ (xn : Int) > 32 := by omega
  obtain ⟨ke, hke⟩ : ∃ k, 2 + xn = k := ⟨_, rfl⟩
  have HKE := hide (show 2 + nmN l = ke by rw [hxn]; exact hke)
  have HYES := hide hyes
  obtain ⟨nm, hnm⟩ : ∃ nm, nmOf l = nm := ⟨_, rfl⟩
  have HNM : Hid ((l.drop 2).take xn = nm) := by show _ = _; rw [← hxn]; exact hnm
  obtain ⟨L, hL⟩ : ∃ L, s.L z = L := ⟨_, rfl⟩
  have HLL := hide hL
  have hG := x.good z
  obtain ⟨v, hv⟩ : ∃ v, A.nv z = v := ⟨_, rfl⟩
  have HV := hide hv
  have hown := x.lawR h z
  rw [hv, hL] at hown
  rw [hL] at hG
  have HG := hide hG
  rw [hnm, hL] at hidx
  have HNMO := hide hnm
  obtain ⟨ao, cap, hve, hnc, hcap⟩ := hown.form
  obtain ⟨n, hn⟩ : ∃ n, L.length = n := ⟨_, rfl⟩
  have HN := hide hn
  rw [hn] at hve
  subst hve
  try rw [hL, hnm]
  obtain ⟨ki, hk9⟩ : ∃ k, idxR L nm = k := ⟨_, rfl⟩
  have HK9 := hide hk9
  rw [hk9] at hidx
  have HIX := hide hidx
  try rw [hk9]
  have hk0 : (0 : Int) ≤ (ki : Int) := by omega
  have hk1 : ¬ (ki : Int) < 0 := by omega
  have hk2 : (ki : Int) < (n : Int) := by omega
  have HZ := hide k.z
  clear bm bc bX x hb k h hd hbd hyes hxn hl hN hnm hL hv hown hG hidx hk9 hop
  go_enter Tryz.func41, Tryz.ntmps41
  go_wp2_with fail
  refine (gb_yes so sn sc l _ HB.out xn HXN.out g1 g2 ke hke).mono ?_; rw [HNM.out]; rintro e w1 ⟨no, nc, rfl, B1, N1, b1⟩
  have HNB := hide B1
  have HX1 := hide (HX.out.grow b1)
  have HM1 := hide (HM.out.grow b1)
  have HC1 := hide (HC.out.grow b1)
  have HB1 := hide (HB.out.carry b1)
  have HBX1 := hide (below_one HBX.out b1)
  have hlk := HX1.out.lookL HZ.out
  rw [HV.out] at hlk
  have c2 := HX1.out.bx.c2
  have HOW := hide (HX1.out.lawR HS.out z)
  rw [HV.out, HLL.out] at HOW
  obtain ⟨sv, hsv⟩ : ∃ t, str nm = t := ⟨_, rfl⟩
  have HSVS := hide hsv
  clear B1 N1 b1 g1 g2 hke hsv k0 k1 k2 k3 k4 k5 k6 k7 k8 k9 k10
  go_wp2_with fail
  go_loopg [17, 106] n (fun gk va vi wr => ∃ i : Nat, i + gk = n ∧ vi = .int .i64 (i : Int) ∧ va = .int .i64 (atF L nm i) ∧ Below w1.heap.size w1 wr)
  case atStart => exact ⟨0, by omega, rfl, by rw [at_zero], Below.refl _ _⟩
  case round =>
    obtain ⟨i, hi, rfl, rfl, bl⟩ := hrel
    have HBL := hide bl
    clear bl
    cases gk with
    | succ g1 =>
      have hlt : (i : Int) < (n : Int) := by omega
      have hil : i < L.length := by have := HN.out; omega
      obtain ⟨y, hy⟩ : ∃ y, L.getD i Rw.zero = y := ⟨_, rfl⟩
      obtain ⟨h, ac, e, _, _, _, _, ⟨c0, c1, c2', c3, c4, c5⟩, _⟩ := OwnR.elem (T := 145) (HOW.out.grow HBL.out) i hil y hy
      obtain ⟨rfl, rfl⟩ : ao = some ⟨h, 0, none⟩ ∧ cap = ac := by simp only [Value.slice.injEq] at e; exact ⟨e.1, e.2.2⟩
      clear e
      have cvw := fun U (b : Below wr.heap.size wr U) => conv_bts ((HNB.out.carry HBL.out).carry b)
      rw [HSVS.out] at cvw
      obtain ⟨X9, hX9⟩ : ∃ X, wr.alloc (.cells #[.string (str y.n), .int .u64 (y.c.p : Int), .int .u32 (y.c.o : Int), .int .u8 (y.c.r : Int), .int .u64 (y.c.c : Int), .int .u8 (y.m : Int)] 145) = X := ⟨_, rfl⟩
      have b9 : Below wr.heap.size wr X9 := hX9 ▸ below_alloc wr _
      have d0 : X9.cell? ⟨wr.heap.size, 0, none⟩ = some (.string (str y.n)) := by rw [← hX9]; simp
      have cvd := cvw X9 b9
      have HBX9 := hide (below_one HBL.out b9)
      clear cvw b9
      by_cases hx : y.n = nm
      · have HAT := hide (at_yes (nm := nm) HG.out.2.2 hil (by rw [hy]; exact hx))
        have hbq : (sv.toList == sv.toList) = true := by simp
        rw [hx, HSVS.out] at c0 hX9 d0
        clear hx hil hy
        go_wp2_with fail
        go_roundg g1
        case measure => omega
        case rel => exact ⟨i + 1, by omega, by go_num, by rw [HAT.out], HBX9.out⟩
      · have HAT := hide (at_no (nm := nm) hil (by rw [hy]; exact hx))
        obtain ⟨sx, hsx⟩ : ∃ t, str y.n = t := ⟨_, rfl⟩
        have hbq : (sx.toList == sv.toList) = false := by rw [← hsx, ← HSVS.out, list_beq]; exact decide_eq_false hx
        rw [hsx] at c0 hX9 d0
        clear hx hil hy hsx
        go_wp2_with fail
        go_roundg g1
        case measure => omega
        case rel => exact ⟨i + 1, by omega, by go_num, by rw [HAT.out], HBX9.out⟩
    | zero =>
      obtain rfl : i = n := by omega
      have hlt : ¬ ((i : Int) < (i : Int)) := by omega
      rw [show atF L nm i = (ki : Int) from by rw [← HN.out, at_in (by rw [HK9.out]; exact HIX.out), HK9.out]]
      have HXr := hide (HX1.out.grow HBL.out)
      have HMr := hide (HM1.out.grow HBL.out)
      have HCr := hide (HC1.out.grow HBL.out)
      have HBr := hide (HB1.out.carry HBL.out)
      have HNr := hide (HNB.out.carry HBL.out)
      have HBXr := hide (below_one HBX1.out HBL.out)
      have HOr := hide (HOW.out.grow HBL.out)
      have HEr := hide ((HXr.out.stayK).from HBXr.out)
      clear c2 hlk
      have c2 := HXr.out.bx.c2
      have hlk := HXr.out.lookL HZ.out
      rw [HV.out] at hlk
      obtain ⟨v5, w5, hr5, ho5, hb5, hv5⟩ := copy_any HOr.out HG.out.1 HXr.out.nw 143
      obtain ⟨y, hy⟩ : ∃ y, L.getD ki Rw.zero = y := ⟨_, rfl⟩
      have HYE := hide hy
      obtain ⟨h5, c5, e5, hc5, hm5, _, _, hce5, hfz5⟩ := ho5.elem ki HIX.out y hy
      rw [HN.out] at e5
      subst e5
      have HR5 := hide hr5
      have HO5 := hide ho5
      have HV5 := hide hv5
      have HB5 := hide hb5
      have HX5 := hide (HXr.out.grow hb5)
      have HM5 := hide (HMr.out.grow hb5)
      have HC5 := hide (HCr.out.grow hb5)
      have HBb5 := hide (HBr.out.carry hb5)
      have HNn5 := hide (HNr.out.carry hb5)
      have HBX5 := hide (below_one HBXr.out hb5)
      have HE5 := hide (HEr.out.to hb5)
      have HC55 := hide hc5
      have k3 : wr.cell? ⟨w.heap.size, 3, none⟩ = some (.int .u16 103) := by have := HMr.out.all.2.2.2.1; rw [HM3.out] at this; exact this
      obtain ⟨j0, j1, j2, j3, j4, j5, j6, j7, j8, j9, j10⟩ := HM5.out.all
      rw [HM3.out] at j3
      clear hr5 ho5 hv5 hb5 hm5
      obtain ⟨a2, n2, d2, hcut, hbr⟩ := cut_rest HBb5.out HYES.out ke HKE.out
      have HBR := hide hbr
      obtain ⟨lr, hlr⟩ : ∃ x, restOf l = x := ⟨_, rfl⟩
      rw [hlr] at HBR h16
      obtain ⟨ma, hma⟩ : ∃ x, m.ar = x := ⟨_, rfl⟩
      have HMA := hide hma
      rw [hma] at j9
      have HLR := hide hlr
      have h16n : ¬ n2 = 16 := by have := HBR.out.1; omega
      have H16 := hide h16n
      clear hbr hlr hma h16 h16n hy
      go_wp2_with (at_builtin; refine wpList_append_run rfl _ _ _ rfl _ _ _ _ rfl rfl HR5.out ?_)
      refine (decode_no a2 n2 d2 _ (by have := HBR.out.2.1; have := HBR.out.2.2.1; unfold maxLen at this; omega) H16.out).mono ?_; rintro e w6 ⟨rfl, b6⟩
      obtain ⟨w6a, hw6⟩ : ∃ w7, w6.alloc (.cells #[.int .u64 0, .int .u32 0, .int .u8 0, .int .u64 0] 40) = w7 := ⟨_, rfl⟩
      have b6a : Below w6.heap.size w6 w6a := hw6 ▸ below_alloc _ _
      have HQ6 : Hid (CBI w6a w6.heap.size 0 0 0 0) := hw6 ▸ CBI.new w6 0 0 0 0
      have d0 := HQ6.out.c0
      have d1 := HQ6.out.c1
      have d2' := HQ6.out.c2
      have d3 := HQ6.out.c3
      have xz := HQ6.out.z'
      have hf7 := (foot_cap4 w6a w6.heap.size 0 0 0 0)
      obtain ⟨w7, hw7⟩ : ∃ w7, (((w6a.setCell ⟨w6.heap.size, 0, none⟩ (.int .u64 0)).setCell ⟨w6.heap.size, 1, none⟩ (.int .u32 0)).setCell ⟨w6.heap.size, 2, none⟩ (.int .u8 0)).setCell ⟨w6.heap.size, 3, none⟩ (.int .u64 0) = w7 := ⟨_, rfl⟩
      rw [hw7] at hf7
      have B7 : Below w5.heap.size w5 w7 := (below_one b6 b6a).trans (hf7.below (Nat.le_trans b6.size b6a.size) (fun j (e : j = w6.heap.size) => by rw [e]; exact b6.size))
      have HC7 := hide (HC5.out.grow B7)
      have HE7 := hide (HE5.out.to B7)
      have HX7 := hide (HX5.out.grow B7)
      have HM7 := hide (HM5.out.grow B7)
      have HO7 := hide (HO5.out.grow B7)
      have HB7 := hide B7
      have HBX7 := hide (below_one HBX5.out B7)
      have HN7 := hide (HNn5.out.carry B7)
      clear j0 j1 j2 j3 j4 j5 j6 j7 j8 j9 j10
      obtain ⟨j0, j1, j2, j3, j4, j5, j6, j7, j8, j9, j10⟩ := HM7.out.all
      rw [HM3.out] at j3
      rw [HMA.out] at j9
      clear b6 B7 b6a hf7
      have y0 := HC7.out.c0
      have y1 := HC7.out.c1
      have y2 := HC7.out.c2
      have y3 := HC7.out.c3
      have x0 := HC7.out.z' 0
      have x1 := HC7.out.z' 1
      have x2 := HC7.out.z' 2
      have x3 := HC7.out.z' 3
      have HZZ := hide (HC7.out.put 0 0 0 0)
      have HEZ := hide (HE7.out.cbi HW0.out HC7.out (by omega) (foot_cap4 w7 (w.heap.size + 1) 0 0 0 0))
      obtain ⟨wz, hwz⟩ : ∃ wz, (((w7.setCell ⟨w.heap.size + 1, 0, none⟩ (.int .u64 0)).setCell ⟨w.heap.size + 1, 1, none⟩ (.int .u32 0)).setCell ⟨w.heap.size + 1, 2, none⟩ (.int .u8 0)).setCell ⟨w.heap.size + 1, 3, none⟩ (.int .u64 0) = wz := ⟨_, rfl⟩
      rw [hwz] at HZZ HEZ
      have v0 := HZZ.out.c0
      have v1 := HZZ.out.c1
      have v2 := HZZ.out.c2
      have v3 := HZZ.out.c3
      go_wp2
      refine bodyPost_ret (by simp [results, Tryz.results41, go_sem, v0, v1, v2, v3]; rfl) rfl ?_
      exact mdo_bad rfl HEZ.out
set_option maxRecDepth 20000 in
set_option maxHeartbeats 6400000 in
theorem mdo_ebad103_255 (z : Int) (m : Msg) (so : Option Addr) (sn sc : Nat) (l : List UInt8) (w : World) (h : A.sb.2 = true) (x : Sv w0 w A p ws s) (k : Dok z s) (hd : A.dv ≠ none) (hb : Bts w so sn sc l) (hop : m.op = 103) (hyes : hasNm l = true) (hidx : idxR (s.L z) (nmOf l) < (s.L z).length) (h16 : (restOf l).length = 16) (har : 255 < m.ar) :
    Calls Tryz.prog 41 #[.pointer (some ⟨A.sb.1, 0, none⟩), .agg #[.int .u64 m.ta, .int .u64 m.rp, .int .u32 m.id, .int .u16 m.op, .int .u16 m.st, .int .u64 m.p, .int .u32 m.o, .int .u8 m.r, .int .u64 m.c, .int .u64 m.ar, .slice so sn sc], .int .i64 z] w fun e w' => MdoEnd w0 w A p ws (badF s 4) e w' := by
  obtain ⟨X, hX, bm, bc, bX⟩ := mdo_vars w m (.slice so sn sc)
  have HS := hide h
  have HX := hide (x.grow bX)
  have HB := hide (hb.carry bX)
  have HM := hide bm
  have HC := hide bc
  have HBX := hide bX
  have HW0 : Hid (w0.heap.size ≤ w.heap.size) := x.bel.size
  have HK := hide k
  have HSZ : Hid (w.heap.size + 1 < X.heap.size) := lt_of_heap bc
  obtain ⟨bd, hbd⟩ : ∃ b, A.dv = some b := Option.ne_none_iff_exists'.1 hd
  have HD := hide hbd
  obtain ⟨k0, k1, k2, k3, k4, k5, k6, k7, k8, k9, k10⟩ := HM.out.all
  have hopi : (m.op : Int) = 103 := by omega
  rw [hopi] at k3 hX
  have HM3 := hide hopi
  have hl := hb.1
  obtain ⟨xn, hxn⟩ : ∃ x, nmN l = x := ⟨_, rfl⟩
  have HXN : Hid (numF ((l.drop 0).take 2) = xn) := hxn
  have hN : (2 ≤ l.length ∧ 2 + xn ≤ l.length) ∧ 1 ≤ xn ∧ xn ≤ 32 := by
    unfold hasNm at hyes; rw [hxn] at hyes; exact of_decide_eq_true hyes
  rw [← hl] at hN
  have g1 : 2 ≤ sn := by omega
  have g2 : 2 + xn ≤ sn := by omega
  have hlt1 : ¬ (xn : Int) < 1 := by omega
  have hgt1 : ¬ (xn : Int) > 32 := by omega
  obtain ⟨ke, hke⟩ : ∃ k, 2 + xn = k := ⟨_, rfl⟩
  have HKE := hide (show 2 + nmN l = ke by rw [hxn]; exact hke)
  have HYES := hide hyes
  obtain ⟨nm, hnm⟩ : ∃ nm, nmOf l = nm := ⟨_, rfl⟩
  have HNM : Hid ((l.drop 2).take xn = nm) := by show _ = _; rw [← hxn]; exact hnm
  obtain ⟨L, hL⟩ : ∃ L, s.L z = L := ⟨_, rfl⟩
  have HLL := hide hL
  have hG := x.good z
  obtain ⟨v, hv⟩ : ∃ v, A.nv z = v := ⟨_, rfl⟩
  have HV := hide hv
  have hown := x.lawR h z
  rw [hv, hL] at hown
  rw [hL] at hG
  have HG := hide hG
  rw [hnm, hL] at hidx
  have HNMO := hide hnm
  obtain ⟨ao, cap, hve, hnc, hcap⟩ := hown.form
  obtain ⟨n, hn⟩ : ∃ n, L.length = n := ⟨_, rfl⟩
  have HN := hide hn
  rw [hn] at hve
  subst hve
  try rw [hL, hnm]
  obtain ⟨ki, hk9⟩ : ∃ k, idxR L nm = k := ⟨_, rfl⟩
  have HK9 := hide hk9
  rw [hk9] at hidx
  have HIX := hide hidx
  try rw [hk9]
  have hk0 : (0 : Int) ≤ (ki : Int) := by omega
  have hk1 : ¬ (ki : Int) < 0 := by omega
  have hk2 : (ki : Int) < (n : Int) := by omega
  have HZ := hide k.z
  clear bm bc bX x hb k h hd hbd hyes hxn hl hN hnm hL hv hown hG hidx hk9 hop
  go_enter Tryz.func41, Tryz.ntmps41
  go_wp2_with fail
  refine (gb_yes so sn sc l _ HB.out xn HXN.out g1 g2 ke hke).mono ?_; rw [HNM.out]; rintro e w1 ⟨no, nc, rfl, B1, N1, b1⟩
  have HNB := hide B1
  have HX1 := hide (HX.out.grow b1)
  have HM1 := hide (HM.out.grow b1)
  have HC1 := hide (HC.out.grow b1)
  have HB1 := hide (HB.out.carry b1)
  have HBX1 := hide (below_one HBX.out b1)
  have hlk := HX1.out.lookL HZ.out
  rw [HV.out] at hlk
  have c2 := HX1.out.bx.c2
  have HOW := hide (HX1.out.lawR HS.out z)
  rw [HV.out, HLL.out] at HOW
  obtain ⟨sv, hsv⟩ : ∃ t, str nm = t := ⟨_, rfl⟩
  have HSVS := hide hsv
  clear B1 N1 b1 g1 g2 hke hsv k0 k1 k2 k3 k4 k5 k6 k7 k8 k9 k10
  go_wp2_with fail
  go_loopg [17, 106] n (fun gk va vi wr => ∃ i : Nat, i + gk = n ∧ vi = .int .i64 (i : Int) ∧ va = .int .i64 (atF L nm i) ∧ Below w1.heap.size w1 wr)
  case atStart => exact ⟨0, by omega, rfl, by rw [at_zero], Below.refl _ _⟩
  case round =>
    obtain ⟨i, hi, rfl, rfl, bl⟩ := hrel
    have HBL := hide bl
    clear bl
    cases gk with
    | succ g1 =>
      have hlt : (i : Int) < (n : Int) := by omega
      have hil : i < L.length := by have := HN.out; omega
      obtain ⟨y, hy⟩ : ∃ y, L.getD i Rw.zero = y := ⟨_, rfl⟩
      obtain ⟨h, ac, e, _, _, _, _, ⟨c0, c1, c2', c3, c4, c5⟩, _⟩ := OwnR.elem (T := 145) (HOW.out.grow HBL.out) i hil y hy
      obtain ⟨rfl, rfl⟩ : ao = some ⟨h, 0, none⟩ ∧ cap = ac := by simp only [Value.slice.injEq] at e; exact ⟨e.1, e.2.2⟩
      clear e
      have cvw := fun U (b : Below wr.heap.size wr U) => conv_bts ((HNB.out.carry HBL.out).carry b)
      rw [HSVS.out] at cvw
      obtain ⟨X9, hX9⟩ : ∃ X, wr.alloc (.cells #[.string (str y.n), .int .u64 (y.c.p : Int), .int .u32 (y.c.o : Int), .int .u8 (y.c.r : Int), .int .u64 (y.c.c : Int), .int .u8 (y.m : Int)] 145) = X := ⟨_, rfl⟩
      have b9 : Below wr.heap.size wr X9 := hX9 ▸ below_alloc wr _
      have d0 : X9.cell? ⟨wr.heap.size, 0, none⟩ = some (.string (str y.n)) := by rw [← hX9]; simp
      have cvd := cvw X9 b9
      have HBX9 := hide (below_one HBL.out b9)
      clear cvw b9
      by_cases hx : y.n = nm
      · have HAT := hide (at_yes (nm := nm) HG.out.2.2 hil (by rw [hy]; exact hx))
        have hbq : (sv.toList == sv.toList) = true := by simp
        rw [hx, HSVS.out] at c0 hX9 d0
        clear hx hil hy
        go_wp2_with fail
        go_roundg g1
        case measure => omega
        case rel => exact ⟨i + 1, by omega, by go_num, by rw [HAT.out], HBX9.out⟩
      · have HAT := hide (at_no (nm := nm) hil (by rw [hy]; exact hx))
        obtain ⟨sx, hsx⟩ : ∃ t, str y.n = t := ⟨_, rfl⟩
        have hbq : (sx.toList == sv.toList) = false := by rw [← hsx, ← HSVS.out, list_beq]; exact decide_eq_false hx
        rw [hsx] at c0 hX9 d0
        clear hx hil hy hsx
        go_wp2_with fail
        go_roundg g1
        case measure => omega
        case rel => exact ⟨i + 1, by omega, by go_num, by rw [HAT.out], HBX9.out⟩
    | zero =>
      obtain rfl : i = n := by omega
      have hlt : ¬ ((i : Int) < (i : Int)) := by omega
      rw [show atF L nm i = (ki : Int) from by rw [← HN.out, at_in (by rw [HK9.out]; exact HIX.out), HK9.out]]
      have HXr := hide (HX1.out.grow HBL.out)
      have HMr := hide (HM1.out.grow HBL.out)
      have HCr := hide (HC1.out.grow HBL.out)
      have HBr := hide (HB1.out.carry HBL.out)
      have HNr := hide (HNB.out.carry HBL.out)
      have HBXr := hide (below_one HBX1.out HBL.out)
      have HOr := hide (HOW.out.grow HBL.out)
      have HEr := hide ((HXr.out.stayK).from HBXr.out)
      clear c2 hlk
      have c2 := HXr.out.bx.c2
      have hlk := HXr.out.lookL HZ.out
      rw [HV.out] at hlk
      obtain ⟨v5, w5, hr5, ho5, hb5, hv5⟩ := copy_any HOr.out HG.out.1 HXr.out.nw 143
      obtain ⟨y, hy⟩ : ∃ y, L.getD ki Rw.zero = y := ⟨_, rfl⟩
      have HYE := hide hy
      obtain ⟨h5, c5, e5, hc5, hm5, _, _, hce5, hfz5⟩ := ho5.elem ki HIX.out y hy
      rw [HN.out] at e5
      subst e5
      have HR5 := hide hr5
      have HO5 := hide ho5
      have HV5 := hide hv5
      have HB5 := hide hb5
      have HX5 := hide (HXr.out.grow hb5)
      have HM5 := hide (HMr.out.grow hb5)
      have HC5 := hide (HCr.out.grow hb5)
      have HBb5 := hide (HBr.out.carry hb5)
      have HNn5 := hide (HNr.out.carry hb5)
      have HBX5 := hide (below_one HBXr.out hb5)
      have HE5 := hide (HEr.out.to hb5)
      have HC55 := hide hc5
      have k3 : wr.cell? ⟨w.heap.size, 3, none⟩ = some (.int .u16 103) := by have := HMr.out.all.2.2.2.1; rw [HM3.out] at this; exact this
      obtain ⟨j0, j1, j2, j3, j4, j5, j6, j7, j8, j9, j10⟩ := HM5.out.all
      rw [HM3.out] at j3
      clear hr5 ho5 hv5 hb5 hm5
      obtain ⟨a2, n2, d2, hcut, hbr⟩ := cut_rest HBb5.out HYES.out ke HKE.out
      have HBR := hide hbr
      obtain ⟨lr, hlr⟩ : ∃ x, restOf l = x := ⟨_, rfl⟩
      rw [hlr] at HBR h16
      obtain ⟨ma, hma⟩ : ∃ x, m.ar = x := ⟨_, rfl⟩
      have HMA := hide hma
      rw [hma] at j9
      have HLR := hide hlr
      obtain rfl : n2 = 16 := by have := HBR.out.1; omega
      obtain ⟨cp, hcp⟩ : ∃ x, numF ((lr.drop 0).take 6) = x := ⟨_, rfl⟩
      obtain ⟨co, hco⟩ : ∃ x, numF ((lr.drop 6).take 3) = x := ⟨_, rfl⟩
      obtain ⟨cr, hcr⟩ : ∃ x, numF ((lr.drop 9).take 1) = x := ⟨_, rfl⟩
      obtain ⟨cc, hcc⟩ : ∃ x, numF ((lr.drop 10).take 6) = x := ⟨_, rfl⟩
      have HD6 := hide (fun W hb => decode_yes a2 d2 lr W hb cp co cr cc hcp hco hcr hcc)
      have HCD : Hid (capD lr = ⟨cp, co, cr, cc⟩) := by show _ = _; unfold capD; rw [hcp, hco, hcr, hcc]
      rw [hma] at har
      have hgt : (ma : Int) > 255 := by omega
      clear hbr hlr hma h16 hcp hco hcr hcc har hy
      go_wp2_with (at_builtin; refine wpList_append_run rfl _ _ _ rfl _ _ _ _ rfl rfl HR5.out ?_)
      refine (HD6.out _ HBR.out).mono ?_; rintro e w6 ⟨rfl, b6⟩
      obtain ⟨w7, hw7⟩ : ∃ w7, w6.alloc (.cells #[.int .u64 (cp : Int), .int .u32 (co : Int), .int .u8 (cr : Int), .int .u64 (cc : Int)] 40) = w7 := ⟨_, rfl⟩
      have b7 : Below w6.heap.size w6 w7 := hw7 ▸ below_alloc _ _
      have HQ7 : Hid (CBI w7 w6.heap.size cp co cr cc) := hw7 ▸ CBI.new w6 _ _ _ _
      have B7 := below_one b6 b7
      have HC7 := hide (HC5.out.grow B7)
      have HE7 := hide (HE5.out.to B7)
      have HX7 := hide (HX5.out.grow B7)
      have HM7 := hide (HM5.out.grow B7)
      have HO7 := hide (HO5.out.grow B7)
      have HB7 := hide B7
      have HBX7 := hide (below_one HBX5.out B7)
      have HN7 := hide (HNn5.out.carry B7)
      clear j0 j1 j2 j3 j4 j5 j6 j7 j8 j9 j10
      obtain ⟨j0, j1, j2, j3, j4, j5, j6, j7, j8, j9, j10⟩ := HM7.out.all
      rw [HM3.out] at j3
      rw [HMA.out] at j9
      clear b6 B7 b7
      have y0 := HC7.out.c0
      have y1 := HC7.out.c1
      have y2 := HC7.out.c2
      have y3 := HC7.out.c3
      have x0 := HC7.out.z' 0
      have x1 := HC7.out.z' 1
      have x2 := HC7.out.z' 2
      have x3 := HC7.out.z' 3
      have HZZ := hide (HC7.out.put 0 0 0 0)
      have HEZ := hide (HE7.out.cbi HW0.out HC7.out (by omega) (foot_cap4 w7 (w.heap.size + 1) 0 0 0 0))
      obtain ⟨wz, hwz⟩ : ∃ wz, (((w7.setCell ⟨w.heap.size + 1, 0, none⟩ (.int .u64 0)).setCell ⟨w.heap.size + 1, 1, none⟩ (.int .u32 0)).setCell ⟨w.heap.size + 1, 2, none⟩ (.int .u8 0)).setCell ⟨w.heap.size + 1, 3, none⟩ (.int .u64 0) = wz := ⟨_, rfl⟩
      rw [hwz] at HZZ HEZ
      have v0 := HZZ.out.c0
      have v1 := HZZ.out.c1
      have v2 := HZZ.out.c2
      have v3 := HZZ.out.c3
      go_wp2
      refine bodyPost_ret (by simp [results, Tryz.results41, go_sem, v0, v1, v2, v3]; rfl) rfl ?_
      exact mdo_bad rfl HEZ.out
set_option maxRecDepth 20000 in
set_option maxHeartbeats 6400000 in
theorem mdo_ebad102_16 (z : Int) (m : Msg) (so : Option Addr) (sn sc : Nat) (l : List UInt8) (w : World) (h : A.sb.2 = true) (x : Sv w0 w A p ws s) (k : Dok z s) (hd : A.dv ≠ none) (hb : Bts w so sn sc l) (hop : m.op = 102) (hyes : hasNm l = true) (hidx : ¬ idxR (s.L z) (nmOf l) < (s.L z).length) (h16 : (restOf l).length ≠ 16) :
    Calls Tryz.prog 41 #[.pointer (some ⟨A.sb.1, 0, none⟩), .agg #[.int .u64 m.ta, .int .u64 m.rp, .int .u32 m.id, .int .u16 m.op, .int .u16 m.st, .int .u64 m.p, .int .u32 m.o, .int .u8 m.r, .int .u64 m.c, .int .u64 m.ar, .slice so sn sc], .int .i64 z] w fun e w' => MdoEnd w0 w A p ws (badF s 4) e w' := by
  obtain ⟨X, hX, bm, bc, bX⟩ := mdo_vars w m (.slice so sn sc)
  have HS := hide h
  have HX := hide (x.grow bX)
  have HB := hide (hb.carry bX)
  have HM := hide bm
  have HC := hide bc
  have HBX := hide bX
  have HW0 : Hid (w0.heap.size ≤ w.heap.size) := x.bel.size
  have HK := hide k
  have HSZ : Hid (w.heap.size + 1 < X.heap.size) := lt_of_heap bc
  obtain ⟨bd, hbd⟩ : ∃ b, A.dv = some b := Option.ne_none_iff_exists'.1 hd
  have HD := hide hbd
  obtain ⟨k0, k1, k2, k3, k4, k5, k6, k7, k8, k9, k10⟩ := HM.out.all
  have hopi : (m.op : Int) = 102 := by omega
  rw [hopi] at k3 hX
  have HM3 := hide hopi
  have hl := hb.1
  obtain ⟨xn, hxn⟩ : ∃ x, nmN l = x := ⟨_, rfl⟩
  have HXN : Hid (numF ((l.drop 0).take 2) = xn) := hxn
  have hN : (2 ≤ l.length ∧ 2 + xn ≤ l.length) ∧ 1 ≤ xn ∧ xn ≤ 32 := by
    unfold hasNm at hyes; rw [hxn] at hyes; exact of_decide_eq_true hyes
  rw [← hl] at hN
  have g1 : 2 ≤ sn := by omega
  have g2 : 2 + xn ≤ sn := by omega
  have hlt1 : ¬ (xn : Int) < 1 := by omega
  have hgt1 : ¬ (xn : Int) > 32 := by omega
  obtain ⟨ke, hke⟩ : ∃ k, 2 + xn = k := ⟨_, rfl⟩
  have HKE := hide (show 2 + nmN l = ke by rw [hxn]; exact hke)
  have HYES := hide hyes
  obtain ⟨nm, hnm⟩ : ∃ nm, nmOf l = nm := ⟨_, rfl⟩
  have HNM : Hid ((l.drop 2).take xn = nm) := by show _ = _; rw [← hxn]; exact hnm
  obtain ⟨L, hL⟩ : ∃ L, s.L z = L := ⟨_, rfl⟩
  have HLL := hide hL
  have hG := x.good z
  obtain ⟨v, hv⟩ : ∃ v, A.nv z = v := ⟨_, rfl⟩
  have HV := hide hv
  have hown := x.lawR h z
  rw [hv, hL] at hown
  rw [hL] at hG
  have HG := hide hG
  rw [hnm, hL] at hidx
  have HNMO := hide hnm
  obtain ⟨ao, cap, hve, hnc, hcap⟩ := hown.form
  obtain ⟨n, hn⟩ : ∃ n, L.length = n := ⟨_, rfl⟩
  have HN := hide hn
  rw [hn] at hve
  subst hve
  try rw [hL, hnm]
  have HIX := hide hidx
  have HZ := hide k.z
  clear bm bc bX x hb k h hd hbd hyes hxn hl hN hnm hL hv hown hG hidx hop
  go_enter Tryz.func41, Tryz.ntmps41
  go_wp2_with fail
  refine (gb_yes so sn sc l _ HB.out xn HXN.out g1 g2 ke hke).mono ?_; rw [HNM.out]; rintro e w1 ⟨no, nc, rfl, B1, N1, b1⟩
  have HNB := hide B1
  have HX1 := hide (HX.out.grow b1)
  have HM1 := hide (HM.out.grow b1)
  have HC1 := hide (HC.out.grow b1)
  have HB1 := hide (HB.out.carry b1)
  have HBX1 := hide (below_one HBX.out b1)
  have hlk := HX1.out.lookL HZ.out
  rw [HV.out] at hlk
  have c2 := HX1.out.bx.c2
  have HOW := hide (HX1.out.lawR HS.out z)
  rw [HV.out, HLL.out] at HOW
  obtain ⟨sv, hsv⟩ : ∃ t, str nm = t := ⟨_, rfl⟩
  have HSVS := hide hsv
  clear B1 N1 b1 g1 g2 hke hsv k0 k1 k2 k3 k4 k5 k6 k7 k8 k9 k10
  go_wp2_with fail
  go_loopg [17, 106] n (fun gk va vi wr => ∃ i : Nat, i + gk = n ∧ vi = .int .i64 (i : Int) ∧ va = .int .i64 (atF L nm i) ∧ Below w1.heap.size w1 wr)
  case atStart => exact ⟨0, by omega, rfl, by rw [at_zero], Below.refl _ _⟩
  case round =>
    obtain ⟨i, hi, rfl, rfl, bl⟩ := hrel
    have HBL := hide bl
    clear bl
    cases gk with
    | succ g1 =>
      have hlt : (i : Int) < (n : Int) := by omega
      have hil : i < L.length := by have := HN.out; omega
      obtain ⟨y, hy⟩ : ∃ y, L.getD i Rw.zero = y := ⟨_, rfl⟩
      obtain ⟨h, ac, e, _, _, _, _, ⟨c0, c1, c2', c3, c4, c5⟩, _⟩ := OwnR.elem (T := 145) (HOW.out.grow HBL.out) i hil y hy
      obtain ⟨rfl, rfl⟩ : ao = some ⟨h, 0, none⟩ ∧ cap = ac := by simp only [Value.slice.injEq] at e; exact ⟨e.1, e.2.2⟩
      clear e
      have cvw := fun U (b : Below wr.heap.size wr U) => conv_bts ((HNB.out.carry HBL.out).carry b)
      rw [HSVS.out] at cvw
      obtain ⟨X9, hX9⟩ : ∃ X, wr.alloc (.cells #[.string (str y.n), .int .u64 (y.c.p : Int), .int .u32 (y.c.o : Int), .int .u8 (y.c.r : Int), .int .u64 (y.c.c : Int), .int .u8 (y.m : Int)] 145) = X := ⟨_, rfl⟩
      have b9 : Below wr.heap.size wr X9 := hX9 ▸ below_alloc wr _
      have d0 : X9.cell? ⟨wr.heap.size, 0, none⟩ = some (.string (str y.n)) := by rw [← hX9]; simp
      have cvd := cvw X9 b9
      have HBX9 := hide (below_one HBL.out b9)
      clear cvw b9
      by_cases hx : y.n = nm
      · have HAT := hide (at_yes (nm := nm) HG.out.2.2 hil (by rw [hy]; exact hx))
        have hbq : (sv.toList == sv.toList) = true := by simp
        rw [hx, HSVS.out] at c0 hX9 d0
        clear hx hil hy
        go_wp2_with fail
        go_roundg g1
        case measure => omega
        case rel => exact ⟨i + 1, by omega, by go_num, by rw [HAT.out], HBX9.out⟩
      · have HAT := hide (at_no (nm := nm) hil (by rw [hy]; exact hx))
        obtain ⟨sx, hsx⟩ : ∃ t, str y.n = t := ⟨_, rfl⟩
        have hbq : (sx.toList == sv.toList) = false := by rw [← hsx, ← HSVS.out, list_beq]; exact decide_eq_false hx
        rw [hsx] at c0 hX9 d0
        clear hx hil hy hsx
        go_wp2_with fail
        go_roundg g1
        case measure => omega
        case rel => exact ⟨i + 1, by omega, by go_num, by rw [HAT.out], HBX9.out⟩
    | zero =>
      obtain rfl : i = n := by omega
      have hlt : ¬ ((i : Int) < (i : Int)) := by omega
      rw [show atF L nm i = -1 from by rw [← HN.out, at_out HIX.out]]
      have hk1 : ((-1 : Int)) < 0 := by omega
      have hk0 : ¬ ((0 : Int) ≤ -1) := by omega
      have HXr := hide (HX1.out.grow HBL.out)
      have HMr := hide (HM1.out.grow HBL.out)
      have HCr := hide (HC1.out.grow HBL.out)
      have HBr := hide (HB1.out.carry HBL.out)
      have HNr := hide (HNB.out.carry HBL.out)
      have HBXr := hide (below_one HBX1.out HBL.out)
      have HOr := hide (HOW.out.grow HBL.out)
      have HEr := hide ((HXr.out.stayK).from HBXr.out)
      clear c2 hlk
      have c2 := HXr.out.bx.c2
      have hlk := HXr.out.lookL HZ.out
      rw [HV.out] at hlk
      obtain ⟨v5, w5, hr5, ho5, hb5, hv5⟩ := copy_any HOr.out HG.out.1 HXr.out.nw 143
      obtain ⟨h5, c5, e5, hc5, hm5⟩ := ho5.form
      rw [HN.out] at e5
      subst e5
      have HR5 := hide hr5
      have HO5 := hide ho5
      have HV5 := hide hv5
      have HB5 := hide hb5
      have HX5 := hide (HXr.out.grow hb5)
      have HM5 := hide (HMr.out.grow hb5)
      have HC5 := hide (HCr.out.grow hb5)
      have HBb5 := hide (HBr.out.carry hb5)
      have HNn5 := hide (HNr.out.carry hb5)
      have HBX5 := hide (below_one HBXr.out hb5)
      have HE5 := hide (HEr.out.to hb5)
      have HC55 := hide hc5
      have k3 : wr.cell? ⟨w.heap.size, 3, none⟩ = some (.int .u16 102) := by have := HMr.out.all.2.2.2.1; rw [HM3.out] at this; exact this
      obtain ⟨j0, j1, j2, j3, j4, j5, j6, j7, j8, j9, j10⟩ := HM5.out.all
      rw [HM3.out] at j3
      clear hr5 ho5 hv5 hb5 hm5
      have h5z := hk0
      obtain ⟨a2, n2, d2, hcut, hbr⟩ := cut_rest HBb5.out HYES.out ke HKE.out
      have HBR := hide hbr
      obtain ⟨lr, hlr⟩ : ∃ x, restOf l = x := ⟨_, rfl⟩
      rw [hlr] at HBR h16
      obtain ⟨ma, hma⟩ : ∃ x, m.ar = x := ⟨_, rfl⟩
      have HMA := hide hma
      rw [hma] at j9
      have HLR := hide hlr
      have h16n : ¬ n2 = 16 := by have := HBR.out.1; omega
      have H16 := hide h16n
      clear hbr hlr hma h16 h16n
      go_wp2_with (at_builtin; refine wpList_append_run rfl _ _ _ rfl _ _ _ _ rfl rfl HR5.out ?_)
      refine (decode_no a2 n2 d2 _ (by have := HBR.out.2.1; have := HBR.out.2.2.1; unfold maxLen at this; omega) H16.out).mono ?_; rintro e w6 ⟨rfl, b6⟩
      obtain ⟨w6a, hw6⟩ : ∃ w7, w6.alloc (.cells #[.int .u64 0, .int .u32 0, .int .u8 0, .int .u64 0] 40) = w7 := ⟨_, rfl⟩
      have b6a : Below w6.heap.size w6 w6a := hw6 ▸ below_alloc _ _
      have HQ6 : Hid (CBI w6a w6.heap.size 0 0 0 0) := hw6 ▸ CBI.new w6 0 0 0 0
      have d0 := HQ6.out.c0
      have d1 := HQ6.out.c1
      have d2' := HQ6.out.c2
      have d3 := HQ6.out.c3
      have xz := HQ6.out.z'
      have hf7 := (foot_cap4 w6a w6.heap.size 0 0 0 0)
      obtain ⟨w7, hw7⟩ : ∃ w7, (((w6a.setCell ⟨w6.heap.size, 0, none⟩ (.int .u64 0)).setCell ⟨w6.heap.size, 1, none⟩ (.int .u32 0)).setCell ⟨w6.heap.size, 2, none⟩ (.int .u8 0)).setCell ⟨w6.heap.size, 3, none⟩ (.int .u64 0) = w7 := ⟨_, rfl⟩
      rw [hw7] at hf7
      have B7 : Below w5.heap.size w5 w7 := (below_one b6 b6a).trans (hf7.below (Nat.le_trans b6.size b6a.size) (fun j (e : j = w6.heap.size) => by rw [e]; exact b6.size))
      have HC7 := hide (HC5.out.grow B7)
      have HE7 := hide (HE5.out.to B7)
      have HX7 := hide (HX5.out.grow B7)
      have HM7 := hide (HM5.out.grow B7)
      have HO7 := hide (HO5.out.grow B7)
      have HB7 := hide B7
      have HBX7 := hide (below_one HBX5.out B7)
      have HN7 := hide (HNn5.out.carry B7)
      clear j0 j1 j2 j3 j4 j5 j6 j7 j8 j9 j10
      obtain ⟨j0, j1, j2, j3, j4, j5, j6, j7, j8, j9, j10⟩ := HM7.out.all
      rw [HM3.out] at j3
      rw [HMA.out] at j9
      clear b6 B7 b6a hf7
      have y0 := HC7.out.c0
      have y1 := HC7.out.c1
      have y2 := HC7.out.c2
      have y3 := HC7.out.c3
      have x0 := HC7.out.z' 0
      have x1 := HC7.out.z' 1
      have x2 := HC7.out.z' 2
      have x3 := HC7.out.z' 3
      have HZZ := hide (HC7.out.put 0 0 0 0)
      have HEZ := hide (HE7.out.cbi HW0.out HC7.out (by omega) (foot_cap4 w7 (w.heap.size + 1) 0 0 0 0))
      obtain ⟨wz, hwz⟩ : ∃ wz, (((w7.setCell ⟨w.heap.size + 1, 0, none⟩ (.int .u64 0)).setCell ⟨w.heap.size + 1, 1, none⟩ (.int .u32 0)).setCell ⟨w.heap.size + 1, 2, none⟩ (.int .u8 0)).setCell ⟨w.heap.size + 1, 3, none⟩ (.int .u64 0) = wz := ⟨_, rfl⟩
      rw [hwz] at HZZ HEZ
      have v0 := HZZ.out.c0
      have v1 := HZZ.out.c1
      have v2 := HZZ.out.c2
      have v3 := HZZ.out.c3
      go_wp2
      refine bodyPost_ret (by simp [results, Tryz.results41, go_sem, v0, v1, v2, v3]; rfl) rfl ?_
      exact mdo_bad rfl HEZ.out
set_option maxRecDepth 20000 in
set_option maxHeartbeats 6400000 in
theorem mdo_ebad102_255 (z : Int) (m : Msg) (so : Option Addr) (sn sc : Nat) (l : List UInt8) (w : World) (h : A.sb.2 = true) (x : Sv w0 w A p ws s) (k : Dok z s) (hd : A.dv ≠ none) (hb : Bts w so sn sc l) (hop : m.op = 102) (hyes : hasNm l = true) (hidx : ¬ idxR (s.L z) (nmOf l) < (s.L z).length) (h16 : (restOf l).length = 16) (har : 255 < m.ar) :
    Calls Tryz.prog 41 #[.pointer (some ⟨A.sb.1, 0, none⟩), .agg #[.int .u64 m.ta, .int .u64 m.rp, .int .u32 m.id, .int .u16 m.op, .int .u16 m.st, .int .u64 m.p, .int .u32 m.o, .int .u8 m.r, .int .u64 m.c, .int .u64 m.ar, .slice so sn sc], .int .i64 z] w fun e w' => MdoEnd w0 w A p ws (badF s 4) e w' := by
  obtain ⟨X, hX, bm, bc, bX⟩ := mdo_vars w m (.slice so sn sc)
  have HS := hide h
  have HX := hide (x.grow bX)
  have HB := hide (hb.carry bX)
  have HM := hide bm
  have HC := hide bc
  have HBX := hide bX
  have HW0 : Hid (w0.heap.size ≤ w.heap.size) := x.bel.size
  have HK := hide k
  have HSZ : Hid (w.heap.size + 1 < X.heap.size) := lt_of_heap bc
  obtain ⟨bd, hbd⟩ : ∃ b, A.dv = some b := Option.ne_none_iff_exists'.1 hd
  have HD := hide hbd
  obtain ⟨k0, k1, k2, k3, k4, k5, k6, k7, k8, k9, k10⟩ := HM.out.all
  have hopi : (m.op : Int) = 102 := by omega
  rw [hopi] at k3 hX
  have HM3 := hide hopi
  have hl := hb.1
  obtain ⟨xn, hxn⟩ : ∃ x, nmN l = x := ⟨_, rfl⟩
  have HXN : Hid (numF ((l.drop 0).take 2) = xn) := hxn
  have hN : (2 ≤ l.length ∧ 2 + xn ≤ l.length) ∧ 1 ≤ xn ∧ xn ≤ 32 := by
    unfold hasNm at hyes; rw [hxn] at hyes; exact of_decide_eq_true hyes
  rw [← hl] at hN
  have g1 : 2 ≤ sn := by omega
  have g2 : 2 + xn ≤ sn := by omega
  have hlt1 : ¬ (xn : Int) < 1 := by omega
  have hgt1 : ¬ (xn : Int) > 32 := by omega
  obtain ⟨ke, hke⟩ : ∃ k, 2 + xn = k := ⟨_, rfl⟩
  have HKE := hide (show 2 + nmN l = ke by rw [hxn]; exact hke)
  have HYES := hide hyes
  obtain ⟨nm, hnm⟩ : ∃ nm, nmOf l = nm := ⟨_, rfl⟩
  have HNM : Hid ((l.drop 2).take xn = nm) := by show _ = _; rw [← hxn]; exact hnm
  obtain ⟨L, hL⟩ : ∃ L, s.L z = L := ⟨_, rfl⟩
  have HLL := hide hL
  have hG := x.good z
  obtain ⟨v, hv⟩ : ∃ v, A.nv z = v := ⟨_, rfl⟩
  have HV := hide hv
  have hown := x.lawR h z
  rw [hv, hL] at hown
  rw [hL] at hG
  have HG := hide hG
  rw [hnm, hL] at hidx
  have HNMO := hide hnm
  obtain ⟨ao, cap, hve, hnc, hcap⟩ := hown.form
  obtain ⟨n, hn⟩ : ∃ n, L.length = n := ⟨_, rfl⟩
  have HN := hide hn
  rw [hn] at hve
  subst hve
  try rw [hL, hnm]
  have HIX := hide hidx
  have HZ := hide k.z
  clear bm bc bX x hb k h hd hbd hyes hxn hl hN hnm hL hv hown hG hidx hop
  go_enter Tryz.func41, Tryz.ntmps41
  go_wp2_with fail
  refine (gb_yes so sn sc l _ HB.out xn HXN.out g1 g2 ke hke).mono ?_; rw [HNM.out]; rintro e w1 ⟨no, nc, rfl, B1, N1, b1⟩
  have HNB := hide B1
  have HX1 := hide (HX.out.grow b1)
  have HM1 := hide (HM.out.grow b1)
  have HC1 := hide (HC.out.grow b1)
  have HB1 := hide (HB.out.carry b1)
  have HBX1 := hide (below_one HBX.out b1)
  have hlk := HX1.out.lookL HZ.out
  rw [HV.out] at hlk
  have c2 := HX1.out.bx.c2
  have HOW := hide (HX1.out.lawR HS.out z)
  rw [HV.out, HLL.out] at HOW
  obtain ⟨sv, hsv⟩ : ∃ t, str nm = t := ⟨_, rfl⟩
  have HSVS := hide hsv
  clear B1 N1 b1 g1 g2 hke hsv k0 k1 k2 k3 k4 k5 k6 k7 k8 k9 k10
  go_wp2_with fail
  go_loopg [17, 106] n (fun gk va vi wr => ∃ i : Nat, i + gk = n ∧ vi = .int .i64 (i : Int) ∧ va = .int .i64 (atF L nm i) ∧ Below w1.heap.size w1 wr)
  case atStart => exact ⟨0, by omega, rfl, by rw [at_zero], Below.refl _ _⟩
  case round =>
    obtain ⟨i, hi, rfl, rfl, bl⟩ := hrel
    have HBL := hide bl
    clear bl
    cases gk with
    | succ g1 =>
      have hlt : (i : Int) < (n : Int) := by omega
      have hil : i < L.length := by have := HN.out; omega
      obtain ⟨y, hy⟩ : ∃ y, L.getD i Rw.zero = y := ⟨_, rfl⟩
      obtain ⟨h, ac, e, _, _, _, _, ⟨c0, c1, c2', c3, c4, c5⟩, _⟩ := OwnR.elem (T := 145) (HOW.out.grow HBL.out) i hil y hy
      obtain ⟨rfl, rfl⟩ : ao = some ⟨h, 0, none⟩ ∧ cap = ac := by simp only [Value.slice.injEq] at e; exact ⟨e.1, e.2.2⟩
      clear e
      have cvw := fun U (b : Below wr.heap.size wr U) => conv_bts ((HNB.out.carry HBL.out).carry b)
      rw [HSVS.out] at cvw
      obtain ⟨X9, hX9⟩ : ∃ X, wr.alloc (.cells #[.string (str y.n), .int .u64 (y.c.p : Int), .int .u32 (y.c.o : Int), .int .u8 (y.c.r : Int), .int .u64 (y.c.c : Int), .int .u8 (y.m : Int)] 145) = X := ⟨_, rfl⟩
      have b9 : Below wr.heap.size wr X9 := hX9 ▸ below_alloc wr _
      have d0 : X9.cell? ⟨wr.heap.size, 0, none⟩ = some (.string (str y.n)) := by rw [← hX9]; simp
      have cvd := cvw X9 b9
      have HBX9 := hide (below_one HBL.out b9)
      clear cvw b9
      by_cases hx : y.n = nm
      · have HAT := hide (at_yes (nm := nm) HG.out.2.2 hil (by rw [hy]; exact hx))
        have hbq : (sv.toList == sv.toList) = true := by simp
        rw [hx, HSVS.out] at c0 hX9 d0
        clear hx hil hy
        go_wp2_with fail
        go_roundg g1
        case measure => omega
        case rel => exact ⟨i + 1, by omega, by go_num, by rw [HAT.out], HBX9.out⟩
      · have HAT := hide (at_no (nm := nm) hil (by rw [hy]; exact hx))
        obtain ⟨sx, hsx⟩ : ∃ t, str y.n = t := ⟨_, rfl⟩
        have hbq : (sx.toList == sv.toList) = false := by rw [← hsx, ← HSVS.out, list_beq]; exact decide_eq_false hx
        rw [hsx] at c0 hX9 d0
        clear hx hil hy hsx
        go_wp2_with fail
        go_roundg g1
        case measure => omega
        case rel => exact ⟨i + 1, by omega, by go_num, by rw [HAT.out], HBX9.out⟩
    | zero =>
      obtain rfl : i = n := by omega
      have hlt : ¬ ((i : Int) < (i : Int)) := by omega
      rw [show atF L nm i = -1 from by rw [← HN.out, at_out HIX.out]]
      have hk1 : ((-1 : Int)) < 0 := by omega
      have hk0 : ¬ ((0 : Int) ≤ -1) := by omega
      have HXr := hide (HX1.out.grow HBL.out)
      have HMr := hide (HM1.out.grow HBL.out)
      have HCr := hide (HC1.out.grow HBL.out)
      have HBr := hide (HB1.out.carry HBL.out)
      have HNr := hide (HNB.out.carry HBL.out)
      have HBXr := hide (below_one HBX1.out HBL.out)
      have HOr := hide (HOW.out.grow HBL.out)
      have HEr := hide ((HXr.out.stayK).from HBXr.out)
      clear c2 hlk
      have c2 := HXr.out.bx.c2
      have hlk := HXr.out.lookL HZ.out
      rw [HV.out] at hlk
      obtain ⟨v5, w5, hr5, ho5, hb5, hv5⟩ := copy_any HOr.out HG.out.1 HXr.out.nw 143
      obtain ⟨h5, c5, e5, hc5, hm5⟩ := ho5.form
      rw [HN.out] at e5
      subst e5
      have HR5 := hide hr5
      have HO5 := hide ho5
      have HV5 := hide hv5
      have HB5 := hide hb5
      have HX5 := hide (HXr.out.grow hb5)
      have HM5 := hide (HMr.out.grow hb5)
      have HC5 := hide (HCr.out.grow hb5)
      have HBb5 := hide (HBr.out.carry hb5)
      have HNn5 := hide (HNr.out.carry hb5)
      have HBX5 := hide (below_one HBXr.out hb5)
      have HE5 := hide (HEr.out.to hb5)
      have HC55 := hide hc5
      have k3 : wr.cell? ⟨w.heap.size, 3, none⟩ = some (.int .u16 102) := by have := HMr.out.all.2.2.2.1; rw [HM3.out] at this; exact this
      obtain ⟨j0, j1, j2, j3, j4, j5, j6, j7, j8, j9, j10⟩ := HM5.out.all
      rw [HM3.out] at j3
      clear hr5 ho5 hv5 hb5 hm5
      have h5z := hk0
      obtain ⟨a2, n2, d2, hcut, hbr⟩ := cut_rest HBb5.out HYES.out ke HKE.out
      have HBR := hide hbr
      obtain ⟨lr, hlr⟩ : ∃ x, restOf l = x := ⟨_, rfl⟩
      rw [hlr] at HBR h16
      obtain ⟨ma, hma⟩ : ∃ x, m.ar = x := ⟨_, rfl⟩
      have HMA := hide hma
      rw [hma] at j9
      have HLR := hide hlr
      obtain rfl : n2 = 16 := by have := HBR.out.1; omega
      obtain ⟨cp, hcp⟩ : ∃ x, numF ((lr.drop 0).take 6) = x := ⟨_, rfl⟩
      obtain ⟨co, hco⟩ : ∃ x, numF ((lr.drop 6).take 3) = x := ⟨_, rfl⟩
      obtain ⟨cr, hcr⟩ : ∃ x, numF ((lr.drop 9).take 1) = x := ⟨_, rfl⟩
      obtain ⟨cc, hcc⟩ : ∃ x, numF ((lr.drop 10).take 6) = x := ⟨_, rfl⟩
      have HD6 := hide (fun W hb => decode_yes a2 d2 lr W hb cp co cr cc hcp hco hcr hcc)
      have HCD : Hid (capD lr = ⟨cp, co, cr, cc⟩) := by show _ = _; unfold capD; rw [hcp, hco, hcr, hcc]
      rw [hma] at har
      have hgt : (ma : Int) > 255 := by omega
      clear hbr hlr hma h16 hcp hco hcr hcc har
      go_wp2_with (at_builtin; refine wpList_append_run rfl _ _ _ rfl _ _ _ _ rfl rfl HR5.out ?_)
      refine (HD6.out _ HBR.out).mono ?_; rintro e w6 ⟨rfl, b6⟩
      obtain ⟨w7, hw7⟩ : ∃ w7, w6.alloc (.cells #[.int .u64 (cp : Int), .int .u32 (co : Int), .int .u8 (cr : Int), .int .u64 (cc : Int)] 40) = w7 := ⟨_, rfl⟩
      have b7 : Below w6.heap.size w6 w7 := hw7 ▸ below_alloc _ _
      have HQ7 : Hid (CBI w7 w6.heap.size cp co cr cc) := hw7 ▸ CBI.new w6 _ _ _ _
      have B7 := below_one b6 b7
      have HC7 := hide (HC5.out.grow B7)
      have HE7 := hide (HE5.out.to B7)
      have HX7 := hide (HX5.out.grow B7)
      have HM7 := hide (HM5.out.grow B7)
      have HO7 := hide (HO5.out.grow B7)
      have HB7 := hide B7
      have HBX7 := hide (below_one HBX5.out B7)
      have HN7 := hide (HNn5.out.carry B7)
      clear j0 j1 j2 j3 j4 j5 j6 j7 j8 j9 j10
      obtain ⟨j0, j1, j2, j3, j4, j5, j6, j7, j8, j9, j10⟩ := HM7.out.all
      rw [HM3.out] at j3
      rw [HMA.out] at j9
      clear b6 B7 b7
      have y0 := HC7.out.c0
      have y1 := HC7.out.c1
      have y2 := HC7.out.c2
      have y3 := HC7.out.c3
      have x0 := HC7.out.z' 0
      have x1 := HC7.out.z' 1
      have x2 := HC7.out.z' 2
      have x3 := HC7.out.z' 3
      have HZZ := hide (HC7.out.put 0 0 0 0)
      have HEZ := hide (HE7.out.cbi HW0.out HC7.out (by omega) (foot_cap4 w7 (w.heap.size + 1) 0 0 0 0))
      obtain ⟨wz, hwz⟩ : ∃ wz, (((w7.setCell ⟨w.heap.size + 1, 0, none⟩ (.int .u64 0)).setCell ⟨w.heap.size + 1, 1, none⟩ (.int .u32 0)).setCell ⟨w.heap.size + 1, 2, none⟩ (.int .u8 0)).setCell ⟨w.heap.size + 1, 3, none⟩ (.int .u64 0) = wz := ⟨_, rfl⟩
      rw [hwz] at HZZ HEZ
      have v0 := HZZ.out.c0
      have v1 := HZZ.out.c1
      have v2 := HZZ.out.c2
      have v3 := HZZ.out.c3
      go_wp2
      refine bodyPost_ret (by simp [results, Tryz.results41, go_sem, v0, v1, v2, v3]; rfl) rfl ?_
      exact mdo_bad rfl HEZ.out
end
end Go.Proofs.YtlmnnjibggdboaaGreatDoor
namespace Go.Proofs.YtlmnnjibggdboaaGreatDoor
section
open Go.RowKit
variable {w0 w w1 w2 w' : World} {A A' : Ad} {p : Nat} {ws : List Nat} {s s' s1 : Hs} {r g : Nat}
set_option maxRecDepth 20000 in
set_option maxHeartbeats 6400000 in
theorem mdo_full (z : Int) (m : Msg) (so : Option Addr) (sn sc : Nat) (l : List UInt8) (w : World) (h : A.sb.2 = true) (x : Sv w0 w A p ws s) (k : Dok z s) (hd : A.dv ≠ none) (hb : Bts w so sn sc l) (hop : m.op = 102) (hyes : hasNm l = true) (hidx : ¬ idxR (s.L z) (nmOf l) < (s.L z).length) (h16 : (restOf l).length = 16) (har : m.ar ≤ 255) (h64 : 64 ≤ (s.L z).length) :
    Calls Tryz.prog 41 #[.pointer (some ⟨A.sb.1, 0, none⟩), .agg #[.int .u64 m.ta, .int .u64 m.rp, .int .u32 m.id, .int .u16 m.op, .int .u16 m.st, .int .u64 m.p, .int .u32 m.o, .int .u8 m.r, .int .u64 m.c, .int .u64 m.ar, .slice so sn sc], .int .i64 z] w fun e w' => MdoEnd w0 w A p ws (badF s 5) e w' := by
  obtain ⟨X, hX, bm, bc, bX⟩ := mdo_vars w m (.slice so sn sc)
  have HS := hide h
  have HX := hide (x.grow bX)
  have HB := hide (hb.carry bX)
  have HM := hide bm
  have HC := hide bc
  have HBX := hide bX
  have HW0 : Hid (w0.heap.size ≤ w.heap.size) := x.bel.size
  have HK := hide k
  have HSZ : Hid (w.heap.size + 1 < X.heap.size) := lt_of_heap bc
  obtain ⟨bd, hbd⟩ : ∃ b, A.dv = some b := Option.ne_none_iff_exists'.1 hd
  have HD := hide hbd
  obtain ⟨k0, k1, k2, k3, k4, k5, k6, k7, k8, k9, k10⟩ := HM.out.all
  have hopi : (m.op : Int) = 102 := by omega
  rw [hopi] at k3 hX
  have HM3 := hide hopi
  have hl := hb.1
  obtain ⟨xn, hxn⟩ : ∃ x, nmN l = x := ⟨_, rfl⟩
  have HXN : Hid (numF ((l.drop 0).take 2) = xn) := hxn
  have hN : (2 ≤ l.length ∧ 2 + xn ≤ l.length) ∧ 1 ≤ xn ∧ xn ≤ 32 := by
    unfold hasNm at hyes; rw [hxn] at hyes; exact of_decide_eq_true hyes
  rw [← hl] at hN
  have g1 : 2 ≤ sn := by omega
  have g2 : 2 + xn ≤ sn := by omega
  have hlt1 : ¬ (xn : Int) < 1 := by omega
  have hgt1 : ¬ (xn : Int) > 32 := by omega
  obtain ⟨ke, hke⟩ : ∃ k, 2 + xn = k := ⟨_, rfl⟩
  have HKE := hide (show 2 + nmN l = ke by rw [hxn]; exact hke)
  have HYES := hide hyes
  obtain ⟨nm, hnm⟩ : ∃ nm, nmOf l = nm := ⟨_, rfl⟩
  have HNM : Hid ((l.drop 2).take xn = nm) := by show _ = _; rw [← hxn]; exact hnm
  obtain ⟨L, hL⟩ : ∃ L, s.L z = L := ⟨_, rfl⟩
  have HLL := hide hL
  have hG := x.good z
  obtain ⟨v, hv⟩ : ∃ v, A.nv z = v := ⟨_, rfl⟩
  have HV := hide hv
  have hown := x.lawR h z
  rw [hv, hL] at hown
  rw [hL] at hG
  have HG := hide hG
  rw [hnm, hL] at hidx
  have HNMO := hide hnm
  obtain ⟨ao, cap, hve, hnc, hcap⟩ := hown.form
  obtain ⟨n, hn⟩ : ∃ n, L.length = n := ⟨_, rfl⟩
  have HN := hide hn
  rw [hn] at hve
  subst hve
  try rw [hL, hnm]
  have HIX := hide hidx
  have HH64 : Hid (64 ≤ L.length) := by show _ ≤ _; rw [← hL]; exact h64
  clear h64
  have HZ := hide k.z
  clear bm bc bX x hb k h hd hbd hyes hxn hl hN hnm hL hv hown hG hidx hop
  go_enter Tryz.func41, Tryz.ntmps41
  go_wp2_with fail
  refine (gb_yes so sn sc l _ HB.out xn HXN.out g1 g2 ke hke).mono ?_; rw [HNM.out]; rintro e w1 ⟨no, nc, rfl, B1, N1, b1⟩
  have HNB := hide B1
  have HX1 := hide (HX.out.grow b1)
  have HM1 := hide (HM.out.grow b1)
  have HC1 := hide (HC.out.grow b1)
  have HB1 := hide (HB.out.carry b1)
  have HBX1 := hide (below_one HBX.out b1)
  have hlk := HX1.out.lookL HZ.out
  rw [HV.out] at hlk
  have c2 := HX1.out.bx.c2
  have HOW := hide (HX1.out.lawR HS.out z)
  rw [HV.out, HLL.out] at HOW
  obtain ⟨sv, hsv⟩ : ∃ t, str nm = t := ⟨_, rfl⟩
  have HSVS := hide hsv
  clear B1 N1 b1 g1 g2 hke hsv k0 k1 k2 k3 k4 k5 k6 k7 k8 k9 k10
  go_wp2_with fail
  go_loopg [17, 106] n (fun gk va vi wr => ∃ i : Nat, i + gk = n ∧ vi = .int .i64 (i : Int) ∧ va = .int .i64 (atF L nm i) ∧ Below w1.heap.size w1 wr)
  case atStart => exact ⟨0, by omega, rfl, by rw [at_zero], Below.refl _ _⟩
  case round =>
    obtain ⟨i, hi, rfl, rfl, bl⟩ := hrel
    have HBL := hide bl
    clear bl
    cases gk with
    | succ g1 =>
      have hlt : (i : Int) < (n : Int) := by omega
      have hil : i < L.length := by have := HN.out; omega
      obtain ⟨y, hy⟩ : ∃ y, L.getD i Rw.zero = y := ⟨_, rfl⟩
      obtain ⟨h, ac, e, _, _, _, _, ⟨c0, c1, c2', c3, c4, c5⟩, _⟩ := OwnR.elem (T := 145) (HOW.out.grow HBL.out) i hil y hy
      obtain ⟨rfl, rfl⟩ : ao = some ⟨h, 0, none⟩ ∧ cap = ac := by simp only [Value.slice.injEq] at e; exact ⟨e.1, e.2.2⟩
      clear e
      have cvw := fun U (b : Below wr.heap.size wr U) => conv_bts ((HNB.out.carry HBL.out).carry b)
      rw [HSVS.out] at cvw
      obtain ⟨X9, hX9⟩ : ∃ X, wr.alloc (.cells #[.string (str y.n), .int .u64 (y.c.p : Int), .int .u32 (y.c.o : Int), .int .u8 (y.c.r : Int), .int .u64 (y.c.c : Int), .int .u8 (y.m : Int)] 145) = X := ⟨_, rfl⟩
      have b9 : Below wr.heap.size wr X9 := hX9 ▸ below_alloc wr _
      have d0 : X9.cell? ⟨wr.heap.size, 0, none⟩ = some (.string (str y.n)) := by rw [← hX9]; simp
      have cvd := cvw X9 b9
      have HBX9 := hide (below_one HBL.out b9)
      clear cvw b9
      by_cases hx : y.n = nm
      · have HAT := hide (at_yes (nm := nm) HG.out.2.2 hil (by rw [hy]; exact hx))
        have hbq : (sv.toList == sv.toList) = true := by simp
        rw [hx, HSVS.out] at c0 hX9 d0
        clear hx hil hy
        go_wp2_with fail
        go_roundg g1
        case measure => omega
        case rel => exact ⟨i + 1, by omega, by go_num, by rw [HAT.out], HBX9.out⟩
      · have HAT := hide (at_no (nm := nm) hil (by rw [hy]; exact hx))
        obtain ⟨sx, hsx⟩ : ∃ t, str y.n = t := ⟨_, rfl⟩
        have hbq : (sx.toList == sv.toList) = false := by rw [← hsx, ← HSVS.out, list_beq]; exact decide_eq_false hx
        rw [hsx] at c0 hX9 d0
        clear hx hil hy hsx
        go_wp2_with fail
        go_roundg g1
        case measure => omega
        case rel => exact ⟨i + 1, by omega, by go_num, by rw [HAT.out], HBX9.out⟩
    | zero =>
      obtain rfl : i = n := by omega
      have hlt : ¬ ((i : Int) < (i : Int)) := by omega
      rw [show atF L nm i = -1 from by rw [← HN.out, at_out HIX.out]]
      have hk1 : ((-1 : Int)) < 0 := by omega
      have hk0 : ¬ ((0 : Int) ≤ -1) := by omega
      have HXr := hide (HX1.out.grow HBL.out)
      have HMr := hide (HM1.out.grow HBL.out)
      have HCr := hide (HC1.out.grow HBL.out)
      have HBr := hide (HB1.out.carry HBL.out)
      have HNr := hide (HNB.out.carry HBL.out)
      have HBXr := hide (below_one HBX1.out HBL.out)
      have HOr := hide (HOW.out.grow HBL.out)
      have HEr := hide ((HXr.out.stayK).from HBXr.out)
      clear c2 hlk
      have c2 := HXr.out.bx.c2
      have hlk := HXr.out.lookL HZ.out
      rw [HV.out] at hlk
      obtain ⟨v5, w5, hr5, ho5, hb5, hv5⟩ := copy_any HOr.out HG.out.1 HXr.out.nw 143
      obtain ⟨h5, c5, e5, hc5, hm5⟩ := ho5.form
      rw [HN.out] at e5
      subst e5
      have HR5 := hide hr5
      have HO5 := hide ho5
      have HV5 := hide hv5
      have HB5 := hide hb5
      have HX5 := hide (HXr.out.grow hb5)
      have HM5 := hide (HMr.out.grow hb5)
      have HC5 := hide (HCr.out.grow hb5)
      have HBb5 := hide (HBr.out.carry hb5)
      have HNn5 := hide (HNr.out.carry hb5)
      have HBX5 := hide (below_one HBXr.out hb5)
      have HE5 := hide (HEr.out.to hb5)
      have HC55 := hide hc5
      have k3 : wr.cell? ⟨w.heap.size, 3, none⟩ = some (.int .u16 102) := by have := HMr.out.all.2.2.2.1; rw [HM3.out] at this; exact this
      obtain ⟨j0, j1, j2, j3, j4, j5, j6, j7, j8, j9, j10⟩ := HM5.out.all
      rw [HM3.out] at j3
      clear hr5 ho5 hv5 hb5 hm5
      have h5z := hk0
      obtain ⟨a2, n2, d2, hcut, hbr⟩ := cut_rest HBb5.out HYES.out ke HKE.out
      have HBR := hide hbr
      obtain ⟨lr, hlr⟩ : ∃ x, restOf l = x := ⟨_, rfl⟩
      rw [hlr] at HBR h16
      obtain ⟨ma, hma⟩ : ∃ x, m.ar = x := ⟨_, rfl⟩
      have HMA := hide hma
      rw [hma] at j9
      have HLR := hide hlr
      obtain rfl : n2 = 16 := by have := HBR.out.1; omega
      obtain ⟨cp, hcp⟩ : ∃ x, numF ((lr.drop 0).take 6) = x := ⟨_, rfl⟩
      obtain ⟨co, hco⟩ : ∃ x, numF ((lr.drop 6).take 3) = x := ⟨_, rfl⟩
      obtain ⟨cr, hcr⟩ : ∃ x, numF ((lr.drop 9).take 1) = x := ⟨_, rfl⟩
      obtain ⟨cc, hcc⟩ : ∃ x, numF ((lr.drop 10).take 6) = x := ⟨_, rfl⟩
      have HD6 := hide (fun W hb => decode_yes a2 d2 lr W hb cp co cr cc hcp hco hcr hcc)
      have HCD : Hid (capD lr = ⟨cp, co, cr, cc⟩) := by show _ = _; unfold capD; rw [hcp, hco, hcr, hcc]
      rw [hma] at har
      have hgt : ¬ (ma : Int) > 255 := by omega
      have hw8 : IntKind.u8.wrap (ma : Int) = (ma : Int) := wrap8 ma har
      have HAR := hide har
      clear hbr hlr hma h16 hcp hco hcr hcc har
      go_wp2_with (at_builtin; refine wpList_append_run rfl _ _ _ rfl _ _ _ _ rfl rfl HR5.out ?_)
      refine (HD6.out _ HBR.out).mono ?_; rintro e w6 ⟨rfl, b6⟩
      obtain ⟨w7, hw7⟩ : ∃ w7, w6.alloc (.cells #[.int .u64 (cp : Int), .int .u32 (co : Int), .int .u8 (cr : Int), .int .u64 (cc : Int)] 40) = w7 := ⟨_, rfl⟩
      have b7 : Below w6.heap.size w6 w7 := hw7 ▸ below_alloc _ _
      have HQ7 : Hid (CBI w7 w6.heap.size cp co cr cc) := hw7 ▸ CBI.new w6 _ _ _ _
      have B7 := below_one b6 b7
      have HC7 := hide (HC5.out.grow B7)
      have HE7 := hide (HE5.out.to B7)
      have HX7 := hide (HX5.out.grow B7)
      have HM7 := hide (HM5.out.grow B7)
      have HO7 := hide (HO5.out.grow B7)
      have HB7 := hide B7
      have HBX7 := hide (below_one HBX5.out B7)
      have HN7 := hide (HNn5.out.carry B7)
      clear j0 j1 j2 j3 j4 j5 j6 j7 j8 j9 j10
      obtain ⟨j0, j1, j2, j3, j4, j5, j6, j7, j8, j9, j10⟩ := HM7.out.all
      rw [HM3.out] at j3
      rw [HMA.out] at j9
      clear b6 B7 b7
      have cvd := conv_bts HN7.out
      rw [HSVS.out] at cvd
      have t0 := HQ7.out.c0
      have t1 := HQ7.out.c1
      have t2 := HQ7.out.c2
      have t3 := HQ7.out.c3
      obtain ⟨w8, hw8a⟩ : ∃ w8, w7.alloc (.cells #[.string sv, .int .u64 (cp : Int), .int .u32 (co : Int), .int .u8 (cr : Int), .int .u64 (cc : Int), .int .u8 (ma : Int)] 145) = w8 := ⟨_, rfl⟩
      have b8 : Below w7.heap.size w7 w8 := hw8a ▸ below_alloc _ _
      have HY8 : Hid (RwL w8 w7.heap.size ⟨nm, ⟨cp, co, cr, cc⟩, ma⟩) := by
        have := rwl_new w7 ⟨nm, ⟨cp, co, cr, cc⟩, ma⟩
        simp only [HSVS.out] at this
        rw [hw8a] at this
        exact this
      obtain ⟨a0, a1, a2x, a3, a4, a5⟩ := HY8.out.all
      simp only [HSVS.out] at a0
      have HC8 := hide (HC7.out.grow b8)
      have HE8 := hide (HE7.out.to b8)
      have HX8 := hide (HX7.out.grow b8)
      have HO8 := hide (HO7.out.grow b8)
      have HB8 := hide (below_one HB7.out b8)
      have HB58 := hide (below_one HB5.out HB8.out)
      have HYO : Hid (Rw.ok ⟨nm, ⟨cp, co, cr, cc⟩, ma⟩) := by have h := row_ok HYES.out HAR.out; rw [HNMO.out, HLR.out, HCD.out] at h; exact h
      clear b8
      have hge : (i : Int) ≥ 64 := by have := HN.out; have := HH64.out; omega
      have y0 := HC8.out.c0
      have y1 := HC8.out.c1
      have y2 := HC8.out.c2
      have y3 := HC8.out.c3
      have x0 := HC8.out.z' 0
      have x1 := HC8.out.z' 1
      have x2 := HC8.out.z' 2
      have x3 := HC8.out.z' 3
      have HZZ := hide (HC8.out.put 0 0 0 0)
      have HEZ := hide (HE8.out.cbi HW0.out HC8.out (by omega) (foot_cap4 w8 (w.heap.size + 1) 0 0 0 0))
      obtain ⟨wz, hwz⟩ : ∃ wz, (((w8.setCell ⟨w.heap.size + 1, 0, none⟩ (.int .u64 0)).setCell ⟨w.heap.size + 1, 1, none⟩ (.int .u32 0)).setCell ⟨w.heap.size + 1, 2, none⟩ (.int .u8 0)).setCell ⟨w.heap.size + 1, 3, none⟩ (.int .u64 0) = wz := ⟨_, rfl⟩
      rw [hwz] at HZZ HEZ
      have v0 := HZZ.out.c0
      have v1 := HZZ.out.c1
      have v2 := HZZ.out.c2
      have v3 := HZZ.out.c3
      go_wp2
      refine bodyPost_ret (by simp [results, Tryz.results41, go_sem, v0, v1, v2, v3]; rfl) rfl ?_
      exact mdo_bad rfl HEZ.out
set_option maxRecDepth 20000 in
set_option maxHeartbeats 6400000 in
theorem mdo_enter (z : Int) (m : Msg) (so : Option Addr) (sn sc : Nat) (l : List UInt8) (w : World) (h : A.sb.2 = true) (x : Sv w0 w A p ws s) (k : Dok z s) (hd : A.dv ≠ none) (hb : Bts w so sn sc l) (hop : m.op = 102) (hyes : hasNm l = true) (hidx : ¬ idxR (s.L z) (nmOf l) < (s.L z).length) (h16 : (restOf l).length = 16) (har : m.ar ≤ 255) (h64 : (s.L z).length < 64) :
    Calls Tryz.prog 41 #[.pointer (some ⟨A.sb.1, 0, none⟩), .agg #[.int .u64 m.ta, .int .u64 m.rp, .int .u32 m.id, .int .u16 m.op, .int .u16 m.st, .int .u64 m.p, .int .u32 m.o, .int .u8 m.r, .int .u64 m.c, .int .u64 m.ar, .slice so sn sc], .int .i64 z] w fun e w' => MdoEnd w0 w A p ws (badF (s.row z (s.L z ++ [⟨nmOf l, capD (restOf l), m.ar⟩])) 0) e w' := by
  obtain ⟨X, hX, bm, bc, bX⟩ := mdo_vars w m (.slice so sn sc)
  have HS := hide h
  have HX := hide (x.grow bX)
  have HB := hide (hb.carry bX)
  have HM := hide bm
  have HC := hide bc
  have HBX := hide bX
  have HW0 : Hid (w0.heap.size ≤ w.heap.size) := x.bel.size
  have HK := hide k
  have HSZ : Hid (w.heap.size + 1 < X.heap.size) := lt_of_heap bc
  obtain ⟨bd, hbd⟩ : ∃ b, A.dv = some b := Option.ne_none_iff_exists'.1 hd
  have HD := hide hbd
  obtain ⟨k0, k1, k2, k3, k4, k5, k6, k7, k8, k9, k10⟩ := HM.out.all
  have hopi : (m.op : Int) = 102 := by omega
  rw [hopi] at k3 hX
  have HM3 := hide hopi
  have hl := hb.1
  obtain ⟨xn, hxn⟩ : ∃ x, nmN l = x := ⟨_, rfl⟩
  have HXN : Hid (numF ((l.drop 0).take 2) = xn) := hxn
  have hN : (2 ≤ l.length ∧ 2 + xn ≤ l.length) ∧ 1 ≤ xn ∧ xn ≤ 32 := by
    unfold hasNm at hyes; rw [hxn] at hyes; exact of_decide_eq_true hyes
  rw [← hl] at hN
  have g1 : 2 ≤ sn := by omega
  have g2 : 2 + xn ≤ sn := by omega
  have hlt1 : ¬ (xn : Int) < 1 := by omega
  have hgt1 : ¬ (xn : Int) > 32 := by omega
  obtain ⟨ke, hke⟩ : ∃ k, 2 + xn = k := ⟨_, rfl⟩
  have HKE := hide (show 2 + nmN l = ke by rw [hxn]; exact hke)
  have HYES := hide hyes
  obtain ⟨nm, hnm⟩ : ∃ nm, nmOf l = nm := ⟨_, rfl⟩
  have HNM : Hid ((l.drop 2).take xn = nm) := by show _ = _; rw [← hxn]; exact hnm
  obtain ⟨L, hL⟩ : ∃ L, s.L z = L := ⟨_, rfl⟩
  have HLL := hide hL
  have hG := x.good z
  obtain ⟨v, hv⟩ : ∃ v, A.nv z = v := ⟨_, rfl⟩
  have HV := hide hv
  have hown := x.lawR h z
  rw [hv, hL] at hown
  rw [hL] at hG
  have HG := hide hG
  rw [hnm, hL] at hidx
  have HNMO := hide hnm
  obtain ⟨ao, cap, hve, hnc, hcap⟩ := hown.form
  obtain ⟨n, hn⟩ : ∃ n, L.length = n := ⟨_, rfl⟩
  have HN := hide hn
  rw [hn] at hve
  subst hve
  try rw [hL, hnm]
  have HIX := hide hidx
  have HH64 : Hid (L.length < 64) := by show _ < _; rw [← hL]; exact h64
  clear h64
  have HZ := hide k.z
  clear bm bc bX x hb k h hd hbd hyes hxn hl hN hnm hL hv hown hG hidx hop
  go_enter Tryz.func41, Tryz.ntmps41
  go_wp2_with fail
  refine (gb_yes so sn sc l _ HB.out xn HXN.out g1 g2 ke hke).mono ?_; rw [HNM.out]; rintro e w1 ⟨no, nc, rfl, B1, N1, b1⟩
  have HNB := hide B1
  have HX1 := hide (HX.out.grow b1)
  have HM1 := hide (HM.out.grow b1)
  have HC1 := hide (HC.out.grow b1)
  have HB1 := hide (HB.out.carry b1)
  have HBX1 := hide (below_one HBX.out b1)
  have hlk := HX1.out.lookL HZ.out
  rw [HV.out] at hlk
  have c2 := HX1.out.bx.c2
  have HOW := hide (HX1.out.lawR HS.out z)
  rw [HV.out, HLL.out] at HOW
  obtain ⟨sv, hsv⟩ : ∃ t, str nm = t := ⟨_, rfl⟩
  have HSVS := hide hsv
  clear B1 N1 b1 g1 g2 hke hsv k0 k1 k2 k3 k4 k5 k6 k7 k8 k9 k10
  go_wp2_with fail
  go_loopg [17, 106] n (fun gk va vi wr => ∃ i : Nat, i + gk = n ∧ vi = .int .i64 (i : Int) ∧ va = .int .i64 (atF L nm i) ∧ Below w1.heap.size w1 wr)
  case atStart => exact ⟨0, by omega, rfl, by rw [at_zero], Below.refl _ _⟩
  case round =>
    obtain ⟨i, hi, rfl, rfl, bl⟩ := hrel
    have HBL := hide bl
    clear bl
    cases gk with
    | succ g1 =>
      have hlt : (i : Int) < (n : Int) := by omega
      have hil : i < L.length := by have := HN.out; omega
      obtain ⟨y, hy⟩ : ∃ y, L.getD i Rw.zero = y := ⟨_, rfl⟩
      obtain ⟨h, ac, e, _, _, _, _, ⟨c0, c1, c2', c3, c4, c5⟩, _⟩ := OwnR.elem (T := 145) (HOW.out.grow HBL.out) i hil y hy
      obtain ⟨rfl, rfl⟩ : ao = some ⟨h, 0, none⟩ ∧ cap = ac := by simp only [Value.slice.injEq] at e; exact ⟨e.1, e.2.2⟩
      clear e
      have cvw := fun U (b : Below wr.heap.size wr U) => conv_bts ((HNB.out.carry HBL.out).carry b)
      rw [HSVS.out] at cvw
      obtain ⟨X9, hX9⟩ : ∃ X, wr.alloc (.cells #[.string (str y.n), .int .u64 (y.c.p : Int), .int .u32 (y.c.o : Int), .int .u8 (y.c.r : Int), .int .u64 (y.c.c : Int), .int .u8 (y.m : Int)] 145) = X := ⟨_, rfl⟩
      have b9 : Below wr.heap.size wr X9 := hX9 ▸ below_alloc wr _
      have d0 : X9.cell? ⟨wr.heap.size, 0, none⟩ = some (.string (str y.n)) := by rw [← hX9]; simp
      have cvd := cvw X9 b9
      have HBX9 := hide (below_one HBL.out b9)
      clear cvw b9
      by_cases hx : y.n = nm
      · have HAT := hide (at_yes (nm := nm) HG.out.2.2 hil (by rw [hy]; exact hx))
        have hbq : (sv.toList == sv.toList) = true := by simp
        rw [hx, HSVS.out] at c0 hX9 d0
        clear hx hil hy
        go_wp2_with fail
        go_roundg g1
        case measure => omega
        case rel => exact ⟨i + 1, by omega, by go_num, by rw [HAT.out], HBX9.out⟩
      · have HAT := hide (at_no (nm := nm) hil (by rw [hy]; exact hx))
        obtain ⟨sx, hsx⟩ : ∃ t, str y.n = t := ⟨_, rfl⟩
        have hbq : (sx.toList == sv.toList) = false := by rw [← hsx, ← HSVS.out, list_beq]; exact decide_eq_false hx
        rw [hsx] at c0 hX9 d0
        clear hx hil hy hsx
        go_wp2_with fail
        go_roundg g1
        case measure => omega
        case rel => exact ⟨i + 1, by omega, by go_num, by rw [HAT.out], HBX9.out⟩
    | zero =>
      obtain rfl : i = n := by omega
      have hlt : ¬ ((i : Int) < (i : Int)) := by omega
      rw [show atF L nm i = -1 from by rw [← HN.out, at_out HIX.out]]
      have hk1 : ((-1 : Int)) < 0 := by omega
      have hk0 : ¬ ((0 : Int) ≤ -1) := by omega
      have HXr := hide (HX1.out.grow HBL.out)
      have HMr := hide (HM1.out.grow HBL.out)
      have HCr := hide (HC1.out.grow HBL.out)
      have HBr := hide (HB1.out.carry HBL.out)
      have HNr := hide (HNB.out.carry HBL.out)
      have HBXr := hide (below_one HBX1.out HBL.out)
      have HOr := hide (HOW.out.grow HBL.out)
      have HEr := hide ((HXr.out.stayK).from HBXr.out)
      clear c2 hlk
      have c2 := HXr.out.bx.c2
      have hlk := HXr.out.lookL HZ.out
      rw [HV.out] at hlk
      obtain ⟨v5, w5, hr5, ho5, hb5, hv5⟩ := copy_any HOr.out HG.out.1 HXr.out.nw 143
      obtain ⟨h5, c5, e5, hc5, hm5⟩ := ho5.form
      rw [HN.out] at e5
      subst e5
      have HR5 := hide hr5
      have HO5 := hide ho5
      have HV5 := hide hv5
      have HB5 := hide hb5
      have HX5 := hide (HXr.out.grow hb5)
      have HM5 := hide (HMr.out.grow hb5)
      have HC5 := hide (HCr.out.grow hb5)
      have HBb5 := hide (HBr.out.carry hb5)
      have HNn5 := hide (HNr.out.carry hb5)
      have HBX5 := hide (below_one HBXr.out hb5)
      have HE5 := hide (HEr.out.to hb5)
      have HC55 := hide hc5
      have k3 : wr.cell? ⟨w.heap.size, 3, none⟩ = some (.int .u16 102) := by have := HMr.out.all.2.2.2.1; rw [HM3.out] at this; exact this
      obtain ⟨j0, j1, j2, j3, j4, j5, j6, j7, j8, j9, j10⟩ := HM5.out.all
      rw [HM3.out] at j3
      clear hr5 ho5 hv5 hb5 hm5
      have h5z := hk0
      obtain ⟨a2, n2, d2, hcut, hbr⟩ := cut_rest HBb5.out HYES.out ke HKE.out
      have HBR := hide hbr
      obtain ⟨lr, hlr⟩ : ∃ x, restOf l = x := ⟨_, rfl⟩
      rw [hlr] at HBR h16
      obtain ⟨ma, hma⟩ : ∃ x, m.ar = x := ⟨_, rfl⟩
      have HMA := hide hma
      rw [hma] at j9
      have HLR := hide hlr
      obtain rfl : n2 = 16 := by have := HBR.out.1; omega
      obtain ⟨cp, hcp⟩ : ∃ x, numF ((lr.drop 0).take 6) = x := ⟨_, rfl⟩
      obtain ⟨co, hco⟩ : ∃ x, numF ((lr.drop 6).take 3) = x := ⟨_, rfl⟩
      obtain ⟨cr, hcr⟩ : ∃ x, numF ((lr.drop 9).take 1) = x := ⟨_, rfl⟩
      obtain ⟨cc, hcc⟩ : ∃ x, numF ((lr.drop 10).take 6) = x := ⟨_, rfl⟩
      have HD6 := hide (fun W hb => decode_yes a2 d2 lr W hb cp co cr cc hcp hco hcr hcc)
      have HCD : Hid (capD lr = ⟨cp, co, cr, cc⟩) := by show _ = _; unfold capD; rw [hcp, hco, hcr, hcc]
      rw [hma] at har
      have hgt : ¬ (ma : Int) > 255 := by omega
      have hw8 : IntKind.u8.wrap (ma : Int) = (ma : Int) := wrap8 ma har
      have HAR := hide har
      clear hbr hlr hma h16 hcp hco hcr hcc har
      go_wp2_with (at_builtin; refine wpList_append_run rfl _ _ _ rfl _ _ _ _ rfl rfl HR5.out ?_)
      refine (HD6.out _ HBR.out).mono ?_; rintro e w6 ⟨rfl, b6⟩
      obtain ⟨w7, hw7⟩ : ∃ w7, w6.alloc (.cells #[.int .u64 (cp : Int), .int .u32 (co : Int), .int .u8 (cr : Int), .int .u64 (cc : Int)] 40) = w7 := ⟨_, rfl⟩
      have b7 : Below w6.heap.size w6 w7 := hw7 ▸ below_alloc _ _
      have HQ7 : Hid (CBI w7 w6.heap.size cp co cr cc) := hw7 ▸ CBI.new w6 _ _ _ _
      have B7 := below_one b6 b7
      have HC7 := hide (HC5.out.grow B7)
      have HE7 := hide (HE5.out.to B7)
      have HX7 := hide (HX5.out.grow B7)
      have HM7 := hide (HM5.out.grow B7)
      have HO7 := hide (HO5.out.grow B7)
      have HB7 := hide B7
      have HBX7 := hide (below_one HBX5.out B7)
      have HN7 := hide (HNn5.out.carry B7)
      clear j0 j1 j2 j3 j4 j5 j6 j7 j8 j9 j10
      obtain ⟨j0, j1, j2, j3, j4, j5, j6, j7, j8, j9, j10⟩ := HM7.out.all
      rw [HM3.out] at j3
      rw [HMA.out] at j9
      clear b6 B7 b7
      have cvd := conv_bts HN7.out
      rw [HSVS.out] at cvd
      have t0 := HQ7.out.c0
      have t1 := HQ7.out.c1
      have t2 := HQ7.out.c2
      have t3 := HQ7.out.c3
      obtain ⟨w8, hw8a⟩ : ∃ w8, w7.alloc (.cells #[.string sv, .int .u64 (cp : Int), .int .u32 (co : Int), .int .u8 (cr : Int), .int .u64 (cc : Int), .int .u8 (ma : Int)] 145) = w8 := ⟨_, rfl⟩
      have b8 : Below w7.heap.size w7 w8 := hw8a ▸ below_alloc _ _
      have HY8 : Hid (RwL w8 w7.heap.size ⟨nm, ⟨cp, co, cr, cc⟩, ma⟩) := by
        have := rwl_new w7 ⟨nm, ⟨cp, co, cr, cc⟩, ma⟩
        simp only [HSVS.out] at this
        rw [hw8a] at this
        exact this
      obtain ⟨a0, a1, a2x, a3, a4, a5⟩ := HY8.out.all
      simp only [HSVS.out] at a0
      have HC8 := hide (HC7.out.grow b8)
      have HE8 := hide (HE7.out.to b8)
      have HX8 := hide (HX7.out.grow b8)
      have HO8 := hide (HO7.out.grow b8)
      have HB8 := hide (below_one HB7.out b8)
      have HB58 := hide (below_one HB5.out HB8.out)
      have HYO : Hid (Rw.ok ⟨nm, ⟨cp, co, cr, cc⟩, ma⟩) := by have h := row_ok HYES.out HAR.out; rw [HNMO.out, HLR.out, HCD.out] at h; exact h
      clear b8
      have hge : ¬ (i : Int) ≥ 64 := by have := HN.out; have := HH64.out; omega
      have ho8 : w8.ownsRow A.N 145 6 (.slice h5 i c5) L.length (cellsR L) := HO8.out
      obtain ⟨v9, W9, hr9, ho9, hf9, hm9⟩ := app_elem (w := w8) (ty := 143) #[.string (str nm), .int .u64 (cp : Int), .int .u32 (co : Int), .int .u8 (cr : Int), .int .u64 (cc : Int), .int .u8 (ma : Int)] lawTy.und lawTy.info rfl (by omega) rfl (by intro u hu; exact cells_one ⟨nm, ⟨cp, co, cr, cc⟩, ma⟩ u hu) (by have := HH64.out; omega) (by have := HH64.out; unfold maxLen; omega) ho8 HX8.out.nw
      have hgd : Good (L ++ [⟨nm, ⟨cp, co, cr, cc⟩, ma⟩]) := HG.out.snoc _ HYO.out HH64.out (notin_of_idx (Nat.le_antisymm idx_le (Nat.le_of_not_lt HIX.out)))
      have hv9 : ∀ r, v9.ownBlock = some r → wr.heap.size ≤ r := fun r e => by
        rcases hm9 r e with h | h
        · exact HV5.out r h
        · have := HB58.out.size; omega
      obtain ⟨W10, hmu, hSb, hSc, E10⟩ := lay_step HXr.out HS.out HZ.out HD.out (M := L ++ [⟨nm, ⟨cp, co, cr, cc⟩, ma⟩]) (v' := v9) (by
        show World.ownsRow _ _ _ _ _ _ _
        rw [show (L ++ [(⟨nm, ⟨cp, co, cr, cc⟩, ma⟩ : Rw)]).length = L.length + 1 from by simp, cellsR_snoc]; exact ho9) (HB58.out.trans (hf9.below HB58.out.size (fun j e => HV5.out j e))) hv9 HK.out.q hgd
      have HC10 := hide (HCr.out.kh (HXr.out.khK E10))
      have HE10 := hide (E10.from HBXr.out)
      rw [HSVS.out] at hr9
      have HR9 := hide hr9
      have c2w : W9.cell? ⟨A.sb.1, 2, none⟩ = some (.map A.dv) := hSb
      rw [HD.out] at hmu c2w
      have HRS : Hid (s.row z (L ++ [⟨nm, ⟨cp, co, cr, cc⟩, ma⟩]) = s.row z (L ++ [⟨nmOf l, capD (restOf l), m.ar⟩])) := by show _ = _; rw [HNMO.out, HLR.out, HCD.out, HMA.out]
      clear ho8 hr9 ho9 hf9 hm9 hgd hv9 hSb hSc E10
      have y0 := HC10.out.c0
      have y1 := HC10.out.c1
      have y2 := HC10.out.c2
      have y3 := HC10.out.c3
      have x0 := HC10.out.z' 0
      have x1 := HC10.out.z' 1
      have x2 := HC10.out.z' 2
      have x3 := HC10.out.z' 3
      have HZZ := hide (HC10.out.put 0 0 0 0)
      have HEZ := hide (HE10.out.cbi HW0.out HC10.out (by omega) (foot_cap4 W10 (w.heap.size + 1) 0 0 0 0))
      obtain ⟨wz, hwz⟩ : ∃ wz, (((W10.setCell ⟨w.heap.size + 1, 0, none⟩ (.int .u64 0)).setCell ⟨w.heap.size + 1, 1, none⟩ (.int .u32 0)).setCell ⟨w.heap.size + 1, 2, none⟩ (.int .u8 0)).setCell ⟨w.heap.size + 1, 3, none⟩ (.int .u64 0) = wz := ⟨_, rfl⟩
      rw [hwz] at HZZ HEZ
      have v0 := HZZ.out.c0
      have v1 := HZZ.out.c1
      have v2 := HZZ.out.c2
      have v3 := HZZ.out.c3
      go_wp2_with (at_builtin; refine wpList_append_run rfl _ _ _ rfl _ _ _ _ rfl rfl HR9.out ?_)
      refine bodyPost_ret (by simp [results, Tryz.results41, go_sem, v0, v1, v2, v3]; rfl) rfl ?_
      rw [HRS.out] at HEZ
      first | exact mdo_bad rfl HEZ.out | (rw [HNMO.out] at HEZ; exact mdo_bad rfl HEZ.out)
end
end Go.Proofs.YtlmnnjibggdboaaGreatDoor
