/-
  What the model's own deed answers, and what it leaves: make.
  What the model's own deed answers, and what it leaves: a contract.
  What the statement's own 'want' answers, and what it leaves: none, root0, root1, dst0, dst1.
  What the statement's own 'want' answers, and what it leaves: chk, do.
  What the statement's own 'want' answers: what the server does.
-/
import Derived.Test.YtlmnnjibggdboaaGreatDoorJn
import Derived.Deep.RegionHeld
import Derived.Deep.RegionHeldLaw
import Derived.Deep.CutRange
import Derived.Test.YtlmnnjibggdboaaGreatDoorJo
import Derived.Test.YtlmnnjibggdboaaGreatDoorJp
namespace Go.Proofs.YtlmnnjibggdboaaGreatDoor
section
open Go.RowKit
variable {w0 w w1 w2 w' : World} {A A' : Ad} {p : Nat} {ws : List Nat} {s s' s1 : Hs} {r g : Nat}
set_option maxRecDepth 20000 in
set_option maxHeartbeats 6400000 in
theorem mdo_make (z : Int) (m : Msg) (so : Option Addr) (sn sc : Nat) (l : List UInt8) (w : World) (h : A.sb.2 = true) (x : Sv w0 w A p ws s) (k : Dok z s) (hd : A.dv ≠ none) (hb : Bts w so sn sc l) (hop : m.op = 100) (ht : s.L ((s.n + 1 : Nat) : Int) = []) (R : Cre) (hR : creF ws s.t s.es p s.T ((s.n + 1 : Nat) : Int) = R) :
    Calls Tryz.prog 41 #[.pointer (some ⟨A.sb.1, 0, none⟩), .agg #[.int .u64 m.ta, .int .u64 m.rp, .int .u32 m.id, .int .u16 m.op, .int .u16 m.st, .int .u64 m.p, .int .u32 m.o, .int .u8 m.r, .int .u64 m.c, .int .u64 m.ar, .slice so sn sc], .int .i64 z] w fun e w' => MdoEnd w0 w A p ws (if R.e = 0 then ⟨0, R.c, 0, [], ⟨R.t, R.es, R.T, s.n + 1, s.q, updL s.L ((s.n + 1 : Nat) : Int) []⟩⟩ else badF (s.tab R.t R.es R.T) R.e) e w' := by
  obtain ⟨X, hX, bm, bc, bX⟩ := mdo_vars w m (.slice so sn sc)
  have HS := hide h
  have HX := hide (x.grow bX)
  have HB := hide (hb.carry bX)
  have HM := hide bm
  have HC := hide bc
  have HBX := hide bX
  have HW0 : Hid (w0.heap.size ≤ w.heap.size) := x.bel.size
  have HK := hide k
  have HSZ : Hid (w.heap.size + 1 < X.heap.size) := lt_of_heap bc
  obtain ⟨bd, hbd⟩ : ∃ b, A.dv = some b := Option.ne_none_iff_exists'.1 hd
  have HD := hide hbd
  obtain ⟨k0, k1, k2, k3, k4, k5, k6, k7, k8, k9, k10⟩ := HM.out.all
  have hopi : (m.op : Int) = 100 := by omega
  rw [hopi] at k3 hX ⊢
  obtain ⟨nn, hnn⟩ : ∃ nn : Int, ((s.n + 1 : Nat) : Int) = nn := ⟨_, rfl⟩
  have HNV := hide hnn
  rw [hnn] at hR
  have HLV : Hid (lastV A.sb.2 s.n = nn) := by show _ = _; rw [HS.out]; exact hnn
  have HLV2 : Hid (lastV A.sb.2 (s.n + 1) = nn + 1) := by show _ = _; rw [HS.out]; show (((s.n + 1) + 1 : Nat) : Int) = _; omega
  have hadd : IntKind.i64.wrap (nn + 1) = nn + 1 := by rw [IntKind.wrap_i64]; have := HK.out.n; omega
  have HRR := hide hR
  have HTOP := hide ht
  obtain ⟨er, her⟩ : ∃ er, erN (R.e : Int) = er := ⟨_, rfl⟩
  have HEE := hide her
  obtain ⟨⟨qp, qo, qr, qc⟩, hq⟩ : ∃ q, R.c = q := ⟨_, rfl⟩
  have HQ := hide hq
  have HZC : Hid (R.e ≠ 0 → R.c = Cp.zero) := fun h0 => by rw [← hR]; exact cre_zero' (by rw [hR]; exact h0)
  have HT : Hid (∀ W, Sv w0 W A p ws s → Calls Tryz.prog 13 #[.pointer (some ⟨A.g, 0, none⟩), .int .i64 nn] W fun e w' => e = .returned (.tuple #[.agg #[.int .u64 (qp : Int), .int .u32 (qo : Int), .int .u8 (qr : Int), .int .u64 (qc : Int)], er]) ∧ SvK w0 W A p ws w' (s.tab R.t R.es R.T)) := fun W x => by
    have h := tbk_create nn W x HK.out.el R HRR.out
    rw [hq, her] at h
    exact h
  clear bm bc bX x hb k h hd hbd hop hR ht her hq hnn
  go_enter Tryz.func41, Tryz.ntmps41
  go_wp2_with fail
  go_upto_region 2 with fail
  have HLX : Hid (w.heap.size + 1 < X.heap.size) := HSZ.out
  go_cut [9, 10] from 30 to 41 (fun v1 v2 wx => ∃ gq, v1 = .pointer (some ⟨gq, 0, none⟩) ∧ v2 = er ∧ CBI wx gq qp qo qr qc ∧ w.heap.size + 1 < gq ∧ CBI wx (w.heap.size + 1) 0 0 0 0 ∧ SvK w0 w A p ws wx (s.tab R.t R.es R.T))
  case first =>
    have n3 := HX.out.bx.c3
    rw [HLV.out] at n3
    have Ed : Hid (X.drew.cell? ⟨A.sb.1, 0, none⟩ = some (.pointer (some ⟨A.g, 0, none⟩)) ∧ X.drew.cell? ⟨A.sb.1, 3, none⟩ = some (.int .i64 nn)) := ⟨HX.out.bx.c0, n3⟩
    have n3a := (HX.out.grow (below_alloc X (.cells #[.int .u64 0, .int .u32 0, .int .u8 0, .int .u64 0] 40))).bx.c3
    rw [HLV.out] at n3a
    have Eda : Hid ((X.alloc (.cells #[.int .u64 0, .int .u32 0, .int .u8 0, .int .u64 0] 40)).drew.cell? ⟨A.sb.1, 0, none⟩ = some (.pointer (some ⟨A.g, 0, none⟩)) ∧ (X.alloc (.cells #[.int .u64 0, .int .u32 0, .int .u8 0, .int .u64 0] 40)).drew.cell? ⟨A.sb.1, 3, none⟩ = some (.int .i64 nn)) := ⟨(HX.out.grow (below_alloc X (.cells #[.int .u64 0, .int .u32 0, .int .u8 0, .int .u64 0] 40))).bx.c0, n3a⟩
    clear n3 n3a k0 k1 k2 k3 k4 k5 k6 k7 k8 k9 k10
    go_region_held (fun U => U.cell? ⟨A.sb.1, 0, none⟩ = some (.pointer (some ⟨A.g, 0, none⟩)) ∧ U.cell? ⟨A.sb.1, 3, none⟩ = some (.int .i64 nn))
      (first | with_reducible exact Ed.out | with_reducible exact Eda.out | with_reducible exact E2.out | with_reducible exact E2a.out | with_reducible exact E2b.out | with_reducible exact E2c.out)
      (first
        | (go_at_call 13; refine (HT.out _ (HX.out.grow (by go_grown))).mono ?_; rintro e w2 ⟨rfl, E⟩
           have k2 := Sv.khK (HX.out.grow (by go_grown)) E
           have HC2 := hide (CBI.kh (HC.out.grow (by go_grown)) k2)
           have HE2 := hide (SvK.from E (below_one HBX.out (by go_grown)))
           have HSZ2 : Hid (X.heap.size ≤ w2.heap.size) := Nat.le_trans (by simp) k2.size
           have bx2 : w2.cell? ⟨A.sb.1, 0, none⟩ = some (.pointer (some ⟨A.g, 0, none⟩)) ∧ w2.cell? ⟨A.sb.1, 3, none⟩ = some (.int .i64 nn) := by
             obtain ⟨_, _, X2, _⟩ := E
             have h3 : w2.cell? ⟨A.sb.1, 3, none⟩ = some (.int .i64 (lastV A.sb.2 s.n)) := X2.bx.c3
             rw [HLV.out] at h3
             exact ⟨X2.bx.c0, h3⟩
           have lsb : A.sb.1 < w2.heap.size := lt_of_cell bx2.1
           have E2 : Hid (w2.cell? ⟨A.sb.1, 0, none⟩ = some (.pointer (some ⟨A.g, 0, none⟩)) ∧ w2.cell? ⟨A.sb.1, 3, none⟩ = some (.int .i64 nn)) := bx2
           have E2a : Hid ((w2.alloc (.cells #[.int .u64 0, .int .u32 0, .int .u8 0, .int .u64 0] 40)).cell? ⟨A.sb.1, 0, none⟩ = some (.pointer (some ⟨A.g, 0, none⟩)) ∧ (w2.alloc (.cells #[.int .u64 0, .int .u32 0, .int .u8 0, .int .u64 0] 40)).cell? ⟨A.sb.1, 3, none⟩ = some (.int .i64 nn)) := ⟨by rw [(below_alloc w2 _).cell lsb]; exact bx2.1, by rw [(below_alloc w2 _).cell lsb]; exact bx2.2⟩
           have E2b : Hid ((w2.alloc (.cells #[.int .u64 (qp : Int), .int .u32 (qo : Int), .int .u8 (qr : Int), .int .u64 (qc : Int)] 40)).cell? ⟨A.sb.1, 0, none⟩ = some (.pointer (some ⟨A.g, 0, none⟩)) ∧ (w2.alloc (.cells #[.int .u64 (qp : Int), .int .u32 (qo : Int), .int .u8 (qr : Int), .int .u64 (qc : Int)] 40)).cell? ⟨A.sb.1, 3, none⟩ = some (.int .i64 nn)) := ⟨by rw [(below_alloc w2 _).cell lsb]; exact bx2.1, by rw [(below_alloc w2 _).cell lsb]; exact bx2.2⟩
           (try
              have C0 := CBI.kh (show CBI (X.alloc (.cells #[.int .u64 0, .int .u32 0, .int .u8 0, .int .u64 0] 40)).drew X.heap.size 0 0 0 0 from CBI.new _ 0 0 0 0) k2
              have HC0 := hide C0
              have d0 := C0.c0
              have d1 := C0.c1
              have d2 := C0.c2
              have d3 := C0.c3
              have x0 := C0.z'
              have ne2 : ¬ A.sb.1 = X.heap.size := by have := lt_of_heap HX.out.bx; omega
              have f4 := foot_cap4 w2 X.heap.size (qp : Int) (qo : Int) (qr : Int) (qc : Int)
              have E2c : Hid (((((w2.setCell ⟨X.heap.size, 0, none⟩ (.int .u64 (qp : Int))).setCell ⟨X.heap.size, 1, none⟩ (.int .u32 (qo : Int))).setCell ⟨X.heap.size, 2, none⟩ (.int .u8 (qr : Int))).setCell ⟨X.heap.size, 3, none⟩ (.int .u64 (qc : Int))).cell? ⟨A.sb.1, 0, none⟩ = some (.pointer (some ⟨A.g, 0, none⟩)) ∧ ((((w2.setCell ⟨X.heap.size, 0, none⟩ (.int .u64 (qp : Int))).setCell ⟨X.heap.size, 1, none⟩ (.int .u32 (qo : Int))).setCell ⟨X.heap.size, 2, none⟩ (.int .u8 (qr : Int))).setCell ⟨X.heap.size, 3, none⟩ (.int .u64 (qc : Int))).cell? ⟨A.sb.1, 3, none⟩ = some (.int .i64 nn)) := ⟨(f4.cell _ lsb ne2).trans bx2.1, (f4.cell _ lsb ne2).trans bx2.2⟩
              clear C0 f4)
           clear E k2 bx2 lsb))
    all_goals go_wp2_with fail
    all_goals go_meet
    all_goals first
      | exact ⟨_, rfl, rfl, CBI.new _ _ _ _ _, by have := HLX.out; have := HSZ2.out; omega, HC2.out.grow (below_alloc _ _), HE2.out.to (below_alloc _ _)⟩
      | exact ⟨_, rfl, rfl, HC0.out.put _ _ _ _, HLX.out, HC2.out.foot (foot_cap4 _ _ _ _ _ _) (fun e => by have := HLX.out; omega), HE2.out.cbi HW0.out HC0.out (by have := HLX.out; omega) (foot_cap4 _ _ _ _ _ _)⟩
  case rest =>
    obtain ⟨V6, rfl⟩ : ∃ x, x = wc := ⟨wc, rfl⟩
    obtain ⟨gq, rfl, hev, cq, hgq, c1, E6⟩ := hcut
    have hev2 := hev.symm
    subst hev2
    clear hev
    by_cases h0 : R.e = 0
    · have H0 := hide h0
      obtain rfl : er = .nilIface := by rw [← HEE.out, H0.out]; rfl
      obtain ⟨v6, nv6, S6, on6⟩ := SvK.run E6
      have E7 : SvK w0 V6 (A.upd v6 A.dv nv6) p ws (V6.setCell ⟨A.sb.1, 3, none⟩ (.int .i64 (lastV A.sb.2 (s.n + 1)))) _ := S6.numK (s.n + 1)
      rw [HLV2.out] at E7
      have n3 : V6.cell? ⟨A.sb.1, 3, none⟩ = some (.int .i64 (lastV A.sb.2 s.n)) := S6.bx.c3
      rw [HLV.out] at n3
      have z3 : V6.frozen? ⟨A.sb.1, 3, none⟩ = false := S6.bx.z 3
      obtain ⟨V7, hV7⟩ : ∃ W, V6.setCell ⟨A.sb.1, 3, none⟩ (.int .i64 (nn + 1)) = W := ⟨_, rfl⟩
      rw [hV7] at E7
      have k7 := S6.khK E7
      have HC7 := hide (c1.kh k7)
      have HE7 := hide (on6 _ _ E7)
      have HCQ := hide (cq.kh k7)
      have t0 := HCQ.out.c0
      have t1 := HCQ.out.c1
      have t2 := HCQ.out.c2
      have t3 := HCQ.out.c3
      clear cq c1 E6 hgq S6 on6 E7 k7
      have y0 := HC7.out.c0
      have y1 := HC7.out.c1
      have y2 := HC7.out.c2
      have y3 := HC7.out.c3
      have x0 := HC7.out.z' 0
      have x1 := HC7.out.z' 1
      have x2 := HC7.out.z' 2
      have x3 := HC7.out.z' 3
      have HZZ := hide (HC7.out.put (qp : Int) (qo : Int) (qr : Int) (qc : Int))
      have HEZ := hide (HE7.out.cbi HW0.out HC7.out (by omega) (foot_cap4 V7 (w.heap.size + 1) (qp : Int) (qo : Int) (qr : Int) (qc : Int)))
      obtain ⟨wz, hwz⟩ : ∃ wz, (((V7.setCell ⟨w.heap.size + 1, 0, none⟩ (.int .u64 (qp : Int))).setCell ⟨w.heap.size + 1, 1, none⟩ (.int .u32 (qo : Int))).setCell ⟨w.heap.size + 1, 2, none⟩ (.int .u8 (qr : Int))).setCell ⟨w.heap.size + 1, 3, none⟩ (.int .u64 (qc : Int)) = wz := ⟨_, rfl⟩
      rw [hwz] at HZZ HEZ
      have v0 := HZZ.out.c0
      have v1 := HZZ.out.c1
      have v2 := HZZ.out.c2
      have v3 := HZZ.out.c3
      go_wp2
      refine bodyPost_ret (by simp [results, Tryz.results41, go_sem, v0, v1, v2, v3]; rfl) rfl ?_
      refine ⟨none, 0, 0, by rw [HQ.out]; rfl, bts_nil _, new_none _, by omega, ?_⟩
      have h := HEZ.out
      rw [show (Hs.mk (s.tab R.t R.es R.T).t (s.tab R.t R.es R.T).es (s.tab R.t R.es R.T).T (s.n + 1) (s.tab R.t R.es R.T).q (s.tab R.t R.es R.T).L) = ⟨R.t, R.es, R.T, s.n + 1, s.q, updL s.L ((s.n + 1 : Nat) : Int) []⟩ from by rw [← HTOP.out, updL_id]; rfl] at h
      exact h
    · have H0 := hide h0
      obtain ⟨tE, hE⟩ : ∃ v, er = .iface 47 v := ⟨_, by rw [← HEE.out]; exact erN_not (by have := H0.out; omega)⟩
      subst hE
      have HZQ : Hid (qp = 0 ∧ qo = 0 ∧ qr = 0 ∧ qc = 0) := by
        have e := HZC.out H0.out
        rw [HQ.out] at e
        simp only [Cp.zero, Cp.mk.injEq] at e
        exact e
      obtain ⟨rfl, rfl, rfl, rfl⟩ := HZQ.out
      simp only [show (((0 : Nat)) : Int) = 0 from rfl] at cq
      have HCQ := hide cq
      have HC6 := hide c1
      have HE6 := hide E6
      have t0 := HCQ.out.c0
      have t1 := HCQ.out.c1
      have t2 := HCQ.out.c2
      have t3 := HCQ.out.c3
      clear cq c1 E6 hgq
      have y0 := HC6.out.c0
      have y1 := HC6.out.c1
      have y2 := HC6.out.c2
      have y3 := HC6.out.c3
      have x0 := HC6.out.z' 0
      have x1 := HC6.out.z' 1
      have x2 := HC6.out.z' 2
      have x3 := HC6.out.z' 3
      have HZZ := hide (HC6.out.put 0 0 0 0)
      have HEZ := hide (HE6.out.cbi HW0.out HC6.out (by omega) (foot_cap4 V6 (w.heap.size + 1) 0 0 0 0))
      obtain ⟨wz, hwz⟩ : ∃ wz, (((V6.setCell ⟨w.heap.size + 1, 0, none⟩ (.int .u64 0)).setCell ⟨w.heap.size + 1, 1, none⟩ (.int .u32 0)).setCell ⟨w.heap.size + 1, 2, none⟩ (.int .u8 0)).setCell ⟨w.heap.size + 1, 3, none⟩ (.int .u64 0) = wz := ⟨_, rfl⟩
      rw [hwz] at HZZ HEZ
      have v0 := HZZ.out.c0
      have v1 := HZZ.out.c1
      have v2 := HZZ.out.c2
      have v3 := HZZ.out.c3
      go_wp2
      refine bodyPost_ret (by simp [results, Tryz.results41, go_sem, v0, v1, v2, v3]; rfl) rfl ?_
      exact mdo_bad HEE.out HEZ.out
end
end Go.Proofs.YtlmnnjibggdboaaGreatDoor
namespace Go.Proofs.YtlmnnjibggdboaaGreatDoor
section
open Go.RowKit
variable {w0 w w1 w2 w' : World} {A A' : Ad} {p : Nat} {ws : List Nat} {s s' s1 : Hs} {r g : Nat}
theorem mdo_any (z : Int) (m : Msg) (so : Option Addr) (sn sc : Nat) (l : List UInt8) (w : World) (h : A.sb.2 = true) (x : Sv w0 w A p ws s) (k : Dok z s) (hd : A.dv ≠ none) (hb : Bts w so sn sc l) (hop : 100 ≤ m.op ∧ m.op ≤ 105) (ht : s.L ((s.n + 1 : Nat) : Int) = []) :
    Calls Tryz.prog 41 #[.pointer (some ⟨A.sb.1, 0, none⟩), .agg #[.int .u64 m.ta, .int .u64 m.rp, .int .u32 m.id, .int .u16 m.op, .int .u16 m.st, .int .u64 m.p, .int .u32 m.o, .int .u8 m.r, .int .u64 m.c, .int .u64 m.ar, .slice so sn sc], .int .i64 z] w fun e w' => MdoEnd w0 w A p ws (doF ws p s m.op z m.ar l) e w' := by
  unfold doF
  by_cases h100 : m.op = 100
  · rw [if_pos h100]
    unfold mkF
    exact mdo_make z m so sn sc l w h x k hd hb h100 ht _ rfl
  rw [if_neg h100]
  by_cases h105 : m.op = 105
  · rw [if_pos h105]; exact mdo_list z m so sn sc l w h x k hd hb h105
  rw [if_neg h105]
  unfold nameF
  cases hn : hasNm l with
  | false => rw [if_pos rfl]; exact mdo_bad4 z m so sn sc l w h x k hd hb ⟨h100, h105⟩ hn
  | true =>
    rw [if_neg (by decide)]
    by_cases hi : idxR (s.L z) (nmOf l) < (s.L z).length
    · by_cases h2 : m.op = 102
      · rw [if_pos ⟨h2, hi⟩]; exact mdo_exists z m so sn sc l w h x k hd hb h2 hn hi
      · rw [if_neg (by rintro ⟨e, _⟩; exact h2 e), if_neg (by rintro ⟨_, e⟩; exact e hi)]
        by_cases h1 : m.op = 101
        · rw [if_pos h1]
          by_cases hm : ((s.L z).getD (idxR (s.L z) (nmOf l)) Rw.zero).m = 255
          · exact mdo_look255 z m so sn sc l w h x k hd hb h1 hn hi hm
          · by_cases hc : ((s.L z).getD (idxR (s.L z) (nmOf l)) Rw.zero).c.r &&& (255 - ((s.L z).getD (idxR (s.L z) (nmOf l)) Rw.zero).m) = 0
            · exact mdo_look1 z m so sn sc l w h x k hd hb h1 hn hi ⟨hm, hc⟩
            · exact mdo_look0 z m so sn sc l w h x k hd hb h1 hn hi ⟨hm, hc⟩
        · rw [if_neg h1]
          by_cases h4 : m.op = 104
          · rw [if_pos h4]; exact mdo_del z m so sn sc l w h x k hd hb h4 hn hi
          · rw [if_neg h4]
            have h3 : m.op = 103 := by omega
            by_cases h16 : (restOf l).length = 16
            · by_cases ha : 255 < m.ar
              · rw [if_pos (.inr ha)]; exact mdo_ebad103_255 z m so sn sc l w h x k hd hb h3 hn hi h16 ha
              · rw [if_neg (by rintro (e | e); exact e h16; exact ha e)]
                unfold entF; rw [if_pos h3]
                exact mdo_rep z m so sn sc l w h x k hd hb h3 hn hi h16 (by omega)
            · rw [if_pos (.inl h16)]; exact mdo_ebad103_16 z m so sn sc l w h x k hd hb h3 hn hi h16
    · rw [if_neg (by rintro ⟨_, e⟩; exact hi e)]
      by_cases h2 : m.op = 102
      · rw [if_neg (by rintro ⟨e, _⟩; exact e h2), if_neg (by omega), if_neg (by omega)]
        by_cases h16 : (restOf l).length = 16
        · by_cases ha : 255 < m.ar
          · rw [if_pos (.inr ha)]; exact mdo_ebad102_255 z m so sn sc l w h x k hd hb h2 hn hi h16 ha
          · rw [if_neg (by rintro (e | e); exact e h16; exact ha e)]
            unfold entF; rw [if_neg (by omega)]
            by_cases h6 : 64 ≤ (s.L z).length
            · rw [if_pos h6]; exact mdo_full z m so sn sc l w h x k hd hb h2 hn hi h16 (by omega) h6
            · rw [if_neg h6]; exact mdo_enter z m so sn sc l w h x k hd hb h2 hn hi h16 (by omega) (by omega)
        · rw [if_pos (.inl h16)]; exact mdo_ebad102_16 z m so sn sc l w h x k hd hb h2 hn hi h16
      · rw [if_pos ⟨h2, hi⟩]; exact mdo_missing z m so sn sc l w h x k hd hb ⟨h100, h105, h2⟩ hn hi
end
end Go.Proofs.YtlmnnjibggdboaaGreatDoor
namespace Go.Proofs.YtlmnnjibggdboaaGreatDoor
section
open Go.RowKit
variable {w0 w w1 w2 w' : World} {A A' : Ad} {p : Nat} {ws : List Nat} {s s' s1 : Hs} {r g : Nat}
set_option maxRecDepth 20000 in
set_option maxHeartbeats 12800000 in
theorem want_none (m : Msg) (so : Option Addr) (sn sc : Nat) (l : List UInt8) (w : World) (h : A.sb.2 = true) (x : Sv w0 w A p ws s) (hd : A.dv ≠ none) (hb : Bts w so sn sc l) (q : Okm w0 w m so sn) (li : Lim s) (hg : Glob w0) (hop : 105 < m.op) :
    Calls Tryz.prog 19 #[.pointer (some ⟨A.sb.1, 0, none⟩), .agg #[.int .u64 m.ta, .int .u64 m.rp, .int .u32 m.id, .int .u16 m.op, .int .u16 m.st, .int .u64 m.p, .int .u32 m.o, .int .u8 m.r, .int .u64 m.c, .int .u64 m.ar, .slice so sn sc]] w fun e w' => RplK w0 w A p ws m (badF s 3) l e w' := by
  have hmf : ∀ (fn : Fn) (first cap : Array Value) (w : World), (Instr.makeFunc fn first cap).run Tryz.prog w = .ok (.func fn first cap) w := fun _ _ _ _ => rfl
  obtain ⟨X, hX, bm, bz, bX⟩ := rep_vars w m (.slice so sn sc)
  have HS := hide h
  have HX := hide (x.grow bX)
  have HD := hide hd
  have HB := hide (hb.carry bX)
  have HM := hide bm
  have HZ := hide bz
  have HBX := hide bX
  have HW0 : Hid (w0.heap.size ≤ w.heap.size) := x.bel.size
  have HQ := hide q
  have HQX := hide (q.grow bX)
  have HLI := hide li
  have HG := hide hg
  have n5 : ((m.op : Int) == 5) = false := by rw [beq_eq_false_iff_ne]; omega
  have n105 : (105 : Int) < (m.op : Int) := by omega
  have HE := hide ((HX.out.stayK).from HBX.out)
  obtain ⟨k0, k1, k2, k3, k4, k5, k6, k7, k8, k9, k10⟩ := HM.out.all
  clear bm bz bX x hb q li hg h hd hop
  go_enter Tryz.func19, Tryz.ntmps19
  obtain ⟨m2, h2⟩ : ∃ m2, (⟨m.rp, m.ta, m.id, m.op, 3, 0, 0, 0, 0, 0⟩ : Msg) = m2 := ⟨_, rfl⟩
  have hf := fun W (hM : MB W w.heap.size m (.slice so sn sc)) hW => wfail_any m (.slice so sn sc) (3) W hM (by omega) hW m2 h2
  rw [show erN (((3 : Nat)) : Int) = .iface 47 (.int .i64 3) from rfl] at hf
  have HF := hide hf
  clear hf
  go_wp2_with fail
  refine (HF.out _ HM.out (HE.out.end.glob HG.out)).mono ?_; rintro e w6 ⟨co2, cc2, rfl, B6, b6⟩
  have HB6 := hide B6
  have HZ6 := hide (HZ.out.grow b6)
  have HE6 := hide (HE.out.to b6)
  have HM2 : Hid (m2 = rplF m (badF s 3)) := by show _ = _; rw [rplb, ← h2]
  clear B6 b6 h2 k0 k1 k2 k3 k4 k5 k6 k7 k8 k9 k10
  have HZL := hide (HZ6.out.lay (m := m2) (D := .slice co2 0 cc2))
  have f7 := foot_lay11 w6 (w.heap.size + 1) m2 (.slice co2 0 cc2)
  have HE7 := hide (HE6.out.msg HW0.out HZ6.out (by omega) f7)
  have HB7 : Hid (Bts (lay11 w6 (w.heap.size + 1) m2 (.slice co2 0 cc2)) co2 0 cc2 []) := bts_none HB6.out
  obtain ⟨w7, hw7⟩ : ∃ w7, lay11 w6 (w.heap.size + 1) m2 (.slice co2 0 cc2) = w7 := ⟨_, rfl⟩
  rw [hw7] at HZL HE7 HB7
  unfold lay11 at hw7
  clear f7
  obtain ⟨v0, v1, v2, v3, v4, v5, v6, v7, v8, v9, v10⟩ := HZL.out.all
  obtain ⟨z0, z1, z2, z3, z4, z5, z6, z7, z8, z9, z10⟩ := HZ6.out.all
  have x0 := HZ6.out.z 0
  have x1 := HZ6.out.z 1
  have x2 := HZ6.out.z 2
  have x3 := HZ6.out.z 3
  have x4 := HZ6.out.z 4
  have x5 := HZ6.out.z 5
  have x6 := HZ6.out.z 6
  have x7 := HZ6.out.z 7
  have x8 := HZ6.out.z 8
  have x9 := HZ6.out.z 9
  have x10 := HZ6.out.z 10
  go_wp2
  refine bodyPost_ret (by simp [results, Tryz.results19, go_sem, v0, v1, v2, v3, v4, v5, v6, v7, v8, v9, v10]; rfl) rfl ?_
  exact ⟨m2, co2, 0, cc2, HM2.out, rfl, by rw [dat_bad]; exact HB7.out, .inl (dat_bad _ _ _), HE7.out⟩
set_option maxRecDepth 20000 in
set_option maxHeartbeats 12800000 in
theorem want_root0 (m : Msg) (so : Option Addr) (sn sc : Nat) (l : List UInt8) (w : World) (h : A.sb.2 = true) (x : Sv w0 w A p ws s) (hd : A.dv ≠ none) (hb : Bts w so sn sc l) (q : Okm w0 w m so sn) (li : Lim s) (hg : Glob w0) (hop : m.op = 5) (ho : m.o = 0) (K : Chk) (hK : chkF ws s.t s.es p s.T ⟨m.p, m.o, m.r, m.c⟩ 8 = K) (h0 : K.e ≠ 0) :
    Calls Tryz.prog 19 #[.pointer (some ⟨A.sb.1, 0, none⟩), .agg #[.int .u64 m.ta, .int .u64 m.rp, .int .u32 m.id, .int .u16 m.op, .int .u16 m.st, .int .u64 m.p, .int .u32 m.o, .int .u8 m.r, .int .u64 m.c, .int .u64 m.ar, .slice so sn sc]] w fun e w' => RplK w0 w A p ws m (badF (s.tab K.t K.es s.T) K.e) l e w' := by
  have hmf : ∀ (fn : Fn) (first cap : Array Value) (w : World), (Instr.makeFunc fn first cap).run Tryz.prog w = .ok (.func fn first cap) w := fun _ _ _ _ => rfl
  obtain ⟨X, hX, bm, bz, bX⟩ := rep_vars w m (.slice so sn sc)
  have HS := hide h
  have HX := hide (x.grow bX)
  have HD := hide hd
  have HB := hide (hb.carry bX)
  have HM := hide bm
  have HZ := hide bz
  have HBX := hide bX
  have HW0 : Hid (w0.heap.size ≤ w.heap.size) := x.bel.size
  have HQ := hide q
  have HQX := hide (q.grow bX)
  have HLI := hide li
  have HG := hide hg
  have hopi : (m.op : Int) = 5 := by omega
  have hoi : (m.o : Int) = 0 := by omega
  have HK := hide hK
  have H0 := hide h0
  have HEL : Hid (K.e ≤ 65535) := by show _ ≤ _; have := chk_err ws s.t s.es p s.T ⟨m.p, m.o, m.r, m.c⟩ 8; rw [hK] at this; omega
  obtain ⟨er, her⟩ : ∃ er, erN (K.e : Int) = er := ⟨_, rfl⟩
  have HER := hide her
  have c0 := HX.out.bx.c0
  obtain ⟨k0, k1, k2, k3, k4, k5, k6, k7, k8, k9, k10⟩ := HM.out.all
  rw [hopi] at k3 hX
  rw [hoi] at k6 hX
  clear bm bz bX x hb q li hg h hd hop ho hK h0 her
  go_enter Tryz.func19, Tryz.ntmps19
  go_wp2_with fail
  have HXd : Hid (Sv w0 X.drew A p ws s) := HX.out.drewN 1
  have Ed : Hid (X.drew.cell? ⟨A.sb.1, 0, none⟩ = some (.pointer (some ⟨A.g, 0, none⟩)) ∧ X.drew.cell? ⟨w.heap.size, 5, none⟩ = some (.int .u64 (m.p : Int)) ∧ X.drew.cell? ⟨w.heap.size, 6, none⟩ = some (.int .u32 0) ∧ X.drew.cell? ⟨w.heap.size, 7, none⟩ = some (.int .u8 (m.r : Int)) ∧ X.drew.cell? ⟨w.heap.size, 8, none⟩ = some (.int .u64 (m.c : Int))) := ⟨c0, k5, k6, k7, k8⟩
  have hc := tbk_check ⟨m.p, m.o, m.r, m.c⟩ 8 _ HXd.out HQ.out.c (by omega) (by have := HLI.out.el; omega) K HK.out
  rw [show Cp.val ⟨m.p, m.o, m.r, m.c⟩ = .agg #[.int .u64 (m.p : Int), .int .u32 (m.o : Int), .int .u8 (m.r : Int), .int .u64 (m.c : Int)] from rfl, hoi, HER.out] at hc
  have HCC := hide hc
  clear hc
  go_region_held (fun U => U.cell? ⟨A.sb.1, 0, none⟩ = some (.pointer (some ⟨A.g, 0, none⟩)) ∧ U.cell? ⟨w.heap.size, 5, none⟩ = some (.int .u64 (m.p : Int)) ∧ U.cell? ⟨w.heap.size, 6, none⟩ = some (.int .u32 0) ∧ U.cell? ⟨w.heap.size, 7, none⟩ = some (.int .u8 (m.r : Int)) ∧ U.cell? ⟨w.heap.size, 8, none⟩ = some (.int .u64 (m.c : Int)))
    (first | with_reducible exact Ed.out | with_reducible exact E2.out)
    (first
      | (go_at_call 34; refine (HCC.out).mono ?_; rintro e w2 ⟨rfl, E⟩
         have kh := HXd.out.khK E
         have HM2 := hide (HM.out.kh (Kh.trans (below_kh (below_d X 1)) kh))
         have HZ2 := hide (HZ.out.kh (Kh.trans (below_kh (below_d X 1)) kh))
         have HE2 := hide (E.from (below_one HBX.out (below_d X 1)))
         have E2 : Hid (w2.cell? ⟨A.sb.1, 0, none⟩ = some (.pointer (some ⟨A.g, 0, none⟩)) ∧ w2.cell? ⟨w.heap.size, 5, none⟩ = some (.int .u64 (m.p : Int)) ∧ w2.cell? ⟨w.heap.size, 6, none⟩ = some (.int .u32 0) ∧ w2.cell? ⟨w.heap.size, 7, none⟩ = some (.int .u8 (m.r : Int)) ∧ w2.cell? ⟨w.heap.size, 8, none⟩ = some (.int .u64 (m.c : Int))) := by
           obtain ⟨_, _, X2, _⟩ := E
           have u6 := HM2.out.all.2.2.2.2.2.2.1; rw [hoi] at u6
           exact ⟨X2.bx.c0, HM2.out.all.2.2.2.2.2.1, u6, HM2.out.all.2.2.2.2.2.2.2.1, HM2.out.all.2.2.2.2.2.2.2.2.1⟩
         have HEE2 := hide E
         clear kh E))
  clear c0 k0 k1 k2 k3 k4 k5 k6 k7 k8 k9 k10
  obtain ⟨k0, k1, k2, k3, k4, k5, k6, k7, k8, k9, k10⟩ := HM2.out.all
  obtain ⟨tE, hE⟩ : ∃ v, er = .iface 47 v := ⟨_, by rw [← HER.out]; exact erN_not (by have := H0.out; omega)⟩
  subst hE
  obtain ⟨m2, h2⟩ : ∃ m2, (⟨m.rp, m.ta, m.id, m.op, K.e, 0, 0, 0, 0, 0⟩ : Msg) = m2 := ⟨_, rfl⟩
  have hf := fun W (hM : MB W w.heap.size m (.slice so sn sc)) hW => wfail_any m (.slice so sn sc) (K.e) W hM (HEL.out) hW m2 h2
  rw [HER.out] at hf
  have HF := hide hf
  clear hf
  go_wp2_with fail
  refine (HF.out _ HM2.out (HE2.out.end.glob HG.out)).mono ?_; rintro e w6 ⟨co2, cc2, rfl, B6, b6⟩
  have HB6 := hide B6
  have HZ6 := hide (HZ2.out.grow b6)
  have HE6 := hide (HE2.out.to b6)
  have HM2 : Hid (m2 = rplF m ((badF (s.tab K.t K.es s.T) K.e))) := by show _ = _; rw [rplb, ← h2]
  clear B6 b6 h2 k0 k1 k2 k3 k4 k5 k6 k7 k8 k9 k10
  have HZL := hide (HZ6.out.lay (m := m2) (D := .slice co2 0 cc2))
  have f7 := foot_lay11 w6 (w.heap.size + 1) m2 (.slice co2 0 cc2)
  have HE7 := hide (HE6.out.msg HW0.out HZ6.out (by omega) f7)
  have HB7 : Hid (Bts (lay11 w6 (w.heap.size + 1) m2 (.slice co2 0 cc2)) co2 0 cc2 []) := bts_none HB6.out
  obtain ⟨w7, hw7⟩ : ∃ w7, lay11 w6 (w.heap.size + 1) m2 (.slice co2 0 cc2) = w7 := ⟨_, rfl⟩
  rw [hw7] at HZL HE7 HB7
  unfold lay11 at hw7
  clear f7
  obtain ⟨v0, v1, v2, v3, v4, v5, v6, v7, v8, v9, v10⟩ := HZL.out.all
  obtain ⟨z0, z1, z2, z3, z4, z5, z6, z7, z8, z9, z10⟩ := HZ6.out.all
  have x0 := HZ6.out.z 0
  have x1 := HZ6.out.z 1
  have x2 := HZ6.out.z 2
  have x3 := HZ6.out.z 3
  have x4 := HZ6.out.z 4
  have x5 := HZ6.out.z 5
  have x6 := HZ6.out.z 6
  have x7 := HZ6.out.z 7
  have x8 := HZ6.out.z 8
  have x9 := HZ6.out.z 9
  have x10 := HZ6.out.z 10
  go_wp2
  refine bodyPost_ret (by simp [results, Tryz.results19, go_sem, v0, v1, v2, v3, v4, v5, v6, v7, v8, v9, v10]; rfl) rfl ?_
  exact ⟨m2, co2, 0, cc2, HM2.out, rfl, by rw [dat_bad]; exact HB7.out, .inl (dat_bad _ _ _), HE7.out⟩
set_option maxRecDepth 20000 in
set_option maxHeartbeats 12800000 in
theorem want_root1 (m : Msg) (so : Option Addr) (sn sc : Nat) (l : List UInt8) (w : World) (h : A.sb.2 = true) (x : Sv w0 w A p ws s) (hd : A.dv ≠ none) (hb : Bts w so sn sc l) (q : Okm w0 w m so sn) (li : Lim s) (hg : Glob w0) (hop : m.op = 5) (ho : m.o = 0) (K : Chk) (hK : chkF ws s.t s.es p s.T ⟨m.p, m.o, m.r, m.c⟩ 8 = K) (h0 : K.e = 0) :
    Calls Tryz.prog 19 #[.pointer (some ⟨A.sb.1, 0, none⟩), .agg #[.int .u64 m.ta, .int .u64 m.rp, .int .u32 m.id, .int .u16 m.op, .int .u16 m.st, .int .u64 m.p, .int .u32 m.o, .int .u8 m.r, .int .u64 m.c, .int .u64 m.ar, .slice so sn sc]] w fun e w' => RplK w0 w A p ws m (badF (s.tab K.t K.es s.T) 15) l e w' := by
  have hmf : ∀ (fn : Fn) (first cap : Array Value) (w : World), (Instr.makeFunc fn first cap).run Tryz.prog w = .ok (.func fn first cap) w := fun _ _ _ _ => rfl
  obtain ⟨X, hX, bm, bz, bX⟩ := rep_vars w m (.slice so sn sc)
  have HS := hide h
  have HX := hide (x.grow bX)
  have HD := hide hd
  have HB := hide (hb.carry bX)
  have HM := hide bm
  have HZ := hide bz
  have HBX := hide bX
  have HW0 : Hid (w0.heap.size ≤ w.heap.size) := x.bel.size
  have HQ := hide q
  have HQX := hide (q.grow bX)
  have HLI := hide li
  have HG := hide hg
  have hopi : (m.op : Int) = 5 := by omega
  have hoi : (m.o : Int) = 0 := by omega
  have HK := hide hK
  have H0 := hide h0
  have HEL : Hid (K.e ≤ 65535) := by show _ ≤ _; have := chk_err ws s.t s.es p s.T ⟨m.p, m.o, m.r, m.c⟩ 8; rw [hK] at this; omega
  obtain ⟨er, her⟩ : ∃ er, erN (K.e : Int) = er := ⟨_, rfl⟩
  have HER := hide her
  have c0 := HX.out.bx.c0
  obtain ⟨k0, k1, k2, k3, k4, k5, k6, k7, k8, k9, k10⟩ := HM.out.all
  rw [hopi] at k3 hX
  rw [hoi] at k6 hX
  clear bm bz bX x hb q li hg h hd hop ho hK h0 her
  go_enter Tryz.func19, Tryz.ntmps19
  go_wp2_with fail
  have HXd : Hid (Sv w0 X.drew A p ws s) := HX.out.drewN 1
  have Ed : Hid (X.drew.cell? ⟨A.sb.1, 0, none⟩ = some (.pointer (some ⟨A.g, 0, none⟩)) ∧ X.drew.cell? ⟨w.heap.size, 5, none⟩ = some (.int .u64 (m.p : Int)) ∧ X.drew.cell? ⟨w.heap.size, 6, none⟩ = some (.int .u32 0) ∧ X.drew.cell? ⟨w.heap.size, 7, none⟩ = some (.int .u8 (m.r : Int)) ∧ X.drew.cell? ⟨w.heap.size, 8, none⟩ = some (.int .u64 (m.c : Int))) := ⟨c0, k5, k6, k7, k8⟩
  have hc := tbk_check ⟨m.p, m.o, m.r, m.c⟩ 8 _ HXd.out HQ.out.c (by omega) (by have := HLI.out.el; omega) K HK.out
  rw [show Cp.val ⟨m.p, m.o, m.r, m.c⟩ = .agg #[.int .u64 (m.p : Int), .int .u32 (m.o : Int), .int .u8 (m.r : Int), .int .u64 (m.c : Int)] from rfl, hoi, HER.out] at hc
  have HCC := hide hc
  clear hc
  go_region_held (fun U => U.cell? ⟨A.sb.1, 0, none⟩ = some (.pointer (some ⟨A.g, 0, none⟩)) ∧ U.cell? ⟨w.heap.size, 5, none⟩ = some (.int .u64 (m.p : Int)) ∧ U.cell? ⟨w.heap.size, 6, none⟩ = some (.int .u32 0) ∧ U.cell? ⟨w.heap.size, 7, none⟩ = some (.int .u8 (m.r : Int)) ∧ U.cell? ⟨w.heap.size, 8, none⟩ = some (.int .u64 (m.c : Int)))
    (first | with_reducible exact Ed.out | with_reducible exact E2.out)
    (first
      | (go_at_call 34; refine (HCC.out).mono ?_; rintro e w2 ⟨rfl, E⟩
         have kh := HXd.out.khK E
         have HM2 := hide (HM.out.kh (Kh.trans (below_kh (below_d X 1)) kh))
         have HZ2 := hide (HZ.out.kh (Kh.trans (below_kh (below_d X 1)) kh))
         have HE2 := hide (E.from (below_one HBX.out (below_d X 1)))
         have E2 : Hid (w2.cell? ⟨A.sb.1, 0, none⟩ = some (.pointer (some ⟨A.g, 0, none⟩)) ∧ w2.cell? ⟨w.heap.size, 5, none⟩ = some (.int .u64 (m.p : Int)) ∧ w2.cell? ⟨w.heap.size, 6, none⟩ = some (.int .u32 0) ∧ w2.cell? ⟨w.heap.size, 7, none⟩ = some (.int .u8 (m.r : Int)) ∧ w2.cell? ⟨w.heap.size, 8, none⟩ = some (.int .u64 (m.c : Int))) := by
           obtain ⟨_, _, X2, _⟩ := E
           have u6 := HM2.out.all.2.2.2.2.2.2.1; rw [hoi] at u6
           exact ⟨X2.bx.c0, HM2.out.all.2.2.2.2.2.1, u6, HM2.out.all.2.2.2.2.2.2.2.1, HM2.out.all.2.2.2.2.2.2.2.2.1⟩
         have HEE2 := hide E
         clear kh E))
  clear c0 k0 k1 k2 k3 k4 k5 k6 k7 k8 k9 k10
  obtain ⟨k0, k1, k2, k3, k4, k5, k6, k7, k8, k9, k10⟩ := HM2.out.all
  obtain rfl : er = .nilIface := by rw [← HER.out, H0.out]; rfl
  obtain ⟨m2, h2⟩ : ∃ m2, (⟨m.rp, m.ta, m.id, m.op, 15, 0, 0, 0, 0, 0⟩ : Msg) = m2 := ⟨_, rfl⟩
  have hf := fun W (hM : MB W w.heap.size m (.slice so sn sc)) hW => wfail_any m (.slice so sn sc) (15) W hM (by omega) hW m2 h2
  rw [show erN (((15 : Nat)) : Int) = .iface 47 (.int .i64 15) from rfl] at hf
  have HF := hide hf
  clear hf
  go_wp2_with fail
  refine (HF.out _ HM2.out (HE2.out.end.glob HG.out)).mono ?_; rintro e w6 ⟨co2, cc2, rfl, B6, b6⟩
  have HB6 := hide B6
  have HZ6 := hide (HZ2.out.grow b6)
  have HE6 := hide (HE2.out.to b6)
  have HM2 : Hid (m2 = rplF m ((badF (s.tab K.t K.es s.T) 15))) := by show _ = _; rw [rplb, ← h2]
  clear B6 b6 h2 k0 k1 k2 k3 k4 k5 k6 k7 k8 k9 k10
  have HZL := hide (HZ6.out.lay (m := m2) (D := .slice co2 0 cc2))
  have f7 := foot_lay11 w6 (w.heap.size + 1) m2 (.slice co2 0 cc2)
  have HE7 := hide (HE6.out.msg HW0.out HZ6.out (by omega) f7)
  have HB7 : Hid (Bts (lay11 w6 (w.heap.size + 1) m2 (.slice co2 0 cc2)) co2 0 cc2 []) := bts_none HB6.out
  obtain ⟨w7, hw7⟩ : ∃ w7, lay11 w6 (w.heap.size + 1) m2 (.slice co2 0 cc2) = w7 := ⟨_, rfl⟩
  rw [hw7] at HZL HE7 HB7
  unfold lay11 at hw7
  clear f7
  obtain ⟨v0, v1, v2, v3, v4, v5, v6, v7, v8, v9, v10⟩ := HZL.out.all
  obtain ⟨z0, z1, z2, z3, z4, z5, z6, z7, z8, z9, z10⟩ := HZ6.out.all
  have x0 := HZ6.out.z 0
  have x1 := HZ6.out.z 1
  have x2 := HZ6.out.z 2
  have x3 := HZ6.out.z 3
  have x4 := HZ6.out.z 4
  have x5 := HZ6.out.z 5
  have x6 := HZ6.out.z 6
  have x7 := HZ6.out.z 7
  have x8 := HZ6.out.z 8
  have x9 := HZ6.out.z 9
  have x10 := HZ6.out.z 10
  go_wp2
  refine bodyPost_ret (by simp [results, Tryz.results19, go_sem, v0, v1, v2, v3, v4, v5, v6, v7, v8, v9, v10]; rfl) rfl ?_
  exact ⟨m2, co2, 0, cc2, HM2.out, rfl, by rw [dat_bad]; exact HB7.out, .inl (dat_bad _ _ _), HE7.out⟩
set_option maxRecDepth 20000 in
set_option maxHeartbeats 12800000 in
theorem want_dst0 (m : Msg) (so : Option Addr) (sn sc : Nat) (l : List UInt8) (w : World) (h : A.sb.2 = true) (x : Sv w0 w A p ws s) (hd : A.dv ≠ none) (hb : Bts w so sn sc l) (q : Okm w0 w m so sn) (li : Lim s) (hg : Glob w0) (hop : m.op = 5) (ho : m.o ≠ 0) (K : Chk) (hK : chkF ws s.t s.es p s.T ⟨m.p, m.o, m.r, m.c⟩ 8 = K) (h0 : K.e ≠ 0) :
    Calls Tryz.prog 19 #[.pointer (some ⟨A.sb.1, 0, none⟩), .agg #[.int .u64 m.ta, .int .u64 m.rp, .int .u32 m.id, .int .u16 m.op, .int .u16 m.st, .int .u64 m.p, .int .u32 m.o, .int .u8 m.r, .int .u64 m.c, .int .u64 m.ar, .slice so sn sc]] w fun e w' => RplK w0 w A p ws m (badF (s.tab K.t K.es (desT s.T K)) K.e) l e w' := by
  have hmf : ∀ (fn : Fn) (first cap : Array Value) (w : World), (Instr.makeFunc fn first cap).run Tryz.prog w = .ok (.func fn first cap) w := fun _ _ _ _ => rfl
  obtain ⟨X, hX, bm, bz, bX⟩ := rep_vars w m (.slice so sn sc)
  have HS := hide h
  have HX := hide (x.grow bX)
  have HD := hide hd
  have HB := hide (hb.carry bX)
  have HM := hide bm
  have HZ := hide bz
  have HBX := hide bX
  have HW0 : Hid (w0.heap.size ≤ w.heap.size) := x.bel.size
  have HQ := hide q
  have HQX := hide (q.grow bX)
  have HLI := hide li
  have HG := hide hg
  have hopi : (m.op : Int) = 5 := by omega
  have hoi : ((m.o : Int) == 0) = false := by rw [beq_eq_false_iff_ne]; omega
  have HK := hide hK
  have H0 := hide h0
  have HEL : Hid (K.e ≤ 65535) := by show _ ≤ _; have := chk_err ws s.t s.es p s.T ⟨m.p, m.o, m.r, m.c⟩ 8; rw [hK] at this; omega
  obtain ⟨er, her⟩ : ∃ er, erN (K.e : Int) = er := ⟨_, rfl⟩
  have HER := hide her
  obtain ⟨vl, hvl⟩ : ∃ vl : Int, (if K.e = 0 then (s.T K.k).v else 0) = vl := ⟨_, rfl⟩
  have HVL := hide hvl
  have c0 := HX.out.bx.c0
  obtain ⟨k0, k1, k2, k3, k4, k5, k6, k7, k8, k9, k10⟩ := HM.out.all
  rw [hopi] at k3 hX
  clear bm bz bX x hb q li hg h hd hop ho hK h0 her hvl
  go_enter Tryz.func19, Tryz.ntmps19
  go_wp2_with fail
  have HXd : Hid (Sv w0 X.drew A p ws s) := HX.out.drewN 1
  have Ed : Hid (X.drew.cell? ⟨A.sb.1, 0, none⟩ = some (.pointer (some ⟨A.g, 0, none⟩)) ∧ X.drew.cell? ⟨w.heap.size, 5, none⟩ = some (.int .u64 (m.p : Int)) ∧ X.drew.cell? ⟨w.heap.size, 6, none⟩ = some (.int .u32 (m.o : Int)) ∧ X.drew.cell? ⟨w.heap.size, 7, none⟩ = some (.int .u8 (m.r : Int)) ∧ X.drew.cell? ⟨w.heap.size, 8, none⟩ = some (.int .u64 (m.c : Int))) := ⟨c0, k5, k6, k7, k8⟩
  have hc := tbk_destroy ⟨m.p, m.o, m.r, m.c⟩ _ HXd.out HQ.out.c (by have := HLI.out.el; omega) K HK.out
  rw [HER.out, HVL.out] at hc
  have HCC := hide hc
  clear hc
  go_region_held (fun U => U.cell? ⟨A.sb.1, 0, none⟩ = some (.pointer (some ⟨A.g, 0, none⟩)) ∧ U.cell? ⟨w.heap.size, 5, none⟩ = some (.int .u64 (m.p : Int)) ∧ U.cell? ⟨w.heap.size, 6, none⟩ = some (.int .u32 (m.o : Int)) ∧ U.cell? ⟨w.heap.size, 7, none⟩ = some (.int .u8 (m.r : Int)) ∧ U.cell? ⟨w.heap.size, 8, none⟩ = some (.int .u64 (m.c : Int)))
    (first | with_reducible exact Ed.out | with_reducible exact E2.out)
    (first
      | (go_at_call 39; refine (HCC.out).mono ?_; rintro e w2 ⟨rfl, E⟩
         have kh := HXd.out.khK E
         have HM2 := hide (HM.out.kh (Kh.trans (below_kh (below_d X 1)) kh))
         have HZ2 := hide (HZ.out.kh (Kh.trans (below_kh (below_d X 1)) kh))
         have HE2 := hide (E.from (below_one HBX.out (below_d X 1)))
         have E2 : Hid (w2.cell? ⟨A.sb.1, 0, none⟩ = some (.pointer (some ⟨A.g, 0, none⟩)) ∧ w2.cell? ⟨w.heap.size, 5, none⟩ = some (.int .u64 (m.p : Int)) ∧ w2.cell? ⟨w.heap.size, 6, none⟩ = some (.int .u32 (m.o : Int)) ∧ w2.cell? ⟨w.heap.size, 7, none⟩ = some (.int .u8 (m.r : Int)) ∧ w2.cell? ⟨w.heap.size, 8, none⟩ = some (.int .u64 (m.c : Int))) := by
           obtain ⟨_, _, X2, _⟩ := E
           have u6 := HM2.out.all.2.2.2.2.2.2.1
           exact ⟨X2.bx.c0, HM2.out.all.2.2.2.2.2.1, u6, HM2.out.all.2.2.2.2.2.2.2.1, HM2.out.all.2.2.2.2.2.2.2.2.1⟩
         have HEE2 := hide E
         clear kh E))
  clear c0 k0 k1 k2 k3 k4 k5 k6 k7 k8 k9 k10
  obtain ⟨k0, k1, k2, k3, k4, k5, k6, k7, k8, k9, k10⟩ := HM2.out.all
  obtain ⟨tE, hE⟩ : ∃ v, er = .iface 47 v := ⟨_, by rw [← HER.out]; exact erN_not (by have := H0.out; omega)⟩
  subst hE
  obtain ⟨m2, h2⟩ : ∃ m2, (⟨m.rp, m.ta, m.id, m.op, K.e, 0, 0, 0, 0, 0⟩ : Msg) = m2 := ⟨_, rfl⟩
  have hf := fun W (hM : MB W w.heap.size m (.slice so sn sc)) hW => wfail_any m (.slice so sn sc) (K.e) W hM (HEL.out) hW m2 h2
  rw [HER.out] at hf
  have HF := hide hf
  clear hf
  go_wp2_with fail
  refine (HF.out _ HM2.out (HE2.out.end.glob HG.out)).mono ?_; rintro e w6 ⟨co2, cc2, rfl, B6, b6⟩
  have HB6 := hide B6
  have HZ6 := hide (HZ2.out.grow b6)
  have HE6 := hide (HE2.out.to b6)
  have HM2 : Hid (m2 = rplF m ((badF (s.tab K.t K.es (desT s.T K)) K.e))) := by show _ = _; rw [rplb, ← h2]
  clear B6 b6 h2 k0 k1 k2 k3 k4 k5 k6 k7 k8 k9 k10
  have HZL := hide (HZ6.out.lay (m := m2) (D := .slice co2 0 cc2))
  have f7 := foot_lay11 w6 (w.heap.size + 1) m2 (.slice co2 0 cc2)
  have HE7 := hide (HE6.out.msg HW0.out HZ6.out (by omega) f7)
  have HB7 : Hid (Bts (lay11 w6 (w.heap.size + 1) m2 (.slice co2 0 cc2)) co2 0 cc2 []) := bts_none HB6.out
  obtain ⟨w7, hw7⟩ : ∃ w7, lay11 w6 (w.heap.size + 1) m2 (.slice co2 0 cc2) = w7 := ⟨_, rfl⟩
  rw [hw7] at HZL HE7 HB7
  unfold lay11 at hw7
  clear f7
  obtain ⟨v0, v1, v2, v3, v4, v5, v6, v7, v8, v9, v10⟩ := HZL.out.all
  obtain ⟨z0, z1, z2, z3, z4, z5, z6, z7, z8, z9, z10⟩ := HZ6.out.all
  have x0 := HZ6.out.z 0
  have x1 := HZ6.out.z 1
  have x2 := HZ6.out.z 2
  have x3 := HZ6.out.z 3
  have x4 := HZ6.out.z 4
  have x5 := HZ6.out.z 5
  have x6 := HZ6.out.z 6
  have x7 := HZ6.out.z 7
  have x8 := HZ6.out.z 8
  have x9 := HZ6.out.z 9
  have x10 := HZ6.out.z 10
  go_wp2
  refine bodyPost_ret (by simp [results, Tryz.results19, go_sem, v0, v1, v2, v3, v4, v5, v6, v7, v8, v9, v10]; rfl) rfl ?_
  exact ⟨m2, co2, 0, cc2, HM2.out, rfl, by rw [dat_bad]; exact HB7.out, .inl (dat_bad _ _ _), HE7.out⟩
set_option maxRecDepth 20000 in
set_option maxHeartbeats 12800000 in
theorem want_dst1 (m : Msg) (so : Option Addr) (sn sc : Nat) (l : List UInt8) (w : World) (h : A.sb.2 = true) (x : Sv w0 w A p ws s) (hd : A.dv ≠ none) (hb : Bts w so sn sc l) (q : Okm w0 w m so sn) (li : Lim s) (hg : Glob w0) (hop : m.op = 5) (ho : m.o ≠ 0) (K : Chk) (hK : chkF ws s.t s.es p s.T ⟨m.p, m.o, m.r, m.c⟩ 8 = K) (h0 : K.e = 0) :
    Calls Tryz.prog 19 #[.pointer (some ⟨A.sb.1, 0, none⟩), .agg #[.int .u64 m.ta, .int .u64 m.rp, .int .u32 m.id, .int .u16 m.op, .int .u16 m.st, .int .u64 m.p, .int .u32 m.o, .int .u8 m.r, .int .u64 m.c, .int .u64 m.ar, .slice so sn sc]] w fun e w' => RplK w0 w A p ws m (badF ⟨K.t, K.es, desT s.T K, s.n, s.q, updL s.L (s.T K.k).v []⟩ 0) l e w' := by
  have hmf : ∀ (fn : Fn) (first cap : Array Value) (w : World), (Instr.makeFunc fn first cap).run Tryz.prog w = .ok (.func fn first cap) w := fun _ _ _ _ => rfl
  obtain ⟨X, hX, bm, bz, bX⟩ := rep_vars w m (.slice so sn sc)
  have HS := hide h
  have HX := hide (x.grow bX)
  have HD := hide hd
  have HB := hide (hb.carry bX)
  have HM := hide bm
  have HZ := hide bz
  have HBX := hide bX
  have HW0 : Hid (w0.heap.size ≤ w.heap.size) := x.bel.size
  have HQ := hide q
  have HQX := hide (q.grow bX)
  have HLI := hide li
  have HG := hide hg
  have hopi : (m.op : Int) = 5 := by omega
  have hoi : ((m.o : Int) == 0) = false := by rw [beq_eq_false_iff_ne]; omega
  have HK := hide hK
  have H0 := hide h0
  have HEL : Hid (K.e ≤ 65535) := by show _ ≤ _; have := chk_err ws s.t s.es p s.T ⟨m.p, m.o, m.r, m.c⟩ 8; rw [hK] at this; omega
  obtain ⟨er, her⟩ : ∃ er, erN (K.e : Int) = er := ⟨_, rfl⟩
  have HER := hide her
  obtain ⟨vl, hvl⟩ : ∃ vl : Int, (if K.e = 0 then (s.T K.k).v else 0) = vl := ⟨_, rfl⟩
  have HVL := hide hvl
  have c0 := HX.out.bx.c0
  have HZI : Hid (I64 vl) := by show I64 _; rw [if_pos h0] at hvl; rw [← hvl]; exact HLI.out.vl _
  rw [show (s.T K.k).v = vl from by rw [if_pos h0] at hvl; exact hvl]
  obtain ⟨k0, k1, k2, k3, k4, k5, k6, k7, k8, k9, k10⟩ := HM.out.all
  rw [hopi] at k3 hX
  clear bm bz bX x hb q li hg h hd hop ho hK h0 her hvl
  go_enter Tryz.func19, Tryz.ntmps19
  go_wp2_with fail
  have HXd : Hid (Sv w0 X.drew A p ws s) := HX.out.drewN 1
  have Ed : Hid (X.drew.cell? ⟨A.sb.1, 0, none⟩ = some (.pointer (some ⟨A.g, 0, none⟩)) ∧ X.drew.cell? ⟨w.heap.size, 5, none⟩ = some (.int .u64 (m.p : Int)) ∧ X.drew.cell? ⟨w.heap.size, 6, none⟩ = some (.int .u32 (m.o : Int)) ∧ X.drew.cell? ⟨w.heap.size, 7, none⟩ = some (.int .u8 (m.r : Int)) ∧ X.drew.cell? ⟨w.heap.size, 8, none⟩ = some (.int .u64 (m.c : Int))) := ⟨c0, k5, k6, k7, k8⟩
  have hc := tbk_destroy ⟨m.p, m.o, m.r, m.c⟩ _ HXd.out HQ.out.c (by have := HLI.out.el; omega) K HK.out
  rw [HER.out, HVL.out] at hc
  have HCC := hide hc
  clear hc
  go_region_held (fun U => U.cell? ⟨A.sb.1, 0, none⟩ = some (.pointer (some ⟨A.g, 0, none⟩)) ∧ U.cell? ⟨w.heap.size, 5, none⟩ = some (.int .u64 (m.p : Int)) ∧ U.cell? ⟨w.heap.size, 6, none⟩ = some (.int .u32 (m.o : Int)) ∧ U.cell? ⟨w.heap.size, 7, none⟩ = some (.int .u8 (m.r : Int)) ∧ U.cell? ⟨w.heap.size, 8, none⟩ = some (.int .u64 (m.c : Int)))
    (first | with_reducible exact Ed.out | with_reducible exact E2.out)
    (first
      | (go_at_call 39; refine (HCC.out).mono ?_; rintro e w2 ⟨rfl, E⟩
         have kh := HXd.out.khK E
         have HM2 := hide (HM.out.kh (Kh.trans (below_kh (below_d X 1)) kh))
         have HZ2 := hide (HZ.out.kh (Kh.trans (below_kh (below_d X 1)) kh))
         have HE2 := hide (E.from (below_one HBX.out (below_d X 1)))
         have E2 : Hid (w2.cell? ⟨A.sb.1, 0, none⟩ = some (.pointer (some ⟨A.g, 0, none⟩)) ∧ w2.cell? ⟨w.heap.size, 5, none⟩ = some (.int .u64 (m.p : Int)) ∧ w2.cell? ⟨w.heap.size, 6, none⟩ = some (.int .u32 (m.o : Int)) ∧ w2.cell? ⟨w.heap.size, 7, none⟩ = some (.int .u8 (m.r : Int)) ∧ w2.cell? ⟨w.heap.size, 8, none⟩ = some (.int .u64 (m.c : Int))) := by
           obtain ⟨_, _, X2, _⟩ := E
           have u6 := HM2.out.all.2.2.2.2.2.2.1
           exact ⟨X2.bx.c0, HM2.out.all.2.2.2.2.2.1, u6, HM2.out.all.2.2.2.2.2.2.2.1, HM2.out.all.2.2.2.2.2.2.2.2.1⟩
         have HEE2 := hide E
         clear kh E))
  clear c0 k0 k1 k2 k3 k4 k5 k6 k7 k8 k9 k10
  obtain ⟨k0, k1, k2, k3, k4, k5, k6, k7, k8, k9, k10⟩ := HM2.out.all
  obtain rfl : er = .nilIface := by rw [← HER.out, H0.out]; rfl
  obtain ⟨v, nv, S1, on1⟩ := SvK.run HEE2.out
  have c2 : w2.cell? ⟨A.sb.1, 2, none⟩ = some (.map A.dv) := S1.bx.c2
  obtain ⟨w3, hdel0, E3⟩ := gone_step S1 HS.out HZI.out 0
  have hdel : (Builtin.delete_ #[34, 3] 0 #[.map A.dv, .int .i64 vl]).run Tryz.prog w2 = .ok (.tuple #[]) w3 := hdel0
  have kh := S1.khK E3
  have HM := hide (HM2.out.kh kh)
  have HZ := hide (HZ2.out.kh kh)
  have HE : Hid (SvK w0 w A p ws w3 ⟨K.t, K.es, desT s.T K, s.n, s.q, updL s.L vl []⟩) := (on1 _ _ E3).from (below_one HBX.out (below_d X 1))
  clear S1 on1 kh E3 hdel0
  obtain ⟨q0, q1, q2, q3, q4, q5, q6, q7, q8, q9, q10⟩ := HM.out.all
  obtain ⟨m2, h2⟩ : ∃ m2, (⟨m.rp, m.ta, m.id, m.op, 0, 0, 0, 0, 0, 0⟩ : Msg) = m2 := ⟨_, rfl⟩
  have hf := fun W (hM : MB W w.heap.size m (.slice so sn sc)) hW => wfail_any m (.slice so sn sc) 0 W hM (by omega) hW m2 h2
  rw [show erN (((0 : Nat)) : Int) = .nilIface from rfl] at hf
  have HF := hide hf
  clear hf
  go_wp2_with fail
  refine (HF.out _ HM.out (HE.out.end.glob HG.out)).mono ?_; rintro e w6 ⟨co2, cc2, rfl, B6, b6⟩
  have HB6 := hide B6
  have HZ6 := hide (HZ.out.grow b6)
  have HE6 := hide (HE.out.to b6)
  have HM2 : Hid (m2 = rplF m (badF ⟨K.t, K.es, desT s.T K, s.n, s.q, updL s.L vl []⟩ 0)) := by show _ = _; rw [rplb, ← h2]
  clear B6 b6 h2 c2 hdel k0 k1 k2 k3 k4 k5 k6 k7 k8 k9 k10 q0 q1 q2 q3 q4 q5 q6 q7 q8 q9 q10
  have HZL := hide (HZ6.out.lay (m := m2) (D := .slice co2 0 cc2))
  have f7 := foot_lay11 w6 (w.heap.size + 1) m2 (.slice co2 0 cc2)
  have HE7 := hide (HE6.out.msg HW0.out HZ6.out (by omega) f7)
  have HB7 : Hid (Bts (lay11 w6 (w.heap.size + 1) m2 (.slice co2 0 cc2)) co2 0 cc2 []) := bts_none HB6.out
  obtain ⟨w7, hw7⟩ : ∃ w7, lay11 w6 (w.heap.size + 1) m2 (.slice co2 0 cc2) = w7 := ⟨_, rfl⟩
  rw [hw7] at HZL HE7 HB7
  unfold lay11 at hw7
  clear f7
  obtain ⟨v0, v1, v2, v3, v4, v5, v6, v7, v8, v9, v10⟩ := HZL.out.all
  obtain ⟨z0, z1, z2, z3, z4, z5, z6, z7, z8, z9, z10⟩ := HZ6.out.all
  have x0 := HZ6.out.z 0
  have x1 := HZ6.out.z 1
  have x2 := HZ6.out.z 2
  have x3 := HZ6.out.z 3
  have x4 := HZ6.out.z 4
  have x5 := HZ6.out.z 5
  have x6 := HZ6.out.z 6
  have x7 := HZ6.out.z 7
  have x8 := HZ6.out.z 8
  have x9 := HZ6.out.z 9
  have x10 := HZ6.out.z 10
  go_wp2
  refine bodyPost_ret (by simp [results, Tryz.results19, go_sem, v0, v1, v2, v3, v4, v5, v6, v7, v8, v9, v10]; rfl) rfl ?_
  exact ⟨m2, co2, 0, cc2, HM2.out, rfl, by rw [dat_bad]; exact HB7.out, .inl (dat_bad _ _ _), HE7.out⟩
end
end Go.Proofs.YtlmnnjibggdboaaGreatDoor
namespace Go.Proofs.YtlmnnjibggdboaaGreatDoor
section
open Go.RowKit
variable {w0 w w1 w2 w' : World} {A A' : Ad} {p : Nat} {ws : List Nat} {s s' s1 : Hs} {r g : Nat}
set_option maxRecDepth 20000 in
set_option maxHeartbeats 12800000 in
theorem want_chk (m : Msg) (so : Option Addr) (sn sc : Nat) (l : List UInt8) (w : World) (h : A.sb.2 = true) (x : Sv w0 w A p ws s) (hd : A.dv ≠ none) (hb : Bts w so sn sc l) (q : Okm w0 w m so sn) (li : Lim s) (hg : Glob w0) (hop : 100 ≤ m.op ∧ m.op ≤ 105) (K : Chk) (hK : chkF ws s.t s.es p s.T ⟨m.p, m.o, m.r, m.c⟩ (needN m.op) = K) (h0 : K.e ≠ 0) :
    Calls Tryz.prog 19 #[.pointer (some ⟨A.sb.1, 0, none⟩), .agg #[.int .u64 m.ta, .int .u64 m.rp, .int .u32 m.id, .int .u16 m.op, .int .u16 m.st, .int .u64 m.p, .int .u32 m.o, .int .u8 m.r, .int .u64 m.c, .int .u64 m.ar, .slice so sn sc]] w fun e w' => RplK w0 w A p ws m (badF (s.tab K.t K.es s.T) K.e) l e w' := by
  have hmf : ∀ (fn : Fn) (first cap : Array Value) (w : World), (Instr.makeFunc fn first cap).run Tryz.prog w = .ok (.func fn first cap) w := fun _ _ _ _ => rfl
  obtain ⟨X, hX, bm, bz, bX⟩ := rep_vars w m (.slice so sn sc)
  have HS := hide h
  have HX := hide (x.grow bX)
  have HD := hide hd
  have HB := hide (hb.carry bX)
  have HM := hide bm
  have HZ := hide bz
  have HBX := hide bX
  have HW0 : Hid (w0.heap.size ≤ w.heap.size) := x.bel.size
  have HQ := hide q
  have HQX := hide (q.grow bX)
  have HLI := hide li
  have HG := hide hg
  have n5 : ((m.op : Int) == 5) = false := by rw [beq_eq_false_iff_ne]; omega
  have n105 : ¬ (105 : Int) < (m.op : Int) := by omega
  have HOP := hide hop
  obtain ⟨nd, hnd⟩ : ∃ q, needN m.op = q := ⟨_, rfl⟩
  have hnd255 : nd ≤ 255 := by rw [← hnd]; exact needN_le _
  rw [hnd] at hK
  obtain ⟨j, hj⟩ : ∃ j, m.op = 100 + j := ⟨m.op - 100, by omega⟩
  have hj6 : j < 6 := by omega
  have hj6i : (j : Int) < 6 := by omega
  have hj0 : (0 : Int) ≤ (j : Int) := by omega
  have hwk : IntKind.u16.wrap ((m.op : Int) - 100) = (j : Int) := by rw [IntKind.wrap_u16]; omega
  have HK := hide hK
  have H0 := hide h0
  have HEL : Hid (K.e ≤ 65535) := by show _ ≤ _; have := chk_err ws s.t s.es p s.T ⟨m.p, m.o, m.r, m.c⟩ nd; rw [hK] at this; omega
  obtain ⟨er, her⟩ : ∃ er, erN (K.e : Int) = er := ⟨_, rfl⟩
  have HER := hide her
  have HND := hide hnd255
  have HCY : Hid (∀ W : World, (W.alloc (.cells #[.int .u8 4, .int .u8 1, .int .u8 2, .int .u8 2, .int .u8 8, .int .u8 1] 5)).drew.cell? ⟨W.heap.size, j, none⟩ = some (.int .u8 (nd : Int))) := fun W => by
    show (W.alloc _).cell? _ = _
    rw [cell_of_row _ _ _ _ _ _ (heap_alloc_new _ _), ← hnd, hj]
    rcases j with _ | _ | _ | _ | _ | _ | j
    all_goals first | rfl | omega
  obtain ⟨k0, k1, k2, k3, k4, k5, k6, k7, k8, k9, k10⟩ := HM.out.all
  have c0 := HX.out.bx.c0
  clear bm bz bX x hb q li hg h hd hop hK h0 her hnd hj hnd255
  go_enter Tryz.func19, Tryz.ntmps19
  go_wp2_with fail
  have hS : Hid (X.drew.cell? ⟨A.sb.1, 0, none⟩ = some (.pointer (some ⟨A.g, 0, none⟩)) ∧ X.drew.cell? ⟨w.heap.size, 3, none⟩ = some (.int .u16 (m.op : Int)) ∧ X.drew.cell? ⟨w.heap.size, 5, none⟩ = some (.int .u64 (m.p : Int)) ∧ X.drew.cell? ⟨w.heap.size, 6, none⟩ = some (.int .u32 (m.o : Int)) ∧ X.drew.cell? ⟨w.heap.size, 7, none⟩ = some (.int .u8 (m.r : Int)) ∧ X.drew.cell? ⟨w.heap.size, 8, none⟩ = some (.int .u64 (m.c : Int))) := ⟨c0, HM.out.all.2.2.2.1, HM.out.all.2.2.2.2.2.1, HM.out.all.2.2.2.2.2.2.1, HM.out.all.2.2.2.2.2.2.2.1, HM.out.all.2.2.2.2.2.2.2.2.1⟩
  refine wp_region_held_drew (S := fun U => U.cell? ⟨A.sb.1, 0, none⟩ = some (.pointer (some ⟨A.g, 0, none⟩)) ∧ U.cell? ⟨w.heap.size, 3, none⟩ = some (.int .u16 (m.op : Int)) ∧ U.cell? ⟨w.heap.size, 5, none⟩ = some (.int .u64 (m.p : Int)) ∧ U.cell? ⟨w.heap.size, 6, none⟩ = some (.int .u32 (m.o : Int)) ∧ U.cell? ⟨w.heap.size, 7, none⟩ = some (.int .u8 (m.r : Int)) ∧ U.cell? ⟨w.heap.size, 8, none⟩ = some (.int .u64 (m.c : Int))) (by kernel_rfl) hS.out (fun _ => ?_)
  refine wpAnyH_take (i := 0) (oi := { dst := some 71, op := Go.Op.move (Go.Operand.tmp 0), type := 33, pos := "law.go:166", after := #[], guard := none }) (v := (.pointer (some ⟨A.sb.1, 0, none⟩))) rfl (by kernel_rfl) (by kernel_rfl) (by kernel_rfl) (fun _ _ _ h => h) (Or.inl ⟨by kernel_rfl, fun w hC => by go_simp⟩) hS.out ?_
  simp only [Act.put, List.setIfInBounds_toArray, List.set_cons_zero, List.set_cons_succ]
  refine wpAnyH_take (i := 1) (oi := { dst := some 72, op := Go.Op.nilCheck (Go.Operand.tmp 71), type := 0, pos := "law.go:166", after := #[{ on := 0, ground := Go.Ground.data }], guard := none }) (v := (.pointer (some ⟨A.sb.1, 0, none⟩))) rfl (by kernel_rfl) (by kernel_rfl) (by kernel_rfl) (fun _ _ _ h => h) (Or.inl ⟨by kernel_rfl, fun w hC => by go_simp⟩) hS.out ?_
  simp only [Act.put, List.setIfInBounds_toArray, List.set_cons_zero, List.set_cons_succ]
  refine wpAnyH_take (i := 2) (oi := { dst := some 73, op := Go.Op.fieldAddr 36 (Go.Operand.tmp 72) 0, type := 0, pos := "law.go:166", after := #[{ on := 1, ground := Go.Ground.data }], guard := none }) (v := (.pointer (some ⟨A.sb.1, 0, none⟩))) rfl (by kernel_rfl) (by kernel_rfl) (by kernel_rfl) (fun _ _ _ h => h) (Or.inl ⟨by kernel_rfl, fun w hC => by go_simp⟩) hS.out ?_
  simp only [Act.put, List.setIfInBounds_toArray, List.set_cons_zero, List.set_cons_succ]
  refine wpAnyH_take (i := 3) (oi := { dst := some 74, op := Go.Op.load 30 (Go.Operand.tmp 73), type := 30, pos := "law.go:166", after := #[{ on := 2, ground := Go.Ground.data }], guard := none }) (v := (.pointer (some ⟨A.g, 0, none⟩))) rfl (by kernel_rfl) (by kernel_rfl) (by kernel_rfl) (fun _ _ _ h => h) (Or.inl ⟨by kernel_rfl, fun w hC => by (obtain ⟨e0, e3, e5, e6, e7, e8⟩ := hC; go_simp)⟩) hS.out ?_
  simp only [Act.put, List.setIfInBounds_toArray, List.set_cons_zero, List.set_cons_succ]
  refine wpAnyH_take (i := 4) (oi := { dst := some 75, op := Go.Op.fieldAddr 55 (Go.Operand.tmp 3) 5, type := 0, pos := "law.go:166", after := #[], guard := none }) (v := (.pointer (some ⟨w.heap.size, 5, none⟩))) rfl (by kernel_rfl) (by kernel_rfl) (by kernel_rfl) (fun _ _ _ h => h) (Or.inl ⟨by kernel_rfl, fun w hC => by go_simp⟩) hS.out ?_
  simp only [Act.put, List.setIfInBounds_toArray, List.set_cons_zero, List.set_cons_succ]
  refine wpAnyH_take (i := 5) (oi := { dst := some 76, op := Go.Op.load 40 (Go.Operand.tmp 75), type := 40, pos := "law.go:166", after := #[{ on := 4, ground := Go.Ground.data }], guard := none }) (v := (.agg #[.int .u64 (m.p : Int), .int .u32 (m.o : Int), .int .u8 (m.r : Int), .int .u64 (m.c : Int)])) rfl (by kernel_rfl) (by kernel_rfl) (by kernel_rfl) (fun _ _ _ h => h) (Or.inl ⟨by kernel_rfl, fun w hC => by (obtain ⟨e0, e3, e5, e6, e7, e8⟩ := hC; go_simp)⟩) hS.out ?_
  simp only [Act.put, List.setIfInBounds_toArray, List.set_cons_zero, List.set_cons_succ]
  refine wpAnyH_take (i := 7) (oi := { dst := some 78, op := Go.Op.fieldAddr 55 (Go.Operand.tmp 3) 3, type := 0, pos := "law.go:166", after := #[], guard := none }) (v := (.pointer (some ⟨w.heap.size, 3, none⟩))) rfl (by kernel_rfl) (by kernel_rfl) (by kernel_rfl) (fun _ _ _ h => h) (Or.inl ⟨by kernel_rfl, fun w hC => by go_simp⟩) hS.out ?_
  simp only [Act.put, List.setIfInBounds_toArray, List.set_cons_zero, List.set_cons_succ]
  refine wpAnyH_take (i := 8) (oi := { dst := some 79, op := Go.Op.load 51 (Go.Operand.tmp 78), type := 51, pos := "law.go:166", after := #[{ on := 7, ground := Go.Ground.data }], guard := none }) (v := (.int .u16 (m.op : Int))) rfl (by kernel_rfl) (by kernel_rfl) (by kernel_rfl) (fun _ _ _ h => h) (Or.inl ⟨by kernel_rfl, fun w hC => by (obtain ⟨e0, e3, e5, e6, e7, e8⟩ := hC; go_simp)⟩) hS.out ?_
  simp only [Act.put, List.setIfInBounds_toArray, List.set_cons_zero, List.set_cons_succ]
  refine wpAnyH_take (i := 9) (oi := { dst := some 80, op := Go.Op.binOp Go.BinOp.sub 51 (Go.Operand.tmp 79) (Go.Operand.const (Go.Value.int Go.IntKind.u16 100)) 51, type := 51, pos := "law.go:166", after := #[{ on := 8, ground := Go.Ground.data }], guard := none }) (v := (.int .u16 (j : Int))) rfl (by kernel_rfl) (by kernel_rfl) (by kernel_rfl) (fun _ _ _ h => h) (Or.inl ⟨by kernel_rfl, fun w hC => by go_simp⟩) hS.out ?_
  simp only [Act.put, List.setIfInBounds_toArray, List.set_cons_zero, List.set_cons_succ]
  refine wpAnyH_ready (rs := [6]) (by kernel_rfl) (by simp) ?_
  refine AllReadyH.cons (o := { dst := some 77, op := Go.Op.buildSlice 23 6 #[(0, Go.Operand.const (Go.Value.int Go.IntKind.u8 4)), (1, Go.Operand.const (Go.Value.int Go.IntKind.u8 1)), (2, Go.Operand.const (Go.Value.int Go.IntKind.u8 2)), (3, Go.Operand.const (Go.Value.int Go.IntKind.u8 2)), (4, Go.Operand.const (Go.Value.int Go.IntKind.u8 8)), (5, Go.Operand.const (Go.Value.int Go.IntKind.u8 1))], type := 23, pos := "law.go:166", after := #[], guard := none }) rfl (fun KK hKK => ?_) AllReadyH.nil
  go_simp
  obtain ⟨Y, hY⟩ : ∃ Y, (X.alloc (.cells #[.int .u8 4, .int .u8 1, .int .u8 2, .int .u8 2, .int .u8 8, .int .u8 1] 5)).drew = Y := ⟨_, rfl⟩
  have bY : Below X.heap.size X Y := hY ▸ (below_alloc X _).drew
  have cY := HCY.out X
  rw [hY] at cY
  try rw [hY]
  have HM := hide (HM.out.grow bY)
  have HZ := hide (HZ.out.grow bY)
  have HX := hide (HX.out.grow bY)
  have HB := hide (HB.out.carry bY)
  have HQX := hide (HQX.out.grow bY)
  have HBX := hide (below_one HBX.out bY)
  clear bY
  have hS : Hid (Y.cell? ⟨A.sb.1, 0, none⟩ = some (.pointer (some ⟨A.g, 0, none⟩)) ∧ Y.cell? ⟨w.heap.size, 3, none⟩ = some (.int .u16 (m.op : Int)) ∧ Y.cell? ⟨w.heap.size, 5, none⟩ = some (.int .u64 (m.p : Int)) ∧ Y.cell? ⟨w.heap.size, 6, none⟩ = some (.int .u32 (m.o : Int)) ∧ Y.cell? ⟨w.heap.size, 7, none⟩ = some (.int .u8 (m.r : Int)) ∧ Y.cell? ⟨w.heap.size, 8, none⟩ = some (.int .u64 (m.c : Int))) := ⟨HX.out.bx.c0, HM.out.all.2.2.2.1, HM.out.all.2.2.2.2.2.1, HM.out.all.2.2.2.2.2.2.1, HM.out.all.2.2.2.2.2.2.2.1, HM.out.all.2.2.2.2.2.2.2.2.1⟩
  refine hKK.out _ _ hS.out (fun _ => ?_)
  clear hKK
  refine wpAnyH_take (i := 10) (oi := { dst := some 81, op := Go.Op.indexAddr 23 (Go.Operand.tmp 77) (Go.Operand.tmp 80), type := 0, pos := "law.go:166", after := #[{ on := 6, ground := Go.Ground.data }, { on := 9, ground := Go.Ground.data }], guard := none }) (v := (.pointer (some ⟨X.heap.size, j, none⟩))) rfl (by kernel_rfl) (by kernel_rfl) (by kernel_rfl) (fun _ _ _ h => h) (Or.inl ⟨by kernel_rfl, fun w hC => by go_simp⟩) hS.out ?_
  simp only [Act.put, List.setIfInBounds_toArray, List.set_cons_zero, List.set_cons_succ]
  refine wpAnyH_ready (rs := [11]) (by kernel_rfl) (by simp) ?_
  refine AllReadyH.cons (o := { dst := some 82, op := Go.Op.load 5 (Go.Operand.tmp 81), type := 5, pos := "law.go:166", after := #[{ on := 10, ground := Go.Ground.data }], guard := none }) rfl (fun KK hKK => ?_) AllReadyH.nil
  go_simp
  have hS : Hid (Y.cell? ⟨A.sb.1, 0, none⟩ = some (.pointer (some ⟨A.g, 0, none⟩)) ∧ Y.cell? ⟨w.heap.size, 3, none⟩ = some (.int .u16 (m.op : Int)) ∧ Y.cell? ⟨w.heap.size, 5, none⟩ = some (.int .u64 (m.p : Int)) ∧ Y.cell? ⟨w.heap.size, 6, none⟩ = some (.int .u32 (m.o : Int)) ∧ Y.cell? ⟨w.heap.size, 7, none⟩ = some (.int .u8 (m.r : Int)) ∧ Y.cell? ⟨w.heap.size, 8, none⟩ = some (.int .u64 (m.c : Int))) := ⟨HX.out.bx.c0, HM.out.all.2.2.2.1, HM.out.all.2.2.2.2.2.1, HM.out.all.2.2.2.2.2.2.1, HM.out.all.2.2.2.2.2.2.2.1, HM.out.all.2.2.2.2.2.2.2.2.1⟩
  refine hKK.out _ _ hS.out (fun _ => ?_)
  clear hKK
  refine wpAnyH_ready (rs := [12]) (by kernel_rfl) (by simp) ?_
  refine AllReadyH.cons (o := { dst := some 83, op := Go.Op.call { callee := Go.Callee.value (Go.Operand.func 34), args := #[Go.Operand.tmp 74, Go.Operand.tmp 76, Go.Operand.tmp 82], argTypes := #[30, 40, 5] }, type := 99, pos := "law.go:166", after := #[{ on := 3, ground := Go.Ground.data }, { on := 5, ground := Go.Ground.data }, { on := 11, ground := Go.Ground.data }], guard := none }) rfl (fun KK hKK => ?_) AllReadyH.nil
  go_simp
  refine (tbk_check ⟨m.p, m.o, m.r, m.c⟩ nd _ HX.out HQ.out.c HND.out (by have := HLI.out.el; omega) K HK.out).mono ?_; rw [HER.out]; rintro e w2 ⟨rfl, E⟩
  have kh := HX.out.khK E
  have HM := hide (HM.out.kh kh)
  have HZ := hide (HZ.out.kh kh)
  have HB := hide (Bts.sv HB.out HQX.out.d HX.out E.end)
  have HQX : Hid (Okm w0 w2 m so sn) := ⟨HQX.out.c, HQX.out.o, HQX.out.a, HQX.out.n, HQX.out.d.kh kh⟩
  have HE := hide (E.from HBX.out)
  have bx0 : w2.cell? ⟨A.sb.1, 0, none⟩ = some (.pointer (some ⟨A.g, 0, none⟩)) := by
    obtain ⟨_, _, X2, _⟩ := E
    exact X2.bx.c0
  clear kh E
  have hS : Hid (w2.cell? ⟨A.sb.1, 0, none⟩ = some (.pointer (some ⟨A.g, 0, none⟩)) ∧ w2.cell? ⟨w.heap.size, 3, none⟩ = some (.int .u16 (m.op : Int)) ∧ w2.cell? ⟨w.heap.size, 5, none⟩ = some (.int .u64 (m.p : Int)) ∧ w2.cell? ⟨w.heap.size, 6, none⟩ = some (.int .u32 (m.o : Int)) ∧ w2.cell? ⟨w.heap.size, 7, none⟩ = some (.int .u8 (m.r : Int)) ∧ w2.cell? ⟨w.heap.size, 8, none⟩ = some (.int .u64 (m.c : Int))) := ⟨bx0, HM.out.all.2.2.2.1, HM.out.all.2.2.2.2.2.1, HM.out.all.2.2.2.2.2.2.1, HM.out.all.2.2.2.2.2.2.2.1, HM.out.all.2.2.2.2.2.2.2.2.1⟩
  refine hKK.out _ _ hS.out (fun _ => ?_)
  clear hKK
  refine wpAnyH_take (i := 13) (oi := { dst := some 70, op := Go.Op.move (Go.Operand.tmp 83), type := 99, pos := "law.go:166", after := #[{ on := 12, ground := Go.Ground.data }], guard := none }) (v := (.tuple #[.int .i64 (K.k : Int), er])) rfl (by kernel_rfl) (by kernel_rfl) (by kernel_rfl) (fun _ _ _ h => h) (Or.inl ⟨by kernel_rfl, fun w hC => by go_simp⟩) hS.out ?_
  simp only [Act.put, List.setIfInBounds_toArray, List.set_cons_zero, List.set_cons_succ]
  refine wpAnyH_take (i := 14) (oi := { dst := some 84, op := Go.Op.extract (Go.Operand.tmp 70) 0, type := 3, pos := "law.go:166", after := #[{ on := 13, ground := Go.Ground.data }], guard := none }) (v := (.int .i64 (K.k : Int))) rfl (by kernel_rfl) (by kernel_rfl) (by kernel_rfl) (fun _ _ _ h => h) (Or.inl ⟨by kernel_rfl, fun w hC => by go_simp⟩) hS.out ?_
  simp only [Act.put, List.setIfInBounds_toArray, List.set_cons_zero, List.set_cons_succ]
  refine wpAnyH_take (i := 15) (oi := { dst := some 85, op := Go.Op.extract (Go.Operand.tmp 70) 1, type := 42, pos := "law.go:166", after := #[{ on := 13, ground := Go.Ground.data }, { on := 16, ground := Go.Ground.gcOnly Go.Departure.lateStores }], guard := none }) (v := er) rfl (by kernel_rfl) (by kernel_rfl) (by kernel_rfl) (fun _ _ _ h => h) (Or.inl ⟨by kernel_rfl, fun w hC => by go_simp⟩) hS.out ?_
  simp only [Act.put, List.setIfInBounds_toArray, List.set_cons_zero, List.set_cons_succ]
  refine wpAnyH_take (i := 16) (oi := { dst := some 11, op := Go.Op.assign (Go.Operand.tmp 84), type := 3, pos := "law.go:166", after := #[{ on := 14, ground := Go.Ground.data }, { on := 12, ground := Go.Ground.chain }, { on := 0, ground := Go.Ground.phase }, { on := 1, ground := Go.Ground.phase }, { on := 2, ground := Go.Ground.phase }, { on := 3, ground := Go.Ground.phase }, { on := 4, ground := Go.Ground.phase }, { on := 5, ground := Go.Ground.phase }, { on := 6, ground := Go.Ground.phase }, { on := 7, ground := Go.Ground.phase }, { on := 8, ground := Go.Ground.phase }, { on := 9, ground := Go.Ground.phase }, { on := 10, ground := Go.Ground.phase }, { on := 11, ground := Go.Ground.phase }, { on := 12, ground := Go.Ground.phase }, { on := 13, ground := Go.Ground.phase }, { on := 14, ground := Go.Ground.phase }, { on := 15, ground := Go.Ground.textOnly Go.Departure.lateStores }], guard := none }) (v := (.int .i64 (K.k : Int))) rfl (by kernel_rfl) (by kernel_rfl) (by kernel_rfl) (fun _ _ _ h => h) (Or.inl ⟨by kernel_rfl, fun w hC => by go_simp⟩) hS.out ?_
  simp only [Act.put, List.setIfInBounds_toArray, List.set_cons_zero, List.set_cons_succ]
  refine wpAnyH_take (i := 17) (oi := { dst := some 12, op := Go.Op.assign (Go.Operand.tmp 85), type := 42, pos := "law.go:166", after := #[{ on := 15, ground := Go.Ground.data }, { on := 16, ground := Go.Ground.chain }, { on := 0, ground := Go.Ground.phase }, { on := 1, ground := Go.Ground.phase }, { on := 2, ground := Go.Ground.phase }, { on := 3, ground := Go.Ground.phase }, { on := 4, ground := Go.Ground.phase }, { on := 5, ground := Go.Ground.phase }, { on := 6, ground := Go.Ground.phase }, { on := 7, ground := Go.Ground.phase }, { on := 8, ground := Go.Ground.phase }, { on := 9, ground := Go.Ground.phase }, { on := 10, ground := Go.Ground.phase }, { on := 11, ground := Go.Ground.phase }, { on := 12, ground := Go.Ground.phase }, { on := 13, ground := Go.Ground.phase }, { on := 14, ground := Go.Ground.phase }, { on := 15, ground := Go.Ground.phase }, { on := 16, ground := Go.Ground.phase }], guard := none }) (v := er) rfl (by kernel_rfl) (by kernel_rfl) (by kernel_rfl) (fun _ _ _ h => h) (Or.inl ⟨by kernel_rfl, fun w hC => by go_simp⟩) hS.out ?_
  simp only [Act.put, List.setIfInBounds_toArray, List.set_cons_zero, List.set_cons_succ]
  refine wpAnyH_done (by kernel_rfl) ?_ _
  obtain ⟨k0, k1, k2, k3, k4, k5, k6, k7, k8, k9, k10⟩ := HM.out.all
  obtain ⟨tE, hE⟩ : ∃ v, er = .iface 47 v := ⟨_, by rw [← HER.out]; exact erN_not (by have := H0.out; omega)⟩
  subst hE
  obtain ⟨m2, h2⟩ : ∃ m2, (⟨m.rp, m.ta, m.id, m.op, K.e, 0, 0, 0, 0, 0⟩ : Msg) = m2 := ⟨_, rfl⟩
  have hf := fun W (hM : MB W w.heap.size m (.slice so sn sc)) hW => wfail_any m (.slice so sn sc) (K.e) W hM (HEL.out) hW m2 h2
  rw [HER.out] at hf
  have HF := hide hf
  clear hf
  go_wp2_with fail
  refine (HF.out _ HM.out (HE.out.end.glob HG.out)).mono ?_; rintro e w6 ⟨co2, cc2, rfl, B6, b6⟩
  have HB6 := hide B6
  have HZ6 := hide (HZ.out.grow b6)
  have HE6 := hide (HE.out.to b6)
  have HM2 : Hid (m2 = rplF m (badF (s.tab K.t K.es s.T) K.e)) := by show _ = _; rw [rplb, ← h2]
  clear B6 b6 h2 k0 k1 k2 k3 k4 k5 k6 k7 k8 k9 k10
  have HZL := hide (HZ6.out.lay (m := m2) (D := .slice co2 0 cc2))
  have f7 := foot_lay11 w6 (w.heap.size + 1) m2 (.slice co2 0 cc2)
  have HE7 := hide (HE6.out.msg HW0.out HZ6.out (by omega) f7)
  have HB7 : Hid (Bts (lay11 w6 (w.heap.size + 1) m2 (.slice co2 0 cc2)) co2 0 cc2 []) := bts_none HB6.out
  obtain ⟨w7, hw7⟩ : ∃ w7, lay11 w6 (w.heap.size + 1) m2 (.slice co2 0 cc2) = w7 := ⟨_, rfl⟩
  rw [hw7] at HZL HE7 HB7
  unfold lay11 at hw7
  clear f7
  obtain ⟨v0, v1, v2, v3, v4, v5, v6, v7, v8, v9, v10⟩ := HZL.out.all
  obtain ⟨z0, z1, z2, z3, z4, z5, z6, z7, z8, z9, z10⟩ := HZ6.out.all
  have x0 := HZ6.out.z 0
  have x1 := HZ6.out.z 1
  have x2 := HZ6.out.z 2
  have x3 := HZ6.out.z 3
  have x4 := HZ6.out.z 4
  have x5 := HZ6.out.z 5
  have x6 := HZ6.out.z 6
  have x7 := HZ6.out.z 7
  have x8 := HZ6.out.z 8
  have x9 := HZ6.out.z 9
  have x10 := HZ6.out.z 10
  go_wp2
  refine bodyPost_ret (by simp [results, Tryz.results19, go_sem, v0, v1, v2, v3, v4, v5, v6, v7, v8, v9, v10]; rfl) rfl ?_
  exact ⟨m2, co2, 0, cc2, HM2.out, rfl, by rw [dat_bad]; exact HB7.out, .inl (dat_bad _ _ _), HE7.out⟩
set_option maxRecDepth 20000 in
set_option maxHeartbeats 12800000 in
theorem want_do (m : Msg) (so : Option Addr) (sn sc : Nat) (l : List UInt8) (w : World) (h : A.sb.2 = true) (x : Sv w0 w A p ws s) (hd : A.dv ≠ none) (hb : Bts w so sn sc l) (q : Okm w0 w m so sn) (li : Lim s) (hg : Glob w0) (hop : 100 ≤ m.op ∧ m.op ≤ 105) (K : Chk) (hK : chkF ws s.t s.es p s.T ⟨m.p, m.o, m.r, m.c⟩ (needN m.op) = K) (h0 : K.e = 0) (ht : s.L ((s.n + 1 : Nat) : Int) = []) (vl : Int) (hvl : (s.T K.k).v = vl) (RF : Ro) (hRF : doF ws p (s.tab K.t K.es s.T) m.op vl m.ar l = RF) :
    Calls Tryz.prog 19 #[.pointer (some ⟨A.sb.1, 0, none⟩), .agg #[.int .u64 m.ta, .int .u64 m.rp, .int .u32 m.id, .int .u16 m.op, .int .u16 m.st, .int .u64 m.p, .int .u32 m.o, .int .u8 m.r, .int .u64 m.c, .int .u64 m.ar, .slice so sn sc]] w fun e w' => RplK w0 w A p ws m RF l e w' := by
  have hmf : ∀ (fn : Fn) (first cap : Array Value) (w : World), (Instr.makeFunc fn first cap).run Tryz.prog w = .ok (.func fn first cap) w := fun _ _ _ _ => rfl
  obtain ⟨X, hX, bm, bz, bX⟩ := rep_vars w m (.slice so sn sc)
  have HS := hide h
  have HX := hide (x.grow bX)
  have HD := hide hd
  have HB := hide (hb.carry bX)
  have HM := hide bm
  have HZ := hide bz
  have HBX := hide bX
  have HW0 : Hid (w0.heap.size ≤ w.heap.size) := x.bel.size
  have HQ := hide q
  have HQX := hide (q.grow bX)
  have HLI := hide li
  have HG := hide hg
  have n5 : ((m.op : Int) == 5) = false := by rw [beq_eq_false_iff_ne]; omega
  have n105 : ¬ (105 : Int) < (m.op : Int) := by omega
  have HOP := hide hop
  obtain ⟨nd, hnd⟩ : ∃ q, needN m.op = q := ⟨_, rfl⟩
  have hnd255 : nd ≤ 255 := by rw [← hnd]; exact needN_le _
  rw [hnd] at hK
  obtain ⟨j, hj⟩ : ∃ j, m.op = 100 + j := ⟨m.op - 100, by omega⟩
  have hj6 : j < 6 := by omega
  have hj6i : (j : Int) < 6 := by omega
  have hj0 : (0 : Int) ≤ (j : Int) := by omega
  have hwk : IntKind.u16.wrap ((m.op : Int) - 100) = (j : Int) := by rw [IntKind.wrap_u16]; omega
  have HK := hide hK
  have H0 := hide h0
  have HEL : Hid (K.e ≤ 65535) := by show _ ≤ _; have := chk_err ws s.t s.es p s.T ⟨m.p, m.o, m.r, m.c⟩ nd; rw [hK] at this; omega
  obtain ⟨er, her⟩ : ∃ er, erN (K.e : Int) = er := ⟨_, rfl⟩
  have HER := hide her
  have HND := hide hnd255
  have HH : Hid (hasO s.T K.k = true) := by
    have e := chk_has (hK ▸ h0)
    show hasO s.T K.k = true
    rw [← hK, e.2.2]; exact e.1
  have HLN : Hid (K.es.length ≤ s.es.length + 1) := by show _ ≤ _; have := chk_len ws s.t s.es p s.T ⟨m.p, m.o, m.r, m.c⟩ nd; rw [hK] at this; exact this
  have HTOP := hide ht
  have HCY : Hid (∀ W : World, (W.alloc (.cells #[.int .u8 4, .int .u8 1, .int .u8 2, .int .u8 2, .int .u8 8, .int .u8 1] 5)).drew.cell? ⟨W.heap.size, j, none⟩ = some (.int .u8 (nd : Int))) := fun W => by
    show (W.alloc _).cell? _ = _
    rw [cell_of_row _ _ _ _ _ _ (heap_alloc_new _ _), ← hnd, hj]
    rcases j with _ | _ | _ | _ | _ | _ | j
    all_goals first | rfl | omega
  obtain ⟨k0, k1, k2, k3, k4, k5, k6, k7, k8, k9, k10⟩ := HM.out.all
  have c0 := HX.out.bx.c0
  clear bm bz bX x hb q li hg h hd hop hK h0 her hnd hj hnd255 ht
  have HVL := hide hvl
  have HVI : Hid (I64 vl) := by show I64 _; rw [← hvl]; exact HLI.out.vl _
  have HRF := hide hRF
  have HRL : Hid (RF.e ≤ 65535) := by show _ ≤ _; rw [← hRF]; exact doF_err _ _ _ _ _ _ _
  have HAR : Hid (RF.ar = 0) := by show _ = _; rw [← hRF]; exact do_ar _ _ _ _ _ _ _
  obtain ⟨e2, he2⟩ : ∃ er, erN (RF.e : Int) = er := ⟨_, rfl⟩
  have HEE := hide he2
  obtain ⟨⟨qp, qo, qr, qc⟩, hq⟩ : ∃ q, RF.c = q := ⟨_, rfl⟩
  have HQQ := hide hq
  clear hvl hRF he2 hq
  go_enter Tryz.func19, Tryz.ntmps19
  go_wp2_with fail
  have hS : Hid (X.drew.cell? ⟨A.sb.1, 0, none⟩ = some (.pointer (some ⟨A.g, 0, none⟩)) ∧ X.drew.cell? ⟨w.heap.size, 3, none⟩ = some (.int .u16 (m.op : Int)) ∧ X.drew.cell? ⟨w.heap.size, 5, none⟩ = some (.int .u64 (m.p : Int)) ∧ X.drew.cell? ⟨w.heap.size, 6, none⟩ = some (.int .u32 (m.o : Int)) ∧ X.drew.cell? ⟨w.heap.size, 7, none⟩ = some (.int .u8 (m.r : Int)) ∧ X.drew.cell? ⟨w.heap.size, 8, none⟩ = some (.int .u64 (m.c : Int))) := ⟨c0, HM.out.all.2.2.2.1, HM.out.all.2.2.2.2.2.1, HM.out.all.2.2.2.2.2.2.1, HM.out.all.2.2.2.2.2.2.2.1, HM.out.all.2.2.2.2.2.2.2.2.1⟩
  refine wp_region_held_drew (S := fun U => U.cell? ⟨A.sb.1, 0, none⟩ = some (.pointer (some ⟨A.g, 0, none⟩)) ∧ U.cell? ⟨w.heap.size, 3, none⟩ = some (.int .u16 (m.op : Int)) ∧ U.cell? ⟨w.heap.size, 5, none⟩ = some (.int .u64 (m.p : Int)) ∧ U.cell? ⟨w.heap.size, 6, none⟩ = some (.int .u32 (m.o : Int)) ∧ U.cell? ⟨w.heap.size, 7, none⟩ = some (.int .u8 (m.r : Int)) ∧ U.cell? ⟨w.heap.size, 8, none⟩ = some (.int .u64 (m.c : Int))) (by kernel_rfl) hS.out (fun _ => ?_)
  refine wpAnyH_take (i := 0) (oi := { dst := some 71, op := Go.Op.move (Go.Operand.tmp 0), type := 33, pos := "law.go:166", after := #[], guard := none }) (v := (.pointer (some ⟨A.sb.1, 0, none⟩))) rfl (by kernel_rfl) (by kernel_rfl) (by kernel_rfl) (fun _ _ _ h => h) (Or.inl ⟨by kernel_rfl, fun w hC => by go_simp⟩) hS.out ?_
  simp only [Act.put, List.setIfInBounds_toArray, List.set_cons_zero, List.set_cons_succ]
  refine wpAnyH_take (i := 1) (oi := { dst := some 72, op := Go.Op.nilCheck (Go.Operand.tmp 71), type := 0, pos := "law.go:166", after := #[{ on := 0, ground := Go.Ground.data }], guard := none }) (v := (.pointer (some ⟨A.sb.1, 0, none⟩))) rfl (by kernel_rfl) (by kernel_rfl) (by kernel_rfl) (fun _ _ _ h => h) (Or.inl ⟨by kernel_rfl, fun w hC => by go_simp⟩) hS.out ?_
  simp only [Act.put, List.setIfInBounds_toArray, List.set_cons_zero, List.set_cons_succ]
  refine wpAnyH_take (i := 2) (oi := { dst := some 73, op := Go.Op.fieldAddr 36 (Go.Operand.tmp 72) 0, type := 0, pos := "law.go:166", after := #[{ on := 1, ground := Go.Ground.data }], guard := none }) (v := (.pointer (some ⟨A.sb.1, 0, none⟩))) rfl (by kernel_rfl) (by kernel_rfl) (by kernel_rfl) (fun _ _ _ h => h) (Or.inl ⟨by kernel_rfl, fun w hC => by go_simp⟩) hS.out ?_
  simp only [Act.put, List.setIfInBounds_toArray, List.set_cons_zero, List.set_cons_succ]
  refine wpAnyH_take (i := 3) (oi := { dst := some 74, op := Go.Op.load 30 (Go.Operand.tmp 73), type := 30, pos := "law.go:166", after := #[{ on := 2, ground := Go.Ground.data }], guard := none }) (v := (.pointer (some ⟨A.g, 0, none⟩))) rfl (by kernel_rfl) (by kernel_rfl) (by kernel_rfl) (fun _ _ _ h => h) (Or.inl ⟨by kernel_rfl, fun w hC => by (obtain ⟨e0, e3, e5, e6, e7, e8⟩ := hC; go_simp)⟩) hS.out ?_
  simp only [Act.put, List.setIfInBounds_toArray, List.set_cons_zero, List.set_cons_succ]
  refine wpAnyH_take (i := 4) (oi := { dst := some 75, op := Go.Op.fieldAddr 55 (Go.Operand.tmp 3) 5, type := 0, pos := "law.go:166", after := #[], guard := none }) (v := (.pointer (some ⟨w.heap.size, 5, none⟩))) rfl (by kernel_rfl) (by kernel_rfl) (by kernel_rfl) (fun _ _ _ h => h) (Or.inl ⟨by kernel_rfl, fun w hC => by go_simp⟩) hS.out ?_
  simp only [Act.put, List.setIfInBounds_toArray, List.set_cons_zero, List.set_cons_succ]
  refine wpAnyH_take (i := 5) (oi := { dst := some 76, op := Go.Op.load 40 (Go.Operand.tmp 75), type := 40, pos := "law.go:166", after := #[{ on := 4, ground := Go.Ground.data }], guard := none }) (v := (.agg #[.int .u64 (m.p : Int), .int .u32 (m.o : Int), .int .u8 (m.r : Int), .int .u64 (m.c : Int)])) rfl (by kernel_rfl) (by kernel_rfl) (by kernel_rfl) (fun _ _ _ h => h) (Or.inl ⟨by kernel_rfl, fun w hC => by (obtain ⟨e0, e3, e5, e6, e7, e8⟩ := hC; go_simp)⟩) hS.out ?_
  simp only [Act.put, List.setIfInBounds_toArray, List.set_cons_zero, List.set_cons_succ]
  refine wpAnyH_take (i := 7) (oi := { dst := some 78, op := Go.Op.fieldAddr 55 (Go.Operand.tmp 3) 3, type := 0, pos := "law.go:166", after := #[], guard := none }) (v := (.pointer (some ⟨w.heap.size, 3, none⟩))) rfl (by kernel_rfl) (by kernel_rfl) (by kernel_rfl) (fun _ _ _ h => h) (Or.inl ⟨by kernel_rfl, fun w hC => by go_simp⟩) hS.out ?_
  simp only [Act.put, List.setIfInBounds_toArray, List.set_cons_zero, List.set_cons_succ]
  refine wpAnyH_take (i := 8) (oi := { dst := some 79, op := Go.Op.load 51 (Go.Operand.tmp 78), type := 51, pos := "law.go:166", after := #[{ on := 7, ground := Go.Ground.data }], guard := none }) (v := (.int .u16 (m.op : Int))) rfl (by kernel_rfl) (by kernel_rfl) (by kernel_rfl) (fun _ _ _ h => h) (Or.inl ⟨by kernel_rfl, fun w hC => by (obtain ⟨e0, e3, e5, e6, e7, e8⟩ := hC; go_simp)⟩) hS.out ?_
  simp only [Act.put, List.setIfInBounds_toArray, List.set_cons_zero, List.set_cons_succ]
  refine wpAnyH_take (i := 9) (oi := { dst := some 80, op := Go.Op.binOp Go.BinOp.sub 51 (Go.Operand.tmp 79) (Go.Operand.const (Go.Value.int Go.IntKind.u16 100)) 51, type := 51, pos := "law.go:166", after := #[{ on := 8, ground := Go.Ground.data }], guard := none }) (v := (.int .u16 (j : Int))) rfl (by kernel_rfl) (by kernel_rfl) (by kernel_rfl) (fun _ _ _ h => h) (Or.inl ⟨by kernel_rfl, fun w hC => by go_simp⟩) hS.out ?_
  simp only [Act.put, List.setIfInBounds_toArray, List.set_cons_zero, List.set_cons_succ]
  refine wpAnyH_ready (rs := [6]) (by kernel_rfl) (by simp) ?_
  refine AllReadyH.cons (o := { dst := some 77, op := Go.Op.buildSlice 23 6 #[(0, Go.Operand.const (Go.Value.int Go.IntKind.u8 4)), (1, Go.Operand.const (Go.Value.int Go.IntKind.u8 1)), (2, Go.Operand.const (Go.Value.int Go.IntKind.u8 2)), (3, Go.Operand.const (Go.Value.int Go.IntKind.u8 2)), (4, Go.Operand.const (Go.Value.int Go.IntKind.u8 8)), (5, Go.Operand.const (Go.Value.int Go.IntKind.u8 1))], type := 23, pos := "law.go:166", after := #[], guard := none }) rfl (fun KK hKK => ?_) AllReadyH.nil
  go_simp
  obtain ⟨Y, hY⟩ : ∃ Y, (X.alloc (.cells #[.int .u8 4, .int .u8 1, .int .u8 2, .int .u8 2, .int .u8 8, .int .u8 1] 5)).drew = Y := ⟨_, rfl⟩
  have bY : Below X.heap.size X Y := hY ▸ (below_alloc X _).drew
  have cY := HCY.out X
  rw [hY] at cY
  try rw [hY]
  have HM := hide (HM.out.grow bY)
  have HZ := hide (HZ.out.grow bY)
  have HX := hide (HX.out.grow bY)
  have HB := hide (HB.out.carry bY)
  have HQX := hide (HQX.out.grow bY)
  have HBX := hide (below_one HBX.out bY)
  clear bY
  have hS : Hid (Y.cell? ⟨A.sb.1, 0, none⟩ = some (.pointer (some ⟨A.g, 0, none⟩)) ∧ Y.cell? ⟨w.heap.size, 3, none⟩ = some (.int .u16 (m.op : Int)) ∧ Y.cell? ⟨w.heap.size, 5, none⟩ = some (.int .u64 (m.p : Int)) ∧ Y.cell? ⟨w.heap.size, 6, none⟩ = some (.int .u32 (m.o : Int)) ∧ Y.cell? ⟨w.heap.size, 7, none⟩ = some (.int .u8 (m.r : Int)) ∧ Y.cell? ⟨w.heap.size, 8, none⟩ = some (.int .u64 (m.c : Int))) := ⟨HX.out.bx.c0, HM.out.all.2.2.2.1, HM.out.all.2.2.2.2.2.1, HM.out.all.2.2.2.2.2.2.1, HM.out.all.2.2.2.2.2.2.2.1, HM.out.all.2.2.2.2.2.2.2.2.1⟩
  refine hKK.out _ _ hS.out (fun _ => ?_)
  clear hKK
  refine wpAnyH_take (i := 10) (oi := { dst := some 81, op := Go.Op.indexAddr 23 (Go.Operand.tmp 77) (Go.Operand.tmp 80), type := 0, pos := "law.go:166", after := #[{ on := 6, ground := Go.Ground.data }, { on := 9, ground := Go.Ground.data }], guard := none }) (v := (.pointer (some ⟨X.heap.size, j, none⟩))) rfl (by kernel_rfl) (by kernel_rfl) (by kernel_rfl) (fun _ _ _ h => h) (Or.inl ⟨by kernel_rfl, fun w hC => by go_simp⟩) hS.out ?_
  simp only [Act.put, List.setIfInBounds_toArray, List.set_cons_zero, List.set_cons_succ]
  refine wpAnyH_ready (rs := [11]) (by kernel_rfl) (by simp) ?_
  refine AllReadyH.cons (o := { dst := some 82, op := Go.Op.load 5 (Go.Operand.tmp 81), type := 5, pos := "law.go:166", after := #[{ on := 10, ground := Go.Ground.data }], guard := none }) rfl (fun KK hKK => ?_) AllReadyH.nil
  go_simp
  have hS : Hid (Y.cell? ⟨A.sb.1, 0, none⟩ = some (.pointer (some ⟨A.g, 0, none⟩)) ∧ Y.cell? ⟨w.heap.size, 3, none⟩ = some (.int .u16 (m.op : Int)) ∧ Y.cell? ⟨w.heap.size, 5, none⟩ = some (.int .u64 (m.p : Int)) ∧ Y.cell? ⟨w.heap.size, 6, none⟩ = some (.int .u32 (m.o : Int)) ∧ Y.cell? ⟨w.heap.size, 7, none⟩ = some (.int .u8 (m.r : Int)) ∧ Y.cell? ⟨w.heap.size, 8, none⟩ = some (.int .u64 (m.c : Int))) := ⟨HX.out.bx.c0, HM.out.all.2.2.2.1, HM.out.all.2.2.2.2.2.1, HM.out.all.2.2.2.2.2.2.1, HM.out.all.2.2.2.2.2.2.2.1, HM.out.all.2.2.2.2.2.2.2.2.1⟩
  refine hKK.out _ _ hS.out (fun _ => ?_)
  clear hKK
  refine wpAnyH_ready (rs := [12]) (by kernel_rfl) (by simp) ?_
  refine AllReadyH.cons (o := { dst := some 83, op := Go.Op.call { callee := Go.Callee.value (Go.Operand.func 34), args := #[Go.Operand.tmp 74, Go.Operand.tmp 76, Go.Operand.tmp 82], argTypes := #[30, 40, 5] }, type := 99, pos := "law.go:166", after := #[{ on := 3, ground := Go.Ground.data }, { on := 5, ground := Go.Ground.data }, { on := 11, ground := Go.Ground.data }], guard := none }) rfl (fun KK hKK => ?_) AllReadyH.nil
  go_simp
  refine (tbk_check ⟨m.p, m.o, m.r, m.c⟩ nd _ HX.out HQ.out.c HND.out (by have := HLI.out.el; omega) K HK.out).mono ?_; rw [HER.out]; rintro e w2 ⟨rfl, E⟩
  have kh := HX.out.khK E
  have HM := hide (HM.out.kh kh)
  have HZ := hide (HZ.out.kh kh)
  have HB := hide (Bts.sv HB.out HQX.out.d HX.out E.end)
  have HQX : Hid (Okm w0 w2 m so sn) := ⟨HQX.out.c, HQX.out.o, HQX.out.a, HQX.out.n, HQX.out.d.kh kh⟩
  have HE := hide (E.from HBX.out)
  have bx0 : w2.cell? ⟨A.sb.1, 0, none⟩ = some (.pointer (some ⟨A.g, 0, none⟩)) := by
    obtain ⟨_, _, X2, _⟩ := E
    exact X2.bx.c0
  clear kh E
  have hS : Hid (w2.cell? ⟨A.sb.1, 0, none⟩ = some (.pointer (some ⟨A.g, 0, none⟩)) ∧ w2.cell? ⟨w.heap.size, 3, none⟩ = some (.int .u16 (m.op : Int)) ∧ w2.cell? ⟨w.heap.size, 5, none⟩ = some (.int .u64 (m.p : Int)) ∧ w2.cell? ⟨w.heap.size, 6, none⟩ = some (.int .u32 (m.o : Int)) ∧ w2.cell? ⟨w.heap.size, 7, none⟩ = some (.int .u8 (m.r : Int)) ∧ w2.cell? ⟨w.heap.size, 8, none⟩ = some (.int .u64 (m.c : Int))) := ⟨bx0, HM.out.all.2.2.2.1, HM.out.all.2.2.2.2.2.1, HM.out.all.2.2.2.2.2.2.1, HM.out.all.2.2.2.2.2.2.2.1, HM.out.all.2.2.2.2.2.2.2.2.1⟩
  refine hKK.out _ _ hS.out (fun _ => ?_)
  clear hKK
  refine wpAnyH_take (i := 13) (oi := { dst := some 70, op := Go.Op.move (Go.Operand.tmp 83), type := 99, pos := "law.go:166", after := #[{ on := 12, ground := Go.Ground.data }], guard := none }) (v := (.tuple #[.int .i64 (K.k : Int), er])) rfl (by kernel_rfl) (by kernel_rfl) (by kernel_rfl) (fun _ _ _ h => h) (Or.inl ⟨by kernel_rfl, fun w hC => by go_simp⟩) hS.out ?_
  simp only [Act.put, List.setIfInBounds_toArray, List.set_cons_zero, List.set_cons_succ]
  refine wpAnyH_take (i := 14) (oi := { dst := some 84, op := Go.Op.extract (Go.Operand.tmp 70) 0, type := 3, pos := "law.go:166", after := #[{ on := 13, ground := Go.Ground.data }], guard := none }) (v := (.int .i64 (K.k : Int))) rfl (by kernel_rfl) (by kernel_rfl) (by kernel_rfl) (fun _ _ _ h => h) (Or.inl ⟨by kernel_rfl, fun w hC => by go_simp⟩) hS.out ?_
  simp only [Act.put, List.setIfInBounds_toArray, List.set_cons_zero, List.set_cons_succ]
  refine wpAnyH_take (i := 15) (oi := { dst := some 85, op := Go.Op.extract (Go.Operand.tmp 70) 1, type := 42, pos := "law.go:166", after := #[{ on := 13, ground := Go.Ground.data }, { on := 16, ground := Go.Ground.gcOnly Go.Departure.lateStores }], guard := none }) (v := er) rfl (by kernel_rfl) (by kernel_rfl) (by kernel_rfl) (fun _ _ _ h => h) (Or.inl ⟨by kernel_rfl, fun w hC => by go_simp⟩) hS.out ?_
  simp only [Act.put, List.setIfInBounds_toArray, List.set_cons_zero, List.set_cons_succ]
  refine wpAnyH_take (i := 16) (oi := { dst := some 11, op := Go.Op.assign (Go.Operand.tmp 84), type := 3, pos := "law.go:166", after := #[{ on := 14, ground := Go.Ground.data }, { on := 12, ground := Go.Ground.chain }, { on := 0, ground := Go.Ground.phase }, { on := 1, ground := Go.Ground.phase }, { on := 2, ground := Go.Ground.phase }, { on := 3, ground := Go.Ground.phase }, { on := 4, ground := Go.Ground.phase }, { on := 5, ground := Go.Ground.phase }, { on := 6, ground := Go.Ground.phase }, { on := 7, ground := Go.Ground.phase }, { on := 8, ground := Go.Ground.phase }, { on := 9, ground := Go.Ground.phase }, { on := 10, ground := Go.Ground.phase }, { on := 11, ground := Go.Ground.phase }, { on := 12, ground := Go.Ground.phase }, { on := 13, ground := Go.Ground.phase }, { on := 14, ground := Go.Ground.phase }, { on := 15, ground := Go.Ground.textOnly Go.Departure.lateStores }], guard := none }) (v := (.int .i64 (K.k : Int))) rfl (by kernel_rfl) (by kernel_rfl) (by kernel_rfl) (fun _ _ _ h => h) (Or.inl ⟨by kernel_rfl, fun w hC => by go_simp⟩) hS.out ?_
  simp only [Act.put, List.setIfInBounds_toArray, List.set_cons_zero, List.set_cons_succ]
  refine wpAnyH_take (i := 17) (oi := { dst := some 12, op := Go.Op.assign (Go.Operand.tmp 85), type := 42, pos := "law.go:166", after := #[{ on := 15, ground := Go.Ground.data }, { on := 16, ground := Go.Ground.chain }, { on := 0, ground := Go.Ground.phase }, { on := 1, ground := Go.Ground.phase }, { on := 2, ground := Go.Ground.phase }, { on := 3, ground := Go.Ground.phase }, { on := 4, ground := Go.Ground.phase }, { on := 5, ground := Go.Ground.phase }, { on := 6, ground := Go.Ground.phase }, { on := 7, ground := Go.Ground.phase }, { on := 8, ground := Go.Ground.phase }, { on := 9, ground := Go.Ground.phase }, { on := 10, ground := Go.Ground.phase }, { on := 11, ground := Go.Ground.phase }, { on := 12, ground := Go.Ground.phase }, { on := 13, ground := Go.Ground.phase }, { on := 14, ground := Go.Ground.phase }, { on := 15, ground := Go.Ground.phase }, { on := 16, ground := Go.Ground.phase }], guard := none }) (v := er) rfl (by kernel_rfl) (by kernel_rfl) (by kernel_rfl) (fun _ _ _ h => h) (Or.inl ⟨by kernel_rfl, fun w hC => by go_simp⟩) hS.out ?_
  simp only [Act.put, List.setIfInBounds_toArray, List.set_cons_zero, List.set_cons_succ]
  refine wpAnyH_done (by kernel_rfl) ?_ _
  obtain rfl : er = .nilIface := by rw [← HER.out, H0.out]; rfl
  obtain ⟨v, nv, S1, on1⟩ := SvK.run HE.out
  have HS1 := hide S1
  have HON := hide on1
  have c0b : w2.cell? ⟨A.sb.1, 0, none⟩ = some (.pointer (some ⟨A.g, 0, none⟩)) := S1.bx.c0
  clear S1 on1
  obtain ⟨k0, k1, k2, k3, k4, k5, k6, k7, k8, k9, k10⟩ := HM.out.all
  go_wp2_with fail
  refine (tb_value (A := A.upd v A.dv nv) K.k vl _ HS1.out HH.out HVL.out).mono ?_; rintro e w3 ⟨rfl, hw3⟩; subst hw3
  go_wp2_with fail
  refine (mdo_any (A := A.upd v A.dv nv) vl m so sn sc l _ HS.out HS1.out ⟨HVI.out, by show K.es.length ≤ _; have := HLN.out; have := HLI.out.el; omega, HLI.out.q, HLI.out.n⟩ HD.out HB.out HOP.out HTOP.out).mono ?_; unfold MdoEnd; rw [HRF.out, HEE.out, HQQ.out]; rintro e w4 ⟨co, n4, cc, rfl, B4, N4, n4l, E4⟩
  simp only [Cp.val]
  have kh := HS1.out.khK E4
  have HM := hide (HM.out.kh kh)
  have HZ := hide (HZ.out.kh kh)
  have HE4 := hide (HON.out _ _ E4)
  clear kh E4 c0b k0 k1 k2 k3 k4 k5 k6 k7 k8 k9 k10
  obtain ⟨V, hV⟩ : ∃ V, w4.alloc (.cells #[.int .u64 (qp : Int), .int .u32 (qo : Int), .int .u8 (qr : Int), .int .u64 (qc : Int)] 40) = V := ⟨_, rfl⟩
  have bV : Below w4.heap.size w4 V := hV ▸ below_alloc _ _
  have CV : CBox V w4.heap.size qp qo qr qc := hV ▸ CBox.new w4 qp qo qr qc
  have HM := hide (HM.out.grow bV)
  have HZ := hide (HZ.out.grow bV)
  have HE := hide (HE4.out.to bV)
  have HBR := hide (B4.carry bV)
  have t0 := CV.c0
  have t1 := CV.c1
  have t2 := CV.c2
  have t3 := CV.c3
  have HNN := hide n4l
  clear bV CV B4 N4 n4l HE4
  obtain ⟨k0, k1, k2, k3, k4, k5, k6, k7, k8, k9, k10⟩ := HM.out.all
  by_cases h0 : RF.e = 0
  · obtain rfl : e2 = .nilIface := by rw [← HEE.out, h0]; rfl
    have HR0 := hide h0
    obtain ⟨m2, h2⟩ : ∃ m2, (⟨m.rp, m.ta, m.id, m.op, 0, qp, qo, qr, qc, 0⟩ : Msg) = m2 := ⟨_, rfl⟩
    have ha := fun W hb => answer_own m (.slice so sn sc) 0 qp qo qr qc 0 co n4 cc RF.d W (by omega) hb (by have := HNN.out; omega) m2 h2
    have HA := hide ha
    go_wp2_with fail
    refine (HA.out _ HBR.out).mono ?_; rintro e w6 ⟨co2, cc2, rfl, B6, N6, T6, b6⟩
    have HB6 := hide B6
    have HZ6 := hide (HZ.out.grow b6)
    have HE6 := hide (HE.out.to b6)
    have HN6 := hide N6
    have HT6 := hide T6
    have HS6 : Hid (w.heap.size + 1 < V.heap.size) := lt_of_heap HZ.out
    have HM2 : Hid (m2 = rplF m RF) := by show _ = _; unfold rplF; rw [if_pos HR0.out, HQQ.out, HAR.out]; exact h2.symm
    clear B6 N6 T6 b6 h2 k0 k1 k2 k3 k4 k5 k6 k7 k8 k9 k10 t0 t1 t2 t3 ha h0
    have HZL := hide (HZ6.out.lay (m := m2) (D := .slice co2 n4 cc2))
    have f7 := foot_lay11 w6 (w.heap.size + 1) m2 (.slice co2 n4 cc2)
    have HE7 := hide (HE6.out.msg HW0.out HZ6.out (by omega) f7)
    have HB7 := hide (Bts.foot HB6.out f7 (fun ad e _ (h : ad.block = w.heap.size + 1) => by have := HN6.out ad e; have := HS6.out; omega))
    have HT7 := hide (HT6.out.foot f7 (fun ad e (h : ad.block = w.heap.size + 1) => by have := HN6.out ad e; have := HS6.out; omega))
    obtain ⟨w7, hw7⟩ : ∃ w7, lay11 w6 (w.heap.size + 1) m2 (.slice co2 n4 cc2) = w7 := ⟨_, rfl⟩
    rw [hw7] at HZL HE7 HB7 HT7
    unfold lay11 at hw7
    clear f7
    obtain ⟨v0, v1, v2, v3, v4, v5, v6, v7, v8, v9, v10⟩ := HZL.out.all
    obtain ⟨z0, z1, z2, z3, z4, z5, z6, z7, z8, z9, z10⟩ := HZ6.out.all
    have x0 := HZ6.out.z 0
    have x1 := HZ6.out.z 1
    have x2 := HZ6.out.z 2
    have x3 := HZ6.out.z 3
    have x4 := HZ6.out.z 4
    have x5 := HZ6.out.z 5
    have x6 := HZ6.out.z 6
    have x7 := HZ6.out.z 7
    have x8 := HZ6.out.z 8
    have x9 := HZ6.out.z 9
    have x10 := HZ6.out.z 10
    go_wp2
    refine bodyPost_ret (by simp [results, Tryz.results19, go_sem, v0, v1, v2, v3, v4, v5, v6, v7, v8, v9, v10]; rfl) rfl ?_
    have hdt : datF RF l = RF.d := by unfold datF; rw [if_pos HR0.out]
    exact ⟨m2, co2, n4, cc2, HM2.out, rfl, by rw [hdt]; exact HB7.out, .inr ⟨HN6.out.le (by have := HS6.out; omega), HT7.out⟩, HE7.out⟩
  · have HR0 := hide h0
    have HER2 := HER
    clear HER HER2
    have HER := HEE
    obtain ⟨tE, hE⟩ : ∃ v, e2 = .iface 47 v := ⟨_, by rw [← HEE.out]; exact erN_not (by omega)⟩
    subst hE
    clear h0
    obtain ⟨m2, h2⟩ : ∃ m2, (⟨m.rp, m.ta, m.id, m.op, RF.e, 0, 0, 0, 0, 0⟩ : Msg) = m2 := ⟨_, rfl⟩
    have hf := fun W (hM : MB W w.heap.size m (.slice so sn sc)) hW => wfail_any m (.slice so sn sc) (RF.e) W hM (HRL.out) hW m2 h2
    rw [HER.out] at hf
    have HF := hide hf
    clear hf
    go_wp2_with fail
    refine (HF.out _ HM.out (HE.out.end.glob HG.out)).mono ?_; rintro e w6 ⟨co2, cc2, rfl, B6, b6⟩
    have HB6 := hide B6
    have HZ6 := hide (HZ.out.grow b6)
    have HE6 := hide (HE.out.to b6)
    have HM2 : Hid (m2 = rplF m (RF)) := by show _ = _; unfold rplF; rw [if_neg HR0.out]; exact h2.symm
    clear B6 b6 h2 t0 t1 t2 t3 k0 k1 k2 k3 k4 k5 k6 k7 k8 k9 k10
    have HZL := hide (HZ6.out.lay (m := m2) (D := .slice co2 0 cc2))
    have f7 := foot_lay11 w6 (w.heap.size + 1) m2 (.slice co2 0 cc2)
    have HE7 := hide (HE6.out.msg HW0.out HZ6.out (by omega) f7)
    have HB7 : Hid (Bts (lay11 w6 (w.heap.size + 1) m2 (.slice co2 0 cc2)) co2 0 cc2 []) := bts_none HB6.out
    obtain ⟨w7, hw7⟩ : ∃ w7, lay11 w6 (w.heap.size + 1) m2 (.slice co2 0 cc2) = w7 := ⟨_, rfl⟩
    rw [hw7] at HZL HE7 HB7
    unfold lay11 at hw7
    clear f7
    obtain ⟨v0, v1, v2, v3, v4, v5, v6, v7, v8, v9, v10⟩ := HZL.out.all
    obtain ⟨z0, z1, z2, z3, z4, z5, z6, z7, z8, z9, z10⟩ := HZ6.out.all
    have x0 := HZ6.out.z 0
    have x1 := HZ6.out.z 1
    have x2 := HZ6.out.z 2
    have x3 := HZ6.out.z 3
    have x4 := HZ6.out.z 4
    have x5 := HZ6.out.z 5
    have x6 := HZ6.out.z 6
    have x7 := HZ6.out.z 7
    have x8 := HZ6.out.z 8
    have x9 := HZ6.out.z 9
    have x10 := HZ6.out.z 10
    go_wp2
    refine bodyPost_ret (by simp [results, Tryz.results19, go_sem, v0, v1, v2, v3, v4, v5, v6, v7, v8, v9, v10]; rfl) rfl ?_
    have hdt : datF RF l = [] := by unfold datF; rw [if_neg HR0.out]
    exact ⟨m2, co2, 0, cc2, HM2.out, rfl, by rw [hdt]; exact HB7.out, .inl hdt, HE7.out⟩
end
end Go.Proofs.YtlmnnjibggdboaaGreatDoor
namespace Go.Proofs.YtlmnnjibggdboaaGreatDoor
section
open Go.RowKit
variable {w0 w w1 w2 w' : World} {A A' : Ad} {p : Nat} {ws : List Nat} {s s' s1 : Hs} {r g : Nat}
theorem want_any (m : Msg) (so : Option Addr) (sn sc : Nat) (l : List UInt8) (w : World) (h : A.sb.2 = true) (x : Sv w0 w A p ws s) (hd : A.dv ≠ none) (hb : Bts w so sn sc l) (q : Okm w0 w m so sn) (li : Lim s) (hg : Glob w0) (ht : s.L ((s.n + 1 : Nat) : Int) = []) (hop : m.op = 5 ∨ 100 ≤ m.op) (hm : mayC ⟨m.p, m.o, m.r, m.c⟩ = true) (R : Ro) (hR : outF ws p s m.op ⟨m.p, m.o, m.r, m.c⟩ m.ar l = R) :
    Calls Tryz.prog 19 #[.pointer (some ⟨A.sb.1, 0, none⟩), .agg #[.int .u64 m.ta, .int .u64 m.rp, .int .u32 m.id, .int .u16 m.op, .int .u16 m.st, .int .u64 m.p, .int .u32 m.o, .int .u8 m.r, .int .u64 m.c, .int .u64 m.ar, .slice so sn sc]] w fun e w' => RplK w0 w A p ws m R l e w' := by
  subst hR
  unfold outF
  rw [hm, if_neg (by decide)]
  by_cases h5 : m.op = 5
  · rw [if_pos h5]
    unfold dstF
    by_cases ho : m.o = 0
    · rw [if_pos (show (Cp.mk m.p m.o m.r m.c).o = 0 from ho)]
      by_cases h0 : (chkF ws s.t s.es p s.T ⟨m.p, m.o, m.r, m.c⟩ 8).e = 0
      · rw [if_pos h0]; exact want_root1 m so sn sc l w h x hd hb q li hg h5 ho _ rfl h0
      · rw [if_neg h0]; exact want_root0 m so sn sc l w h x hd hb q li hg h5 ho _ rfl h0
    · rw [if_neg (show ¬ (Cp.mk m.p m.o m.r m.c).o = 0 from ho)]
      by_cases h0 : (chkF ws s.t s.es p s.T ⟨m.p, m.o, m.r, m.c⟩ 8).e = 0
      · rw [if_pos h0]; exact want_dst1 m so sn sc l w h x hd hb q li hg h5 ho _ rfl h0
      · rw [if_neg h0]
        have hr := want_dst0 m so sn sc l w h x hd hb q li hg h5 ho _ rfl h0
        rw [show desT s.T (chkF ws s.t s.es p s.T ⟨m.p, m.o, m.r, m.c⟩ 8) = s.T from if_neg h0] at hr
        exact hr
  · rw [if_neg h5]
    by_cases h1 : m.op ≤ 105
    · have hn : needB m.op = true := by unfold needB; rw [decide_eq_true (by omega : 100 ≤ m.op), decide_eq_true h1]; rfl
      rw [if_neg (by rw [hn]; intro h; rcases h with h | h; omega; cases h)]
      unfold ownF
      by_cases h0 : (chkF ws s.t s.es p s.T ⟨m.p, m.o, m.r, m.c⟩ (needN m.op)).e = 0
      · rw [if_pos h0]; exact want_do m so sn sc l w h x hd hb q li hg ⟨by omega, h1⟩ _ rfl h0 ht _ rfl _ rfl
      · rw [if_neg h0]; exact want_chk m so sn sc l w h x hd hb q li hg ⟨by omega, h1⟩ _ rfl h0
    · rw [if_pos (.inr (by unfold needB; rw [decide_eq_false h1, Bool.and_false]))]
      exact want_none m so sn sc l w h x hd hb q li hg (by omega)
end
end Go.Proofs.YtlmnnjibggdboaaGreatDoor
