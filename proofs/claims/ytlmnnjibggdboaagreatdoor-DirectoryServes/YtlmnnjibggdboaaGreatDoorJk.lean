/-
  An operation to a name of a directory: what is refused, and a lookup: contracts.
  An operation to a name of a directory: delete, replace, enter: contracts.
  Enter, where there is no room: a contract.
  Enter: a contract.
  Replace: a contract.
  What an operation of the server of names answers, and what it leaves: a contract.
-/
import Derived.Test.YtlmnnjibggdboaaGreatDoorJi
import Derived.Deep.RegionHeldLaw
namespace Go.Proofs.YtlmnnjibggdboaaGreatDoor
section
open Go.RowKit
variable {w0 w w1 w2 w' : World} {A A' : Ad} {p : Nat} {ws : List Nat} {s s' s1 : Hs} {r g : Nat} {sb : Nat × Bool}
theorem Sv.noY (x : Sv w0 w A p ws s) {b : Nat} {cs : Array Value} {z : Nat × Nat} (h : w.heap[b]? = some (.cells cs 5 z)) : ¬ SvS A b := by
  by_cases hz : z = (0, 0)
  · subst hz; exact x.noS h byte_odd3
  · exact x.noF h hz
theorem own_vars (w : World) (m : Msg) (D : Value) : ∃ X, (w.alloc (.cells #[.int .u64 m.ta, .int .u64 m.rp, .int .u32 m.id, .int .u16 m.op, .int .u16 m.st, .int .u64 m.p, .int .u32 m.o, .int .u8 m.r, .int .u64 m.c, .int .u64 m.ar, D] 55)).alloc (.cells resZ 102) = X ∧ MB X w.heap.size m D ∧ RB X (w.heap.size + 1) Cp.zero 0 (.slice none 0 0) ∧ Below w.heap.size w X := by
  have b1 := below_alloc w (.cells #[.int .u64 m.ta, .int .u64 m.rp, .int .u32 m.id, .int .u16 m.op, .int .u16 m.st, .int .u64 m.p, .int .u32 m.o, .int .u8 m.r, .int .u64 m.c, .int .u64 m.ar, D] 55)
  have b2 := below_alloc (w.alloc (.cells #[.int .u64 m.ta, .int .u64 m.rp, .int .u32 m.id, .int .u16 m.op, .int .u16 m.st, .int .u64 m.p, .int .u32 m.o, .int .u8 m.r, .int .u64 m.c, .int .u64 m.ar, D] 55)) (.cells resZ 102)
  refine ⟨_, rfl, (mb_new w m D).grow b2, ?_, below_one b1 b2⟩
  have h := heap_alloc_new (w.alloc (.cells #[.int .u64 m.ta, .int .u64 m.rp, .int .u32 m.id, .int .u16 m.op, .int .u16 m.st, .int .u64 m.p, .int .u32 m.o, .int .u8 m.r, .int .u64 m.c, .int .u64 m.ar, D] 55)) (.cells resZ 102)
  rw [sz1] at h
  exact h
/- a name in a variable -/
def NB (w : World) (g : Nat) (nm : ByteArray) : Prop := w.heap[g]? = some (.cells #[.string nm] 9 (0, 0))
theorem NB.c {nm : ByteArray} (h : NB w g nm) : w.cell? ⟨g, 0, none⟩ = some (.string nm) := by rw [cell_of_row w g _ _ _ _ h]; rfl
theorem NB.grow {nm : ByteArray} (h : NB w g nm) (b : Below w.heap.size w w') : NB w' g nm := (b.block g (lt_of_heap h)).trans h
theorem svc_look (y : Rw) (l : List UInt8) (w : World) (x : Sv w0 w A p ws s) (hy : y.ok) (hl : s.es.length ≤ 5000000000000) :
    Calls Tryz.prog 116 #[.pointer (some ⟨A.sb.1, 0, none⟩), y.val] w fun e w' => OutEnd w0 w A p ws (lookF ws s y) l e w' := by
  by_cases h0 : y.c.r &&& (255 - y.m) = 0
  · exact look_fit y l w x hy h0
  · exact look_cut y l w x hy h0 hl
theorem idxV_yes {L : List Rw} {nm : List UInt8} (h : idxR L nm < L.length) : idxV L nm = ((idxR L nm : Nat) : Int) := if_pos h
theorem idxV_no {L : List Rw} {nm : List UInt8} (h : ¬ idxR L nm < L.length) : idxV L nm = -1 := if_neg h
set_option maxRecDepth 20000 in
set_option maxHeartbeats 3200000 in
theorem named_bad (z : Int) (m : Msg) (so : Option Addr) (sn sc : Nat) (l : List UInt8) (w : World) (h : Mb w A.g A.sb) (x : Sv w0 w A p ws s) (hz : I64 z) (hb : Bts w so sn sc l) (op : Nat) (hno : hasNm l = false) :
    Calls Tryz.prog 111 #[.pointer (some ⟨A.sb.1, 0, none⟩), .int .u16 (op : Int), .int .i64 z, .agg #[.int .u64 m.ta, .int .u64 m.rp, .int .u32 m.id, .int .u16 m.op, .int .u16 m.st, .int .u64 m.p, .int .u32 m.o, .int .u8 m.r, .int .u64 m.c, .int .u64 m.ar, .slice so sn sc]] w fun e w' => OutEnd w0 w A p ws (badF s 4) l e w' := by
  obtain ⟨X, hX, bm, br, bX⟩ := own_vars w m (.slice so sn sc)
  unfold resZ at hX
  have HS := hide h
  have HX := hide (x.grow bX)
  have HB := hide (hb.carry bX)
  have HR := hide br
  have HM := hide bm
  have HBX := hide bX
  have HW0 : Hid (w0.heap.size ≤ w.heap.size) := x.bel.size
  have HZ := hide hz
  have k10 : X.cell? ⟨w.heap.size, 10, none⟩ = some (.slice so sn sc) := bm.all.2.2.2.2.2.2.2.2.2.2
  have HNO := hide hno
  clear bm br bX h x hb hz hno
  go_enter Tryz.func111, Tryz.ntmps111
  go_wp2_with fail
  refine (split_no so sn sc l _ HB.out HNO.out).mono ?_; rintro e w1 ⟨rfl, b1⟩
  obtain ⟨ss, hss⟩ : ∃ q, str [] = q := ⟨_, rfl⟩
  rw [hss]
  obtain ⟨w2, hw2⟩ : ∃ w2, w1.alloc (.cells #[.string ss] 9) = w2 := ⟨_, rfl⟩
  have b12 : Below _ _ w2 := below_one b1 (hw2 ▸ below_alloc _ _)
  have HR2 := hide (HR.out.grow b12)
  have HE2 := hide ((HX.out.stay.to b12).from HBX.out)
  clear k10 b1 b12 hss
  obtain ⟨y0, y1, y2, y3, y4, y5⟩ := HR2.out.all
  have z0 := HR2.out.z 0
  have z1 := HR2.out.z 1
  have z2 := HR2.out.z 2
  have z3 := HR2.out.z 3
  have z4 := HR2.out.z 4
  have z5 := HR2.out.z 5
  simp only [Cp.zero, show (((0 : Nat)) : Int) = 0 from rfl] at y0 y1 y2 y3
  have HRZ := hide (HR2.out.lay Cp.zero 0 (.slice none 0 0))
  have HEZ := hide ((HE2.out).res HW0.out HR2.out (by omega) (foot_lay6 w2 (w.heap.size + 1) Cp.zero 0 (.slice none 0 0)))
  obtain ⟨wz, hwz⟩ : ∃ wz, lay6 w2 ((w.heap.size + 1)) Cp.zero 0 (.slice none 0 0) = wz := ⟨_, rfl⟩
  rw [hwz] at HRZ HEZ
  unfold lay6 at hwz
  simp only [Cp.zero, show (((0 : Nat)) : Int) = 0 from rfl] at hwz
  obtain ⟨v0, v1, v2, v3, v4, v5⟩ := HRZ.out.all
  simp only [Cp.zero, show (((0 : Nat)) : Int) = 0 from rfl] at v0 v1 v2 v3 v4
  go_wp2
  refine bodyPost_ret (by simp [results, Tryz.results111, go_sem, v0, v1, v2, v3, v4, v5]; rfl) rfl ?_
  exact out_bad rfl HEZ.out
set_option maxRecDepth 20000 in
set_option maxHeartbeats 3200000 in
theorem named_exists (z : Int) (m : Msg) (so : Option Addr) (sn sc : Nat) (l : List UInt8) (w : World) (h : Mb w A.g A.sb) (x : Sv w0 w A p ws s) (hz : I64 z) (hb : Bts w so sn sc l) (hyes : hasNm l = true) (hidx : idxR (s.L z) (nmOf l) < (s.L z).length) :
    Calls Tryz.prog 111 #[.pointer (some ⟨A.sb.1, 0, none⟩), .int .u16 102, .int .i64 z, .agg #[.int .u64 m.ta, .int .u64 m.rp, .int .u32 m.id, .int .u16 m.op, .int .u16 m.st, .int .u64 m.p, .int .u32 m.o, .int .u8 m.r, .int .u64 m.c, .int .u64 m.ar, .slice so sn sc]] w fun e w' => OutEnd w0 w A p ws (badF s 11) l e w' := by
  obtain ⟨X, hX, bm, br, bX⟩ := own_vars w m (.slice so sn sc)
  unfold resZ at hX
  have HS := hide h
  have HX := hide (x.grow bX)
  have HB := hide (hb.carry bX)
  have HR := hide br
  have HM := hide bm
  have HBX := hide bX
  have HW0 : Hid (w0.heap.size ≤ w.heap.size) := x.bel.size
  have HZ := hide hz
  have k10 : X.cell? ⟨w.heap.size, 10, none⟩ = some (.slice so sn sc) := bm.all.2.2.2.2.2.2.2.2.2.2
  have HYES := hide hyes
  have HSZ : Hid (w.heap.size + 1 < X.heap.size) := lt_of_heap br
  obtain ⟨nm, hnm⟩ : ∃ nm, nmOf l = nm := ⟨_, rfl⟩
  obtain ⟨L, hL⟩ : ∃ L, s.L z = L := ⟨_, rfl⟩
  rw [hnm, hL] at hidx
  have HNM := hide hnm
  have HLL := hide hL
  have hown := x.dirR h z
  obtain ⟨v, hv⟩ : ∃ v, A.nv z = v := ⟨_, rfl⟩
  rw [hv, hL] at hown
  have HV := hide hv
  obtain ⟨k, hk⟩ : ∃ k, idxR L nm = k := ⟨_, rfl⟩
  have HKE := hide hk
  have HIDX : Hid (idxV L nm = (k : Int)) := by show _ = _; rw [idxV_yes hidx, hk]
  rw [hk] at hidx
  have HK := hide hidx
  obtain ⟨y, hy⟩ : ∃ y, L.getD k Rw.zero = y := ⟨_, rfl⟩
  have HY := hide hy
  obtain ⟨hh, cap, hve, hnc, hcap, _, _, _, _⟩ := hown.elem k hidx y hy
  obtain ⟨n, hn⟩ : ∃ n, L.length = n := ⟨_, rfl⟩
  have HN := hide hn
  rw [hn] at hve hnc hidx
  subst hve
  have hki : (k : Int) < (n : Int) := by omega
  have hk0 : (0 : Int) ≤ (k : Int) := by omega
  have hk1 : ¬ (k : Int) < 0 := by omega
  clear bm br bX h x hb hz hyes hnm hL hv hown hy hn hk
  go_enter Tryz.func111, Tryz.ntmps111
  go_wp2_with fail
  refine (split_yes so sn sc l _ HB.out HYES.out).mono ?_; rw [HNM.out]; rintro e w1 ⟨ro, rn, rc, rfl, B1, b1⟩
  obtain ⟨ss, hss⟩ : ∃ q, str nm = q := ⟨_, rfl⟩
  have HSS := hide hss
  rw [hss]
  obtain ⟨w2, hw2⟩ : ∃ w2, w1.alloc (.cells #[.string ss] 9) = w2 := ⟨_, rfl⟩
  have b2 : Below w1.heap.size w1 w2 := hw2 ▸ below_alloc _ _
  have HNB : Hid (NB w2 w1.heap.size ss) := hw2 ▸ heap_alloc_new w1 _
  have b12 := below_one b1 b2
  have HX2 := hide (HX.out.grow b12)
  have c2 := HX2.out.bx.c2
  have hlk := HX2.out.look HZ.out
  rw [HV.out] at hlk
  have HB12 := hide b12
  have HB1 := hide (B1.carry b2)
  clear k10 b1 b2 b12 B1 hss
  go_wp2_with fail
  refine (index_row nm w1.heap.size (.slice (some ⟨hh, 0, none⟩) n cap) _ (B := A.N) (L := L) (by have := HX2.out.dirR (show Mb w2 A.g A.sb from HS.out) z; rw [HV.out, HLL.out] at this; exact this) (by rw [HSS.out]; exact HNB.out.c)).mono ?_; rw [HIDX.out]; rintro e w3 ⟨rfl, b3⟩
  have HB13 := hide (below_one HB12.out b3)
  have HX3 := hide (HX2.out.grow b3)
  have HR3 := hide (HR.out.grow HB13.out)
  have HM3 := hide (HM.out.grow HB13.out)
  have HB3 := hide (HB1.out.carry b3)
  have HNB3 := hide (HNB.out.grow b3)
  have HBX3 := hide (below_one HBX.out HB13.out)
  clear c2 hlk b3
  obtain ⟨y0, y1, y2, y3, y4, y5⟩ := HR3.out.all
  have z0 := HR3.out.z 0
  have z1 := HR3.out.z 1
  have z2 := HR3.out.z 2
  have z3 := HR3.out.z 3
  have z4 := HR3.out.z 4
  have z5 := HR3.out.z 5
  simp only [Cp.zero, show (((0 : Nat)) : Int) = 0 from rfl] at y0 y1 y2 y3
  have HRZ := hide (HR3.out.lay Cp.zero 0 (.slice none 0 0))
  have HEZ := hide (((HX3.out.stay.from HBX3.out)).res HW0.out HR3.out (by omega) (foot_lay6 w3 (w.heap.size + 1) Cp.zero 0 (.slice none 0 0)))
  obtain ⟨wz, hwz⟩ : ∃ wz, lay6 w3 ((w.heap.size + 1)) Cp.zero 0 (.slice none 0 0) = wz := ⟨_, rfl⟩
  rw [hwz] at HRZ HEZ
  unfold lay6 at hwz
  simp only [Cp.zero, show (((0 : Nat)) : Int) = 0 from rfl] at hwz
  obtain ⟨v0, v1, v2, v3, v4, v5⟩ := HRZ.out.all
  simp only [Cp.zero, show (((0 : Nat)) : Int) = 0 from rfl] at v0 v1 v2 v3 v4
  go_wp2
  refine bodyPost_ret (by simp [results, Tryz.results111, go_sem, v0, v1, v2, v3, v4, v5]; rfl) rfl ?_
  exact out_bad rfl HEZ.out
set_option maxRecDepth 20000 in
set_option maxHeartbeats 3200000 in
theorem named_missing (z : Int) (m : Msg) (so : Option Addr) (sn sc : Nat) (l : List UInt8) (w : World) (h : Mb w A.g A.sb) (x : Sv w0 w A p ws s) (hz : I64 z) (hb : Bts w so sn sc l) (op : Nat) (hop : op ≠ 102) (hyes : hasNm l = true) (hidx : ¬ idxR (s.L z) (nmOf l) < (s.L z).length) :
    Calls Tryz.prog 111 #[.pointer (some ⟨A.sb.1, 0, none⟩), .int .u16 (op : Int), .int .i64 z, .agg #[.int .u64 m.ta, .int .u64 m.rp, .int .u32 m.id, .int .u16 m.op, .int .u16 m.st, .int .u64 m.p, .int .u32 m.o, .int .u8 m.r, .int .u64 m.c, .int .u64 m.ar, .slice so sn sc]] w fun e w' => OutEnd w0 w A p ws (badF s 12) l e w' := by
  obtain ⟨X, hX, bm, br, bX⟩ := own_vars w m (.slice so sn sc)
  unfold resZ at hX
  have HS := hide h
  have HX := hide (x.grow bX)
  have HB := hide (hb.carry bX)
  have HR := hide br
  have HM := hide bm
  have HBX := hide bX
  have HW0 : Hid (w0.heap.size ≤ w.heap.size) := x.bel.size
  have HZ := hide hz
  have k10 : X.cell? ⟨w.heap.size, 10, none⟩ = some (.slice so sn sc) := bm.all.2.2.2.2.2.2.2.2.2.2
  have HYES := hide hyes
  have HSZ : Hid (w.heap.size + 1 < X.heap.size) := lt_of_heap br
  obtain ⟨nm, hnm⟩ : ∃ nm, nmOf l = nm := ⟨_, rfl⟩
  obtain ⟨L, hL⟩ : ∃ L, s.L z = L := ⟨_, rfl⟩
  rw [hnm, hL] at hidx
  have HNM := hide hnm
  have HLL := hide hL
  have hown := x.dirR h z
  obtain ⟨v, hv⟩ : ∃ v, A.nv z = v := ⟨_, rfl⟩
  rw [hv, hL] at hown
  have HV := hide hv
  have HIDX : Hid (idxV L nm = -1) := by show _ = _; rw [idxV_no hidx]
  have HK := hide hidx
  obtain ⟨ao, cap, hve, hnc, hcap⟩ := hown.form
  obtain ⟨n, hn⟩ : ∃ n, L.length = n := ⟨_, rfl⟩
  have HN := hide hn
  rw [hn] at hve
  subst hve
  have hop1 : ((op : Int) == 102) = false := by rw [beq_eq_false_iff_ne]; omega
  have hop2 : ¬ (op : Int) = 102 := by omega
  clear hop
  clear bm br bX h x hb hz hyes hnm hL hv hown hn hidx hnc
  go_enter Tryz.func111, Tryz.ntmps111
  go_wp2_with fail
  refine (split_yes so sn sc l _ HB.out HYES.out).mono ?_; rw [HNM.out]; rintro e w1 ⟨ro, rn, rc, rfl, B1, b1⟩
  obtain ⟨ss, hss⟩ : ∃ q, str nm = q := ⟨_, rfl⟩
  have HSS := hide hss
  rw [hss]
  obtain ⟨w2, hw2⟩ : ∃ w2, w1.alloc (.cells #[.string ss] 9) = w2 := ⟨_, rfl⟩
  have b2 : Below w1.heap.size w1 w2 := hw2 ▸ below_alloc _ _
  have HNB : Hid (NB w2 w1.heap.size ss) := hw2 ▸ heap_alloc_new w1 _
  have b12 := below_one b1 b2
  have HX2 := hide (HX.out.grow b12)
  have c2 := HX2.out.bx.c2
  have hlk := HX2.out.look HZ.out
  rw [HV.out] at hlk
  have HB12 := hide b12
  have HB1 := hide (B1.carry b2)
  clear k10 b1 b2 b12 B1 hss
  go_wp2_with fail
  refine (index_row nm w1.heap.size (.slice ao n cap) _ (B := A.N) (L := L) (by have := HX2.out.dirR (show Mb w2 A.g A.sb from HS.out) z; rw [HV.out, HLL.out] at this; exact this) (by rw [HSS.out]; exact HNB.out.c)).mono ?_; rw [HIDX.out]; rintro e w3 ⟨rfl, b3⟩
  have HB13 := hide (below_one HB12.out b3)
  have HX3 := hide (HX2.out.grow b3)
  have HR3 := hide (HR.out.grow HB13.out)
  have HM3 := hide (HM.out.grow HB13.out)
  have HB3 := hide (HB1.out.carry b3)
  have HNB3 := hide (HNB.out.grow b3)
  have HBX3 := hide (below_one HBX.out HB13.out)
  clear c2 hlk b3
  obtain ⟨y0, y1, y2, y3, y4, y5⟩ := HR3.out.all
  have z0 := HR3.out.z 0
  have z1 := HR3.out.z 1
  have z2 := HR3.out.z 2
  have z3 := HR3.out.z 3
  have z4 := HR3.out.z 4
  have z5 := HR3.out.z 5
  simp only [Cp.zero, show (((0 : Nat)) : Int) = 0 from rfl] at y0 y1 y2 y3
  have HRZ := hide (HR3.out.lay Cp.zero 0 (.slice none 0 0))
  have HEZ := hide (((HX3.out.stay.from HBX3.out)).res HW0.out HR3.out (by omega) (foot_lay6 w3 (w.heap.size + 1) Cp.zero 0 (.slice none 0 0)))
  obtain ⟨wz, hwz⟩ : ∃ wz, lay6 w3 ((w.heap.size + 1)) Cp.zero 0 (.slice none 0 0) = wz := ⟨_, rfl⟩
  rw [hwz] at HRZ HEZ
  unfold lay6 at hwz
  simp only [Cp.zero, show (((0 : Nat)) : Int) = 0 from rfl] at hwz
  obtain ⟨v0, v1, v2, v3, v4, v5⟩ := HRZ.out.all
  simp only [Cp.zero, show (((0 : Nat)) : Int) = 0 from rfl] at v0 v1 v2 v3 v4
  go_wp2
  refine bodyPost_ret (by simp [results, Tryz.results111, go_sem, v0, v1, v2, v3, v4, v5]; rfl) rfl ?_
  exact out_bad rfl HEZ.out
set_option maxRecDepth 20000 in
set_option maxHeartbeats 3200000 in
theorem named_look (z : Int) (m : Msg) (so : Option Addr) (sn sc : Nat) (l : List UInt8) (w : World) (h : Mb w A.g A.sb) (x : Sv w0 w A p ws s) (hz : I64 z) (hb : Bts w so sn sc l) (hyes : hasNm l = true) (hidx : idxR (s.L z) (nmOf l) < (s.L z).length) (hl : s.es.length ≤ 5000000000000) :
    Calls Tryz.prog 111 #[.pointer (some ⟨A.sb.1, 0, none⟩), .int .u16 101, .int .i64 z, .agg #[.int .u64 m.ta, .int .u64 m.rp, .int .u32 m.id, .int .u16 m.op, .int .u16 m.st, .int .u64 m.p, .int .u32 m.o, .int .u8 m.r, .int .u64 m.c, .int .u64 m.ar, .slice so sn sc]] w fun e w' => OutEnd w0 w A p ws (lookF ws s ((s.L z).getD (idxR (s.L z) (nmOf l)) Rw.zero)) l e w' := by
  obtain ⟨X, hX, bm, br, bX⟩ := own_vars w m (.slice so sn sc)
  unfold resZ at hX
  have HS := hide h
  have HX := hide (x.grow bX)
  have HB := hide (hb.carry bX)
  have HR := hide br
  have HM := hide bm
  have HBX := hide bX
  have HW0 : Hid (w0.heap.size ≤ w.heap.size) := x.bel.size
  have HZ := hide hz
  have k10 : X.cell? ⟨w.heap.size, 10, none⟩ = some (.slice so sn sc) := bm.all.2.2.2.2.2.2.2.2.2.2
  have HYES := hide hyes
  have HSZ : Hid (w.heap.size + 1 < X.heap.size) := lt_of_heap br
  obtain ⟨nm, hnm⟩ : ∃ nm, nmOf l = nm := ⟨_, rfl⟩
  obtain ⟨L, hL⟩ : ∃ L, s.L z = L := ⟨_, rfl⟩
  rw [hnm, hL] at hidx
  have HNM := hide hnm
  have HLL := hide hL
  have hown := x.dirR h z
  obtain ⟨v, hv⟩ : ∃ v, A.nv z = v := ⟨_, rfl⟩
  rw [hv, hL] at hown
  have HV := hide hv
  obtain ⟨k, hk⟩ : ∃ k, idxR L nm = k := ⟨_, rfl⟩
  have HKE := hide hk
  have HIDX : Hid (idxV L nm = (k : Int)) := by show _ = _; rw [idxV_yes hidx, hk]
  rw [hk] at hidx
  have HK := hide hidx
  obtain ⟨y, hy⟩ : ∃ y, L.getD k Rw.zero = y := ⟨_, rfl⟩
  have HY := hide hy
  obtain ⟨hh, cap, hve, hnc, hcap, _, _, _, _⟩ := hown.elem k hidx y hy
  obtain ⟨n, hn⟩ : ∃ n, L.length = n := ⟨_, rfl⟩
  have HN := hide hn
  rw [hn] at hve hnc hidx
  subst hve
  have hki : (k : Int) < (n : Int) := by omega
  have hk0 : (0 : Int) ≤ (k : Int) := by omega
  have hk1 : ¬ (k : Int) < 0 := by omega
  have HOK : Hid (y.ok) := by have := (x.good z).2.1 _ (mem_getR (L := s.L z) (k := k) (by rw [HLL.out]; exact HK.out)); rw [HLL.out, HY.out] at this; exact this
  have HEL := hide hl
  clear hl
  rw [hL, hnm, hk, hy]
  obtain ⟨RF, hRF⟩ : ∃ R, lookF ws s y = R := ⟨_, rfl⟩
  rw [hRF]
  have HRF := hide hRF
  obtain ⟨er, her⟩ : ∃ er, erN (RF.e : Int) = er := ⟨_, rfl⟩
  have HEE := hide her
  obtain ⟨⟨qp, qo, qr, qc⟩, hq⟩ : ∃ q, RF.c = q := ⟨_, rfl⟩
  have HQ := hide hq
  obtain ⟨ra, hra⟩ : ∃ q, RF.ar = q := ⟨_, rfl⟩
  have HRA := hide hra
  clear hRF her hq hra
  clear bm br bX h x hb hz hyes hnm hL hv hown hy hn hk
  go_enter Tryz.func111, Tryz.ntmps111
  go_wp2_with fail
  refine (split_yes so sn sc l _ HB.out HYES.out).mono ?_; rw [HNM.out]; rintro e w1 ⟨ro, rn, rc, rfl, B1, b1⟩
  obtain ⟨ss, hss⟩ : ∃ q, str nm = q := ⟨_, rfl⟩
  have HSS := hide hss
  rw [hss]
  obtain ⟨w2, hw2⟩ : ∃ w2, w1.alloc (.cells #[.string ss] 9) = w2 := ⟨_, rfl⟩
  have b2 : Below w1.heap.size w1 w2 := hw2 ▸ below_alloc _ _
  have HNB : Hid (NB w2 w1.heap.size ss) := hw2 ▸ heap_alloc_new w1 _
  have b12 := below_one b1 b2
  have HX2 := hide (HX.out.grow b12)
  have c2 := HX2.out.bx.c2
  have hlk := HX2.out.look HZ.out
  rw [HV.out] at hlk
  have HB12 := hide b12
  have HB1 := hide (B1.carry b2)
  clear k10 b1 b2 b12 B1 hss
  go_wp2_with fail
  refine (index_row nm w1.heap.size (.slice (some ⟨hh, 0, none⟩) n cap) _ (B := A.N) (L := L) (by have := HX2.out.dirR (show Mb w2 A.g A.sb from HS.out) z; rw [HV.out, HLL.out] at this; exact this) (by rw [HSS.out]; exact HNB.out.c)).mono ?_; rw [HIDX.out]; rintro e w3 ⟨rfl, b3⟩
  have HB13 := hide (below_one HB12.out b3)
  have HX3 := hide (HX2.out.grow b3)
  have HR3 := hide (HR.out.grow HB13.out)
  have HM3 := hide (HM.out.grow HB13.out)
  have HB3 := hide (HB1.out.carry b3)
  have HNB3 := hide (HNB.out.grow b3)
  have HBX3 := hide (below_one HBX.out HB13.out)
  clear c2 hlk b3
  have c2 := HX3.out.bx.c2
  have hlk := HX3.out.look HZ.out
  rw [HV.out] at hlk
  have hown3 := HX3.out.dirR (show Mb w3 A.g A.sb from HS.out) z
  rw [HV.out, HLL.out] at hown3
  obtain ⟨h4, cap4, e4, _, _, _, _, ⟨q0, q1, q2, q3, q4, q5⟩, _⟩ := hown3.elem k HK.out y HY.out
  obtain ⟨rfl, rfl⟩ : hh = h4 ∧ cap = cap4 := by simp only [Value.slice.injEq, Option.some.injEq, Addr.mk.injEq] at e4; exact ⟨e4.1.1, e4.2.2⟩
  clear hown3 e4
  go_wp2_with fail
  refine (svc_look y l _ HX3.out HOK.out HEL.out).mono ?_; unfold OutEnd; rw [HRF.out, HEE.out, HQ.out, HRA.out]; rintro e w4 ⟨co, n4, cc, rfl, B4, N4, n4l, E4⟩
  have k4 := HX3.out.kh E4
  have HR4 := hide (HR3.out.kh k4)
  have HE4 := hide (E4.from HBX3.out)
  have HB4 := hide B4
  have HN4 := hide N4
  have HNN := hide n4l
  have HSZ4 : Hid (w.heap.size + 1 < w3.heap.size) := lt_of_heap HR3.out
  clear B4 N4 n4l E4 k4 c2 hlk q0 q1 q2 q3 q4 q5
  obtain ⟨y0, y1, y2, y3, y4, y5⟩ := HR4.out.all
  have z0 := HR4.out.z 0
  have z1 := HR4.out.z 1
  have z2 := HR4.out.z 2
  have z3 := HR4.out.z 3
  have z4 := HR4.out.z 4
  have z5 := HR4.out.z 5
  simp only [Cp.zero, show (((0 : Nat)) : Int) = 0 from rfl] at y0 y1 y2 y3
  have HRZ := hide (HR4.out.lay ⟨qp, qo, qr, qc⟩ (ra : Int) (.slice co n4 cc))
  have HBZ : Hid (Bts (lay6 w4 (w.heap.size + 1) ⟨qp, qo, qr, qc⟩ (ra : Int) (.slice co n4 cc)) co n4 cc RF.d) := Bts.foot HB4.out (foot_lay6 w4 (w.heap.size + 1) ⟨qp, qo, qr, qc⟩ (ra : Int) (.slice co n4 cc)) (fun ad e _ (h : ad.block = w.heap.size + 1) => by have := HN4.out ad e; have := HSZ4.out; omega)
  have HEZ := hide ((HE4.out).res HW0.out HR4.out (by omega) (foot_lay6 w4 (w.heap.size + 1) ⟨qp, qo, qr, qc⟩ (ra : Int) (.slice co n4 cc)))
  obtain ⟨wz, hwz⟩ : ∃ wz, lay6 w4 ((w.heap.size + 1)) ⟨qp, qo, qr, qc⟩ (ra : Int) (.slice co n4 cc) = wz := ⟨_, rfl⟩
  rw [hwz] at HRZ HEZ HBZ
  unfold lay6 at hwz
  obtain ⟨v0, v1, v2, v3, v4, v5⟩ := HRZ.out.all
  go_wp2
  refine bodyPost_ret (by simp [results, Tryz.results111, go_sem, v0, v1, v2, v3, v4, v5]; rfl) rfl ?_
  exact ⟨co, n4, cc, by rw [HEE.out, HQ.out, HRA.out], HBZ.out, HN4.out.le (by have := HBX3.out.size; omega), HNN.out, HEZ.out⟩
end
end Go.Proofs.YtlmnnjibggdboaaGreatDoor
namespace Go.Proofs.YtlmnnjibggdboaaGreatDoor
section
open Go.RowKit
variable {w0 w w1 w2 w' : World} {A A' : Ad} {p : Nat} {ws : List Nat} {s s' s1 : Hs} {r g : Nat} {sb : Nat × Bool}
/- what a row that was struck leaves, laid into the map -/
theorem del_step (x : Sv w0 w A p ws s) (h : Mb w A.g A.sb) {z : Int} (hz : I64 z) {M : List Rw} {v' : Value} (hne : s.L z ≠ []) (hO : OwnR 202 w2 A.N v' M) (hF : Foot (fun k => (A.nv z).ownBlock = some k) w w2) (hv : v'.ownBlock = (A.nv z).ownBlock) (hq : s.q < 5000000000000000) (hg : Good M) :
    ∃ W3, (Instr.mapUpdate 61 (.map A.dv) (.int .i64 z) v').run Tryz.prog w2 = .ok () W3 ∧ w2.cell? ⟨A.sb.1, 2, none⟩ = some (.map A.dv) ∧ W3.cell? ⟨A.sb.1, 2, none⟩ = some (.map A.dv) ∧ SvEnd w0 w A p ws W3 (s.row z M) := by
  have hfl : A.sb.2 = false := h
  have hqm : s.q < maxLen := by unfold maxLen; omega
  cases hb : A.dv with
  | none =>
    have := x.st.map
    rw [hb] at this
    have h1 := x.st.row z
    rw [this z] at h1
    have h2 : (s.L z).length = 0 := by
      rcases h1.2 with ⟨_, h3⟩ | ⟨g, cap, cur, h3, _⟩
      · exact h3
      · cases h3
    exact absurd (List.length_eq_zero_iff.1 h2) hne
  | some b =>
    have hmb : MapIs w b s.q A.nv := by have := x.st.map; rw [hb] at this; exact this
    obtain ⟨ma, mc, hmk⟩ := x.st.isMap hb
    have hnb : ¬ (A.nv z).ownBlock = some b := fun e => by
      obtain ⟨cur, h5, _⟩ := owns_block (x.st.row z) e
      rw [hmk] at h5; cases h5
    have hm2 : MapIs w2 b s.q A.nv := hmb.same (hF.block b (lt_of_heap hmk) hnb)
    obtain ⟨W3, h6, h7, h8⟩ := map_store dirMap hm2 hz hqm v'
    have f3 : Foot (fun j => (A.nv z).ownBlock = some j ∨ j = b) w W3 := (hF.mono (fun j e => .inl e)).then (h8.mono (fun j e => .inr e))
    have hbn : ∀ j, ((A.nv z).ownBlock = some j ∨ j = b) → RS A.dv A.nv j := fun j e => by
      rcases e with e | e
      · exact .inr ⟨z, e⟩
      · exact .inl (by rw [hb, e])
    have hbx : ¬ RS A.dv A.nv A.sb.1 := x.noR x.bx (.inl (bT_rT _ _).symm)
    have hbl := lt_of_heap x.bx
    have b2 : BoxIs w2 A s.n := (hF.block _ hbl (fun e => hbx (.inr ⟨z, e⟩))).trans x.bx
    have b3 : BoxIs W3 A s.n := (f3.block _ hbl (fun e => hbx (hbn _ e))).trans x.bx
    have d2 := b2.c2
    have d3 := b3.c2
    rw [hb] at d2 d3
    refine ⟨W3, h6, d2, d3, x.put (dv := some b) (z := z) f3 (fun j e => ?_) h7 ?_ (fun r e => .inl (by rw [← hv]; exact e)) (fun c e => .inl (by rw [hb]; exact e)) ?_ hg⟩
    · rcases e with e | e
      · exact .inl e
      · exact .inr (.inl (by rw [e]))
    · rw [hfl]
      exact owns_foot hO h8 (fun r e1 (e2 : r = b) => by subst e2; rw [hv] at e1; exact hnb e1)
    · unfold BoxIs at b3
      rw [hb] at b3
      exact b3
theorem setCell_drew (w : World) (a : Addr) (v : Value) : w.drew.setCell a v = (w.setCell a v).drew := rfl
theorem setR_drew (w : World) (h k : Nat) (y : Rw) : setR w.drew h k y = (setR w h k y).drew := by
  unfold setR; rw [setCell_drew, setCell_drew, setCell_drew, setCell_drew, setCell_drew, setCell_drew]
theorem BoxIs.dr {n : Nat} (h : BoxIs w A n) : BoxIs w.drew A n := h
/- one row is laid anew, where it lies -/
theorem rep_step (x : Sv w0 w A p ws s) (h : Mb w A.g A.sb) {z : Int} {k : Nat} (hk : k < (s.L z).length) {hh n c : Nat} (hv : A.nv z = .slice (some ⟨hh, 0, none⟩) n c) (y : Rw) (hg : Good ((s.L z).set k y)) :
    SvEnd w0 w A p ws (setR w hh k y) (s.row z ((s.L z).set k y)) := by
  have hfl : A.sb.2 = false := h
  have hO := (x.st.row z).set k hk hh n c hv y
  have ho : (A.nv z).ownBlock = some hh := by rw [hv]; rfl
  have f := foot_setR w hh k y
  have hbx : ¬ RS A.dv A.nv A.sb.1 := x.noR x.bx (.inl (bT_rT _ _).symm)
  have hb3 : BoxIs (setR w hh k y) A s.n := (f.block _ (lt_of_heap x.bx) (fun (e : A.sb.1 = hh) => hbx (.inr ⟨z, by rw [ho, e]⟩))).trans x.bx
  have hm : MapO (setR w hh k y) A.dv (s.q + 1) (updV A.nv z (A.nv z)) := by
    rw [updV_id]
    have h1 := x.st.le (Nat.le_succ s.q)
    exact h1.map.foot f (fun b e (e2 : b = hh) => by
      obtain ⟨a, c, hm⟩ := x.st.isMap e
      obtain ⟨cur, h5, _⟩ := owns_block (x.st.row z) ho
      rw [e2, h5] at hm; cases hm)
  refine x.put (z := z) f (fun j (e : j = hh) => .inl (by rw [ho, e])) hm hO (fun r e => .inl e) (fun b e => .inl e) ?_ hg
  rw [updV_id]
  exact hb3
set_option maxRecDepth 20000 in
set_option maxHeartbeats 3200000 in
theorem named_del (z : Int) (m : Msg) (so : Option Addr) (sn sc : Nat) (l : List UInt8) (w : World) (h : Mb w A.g A.sb) (x : Sv w0 w A p ws s) (hz : I64 z) (hb : Bts w so sn sc l) (hyes : hasNm l = true) (hidx : idxR (s.L z) (nmOf l) < (s.L z).length) (hq : s.q < 5000000000000000) :
    Calls Tryz.prog 111 #[.pointer (some ⟨A.sb.1, 0, none⟩), .int .u16 104, .int .i64 z, .agg #[.int .u64 m.ta, .int .u64 m.rp, .int .u32 m.id, .int .u16 m.op, .int .u16 m.st, .int .u64 m.p, .int .u32 m.o, .int .u8 m.r, .int .u64 m.c, .int .u64 m.ar, .slice so sn sc]] w fun e w' => OutEnd w0 w A p ws (badF (s.row z (delR (s.L z) (idxR (s.L z) (nmOf l)))) 0) l e w' := by
  obtain ⟨X, hX, bm, br, bX⟩ := own_vars w m (.slice so sn sc)
  unfold resZ at hX
  have HS := hide h
  have HX := hide (x.grow bX)
  have HB := hide (hb.carry bX)
  have HR := hide br
  have HM := hide bm
  have HBX := hide bX
  have HW0 : Hid (w0.heap.size ≤ w.heap.size) := x.bel.size
  have HZ := hide hz
  have k10 : X.cell? ⟨w.heap.size, 10, none⟩ = some (.slice so sn sc) := bm.all.2.2.2.2.2.2.2.2.2.2
  have HYES := hide hyes
  have HSZ : Hid (w.heap.size + 1 < X.heap.size) := lt_of_heap br
  obtain ⟨nm, hnm⟩ : ∃ nm, nmOf l = nm := ⟨_, rfl⟩
  obtain ⟨L, hL⟩ : ∃ L, s.L z = L := ⟨_, rfl⟩
  rw [hnm, hL] at hidx
  have HNM := hide hnm
  have HLL := hide hL
  have hown := x.dirR h z
  obtain ⟨v, hv⟩ : ∃ v, A.nv z = v := ⟨_, rfl⟩
  rw [hv, hL] at hown
  have HV := hide hv
  obtain ⟨k, hk⟩ : ∃ k, idxR L nm = k := ⟨_, rfl⟩
  have HKE := hide hk
  have HIDX : Hid (idxV L nm = (k : Int)) := by show _ = _; rw [idxV_yes hidx, hk]
  rw [hk] at hidx
  have HK := hide hidx
  obtain ⟨y, hy⟩ : ∃ y, L.getD k Rw.zero = y := ⟨_, rfl⟩
  have HY := hide hy
  obtain ⟨hh, cap, hve, hnc, hcap, _, _, _, _⟩ := hown.elem k hidx y hy
  obtain ⟨n, hn⟩ : ∃ n, L.length = n := ⟨_, rfl⟩
  have HN := hide hn
  rw [hn] at hve hnc hidx
  subst hve
  have hki : (k : Int) < (n : Int) := by omega
  have hk0 : (0 : Int) ≤ (k : Int) := by omega
  have hk1 : ¬ (k : Int) < 0 := by omega
  rw [hL, hnm, hk]
  have hG : Good (delR (s.L z) k) := (x.good z).del k
  rw [hL] at hG
  have HG := hide hG
  have HNE : Hid (s.L z ≠ []) := fun e => by rw [hL] at e; have := HK.out; rw [e] at this; exact absurd this (by simp)
  have HQQ := hide hq
  have HWR : Hid (IntKind.i64.wrap ((k : Int) + 1) = ((k + 1 : Nat) : Int)) := by show _ = _; rw [IntKind.wrap_i64]; have := HK.out; omega
  clear hG hq
  clear bm br bX h x hb hz hyes hnm hL hv hown hy hn hk
  go_enter Tryz.func111, Tryz.ntmps111
  go_wp2_with fail
  refine (split_yes so sn sc l _ HB.out HYES.out).mono ?_; rw [HNM.out]; rintro e w1 ⟨ro, rn, rc, rfl, B1, b1⟩
  obtain ⟨ss, hss⟩ : ∃ q, str nm = q := ⟨_, rfl⟩
  have HSS := hide hss
  rw [hss]
  obtain ⟨w2, hw2⟩ : ∃ w2, w1.alloc (.cells #[.string ss] 9) = w2 := ⟨_, rfl⟩
  have b2 : Below w1.heap.size w1 w2 := hw2 ▸ below_alloc _ _
  have HNB : Hid (NB w2 w1.heap.size ss) := hw2 ▸ heap_alloc_new w1 _
  have b12 := below_one b1 b2
  have HX2 := hide (HX.out.grow b12)
  have c2 := HX2.out.bx.c2
  have hlk := HX2.out.look HZ.out
  rw [HV.out] at hlk
  have HB12 := hide b12
  have HB1 := hide (B1.carry b2)
  clear k10 b1 b2 b12 B1 hss
  go_wp2_with fail
  refine (index_row nm w1.heap.size (.slice (some ⟨hh, 0, none⟩) n cap) _ (B := A.N) (L := L) (by have := HX2.out.dirR (show Mb w2 A.g A.sb from HS.out) z; rw [HV.out, HLL.out] at this; exact this) (by rw [HSS.out]; exact HNB.out.c)).mono ?_; rw [HIDX.out]; rintro e w3 ⟨rfl, b3⟩
  have HB13 := hide (below_one HB12.out b3)
  have HX3 := hide (HX2.out.grow b3)
  have HR3 := hide (HR.out.grow HB13.out)
  have HM3 := hide (HM.out.grow HB13.out)
  have HB3 := hide (HB1.out.carry b3)
  have HNB3 := hide (HNB.out.grow b3)
  have HBX3 := hide (below_one HBX.out HB13.out)
  clear c2 hlk b3
  have c2 := HX3.out.bx.c2
  have hlk := Sv.look (w := w3.drew) (HX3.out.drewN 1) HZ.out
  rw [HV.out] at hlk
  have HXd : Hid (Sv w0 w3.drew A p ws s) := HX3.out.drewN 1
  have HSa : Hid (w3.drew.cell? ⟨A.sb.1, 2, none⟩ = some (.map A.dv)) := c2
  have HOW : Hid (OwnR 202 w3.drew A.N (.slice (some ⟨hh, 0, none⟩) n cap) L) := by have := HXd.out.dirR (show Mb w3 A.g A.sb from HS.out) z; rw [HV.out, HLL.out] at this; exact this
  go_wp2_with fail
  go_region_held (fun U => U.cell? ⟨A.sb.1, 2, none⟩ = some (.map A.dv))
    (first | with_reducible exact HSa.out | with_reducible exact HSb.out | with_reducible exact HSc.out)
    (first
      | (go_at_call 117; refine (strike_any k _ _ HOW.out HK.out _ HWR.out).mono ?_; rintro e w4 ⟨v', rfl, O4, F4, v4⟩
         obtain ⟨W5, hmu, hSb, hSc, hE⟩ := del_step HXd.out (show Mb w3 A.g A.sb from HS.out) HZ.out HNE.out O4 (by rw [HV.out]; exact F4) (by rw [HV.out]; exact v4) HQQ.out HG.out
         have HSb := hide hSb
         have HSc := hide hSc
         have HE5 := hide (hE.from (below_one HBX3.out (below_d w3 1)))
         have HR5 := hide (RB.kh (show RB w3.drew _ _ _ _ from HR3.out) (HXd.out.kh hE))
         clear O4 F4 v4 hSb hSc hE))
  obtain ⟨y0, y1, y2, y3, y4, y5⟩ := HR5.out.all
  have z0 := HR5.out.z 0
  have z1 := HR5.out.z 1
  have z2 := HR5.out.z 2
  have z3 := HR5.out.z 3
  have z4 := HR5.out.z 4
  have z5 := HR5.out.z 5
  simp only [Cp.zero, show (((0 : Nat)) : Int) = 0 from rfl] at y0 y1 y2 y3
  have HRZ := hide (HR5.out.lay Cp.zero 0 (.slice none 0 0))
  have HEZ := hide ((HE5.out).res HW0.out HR5.out (by omega) (foot_lay6 W5 (w.heap.size + 1) Cp.zero 0 (.slice none 0 0)))
  obtain ⟨wz, hwz⟩ : ∃ wz, lay6 W5 ((w.heap.size + 1)) Cp.zero 0 (.slice none 0 0) = wz := ⟨_, rfl⟩
  rw [hwz] at HRZ HEZ
  unfold lay6 at hwz
  simp only [Cp.zero, show (((0 : Nat)) : Int) = 0 from rfl] at hwz
  obtain ⟨v0, v1, v2, v3, v4, v5⟩ := HRZ.out.all
  simp only [Cp.zero, show (((0 : Nat)) : Int) = 0 from rfl] at v0 v1 v2 v3 v4
  go_wp2
  refine bodyPost_ret (by simp [results, Tryz.results111, go_sem, v0, v1, v2, v3, v4, v5]; rfl) rfl ?_
  exact out_bad rfl HEZ.out
set_option maxRecDepth 20000 in
set_option maxHeartbeats 3200000 in
theorem named_ebad (z : Int) (m : Msg) (so : Option Addr) (sn sc : Nat) (l : List UInt8) (w : World) (h : Mb w A.g A.sb) (x : Sv w0 w A p ws s) (hz : I64 z) (hb : Bts w so sn sc l) (hyes : hasNm l = true) (hidx : idxR (s.L z) (nmOf l) < (s.L z).length) (hbad : (restOf l).length ≠ 16 ∨ 255 < m.ar) :
    Calls Tryz.prog 111 #[.pointer (some ⟨A.sb.1, 0, none⟩), .int .u16 103, .int .i64 z, .agg #[.int .u64 m.ta, .int .u64 m.rp, .int .u32 m.id, .int .u16 m.op, .int .u16 m.st, .int .u64 m.p, .int .u32 m.o, .int .u8 m.r, .int .u64 m.c, .int .u64 m.ar, .slice so sn sc]] w fun e w' => OutEnd w0 w A p ws (badF s 4) l e w' := by
  obtain ⟨X, hX, bm, br, bX⟩ := own_vars w m (.slice so sn sc)
  unfold resZ at hX
  have HS := hide h
  have HX := hide (x.grow bX)
  have HB := hide (hb.carry bX)
  have HR := hide br
  have HM := hide bm
  have HBX := hide bX
  have HW0 : Hid (w0.heap.size ≤ w.heap.size) := x.bel.size
  have HZ := hide hz
  have k10 : X.cell? ⟨w.heap.size, 10, none⟩ = some (.slice so sn sc) := bm.all.2.2.2.2.2.2.2.2.2.2
  have HYES := hide hyes
  have HSZ : Hid (w.heap.size + 1 < X.heap.size) := lt_of_heap br
  obtain ⟨nm, hnm⟩ : ∃ nm, nmOf l = nm := ⟨_, rfl⟩
  obtain ⟨L, hL⟩ : ∃ L, s.L z = L := ⟨_, rfl⟩
  rw [hnm, hL] at hidx
  have HNM := hide hnm
  have HLL := hide hL
  have hown := x.dirR h z
  obtain ⟨v, hv⟩ : ∃ v, A.nv z = v := ⟨_, rfl⟩
  rw [hv, hL] at hown
  have HV := hide hv
  obtain ⟨k, hk⟩ : ∃ k, idxR L nm = k := ⟨_, rfl⟩
  have HKE := hide hk
  have HIDX : Hid (idxV L nm = (k : Int)) := by show _ = _; rw [idxV_yes hidx, hk]
  rw [hk] at hidx
  have HK := hide hidx
  obtain ⟨y, hy⟩ : ∃ y, L.getD k Rw.zero = y := ⟨_, rfl⟩
  have HY := hide hy
  obtain ⟨hh, cap, hve, hnc, hcap, _, _, _, _⟩ := hown.elem k hidx y hy
  obtain ⟨n, hn⟩ : ∃ n, L.length = n := ⟨_, rfl⟩
  have HN := hide hn
  rw [hn] at hve hnc hidx
  subst hve
  have hki : (k : Int) < (n : Int) := by omega
  have hk0 : (0 : Int) ≤ (k : Int) := by omega
  have hk1 : ¬ (k : Int) < 0 := by omega
  have HEN : Hid (∀ (ss : ByteArray) (ao : Option Addr) (n2 c2 : Nat) (w : World), str nm = ss → Bts w ao n2 c2 (restOf l) → Calls Tryz.prog 118 #[.string ss, .slice ao n2 c2, .int .u64 (m.ar : Int)] w fun e w' => e = .returned (.tuple #[.agg #[.string { data := #[] }, .int .u64 0, .int .u32 0, .int .u8 0, .int .u64 0, .int .u8 0], .iface 47 (.int .i64 4)]) ∧ Below w.heap.size w w') := fun ss ao n2 c2 w hs hb => by
    subst hs
    have := entry_no nm ao n2 c2 (restOf l) m.ar w hb hbad
    exact this
  clear hbad
  clear bm br bX h x hb hz hyes hnm hL hv hown hy hn hk
  go_enter Tryz.func111, Tryz.ntmps111
  go_wp2_with fail
  refine (split_yes so sn sc l _ HB.out HYES.out).mono ?_; rw [HNM.out]; rintro e w1 ⟨ro, rn, rc, rfl, B1, b1⟩
  obtain ⟨ss, hss⟩ : ∃ q, str nm = q := ⟨_, rfl⟩
  have HSS := hide hss
  rw [hss]
  obtain ⟨w2, hw2⟩ : ∃ w2, w1.alloc (.cells #[.string ss] 9) = w2 := ⟨_, rfl⟩
  have b2 : Below w1.heap.size w1 w2 := hw2 ▸ below_alloc _ _
  have HNB : Hid (NB w2 w1.heap.size ss) := hw2 ▸ heap_alloc_new w1 _
  have b12 := below_one b1 b2
  have HX2 := hide (HX.out.grow b12)
  have c2 := HX2.out.bx.c2
  have hlk := HX2.out.look HZ.out
  rw [HV.out] at hlk
  have HB12 := hide b12
  have HB1 := hide (B1.carry b2)
  clear k10 b1 b2 b12 B1 hss
  go_wp2_with fail
  refine (index_row nm w1.heap.size (.slice (some ⟨hh, 0, none⟩) n cap) _ (B := A.N) (L := L) (by have := HX2.out.dirR (show Mb w2 A.g A.sb from HS.out) z; rw [HV.out, HLL.out] at this; exact this) (by rw [HSS.out]; exact HNB.out.c)).mono ?_; rw [HIDX.out]; rintro e w3 ⟨rfl, b3⟩
  have HB13 := hide (below_one HB12.out b3)
  have HX3 := hide (HX2.out.grow b3)
  have HR3 := hide (HR.out.grow HB13.out)
  have HM3 := hide (HM.out.grow HB13.out)
  have HB3 := hide (HB1.out.carry b3)
  have HNB3 := hide (HNB.out.grow b3)
  have HBX3 := hide (below_one HBX.out HB13.out)
  clear c2 hlk b3
  have k9 := HM3.out.all.2.2.2.2.2.2.2.2.2.1
  have cn := HNB3.out.c
  go_wp2_with fail
  refine (HEN.out ss _ _ _ _ HSS.out HB3.out).mono ?_; rintro e w4 ⟨rfl, b4⟩
  obtain ⟨w5, hw5⟩ : ∃ w5, w4.alloc (.cells #[.string { data := #[] }, .int .u64 0, .int .u32 0, .int .u8 0, .int .u64 0, .int .u8 0] 202) = w5 := ⟨_, rfl⟩
  have b5 : Below w4.heap.size w4 w5 := hw5 ▸ below_alloc _ _
  have HQ5 : Hid (RwB w5 w4.heap.size Rw.zero) := hw5 ▸ rwb_new w4 Rw.zero
  obtain ⟨d0, d1, d2, d3, d4, d5⟩ := HQ5.out.all
  simp only [Rw.zero, Cp.zero, str_nil, show (((0 : Nat)) : Int) = 0 from rfl] at d0 d1 d2 d3 d4 d5
  have u0 := HQ5.out.z 0
  have u1 := HQ5.out.z 1
  have u2 := HQ5.out.z 2
  have u3 := HQ5.out.z 3
  have u4 := HQ5.out.z 4
  have u5 := HQ5.out.z 5
  have b46 := below_layW b5 (Nat.le_refl w4.heap.size) Rw.zero
  obtain ⟨w6, hw6⟩ : ∃ w6, layW w5 w4.heap.size Rw.zero = w6 := ⟨_, rfl⟩
  rw [hw6] at b46
  unfold layW at hw6
  simp only [Rw.zero, Cp.zero, str_nil, show (((0 : Nat)) : Int) = 0 from rfl] at hw6
  have b36 := below_one b4 b46
  have HR6 := hide (HR3.out.grow b36)
  have HE6 := hide ((HX3.out.stay.to b36).from HBX3.out)
  clear b4 b5 b46 b36 k9 cn
  obtain ⟨y0, y1, y2, y3, y4, y5⟩ := HR6.out.all
  have z0 := HR6.out.z 0
  have z1 := HR6.out.z 1
  have z2 := HR6.out.z 2
  have z3 := HR6.out.z 3
  have z4 := HR6.out.z 4
  have z5 := HR6.out.z 5
  simp only [Cp.zero, show (((0 : Nat)) : Int) = 0 from rfl] at y0 y1 y2 y3
  have HRZ := hide (HR6.out.lay Cp.zero 0 (.slice none 0 0))
  have HEZ := hide ((HE6.out).res HW0.out HR6.out (by omega) (foot_lay6 w6 (w.heap.size + 1) Cp.zero 0 (.slice none 0 0)))
  obtain ⟨wz, hwz⟩ : ∃ wz, lay6 w6 ((w.heap.size + 1)) Cp.zero 0 (.slice none 0 0) = wz := ⟨_, rfl⟩
  rw [hwz] at HRZ HEZ
  unfold lay6 at hwz
  simp only [Cp.zero, show (((0 : Nat)) : Int) = 0 from rfl] at hwz
  obtain ⟨v0, v1, v2, v3, v4, v5⟩ := HRZ.out.all
  simp only [Cp.zero, show (((0 : Nat)) : Int) = 0 from rfl] at v0 v1 v2 v3 v4
  go_wp2
  refine bodyPost_ret (by simp [results, Tryz.results111, go_sem, v0, v1, v2, v3, v4, v5]; rfl) rfl ?_
  exact out_bad rfl HEZ.out
set_option maxRecDepth 20000 in
set_option maxHeartbeats 3200000 in
theorem named_ebad2 (z : Int) (m : Msg) (so : Option Addr) (sn sc : Nat) (l : List UInt8) (w : World) (h : Mb w A.g A.sb) (x : Sv w0 w A p ws s) (hz : I64 z) (hb : Bts w so sn sc l) (hyes : hasNm l = true) (hidx : ¬ idxR (s.L z) (nmOf l) < (s.L z).length) (hbad : (restOf l).length ≠ 16 ∨ 255 < m.ar) :
    Calls Tryz.prog 111 #[.pointer (some ⟨A.sb.1, 0, none⟩), .int .u16 102, .int .i64 z, .agg #[.int .u64 m.ta, .int .u64 m.rp, .int .u32 m.id, .int .u16 m.op, .int .u16 m.st, .int .u64 m.p, .int .u32 m.o, .int .u8 m.r, .int .u64 m.c, .int .u64 m.ar, .slice so sn sc]] w fun e w' => OutEnd w0 w A p ws (badF s 4) l e w' := by
  obtain ⟨X, hX, bm, br, bX⟩ := own_vars w m (.slice so sn sc)
  unfold resZ at hX
  have HS := hide h
  have HX := hide (x.grow bX)
  have HB := hide (hb.carry bX)
  have HR := hide br
  have HM := hide bm
  have HBX := hide bX
  have HW0 : Hid (w0.heap.size ≤ w.heap.size) := x.bel.size
  have HZ := hide hz
  have k10 : X.cell? ⟨w.heap.size, 10, none⟩ = some (.slice so sn sc) := bm.all.2.2.2.2.2.2.2.2.2.2
  have HYES := hide hyes
  have HSZ : Hid (w.heap.size + 1 < X.heap.size) := lt_of_heap br
  obtain ⟨nm, hnm⟩ : ∃ nm, nmOf l = nm := ⟨_, rfl⟩
  obtain ⟨L, hL⟩ : ∃ L, s.L z = L := ⟨_, rfl⟩
  rw [hnm, hL] at hidx
  have HNM := hide hnm
  have HLL := hide hL
  have hown := x.dirR h z
  obtain ⟨v, hv⟩ : ∃ v, A.nv z = v := ⟨_, rfl⟩
  rw [hv, hL] at hown
  have HV := hide hv
  have HIDX : Hid (idxV L nm = -1) := by show _ = _; rw [idxV_no hidx]
  have HK := hide hidx
  obtain ⟨ao, cap, hve, hnc, hcap⟩ := hown.form
  obtain ⟨n, hn⟩ : ∃ n, L.length = n := ⟨_, rfl⟩
  have HN := hide hn
  rw [hn] at hve
  subst hve
  have HEN : Hid (∀ (ss : ByteArray) (ao : Option Addr) (n2 c2 : Nat) (w : World), str nm = ss → Bts w ao n2 c2 (restOf l) → Calls Tryz.prog 118 #[.string ss, .slice ao n2 c2, .int .u64 (m.ar : Int)] w fun e w' => e = .returned (.tuple #[.agg #[.string { data := #[] }, .int .u64 0, .int .u32 0, .int .u8 0, .int .u64 0, .int .u8 0], .iface 47 (.int .i64 4)]) ∧ Below w.heap.size w w') := fun ss ao n2 c2 w hs hb => by
    subst hs
    have := entry_no nm ao n2 c2 (restOf l) m.ar w hb hbad
    exact this
  clear hbad
  clear bm br bX h x hb hz hyes hnm hL hv hown hn hidx hnc
  go_enter Tryz.func111, Tryz.ntmps111
  go_wp2_with fail
  refine (split_yes so sn sc l _ HB.out HYES.out).mono ?_; rw [HNM.out]; rintro e w1 ⟨ro, rn, rc, rfl, B1, b1⟩
  obtain ⟨ss, hss⟩ : ∃ q, str nm = q := ⟨_, rfl⟩
  have HSS := hide hss
  rw [hss]
  obtain ⟨w2, hw2⟩ : ∃ w2, w1.alloc (.cells #[.string ss] 9) = w2 := ⟨_, rfl⟩
  have b2 : Below w1.heap.size w1 w2 := hw2 ▸ below_alloc _ _
  have HNB : Hid (NB w2 w1.heap.size ss) := hw2 ▸ heap_alloc_new w1 _
  have b12 := below_one b1 b2
  have HX2 := hide (HX.out.grow b12)
  have c2 := HX2.out.bx.c2
  have hlk := HX2.out.look HZ.out
  rw [HV.out] at hlk
  have HB12 := hide b12
  have HB1 := hide (B1.carry b2)
  clear k10 b1 b2 b12 B1 hss
  go_wp2_with fail
  refine (index_row nm w1.heap.size (.slice ao n cap) _ (B := A.N) (L := L) (by have := HX2.out.dirR (show Mb w2 A.g A.sb from HS.out) z; rw [HV.out, HLL.out] at this; exact this) (by rw [HSS.out]; exact HNB.out.c)).mono ?_; rw [HIDX.out]; rintro e w3 ⟨rfl, b3⟩
  have HB13 := hide (below_one HB12.out b3)
  have HX3 := hide (HX2.out.grow b3)
  have HR3 := hide (HR.out.grow HB13.out)
  have HM3 := hide (HM.out.grow HB13.out)
  have HB3 := hide (HB1.out.carry b3)
  have HNB3 := hide (HNB.out.grow b3)
  have HBX3 := hide (below_one HBX.out HB13.out)
  clear c2 hlk b3
  have k9 := HM3.out.all.2.2.2.2.2.2.2.2.2.1
  have cn := HNB3.out.c
  go_wp2_with fail
  refine (HEN.out ss _ _ _ _ HSS.out HB3.out).mono ?_; rintro e w4 ⟨rfl, b4⟩
  obtain ⟨w5, hw5⟩ : ∃ w5, w4.alloc (.cells #[.string { data := #[] }, .int .u64 0, .int .u32 0, .int .u8 0, .int .u64 0, .int .u8 0] 202) = w5 := ⟨_, rfl⟩
  have b5 : Below w4.heap.size w4 w5 := hw5 ▸ below_alloc _ _
  have HQ5 : Hid (RwB w5 w4.heap.size Rw.zero) := hw5 ▸ rwb_new w4 Rw.zero
  obtain ⟨d0, d1, d2, d3, d4, d5⟩ := HQ5.out.all
  simp only [Rw.zero, Cp.zero, str_nil, show (((0 : Nat)) : Int) = 0 from rfl] at d0 d1 d2 d3 d4 d5
  have u0 := HQ5.out.z 0
  have u1 := HQ5.out.z 1
  have u2 := HQ5.out.z 2
  have u3 := HQ5.out.z 3
  have u4 := HQ5.out.z 4
  have u5 := HQ5.out.z 5
  have b46 := below_layW b5 (Nat.le_refl w4.heap.size) Rw.zero
  obtain ⟨w6, hw6⟩ : ∃ w6, layW w5 w4.heap.size Rw.zero = w6 := ⟨_, rfl⟩
  rw [hw6] at b46
  unfold layW at hw6
  simp only [Rw.zero, Cp.zero, str_nil, show (((0 : Nat)) : Int) = 0 from rfl] at hw6
  have b36 := below_one b4 b46
  have HR6 := hide (HR3.out.grow b36)
  have HE6 := hide ((HX3.out.stay.to b36).from HBX3.out)
  clear b4 b5 b46 b36 k9 cn
  obtain ⟨y0, y1, y2, y3, y4, y5⟩ := HR6.out.all
  have z0 := HR6.out.z 0
  have z1 := HR6.out.z 1
  have z2 := HR6.out.z 2
  have z3 := HR6.out.z 3
  have z4 := HR6.out.z 4
  have z5 := HR6.out.z 5
  simp only [Cp.zero, show (((0 : Nat)) : Int) = 0 from rfl] at y0 y1 y2 y3
  have HRZ := hide (HR6.out.lay Cp.zero 0 (.slice none 0 0))
  have HEZ := hide ((HE6.out).res HW0.out HR6.out (by omega) (foot_lay6 w6 (w.heap.size + 1) Cp.zero 0 (.slice none 0 0)))
  obtain ⟨wz, hwz⟩ : ∃ wz, lay6 w6 ((w.heap.size + 1)) Cp.zero 0 (.slice none 0 0) = wz := ⟨_, rfl⟩
  rw [hwz] at HRZ HEZ
  unfold lay6 at hwz
  simp only [Cp.zero, show (((0 : Nat)) : Int) = 0 from rfl] at hwz
  obtain ⟨v0, v1, v2, v3, v4, v5⟩ := HRZ.out.all
  simp only [Cp.zero, show (((0 : Nat)) : Int) = 0 from rfl] at v0 v1 v2 v3 v4
  go_wp2
  refine bodyPost_ret (by simp [results, Tryz.results111, go_sem, v0, v1, v2, v3, v4, v5]; rfl) rfl ?_
  exact out_bad rfl HEZ.out
theorem nm_len {l : List UInt8} (h : hasNm l = true) : 1 ≤ (nmOf l).length ∧ (nmOf l).length ≤ 32 := by
  have h1 := of_decide_eq_true h
  have e : (nmOf l).length = nmN l := by unfold nmOf; rw [List.length_take, List.length_drop]; omega
  rw [e]; exact h1.2
theorem row_ok {l : List UInt8} (h : hasNm l = true) {ar : Nat} (ha : ar ≤ 255) : Rw.ok ⟨nmOf l, capD (restOf l), ar⟩ := by
  refine ⟨nm_len h, ⟨?_, ?_, ?_, ?_⟩, ha⟩
  · exact Nat.le_trans (num6 _ _) (by omega)
  · exact Nat.le_trans (num3 _ _) (by omega)
  · exact num1 _ _
  · exact Nat.le_trans (num6 _ _) (by omega)
end
end Go.Proofs.YtlmnnjibggdboaaGreatDoor
namespace Go.Proofs.YtlmnnjibggdboaaGreatDoor
section
open Go.RowKit
variable {w0 w w1 w2 w' : World} {A A' : Ad} {p : Nat} {ws : List Nat} {s s' s1 : Hs} {r g : Nat} {sb : Nat × Bool}
set_option maxRecDepth 20000 in
set_option maxHeartbeats 1600000 in
theorem named_full (z : Int) (m : Msg) (so : Option Addr) (sn sc : Nat) (l : List UInt8) (w : World) (h : Mb w A.g A.sb) (x : Sv w0 w A p ws s) (hz : I64 z) (hb : Bts w so sn sc l) (hyes : hasNm l = true) (hidx : ¬ idxR (s.L z) (nmOf l) < (s.L z).length) (h16 : (restOf l).length = 16) (har : m.ar ≤ 255) (h64 : 64 ≤ (s.L z).length) :
    Calls Tryz.prog 111 #[.pointer (some ⟨A.sb.1, 0, none⟩), .int .u16 102, .int .i64 z, .agg #[.int .u64 m.ta, .int .u64 m.rp, .int .u32 m.id, .int .u16 m.op, .int .u16 m.st, .int .u64 m.p, .int .u32 m.o, .int .u8 m.r, .int .u64 m.c, .int .u64 m.ar, .slice so sn sc]] w fun e w' => OutEnd w0 w A p ws (badF s 5) l e w' := by
  obtain ⟨X, hX, bm, br, bX⟩ := own_vars w m (.slice so sn sc)
  unfold resZ at hX
  have HS := hide h
  have HX := hide (x.grow bX)
  have HB := hide (hb.carry bX)
  have HR := hide br
  have HM := hide bm
  have HBX := hide bX
  have HW0 : Hid (w0.heap.size ≤ w.heap.size) := x.bel.size
  have HZ := hide hz
  have k10 : X.cell? ⟨w.heap.size, 10, none⟩ = some (.slice so sn sc) := bm.all.2.2.2.2.2.2.2.2.2.2
  have HYES := hide hyes
  have HSZ : Hid (w.heap.size + 1 < X.heap.size) := lt_of_heap br
  obtain ⟨nm, hnm⟩ : ∃ nm, nmOf l = nm := ⟨_, rfl⟩
  obtain ⟨L, hL⟩ : ∃ L, s.L z = L := ⟨_, rfl⟩
  rw [hnm, hL] at hidx
  have HNM := hide hnm
  have HLL := hide hL
  have hown := x.dirR h z
  obtain ⟨v, hv⟩ : ∃ v, A.nv z = v := ⟨_, rfl⟩
  rw [hv, hL] at hown
  have HV := hide hv
  have HIDX : Hid (idxV L nm = -1) := by show _ = _; rw [idxV_no hidx]
  have HK := hide hidx
  obtain ⟨ao, cap, hve, hnc, hcap⟩ := hown.form
  obtain ⟨n, hn⟩ : ∃ n, L.length = n := ⟨_, rfl⟩
  have HN := hide hn
  rw [hn] at hve
  subst hve
  obtain ⟨ma, hma⟩ : ∃ ma, m.ar = ma := ⟨_, rfl⟩
  have HMA := hide hma
  rw [hma] at har hX
  obtain ⟨⟨cp, co, cr, cc⟩, hcp⟩ : ∃ q, capD (restOf l) = q := ⟨_, rfl⟩
  have HYO : Hid (Rw.ok ⟨nm, ⟨cp, co, cr, cc⟩, ma⟩) := by have := row_ok hyes har; rw [hnm, hcp] at this; exact this
  have HEN : Hid (∀ (ss : ByteArray) (ao : Option Addr) (n2 c2 : Nat) (w : World), str nm = ss → Bts w ao n2 c2 (restOf l) → Calls Tryz.prog 118 #[.string ss, .slice ao n2 c2, .int .u64 (ma : Int)] w fun e w' => e = .returned (.tuple #[.agg #[.string ss, .int .u64 (cp : Int), .int .u32 (co : Int), .int .u8 (cr : Int), .int .u64 (cc : Int), .int .u8 (ma : Int)], .nilIface]) ∧ Below w.heap.size w w') := fun ss ao n2 c2 w hs hb => by
    subst hs
    have := entry_yes nm ao n2 c2 (restOf l) ma w hb h16 har
    rw [hcp] at this
    exact this
  rw [hma]
  have H64 := hide h64
  clear h16 har hcp hma h64
  clear bm br bX h x hb hz hyes hnm hL hv hown hn hidx hnc
  go_enter Tryz.func111, Tryz.ntmps111
  go_wp2_with fail
  refine (split_yes so sn sc l _ HB.out HYES.out).mono ?_; rw [HNM.out]; rintro e w1 ⟨ro, rn, rc, rfl, B1, b1⟩
  obtain ⟨ss, hss⟩ : ∃ q, str nm = q := ⟨_, rfl⟩
  have HSS := hide hss
  rw [hss]
  obtain ⟨w2, hw2⟩ : ∃ w2, w1.alloc (.cells #[.string ss] 9) = w2 := ⟨_, rfl⟩
  have b2 : Below w1.heap.size w1 w2 := hw2 ▸ below_alloc _ _
  have HNB : Hid (NB w2 w1.heap.size ss) := hw2 ▸ heap_alloc_new w1 _
  have b12 := below_one b1 b2
  have HX2 := hide (HX.out.grow b12)
  have c2 := HX2.out.bx.c2
  have hlk := HX2.out.look HZ.out
  rw [HV.out] at hlk
  have HB12 := hide b12
  have HB1 := hide (B1.carry b2)
  clear k10 b1 b2 b12 B1 hss
  go_wp2_with fail
  refine (index_row nm w1.heap.size (.slice ao n cap) _ (B := A.N) (L := L) (by have := HX2.out.dirR (show Mb w2 A.g A.sb from HS.out) z; rw [HV.out, HLL.out] at this; exact this) (by rw [HSS.out]; exact HNB.out.c)).mono ?_; rw [HIDX.out]; rintro e w3 ⟨rfl, b3⟩
  have HB13 := hide (below_one HB12.out b3)
  have HX3 := hide (HX2.out.grow b3)
  have HR3 := hide (HR.out.grow HB13.out)
  have HM3 := hide (HM.out.grow HB13.out)
  have HB3 := hide (HB1.out.carry b3)
  have HNB3 := hide (HNB.out.grow b3)
  have HBX3 := hide (below_one HBX.out HB13.out)
  clear c2 hlk b3
  have k9 : w3.cell? ⟨w.heap.size, 9, none⟩ = some (.int .u64 (ma : Int)) := by have := HM3.out.all.2.2.2.2.2.2.2.2.2.1; rw [HMA.out] at this; exact this
  have cn := HNB3.out.c
  go_wp2_with fail
  refine (HEN.out ss _ _ _ _ HSS.out HB3.out).mono ?_; rintro e w4 ⟨rfl, b4⟩
  obtain ⟨w5, hw5⟩ : ∃ w5, w4.alloc (.cells #[.string ss, .int .u64 (cp : Int), .int .u32 (co : Int), .int .u8 (cr : Int), .int .u64 (cc : Int), .int .u8 (ma : Int)] 202) = w5 := ⟨_, rfl⟩
  have b5 : Below w4.heap.size w4 w5 := hw5 ▸ below_alloc _ _
  have HQ5 : Hid (RwB w5 w4.heap.size ⟨nm, ⟨cp, co, cr, cc⟩, ma⟩) := by
    have := rwb_new w4 ⟨nm, ⟨cp, co, cr, cc⟩, ma⟩
    simp only [HSS.out] at this
    rw [hw5] at this
    exact this
  have b45 := below_one b4 b5
  have HR5 := hide (HR3.out.grow b45)
  have HX5 := hide (HX3.out.grow b45)
  have HB5 := hide b45
  have HBX5 := hide (below_one HBX3.out b45)
  have HNS5 : Hid (¬ SvS A w4.heap.size) := fun e => by have h1 := ((HX3.out.grow b4).up e).2; omega
  have HLT5 : Hid (w.heap.size + 1 < w5.heap.size) := lt_of_heap HR5.out
  obtain ⟨d0, d1, d2, d3, d4, d5⟩ := HQ5.out.all
  simp only [HSS.out] at d0
  clear b4 b5 b45 k9 cn
  have hce := enter_full z ⟨nm, ⟨cp, co, cr, cc⟩, ma⟩ w5 (show Mb w5 A.g A.sb from HS.out) HX5.out HZ.out H64.out
  unfold Rw.val at hce
  simp only [HSS.out] at hce
  have HCE := hide hce
  clear hce
  go_wp2_with fail
  refine HCE.out.mono ?_; rintro e w6 ⟨rfl, E6⟩
  have HR6 := hide (HR5.out.kh (HX5.out.kh E6))
  have HE6 := hide (E6.from HBX5.out)
  clear E6 d0 d1 d2 d3 d4 d5
  obtain ⟨y0, y1, y2, y3, y4, y5⟩ := HR6.out.all
  have z0 := HR6.out.z 0
  have z1 := HR6.out.z 1
  have z2 := HR6.out.z 2
  have z3 := HR6.out.z 3
  have z4 := HR6.out.z 4
  have z5 := HR6.out.z 5
  simp only [Cp.zero, show (((0 : Nat)) : Int) = 0 from rfl] at y0 y1 y2 y3
  have HRZ := hide (HR6.out.lay Cp.zero 0 (.slice none 0 0))
  have HEZ := hide ((HE6.out).res HW0.out HR6.out (by omega) (foot_lay6 w6 (w.heap.size + 1) Cp.zero 0 (.slice none 0 0)))
  obtain ⟨wz, hwz⟩ : ∃ wz, lay6 w6 ((w.heap.size + 1)) Cp.zero 0 (.slice none 0 0) = wz := ⟨_, rfl⟩
  rw [hwz] at HRZ HEZ
  unfold lay6 at hwz
  simp only [Cp.zero, show (((0 : Nat)) : Int) = 0 from rfl] at hwz
  obtain ⟨v0, v1, v2, v3, v4, v5⟩ := HRZ.out.all
  simp only [Cp.zero, show (((0 : Nat)) : Int) = 0 from rfl] at v0 v1 v2 v3 v4
  go_wp2
  refine bodyPost_ret (by simp [results, Tryz.results111, go_sem, v0, v1, v2, v3, v4, v5]; rfl) rfl ?_
  exact out_bad rfl HEZ.out
end
end Go.Proofs.YtlmnnjibggdboaaGreatDoor
namespace Go.Proofs.YtlmnnjibggdboaaGreatDoor
section
open Go.RowKit
variable {w0 w w1 w2 w' : World} {A A' : Ad} {p : Nat} {ws : List Nat} {s s' s1 : Hs} {r g : Nat} {sb : Nat × Bool}
set_option maxRecDepth 20000 in
set_option maxHeartbeats 1600000 in
theorem named_enter (z : Int) (m : Msg) (so : Option Addr) (sn sc : Nat) (l : List UInt8) (w : World) (h : Mb w A.g A.sb) (x : Sv w0 w A p ws s) (hz : I64 z) (hb : Bts w so sn sc l) (hyes : hasNm l = true) (hidx : ¬ idxR (s.L z) (nmOf l) < (s.L z).length) (h16 : (restOf l).length = 16) (har : m.ar ≤ 255) (h64 : (s.L z).length < 64) (hq : s.q < 5000000000000000) :
    Calls Tryz.prog 111 #[.pointer (some ⟨A.sb.1, 0, none⟩), .int .u16 102, .int .i64 z, .agg #[.int .u64 m.ta, .int .u64 m.rp, .int .u32 m.id, .int .u16 m.op, .int .u16 m.st, .int .u64 m.p, .int .u32 m.o, .int .u8 m.r, .int .u64 m.c, .int .u64 m.ar, .slice so sn sc]] w fun e w' => OutEnd w0 w A p ws (badF (s.row z (s.L z ++ [⟨nmOf l, capD (restOf l), m.ar⟩])) 0) l e w' := by
  obtain ⟨X, hX, bm, br, bX⟩ := own_vars w m (.slice so sn sc)
  unfold resZ at hX
  have HS := hide h
  have HX := hide (x.grow bX)
  have HB := hide (hb.carry bX)
  have HR := hide br
  have HM := hide bm
  have HBX := hide bX
  have HW0 : Hid (w0.heap.size ≤ w.heap.size) := x.bel.size
  have HZ := hide hz
  have k10 : X.cell? ⟨w.heap.size, 10, none⟩ = some (.slice so sn sc) := bm.all.2.2.2.2.2.2.2.2.2.2
  have HYES := hide hyes
  have HSZ : Hid (w.heap.size + 1 < X.heap.size) := lt_of_heap br
  obtain ⟨nm, hnm⟩ : ∃ nm, nmOf l = nm := ⟨_, rfl⟩
  obtain ⟨L, hL⟩ : ∃ L, s.L z = L := ⟨_, rfl⟩
  rw [hnm, hL] at hidx
  have HNM := hide hnm
  have HLL := hide hL
  have hown := x.dirR h z
  obtain ⟨v, hv⟩ : ∃ v, A.nv z = v := ⟨_, rfl⟩
  rw [hv, hL] at hown
  have HV := hide hv
  have HIDX : Hid (idxV L nm = -1) := by show _ = _; rw [idxV_no hidx]
  have HK := hide hidx
  obtain ⟨ao, cap, hve, hnc, hcap⟩ := hown.form
  obtain ⟨n, hn⟩ : ∃ n, L.length = n := ⟨_, rfl⟩
  have HN := hide hn
  rw [hn] at hve
  subst hve
  obtain ⟨ma, hma⟩ : ∃ ma, m.ar = ma := ⟨_, rfl⟩
  have HMA := hide hma
  rw [hma] at har hX
  obtain ⟨⟨cp, co, cr, cc⟩, hcp⟩ : ∃ q, capD (restOf l) = q := ⟨_, rfl⟩
  have HYO : Hid (Rw.ok ⟨nm, ⟨cp, co, cr, cc⟩, ma⟩) := by have := row_ok hyes har; rw [hnm, hcp] at this; exact this
  have HEN : Hid (∀ (ss : ByteArray) (ao : Option Addr) (n2 c2 : Nat) (w : World), str nm = ss → Bts w ao n2 c2 (restOf l) → Calls Tryz.prog 118 #[.string ss, .slice ao n2 c2, .int .u64 (ma : Int)] w fun e w' => e = .returned (.tuple #[.agg #[.string ss, .int .u64 (cp : Int), .int .u32 (co : Int), .int .u8 (cr : Int), .int .u64 (cc : Int), .int .u8 (ma : Int)], .nilIface]) ∧ Below w.heap.size w w') := fun ss ao n2 c2 w hs hb => by
    subst hs
    have := entry_yes nm ao n2 c2 (restOf l) ma w hb h16 har
    rw [hcp] at this
    exact this
  rw [hL, hnm, hcp, hma]
  have H64 := hide h64
  have HQQ := hide hq
  have hG : Good (s.L z ++ [⟨nm, ⟨cp, co, cr, cc⟩, ma⟩]) := (x.good z).snoc _ HYO.out h64 (by have h1 := x.good z; rw [hL]; exact notin_of_idx (Nat.le_antisymm idx_le (Nat.le_of_not_lt hidx)))
  have HG := hide hG
  clear h16 har hcp hma h64 hq hG
  clear bm br bX h x hb hz hyes hnm hL hv hown hn hidx hnc
  go_enter Tryz.func111, Tryz.ntmps111
  go_wp2_with fail
  refine (split_yes so sn sc l _ HB.out HYES.out).mono ?_; rw [HNM.out]; rintro e w1 ⟨ro, rn, rc, rfl, B1, b1⟩
  obtain ⟨ss, hss⟩ : ∃ q, str nm = q := ⟨_, rfl⟩
  have HSS := hide hss
  rw [hss]
  obtain ⟨w2, hw2⟩ : ∃ w2, w1.alloc (.cells #[.string ss] 9) = w2 := ⟨_, rfl⟩
  have b2 : Below w1.heap.size w1 w2 := hw2 ▸ below_alloc _ _
  have HNB : Hid (NB w2 w1.heap.size ss) := hw2 ▸ heap_alloc_new w1 _
  have b12 := below_one b1 b2
  have HX2 := hide (HX.out.grow b12)
  have c2 := HX2.out.bx.c2
  have hlk := HX2.out.look HZ.out
  rw [HV.out] at hlk
  have HB12 := hide b12
  have HB1 := hide (B1.carry b2)
  clear k10 b1 b2 b12 B1 hss
  go_wp2_with fail
  refine (index_row nm w1.heap.size (.slice ao n cap) _ (B := A.N) (L := L) (by have := HX2.out.dirR (show Mb w2 A.g A.sb from HS.out) z; rw [HV.out, HLL.out] at this; exact this) (by rw [HSS.out]; exact HNB.out.c)).mono ?_; rw [HIDX.out]; rintro e w3 ⟨rfl, b3⟩
  have HB13 := hide (below_one HB12.out b3)
  have HX3 := hide (HX2.out.grow b3)
  have HR3 := hide (HR.out.grow HB13.out)
  have HM3 := hide (HM.out.grow HB13.out)
  have HB3 := hide (HB1.out.carry b3)
  have HNB3 := hide (HNB.out.grow b3)
  have HBX3 := hide (below_one HBX.out HB13.out)
  clear c2 hlk b3
  have k9 : w3.cell? ⟨w.heap.size, 9, none⟩ = some (.int .u64 (ma : Int)) := by have := HM3.out.all.2.2.2.2.2.2.2.2.2.1; rw [HMA.out] at this; exact this
  have cn := HNB3.out.c
  go_wp2_with fail
  refine (HEN.out ss _ _ _ _ HSS.out HB3.out).mono ?_; rintro e w4 ⟨rfl, b4⟩
  obtain ⟨w5, hw5⟩ : ∃ w5, w4.alloc (.cells #[.string ss, .int .u64 (cp : Int), .int .u32 (co : Int), .int .u8 (cr : Int), .int .u64 (cc : Int), .int .u8 (ma : Int)] 202) = w5 := ⟨_, rfl⟩
  have b5 : Below w4.heap.size w4 w5 := hw5 ▸ below_alloc _ _
  have HQ5 : Hid (RwB w5 w4.heap.size ⟨nm, ⟨cp, co, cr, cc⟩, ma⟩) := by
    have := rwb_new w4 ⟨nm, ⟨cp, co, cr, cc⟩, ma⟩
    simp only [HSS.out] at this
    rw [hw5] at this
    exact this
  have b45 := below_one b4 b5
  have HR5 := hide (HR3.out.grow b45)
  have HX5 := hide (HX3.out.grow b45)
  have HB5 := hide b45
  have HBX5 := hide (below_one HBX3.out b45)
  have HNS5 : Hid (¬ SvS A w4.heap.size) := fun e => by have h1 := ((HX3.out.grow b4).up e).2; omega
  have HLT5 : Hid (w.heap.size + 1 < w5.heap.size) := lt_of_heap HR5.out
  obtain ⟨d0, d1, d2, d3, d4, d5⟩ := HQ5.out.all
  simp only [HSS.out] at d0
  clear b4 b5 b45 k9 cn
  have hce := enter_yes z ⟨nm, ⟨cp, co, cr, cc⟩, ma⟩ w5 (show Mb w5 A.g A.sb from HS.out) HX5.out HZ.out H64.out HQQ.out HG.out
  unfold Rw.val at hce
  simp only [HSS.out] at hce
  have HCE := hide hce
  clear hce
  go_wp2_with fail
  refine HCE.out.mono ?_; rw [HLL.out]; rintro e w6 ⟨rfl, E6⟩
  have HR6 := hide (HR5.out.kh (HX5.out.kh E6))
  have HE6 := hide (E6.from HBX5.out)
  clear E6 d0 d1 d2 d3 d4 d5
  obtain ⟨y0, y1, y2, y3, y4, y5⟩ := HR6.out.all
  have z0 := HR6.out.z 0
  have z1 := HR6.out.z 1
  have z2 := HR6.out.z 2
  have z3 := HR6.out.z 3
  have z4 := HR6.out.z 4
  have z5 := HR6.out.z 5
  simp only [Cp.zero, show (((0 : Nat)) : Int) = 0 from rfl] at y0 y1 y2 y3
  have HRZ := hide (HR6.out.lay Cp.zero 0 (.slice none 0 0))
  have HEZ := hide ((HE6.out).res HW0.out HR6.out (by omega) (foot_lay6 w6 (w.heap.size + 1) Cp.zero 0 (.slice none 0 0)))
  obtain ⟨wz, hwz⟩ : ∃ wz, lay6 w6 ((w.heap.size + 1)) Cp.zero 0 (.slice none 0 0) = wz := ⟨_, rfl⟩
  rw [hwz] at HRZ HEZ
  unfold lay6 at hwz
  simp only [Cp.zero, show (((0 : Nat)) : Int) = 0 from rfl] at hwz
  obtain ⟨v0, v1, v2, v3, v4, v5⟩ := HRZ.out.all
  simp only [Cp.zero, show (((0 : Nat)) : Int) = 0 from rfl] at v0 v1 v2 v3 v4
  go_wp2
  refine bodyPost_ret (by simp [results, Tryz.results111, go_sem, v0, v1, v2, v3, v4, v5]; rfl) rfl ?_
  exact out_bad rfl HEZ.out
end
end Go.Proofs.YtlmnnjibggdboaaGreatDoor
namespace Go.Proofs.YtlmnnjibggdboaaGreatDoor
section
open Go.RowKit
variable {w0 w w1 w2 w' : World} {A A' : Ad} {p : Nat} {ws : List Nat} {s s' s1 : Hs} {r g : Nat} {sb : Nat × Bool}
set_option maxRecDepth 20000 in
set_option maxHeartbeats 1600000 in
theorem named_rep (z : Int) (m : Msg) (so : Option Addr) (sn sc : Nat) (l : List UInt8) (w : World) (h : Mb w A.g A.sb) (x : Sv w0 w A p ws s) (hz : I64 z) (hb : Bts w so sn sc l) (hyes : hasNm l = true) (hidx : idxR (s.L z) (nmOf l) < (s.L z).length) (h16 : (restOf l).length = 16) (har : m.ar ≤ 255) :
    Calls Tryz.prog 111 #[.pointer (some ⟨A.sb.1, 0, none⟩), .int .u16 103, .int .i64 z, .agg #[.int .u64 m.ta, .int .u64 m.rp, .int .u32 m.id, .int .u16 m.op, .int .u16 m.st, .int .u64 m.p, .int .u32 m.o, .int .u8 m.r, .int .u64 m.c, .int .u64 m.ar, .slice so sn sc]] w fun e w' => OutEnd w0 w A p ws (badF (s.row z ((s.L z).set (idxR (s.L z) (nmOf l)) ⟨nmOf l, capD (restOf l), m.ar⟩)) 0) l e w' := by
  obtain ⟨X, hX, bm, br, bX⟩ := own_vars w m (.slice so sn sc)
  unfold resZ at hX
  have HS := hide h
  have HX := hide (x.grow bX)
  have HB := hide (hb.carry bX)
  have HR := hide br
  have HM := hide bm
  have HBX := hide bX
  have HW0 : Hid (w0.heap.size ≤ w.heap.size) := x.bel.size
  have HZ := hide hz
  have k10 : X.cell? ⟨w.heap.size, 10, none⟩ = some (.slice so sn sc) := bm.all.2.2.2.2.2.2.2.2.2.2
  have HYES := hide hyes
  have HSZ : Hid (w.heap.size + 1 < X.heap.size) := lt_of_heap br
  obtain ⟨nm, hnm⟩ : ∃ nm, nmOf l = nm := ⟨_, rfl⟩
  obtain ⟨L, hL⟩ : ∃ L, s.L z = L := ⟨_, rfl⟩
  rw [hnm, hL] at hidx
  have HNM := hide hnm
  have HLL := hide hL
  have hown := x.dirR h z
  obtain ⟨v, hv⟩ : ∃ v, A.nv z = v := ⟨_, rfl⟩
  rw [hv, hL] at hown
  have HV := hide hv
  obtain ⟨k, hk⟩ : ∃ k, idxR L nm = k := ⟨_, rfl⟩
  have HKE := hide hk
  have HIDX : Hid (idxV L nm = (k : Int)) := by show _ = _; rw [idxV_yes hidx, hk]
  rw [hk] at hidx
  have HK := hide hidx
  obtain ⟨y, hy⟩ : ∃ y, L.getD k Rw.zero = y := ⟨_, rfl⟩
  have HY := hide hy
  obtain ⟨hh, cap, hve, hnc, hcap, _, _, _, _⟩ := hown.elem k hidx y hy
  obtain ⟨n, hn⟩ : ∃ n, L.length = n := ⟨_, rfl⟩
  have HN := hide hn
  rw [hn] at hve hnc hidx
  subst hve
  have hki : (k : Int) < (n : Int) := by omega
  have hk0 : (0 : Int) ≤ (k : Int) := by omega
  have hk1 : ¬ (k : Int) < 0 := by omega
  obtain ⟨ma, hma⟩ : ∃ ma, m.ar = ma := ⟨_, rfl⟩
  have HMA := hide hma
  rw [hma] at har hX
  obtain ⟨⟨cp, co, cr, cc⟩, hcp⟩ : ∃ q, capD (restOf l) = q := ⟨_, rfl⟩
  have HYO : Hid (Rw.ok ⟨nm, ⟨cp, co, cr, cc⟩, ma⟩) := by have := row_ok hyes har; rw [hnm, hcp] at this; exact this
  have HEN : Hid (∀ (ss : ByteArray) (ao : Option Addr) (n2 c2 : Nat) (w : World), str nm = ss → Bts w ao n2 c2 (restOf l) → Calls Tryz.prog 118 #[.string ss, .slice ao n2 c2, .int .u64 (ma : Int)] w fun e w' => e = .returned (.tuple #[.agg #[.string ss, .int .u64 (cp : Int), .int .u32 (co : Int), .int .u8 (cr : Int), .int .u64 (cc : Int), .int .u8 (ma : Int)], .nilIface]) ∧ Below w.heap.size w w') := fun ss ao n2 c2 w hs hb => by
    subst hs
    have := entry_yes nm ao n2 c2 (restOf l) ma w hb h16 har
    rw [hcp] at this
    exact this
  rw [hL, hnm, hcp, hma, hk]
  have hG : Good (L.set k ⟨nm, ⟨cp, co, cr, cc⟩, ma⟩) := by
    have h1 := x.good z
    rw [hL] at h1
    exact h1.set k _ HYO.out HK.out (by have := idx_at (L := L) (nm := nm) (by rw [hk]; exact HK.out); rw [hk] at this; exact this)
  have HG := hide hG
  clear h16 har hcp hma hG
  clear bm br bX h x hb hz hyes hnm hL hv hown hy hn hk
  go_enter Tryz.func111, Tryz.ntmps111
  go_wp2_with fail
  refine (split_yes so sn sc l _ HB.out HYES.out).mono ?_; rw [HNM.out]; rintro e w1 ⟨ro, rn, rc, rfl, B1, b1⟩
  obtain ⟨ss, hss⟩ : ∃ q, str nm = q := ⟨_, rfl⟩
  have HSS := hide hss
  rw [hss]
  obtain ⟨w2, hw2⟩ : ∃ w2, w1.alloc (.cells #[.string ss] 9) = w2 := ⟨_, rfl⟩
  have b2 : Below w1.heap.size w1 w2 := hw2 ▸ below_alloc _ _
  have HNB : Hid (NB w2 w1.heap.size ss) := hw2 ▸ heap_alloc_new w1 _
  have b12 := below_one b1 b2
  have HX2 := hide (HX.out.grow b12)
  have c2 := HX2.out.bx.c2
  have hlk := HX2.out.look HZ.out
  rw [HV.out] at hlk
  have HB12 := hide b12
  have HB1 := hide (B1.carry b2)
  clear k10 b1 b2 b12 B1 hss
  go_wp2_with fail
  refine (index_row nm w1.heap.size (.slice (some ⟨hh, 0, none⟩) n cap) _ (B := A.N) (L := L) (by have := HX2.out.dirR (show Mb w2 A.g A.sb from HS.out) z; rw [HV.out, HLL.out] at this; exact this) (by rw [HSS.out]; exact HNB.out.c)).mono ?_; rw [HIDX.out]; rintro e w3 ⟨rfl, b3⟩
  have HB13 := hide (below_one HB12.out b3)
  have HX3 := hide (HX2.out.grow b3)
  have HR3 := hide (HR.out.grow HB13.out)
  have HM3 := hide (HM.out.grow HB13.out)
  have HB3 := hide (HB1.out.carry b3)
  have HNB3 := hide (HNB.out.grow b3)
  have HBX3 := hide (below_one HBX.out HB13.out)
  clear c2 hlk b3
  have k9 : w3.cell? ⟨w.heap.size, 9, none⟩ = some (.int .u64 (ma : Int)) := by have := HM3.out.all.2.2.2.2.2.2.2.2.2.1; rw [HMA.out] at this; exact this
  have cn := HNB3.out.c
  go_wp2_with fail
  refine (HEN.out ss _ _ _ _ HSS.out HB3.out).mono ?_; rintro e w4 ⟨rfl, b4⟩
  obtain ⟨w5, hw5⟩ : ∃ w5, w4.alloc (.cells #[.string ss, .int .u64 (cp : Int), .int .u32 (co : Int), .int .u8 (cr : Int), .int .u64 (cc : Int), .int .u8 (ma : Int)] 202) = w5 := ⟨_, rfl⟩
  have b5 : Below w4.heap.size w4 w5 := hw5 ▸ below_alloc _ _
  have HQ5 : Hid (RwB w5 w4.heap.size ⟨nm, ⟨cp, co, cr, cc⟩, ma⟩) := by
    have := rwb_new w4 ⟨nm, ⟨cp, co, cr, cc⟩, ma⟩
    simp only [HSS.out] at this
    rw [hw5] at this
    exact this
  have b45 := below_one b4 b5
  have HR5 := hide (HR3.out.grow b45)
  have HX5 := hide (HX3.out.grow b45)
  have HB5 := hide b45
  have HBX5 := hide (below_one HBX3.out b45)
  have HNS5 : Hid (¬ SvS A w4.heap.size) := fun e => by have h1 := ((HX3.out.grow b4).up e).2; omega
  have HLT5 : Hid (w.heap.size + 1 < w5.heap.size) := lt_of_heap HR5.out
  obtain ⟨d0, d1, d2, d3, d4, d5⟩ := HQ5.out.all
  simp only [HSS.out] at d0
  clear b4 b5 b45 k9 cn
  have HXd : Hid (Sv w0 w5.drew A p ws s) := HX5.out.drewN 1
  have HRd : Hid (RB w5.drew (w.heap.size + 1) Cp.zero 0 (.slice none 0 0)) := HR5.out
  have hlk := HXd.out.look HZ.out
  rw [HV.out] at hlk
  have hown := HXd.out.dirR (show Mb w5.drew A.g A.sb from HS.out) z
  rw [HV.out, HLL.out] at hown
  obtain ⟨h4, cap4, e4, _, _, _, _, ⟨q0, q1, q2, q3, q4, q5⟩, fz⟩ := hown.elem k HK.out y HY.out
  obtain ⟨rfl, rfl⟩ : hh = h4 ∧ cap = cap4 := by simp only [Value.slice.injEq, Option.some.injEq, Addr.mk.injEq] at e4; exact ⟨e4.1.1, e4.2.2⟩
  have f0 := fz (k * 6)
  have f1 := fz (k * 6 + 1)
  have f2 := fz (k * 6 + 2)
  have f3 := fz (k * 6 + 3)
  have f4 := fz (k * 6 + 4)
  have f5 := fz (k * 6 + 5)
  obtain ⟨r0, r1, r2, r3, r4, r5⟩ : w5.cell? ⟨hh, k * 6, none⟩ = some (.string (str y.n)) ∧ w5.cell? ⟨hh, k * 6 + 1, none⟩ = some (.int .u64 (y.c.p : Int)) ∧ w5.cell? ⟨hh, k * 6 + 2, none⟩ = some (.int .u32 (y.c.o : Int)) ∧ w5.cell? ⟨hh, k * 6 + 3, none⟩ = some (.int .u8 (y.c.r : Int)) ∧ w5.cell? ⟨hh, k * 6 + 4, none⟩ = some (.int .u64 (y.c.c : Int)) ∧ w5.cell? ⟨hh, k * 6 + 5, none⟩ = some (.int .u8 (y.m : Int)) := ⟨q0, q1, q2, q3, q4, q5⟩
  have g0 : w5.frozen? ⟨hh, k * 6, none⟩ = false := f0
  have g1 : w5.frozen? ⟨hh, k * 6 + 1, none⟩ = false := f1
  have g2 : w5.frozen? ⟨hh, k * 6 + 2, none⟩ = false := f2
  have g3 : w5.frozen? ⟨hh, k * 6 + 3, none⟩ = false := f3
  have g4 : w5.frozen? ⟨hh, k * 6 + 4, none⟩ = false := f4
  have g5 : w5.frozen? ⟨hh, k * 6 + 5, none⟩ = false := f5
  have hE := rep_step HXd.out (show Mb w5.drew A.g A.sb from HS.out) (z := z) (k := k) (by rw [HLL.out]; exact HK.out) HV.out ⟨nm, ⟨cp, co, cr, cc⟩, ma⟩ (by rw [HLL.out]; exact HG.out)
  rw [HLL.out, setR_drew] at hE
  have ho : (A.nv z).ownBlock = some hh := by rw [HV.out]; rfl
  have fs := foot_setR w5 hh k ⟨nm, ⟨cp, co, cr, cc⟩, ma⟩
  have hSa : w5.drew.cell? ⟨A.sb.1, 2, none⟩ = some (.map A.dv) ∧ w5.drew.cell? ⟨w4.heap.size, 0, none⟩ = some (.string ss) ∧ w5.drew.cell? ⟨w4.heap.size, 1, none⟩ = some (.int .u64 (cp : Int)) ∧ w5.drew.cell? ⟨w4.heap.size, 2, none⟩ = some (.int .u32 (co : Int)) ∧ w5.drew.cell? ⟨w4.heap.size, 3, none⟩ = some (.int .u8 (cr : Int)) ∧ w5.drew.cell? ⟨w4.heap.size, 4, none⟩ = some (.int .u64 (cc : Int)) ∧ w5.drew.cell? ⟨w4.heap.size, 5, none⟩ = some (.int .u8 (ma : Int)) := ⟨HXd.out.bx.c2, d0, d1, d2, d3, d4, d5⟩
  have hr5 : RwB (setR w5 hh k ⟨nm, ⟨cp, co, cr, cc⟩, ma⟩).drew w4.heap.size ⟨nm, ⟨cp, co, cr, cc⟩, ma⟩ := RwB.dr ((fs.block _ (lt_of_heap HQ5.out) (fun (e : w4.heap.size = hh) => HNS5.out (.inr (.inr (.inr ⟨z, by rw [ho, e]⟩))))).trans HQ5.out)
  have hb5 : BoxIs (setR w5 hh k ⟨nm, ⟨cp, co, cr, cc⟩, ma⟩).drew A s.n := BoxIs.dr ((fs.block _ (lt_of_heap HX5.out.bx) (fun (e : A.sb.1 = hh) => HX5.out.noR HX5.out.bx (.inl (bT_rT _ _).symm) (.inr ⟨z, by rw [ho, e]⟩))).trans HX5.out.bx)
  obtain ⟨g0', g1', g2', g3', g4', g5'⟩ := hr5.all
  simp only [HSS.out] at g0'
  have hSb : (setR w5 hh k ⟨nm, ⟨cp, co, cr, cc⟩, ma⟩).drew.cell? ⟨A.sb.1, 2, none⟩ = some (.map A.dv) ∧ (setR w5 hh k ⟨nm, ⟨cp, co, cr, cc⟩, ma⟩).drew.cell? ⟨w4.heap.size, 0, none⟩ = some (.string ss) ∧ (setR w5 hh k ⟨nm, ⟨cp, co, cr, cc⟩, ma⟩).drew.cell? ⟨w4.heap.size, 1, none⟩ = some (.int .u64 (cp : Int)) ∧ (setR w5 hh k ⟨nm, ⟨cp, co, cr, cc⟩, ma⟩).drew.cell? ⟨w4.heap.size, 2, none⟩ = some (.int .u32 (co : Int)) ∧ (setR w5 hh k ⟨nm, ⟨cp, co, cr, cc⟩, ma⟩).drew.cell? ⟨w4.heap.size, 3, none⟩ = some (.int .u8 (cr : Int)) ∧ (setR w5 hh k ⟨nm, ⟨cp, co, cr, cc⟩, ma⟩).drew.cell? ⟨w4.heap.size, 4, none⟩ = some (.int .u64 (cc : Int)) ∧ (setR w5 hh k ⟨nm, ⟨cp, co, cr, cc⟩, ma⟩).drew.cell? ⟨w4.heap.size, 5, none⟩ = some (.int .u8 (ma : Int)) := ⟨hb5.c2, g0', g1', g2', g3', g4', g5'⟩
  clear g0' g1' g2' g3' g4' g5'
  have HR6 : Hid (RB (setR w5 hh k ⟨nm, ⟨cp, co, cr, cc⟩, ma⟩).drew (w.heap.size + 1) Cp.zero 0 (.slice none 0 0)) := HRd.out.kh (HXd.out.kh hE)
  have HE6 : Hid (SvEnd w0 w A p ws (setR w5 hh k ⟨nm, ⟨cp, co, cr, cc⟩, ma⟩).drew (s.row z (L.set k ⟨nm, ⟨cp, co, cr, cc⟩, ma⟩))) := hE.from (below_one HBX5.out (below_d w5 1))
  obtain ⟨w6, hw6⟩ : ∃ w6, setR w5 hh k ⟨nm, ⟨cp, co, cr, cc⟩, ma⟩ = w6 := ⟨_, rfl⟩
  rw [hw6] at HR6 HE6 hSb
  obtain ⟨w7, hw7⟩ : ∃ w7, w6.drew = w7 := ⟨_, rfl⟩
  rw [hw7] at HR6 HE6 hSb
  unfold setR at hw6
  simp only [HSS.out] at hw6
  have HSa := hide hSa
  have HSb := hide hSb
  clear hown e4 fz hE fs hSa hSb hr5 hb5
  go_wp2_with fail
  go_region_held (fun U => U.cell? ⟨A.sb.1, 2, none⟩ = some (.map A.dv) ∧ U.cell? ⟨w4.heap.size, 0, none⟩ = some (.string ss) ∧ U.cell? ⟨w4.heap.size, 1, none⟩ = some (.int .u64 (cp : Int)) ∧ U.cell? ⟨w4.heap.size, 2, none⟩ = some (.int .u32 (co : Int)) ∧ U.cell? ⟨w4.heap.size, 3, none⟩ = some (.int .u8 (cr : Int)) ∧ U.cell? ⟨w4.heap.size, 4, none⟩ = some (.int .u64 (cc : Int)) ∧ U.cell? ⟨w4.heap.size, 5, none⟩ = some (.int .u8 (ma : Int)))
    (first | with_reducible exact HSa.out | with_reducible exact HSb.out)
    (fail)
  obtain ⟨y0, y1, y2, y3, y4, y5⟩ := HR6.out.all
  have z0 := HR6.out.z 0
  have z1 := HR6.out.z 1
  have z2 := HR6.out.z 2
  have z3 := HR6.out.z 3
  have z4 := HR6.out.z 4
  have z5 := HR6.out.z 5
  simp only [Cp.zero, show (((0 : Nat)) : Int) = 0 from rfl] at y0 y1 y2 y3
  have HRZ := hide (HR6.out.lay Cp.zero 0 (.slice none 0 0))
  have HEZ := hide ((HE6.out).res HW0.out HR6.out (by omega) (foot_lay6 w7 (w.heap.size + 1) Cp.zero 0 (.slice none 0 0)))
  obtain ⟨wz, hwz⟩ : ∃ wz, lay6 w7 ((w.heap.size + 1)) Cp.zero 0 (.slice none 0 0) = wz := ⟨_, rfl⟩
  rw [hwz] at HRZ HEZ
  unfold lay6 at hwz
  simp only [Cp.zero, show (((0 : Nat)) : Int) = 0 from rfl] at hwz
  obtain ⟨v0, v1, v2, v3, v4, v5⟩ := HRZ.out.all
  simp only [Cp.zero, show (((0 : Nat)) : Int) = 0 from rfl] at v0 v1 v2 v3 v4
  go_wp2
  refine bodyPost_ret (by simp [results, Tryz.results111, go_sem, v0, v1, v2, v3, v4, v5]; rfl) rfl ?_
  exact out_bad rfl HEZ.out
end
end Go.Proofs.YtlmnnjibggdboaaGreatDoor
namespace Go.Proofs.YtlmnnjibggdboaaGreatDoor
section
open Go.RowKit
variable {w0 w w1 w2 w' : World} {A A' : Ad} {p : Nat} {ws : List Nat} {s s' s1 : Hs} {r g : Nat} {sb : Nat × Bool}
/- what a deed on a directory wants -/
structure Dok (z : Int) (s : Hs) : Prop where
  z : I64 z
  el : s.es.length ≤ 5000000000000
  q : s.q < 5000000000000000
  n : s.n ≤ 4611686018427387904
theorem named_any (op : Nat) (z : Int) (m : Msg) (so : Option Addr) (sn sc : Nat) (l : List UInt8) (w : World) (h : Mb w A.g A.sb) (x : Sv w0 w A p ws s) (k : Dok z s) (hb : Bts w so sn sc l) (ho : 101 ≤ op ∧ op ≤ 104) :
    Calls Tryz.prog 111 #[.pointer (some ⟨A.sb.1, 0, none⟩), .int .u16 (op : Int), .int .i64 z, .agg #[.int .u64 m.ta, .int .u64 m.rp, .int .u32 m.id, .int .u16 m.op, .int .u16 m.st, .int .u64 m.p, .int .u32 m.o, .int .u8 m.r, .int .u64 m.c, .int .u64 m.ar, .slice so sn sc]] w fun e w' => OutEnd w0 w A p ws (nameF ws s op z m.ar l) l e w' := by
  unfold nameF
  cases hn : hasNm l with
  | false => rw [if_pos rfl]; exact named_bad z m so sn sc l w h x k.z hb op hn
  | true =>
    rw [if_neg (by decide)]
    by_cases hi : idxR (s.L z) (nmOf l) < (s.L z).length
    · by_cases h2 : op = 102
      · subst h2
        rw [if_pos ⟨rfl, hi⟩]; exact named_exists z m so sn sc l w h x k.z hb hn hi
      · rw [if_neg (by rintro ⟨e, _⟩; exact h2 e), if_neg (by rintro ⟨_, e⟩; exact e hi)]
        by_cases h1 : op = 101
        · subst h1; rw [if_pos rfl]; exact named_look z m so sn sc l w h x k.z hb hn hi k.el
        · rw [if_neg h1]
          by_cases h4 : op = 104
          · subst h4; rw [if_pos rfl]; exact named_del z m so sn sc l w h x k.z hb hn hi k.q
          · rw [if_neg h4]
            obtain rfl : op = 103 := by omega
            by_cases h5 : (restOf l).length ≠ 16 ∨ 255 < m.ar
            · rw [if_pos h5]; exact named_ebad z m so sn sc l w h x k.z hb hn hi h5
            · rw [if_neg h5]; unfold entF; rw [if_pos rfl]
              exact named_rep z m so sn sc l w h x k.z hb hn hi (by omega) (by omega)
    · rw [if_neg (by rintro ⟨_, e⟩; exact hi e)]
      by_cases h2 : op = 102
      · subst h2
        rw [if_neg (by rintro ⟨e, _⟩; exact e rfl), if_neg (by decide), if_neg (by decide)]
        by_cases h5 : (restOf l).length ≠ 16 ∨ 255 < m.ar
        · rw [if_pos h5]; exact named_ebad2 z m so sn sc l w h x k.z hb hn hi h5
        · rw [if_neg h5]; unfold entF; rw [if_neg (by decide)]
          by_cases h6 : 64 ≤ (s.L z).length
          · rw [if_pos h6]; exact named_full z m so sn sc l w h x k.z hb hn hi (by omega) (by omega) h6
          · rw [if_neg h6]; exact named_enter z m so sn sc l w h x k.z hb hn hi (by omega) (by omega) (by omega) k.q
      · rw [if_pos ⟨h2, hi⟩]; exact named_missing z m so sn sc l w h x k.z hb op h2 hn hi
set_option maxRecDepth 20000 in
set_option maxHeartbeats 1600000 in
theorem do_make (z : Int) (m : Msg) (so : Option Addr) (sn sc : Nat) (l : List UInt8) (w : World) (h : Mb w A.g A.sb) (x : Sv w0 w A p ws s) (k : Dok z s) (hb : Bts w so sn sc l) :
    Calls Tryz.prog 107 #[.pointer (some ⟨A.sb.1, 0, none⟩), .int .u16 100, .int .i64 z, .agg #[.int .u64 m.ta, .int .u64 m.rp, .int .u32 m.id, .int .u16 m.op, .int .u16 m.st, .int .u64 m.p, .int .u32 m.o, .int .u8 m.r, .int .u64 m.c, .int .u64 m.ar, .slice so sn sc]] w fun e w' => OutEnd w0 w A p ws (mkF ws p s) l e w' := by
  obtain ⟨X, hX, bm, br, bX⟩ := own_vars w m (.slice so sn sc)
  unfold resZ at hX
  have HS := hide h
  have HX := hide (x.grow bX)
  have HB := hide (hb.carry bX)
  have HR := hide br
  have HM := hide bm
  have HBX := hide bX
  have HW0 : Hid (w0.heap.size ≤ w.heap.size) := x.bel.size
  have HK := hide k
  have HSZ : Hid (w.heap.size + 1 < X.heap.size) := lt_of_heap br
  obtain ⟨RF, hRF⟩ : ∃ R, mkF ws p s = R := ⟨_, rfl⟩
  rw [hRF]
  have HRF := hide hRF
  obtain ⟨er, her⟩ : ∃ er, erN (RF.e : Int) = er := ⟨_, rfl⟩
  have HEE := hide her
  obtain ⟨⟨qp, qo, qr, qc⟩, hq⟩ : ∃ q, RF.c = q := ⟨_, rfl⟩
  have HQ := hide hq
  obtain ⟨ra, hra⟩ : ∃ q, RF.ar = q := ⟨_, rfl⟩
  have HRA := hide hra
  clear hRF her hq hra bm br bX h x hb k
  go_enter Tryz.func107, Tryz.ntmps107
  go_wp2_with fail
  refine (svc_create l _ (show Mb X A.g A.sb from HS.out) HX.out HK.out.el HK.out.n).mono ?_; unfold OutEnd; rw [HRF.out, HEE.out, HQ.out, HRA.out]; rintro e w4 ⟨co, n4, cc, rfl, B4, N4, n4l, E4⟩
  have k4 := HX.out.kh E4
  have HR4 := hide (HR.out.kh k4)
  have HE4 := hide (E4.from HBX.out)
  have HB4 := hide B4
  have HN4 := hide N4
  have HNN := hide n4l
  clear B4 N4 n4l E4 k4
  obtain ⟨y0, y1, y2, y3, y4, y5⟩ := HR4.out.all
  have z0 := HR4.out.z 0
  have z1 := HR4.out.z 1
  have z2 := HR4.out.z 2
  have z3 := HR4.out.z 3
  have z4 := HR4.out.z 4
  have z5 := HR4.out.z 5
  simp only [Cp.zero, show (((0 : Nat)) : Int) = 0 from rfl] at y0 y1 y2 y3
  have HRZ := hide (HR4.out.lay ⟨qp, qo, qr, qc⟩ (ra : Int) (.slice co n4 cc))
  have HBZ : Hid (Bts (lay6 w4 (w.heap.size + 1) ⟨qp, qo, qr, qc⟩ (ra : Int) (.slice co n4 cc)) co n4 cc RF.d) := Bts.foot HB4.out (foot_lay6 w4 (w.heap.size + 1) ⟨qp, qo, qr, qc⟩ (ra : Int) (.slice co n4 cc)) (fun ad e _ (h : ad.block = w.heap.size + 1) => by have := HN4.out ad e; have := HSZ.out; omega)
  have HEZ := hide ((HE4.out).res HW0.out HR4.out (by omega) (foot_lay6 w4 (w.heap.size + 1) ⟨qp, qo, qr, qc⟩ (ra : Int) (.slice co n4 cc)))
  obtain ⟨wz, hwz⟩ : ∃ wz, lay6 w4 ((w.heap.size + 1)) ⟨qp, qo, qr, qc⟩ (ra : Int) (.slice co n4 cc) = wz := ⟨_, rfl⟩
  rw [hwz] at HRZ HEZ HBZ
  unfold lay6 at hwz
  obtain ⟨v0, v1, v2, v3, v4, v5⟩ := HRZ.out.all
  go_wp2
  refine bodyPost_ret (by simp [results, Tryz.results107, go_sem, v0, v1, v2, v3, v4, v5]; rfl) rfl ?_
  exact ⟨co, n4, cc, by rw [HEE.out, HQ.out, HRA.out], HBZ.out, HN4.out.le (by have := HBX.out.size; omega), HNN.out, HEZ.out⟩
set_option maxRecDepth 20000 in
set_option maxHeartbeats 1600000 in
theorem do_list (z : Int) (m : Msg) (so : Option Addr) (sn sc : Nat) (l : List UInt8) (w : World) (h : Mb w A.g A.sb) (x : Sv w0 w A p ws s) (k : Dok z s) (hb : Bts w so sn sc l) :
    Calls Tryz.prog 107 #[.pointer (some ⟨A.sb.1, 0, none⟩), .int .u16 105, .int .i64 z, .agg #[.int .u64 m.ta, .int .u64 m.rp, .int .u32 m.id, .int .u16 m.op, .int .u16 m.st, .int .u64 m.p, .int .u32 m.o, .int .u8 m.r, .int .u64 m.c, .int .u64 m.ar, .slice so sn sc]] w fun e w' => OutEnd w0 w A p ws (⟨0, Cp.zero, 0, lstD (s.L z), s⟩) l e w' := by
  obtain ⟨X, hX, bm, br, bX⟩ := own_vars w m (.slice so sn sc)
  unfold resZ at hX
  have HS := hide h
  have HX := hide (x.grow bX)
  have HB := hide (hb.carry bX)
  have HR := hide br
  have HM := hide bm
  have HBX := hide bX
  have HW0 : Hid (w0.heap.size ≤ w.heap.size) := x.bel.size
  have HK := hide k
  have HSZ : Hid (w.heap.size + 1 < X.heap.size) := lt_of_heap br
  clear bm br bX h x hb k
  go_enter Tryz.func107, Tryz.ntmps107
  go_wp2_with fail
  refine (svc_list z _ (show Mb X A.g A.sb from HS.out) HX.out HK.out.z).mono ?_; rintro e w4 ⟨co, n4, cc, rfl, B4, N4, n4l, b4⟩
  have HR4 := hide (HR.out.grow b4)
  have HE4 := hide ((HX.out.stay.to b4).from HBX.out)
  have HB4 := hide B4
  have HN4 := hide N4
  have HNN := hide n4l
  clear B4 N4 n4l b4
  obtain ⟨y0, y1, y2, y3, y4, y5⟩ := HR4.out.all
  have z0 := HR4.out.z 0
  have z1 := HR4.out.z 1
  have z2 := HR4.out.z 2
  have z3 := HR4.out.z 3
  have z4 := HR4.out.z 4
  have z5 := HR4.out.z 5
  simp only [Cp.zero, show (((0 : Nat)) : Int) = 0 from rfl] at y0 y1 y2 y3
  have HRZ := hide (HR4.out.lay Cp.zero 0 (.slice co n4 cc))
  have HBZ : Hid (Bts (lay6 w4 (w.heap.size + 1) Cp.zero 0 (.slice co n4 cc)) co n4 cc (lstD (s.L z))) := Bts.foot HB4.out (foot_lay6 w4 (w.heap.size + 1) Cp.zero 0 (.slice co n4 cc)) (fun ad e _ (h : ad.block = w.heap.size + 1) => by have := HN4.out ad e; have := HSZ.out; omega)
  have HEZ := hide ((HE4.out).res HW0.out HR4.out (by omega) (foot_lay6 w4 (w.heap.size + 1) Cp.zero 0 (.slice co n4 cc)))
  obtain ⟨wz, hwz⟩ : ∃ wz, lay6 w4 ((w.heap.size + 1)) Cp.zero 0 (.slice co n4 cc) = wz := ⟨_, rfl⟩
  rw [hwz] at HRZ HEZ HBZ
  unfold lay6 at hwz
  simp only [Cp.zero, show (((0 : Nat)) : Int) = 0 from rfl] at hwz
  obtain ⟨v0, v1, v2, v3, v4, v5⟩ := HRZ.out.all
  simp only [Cp.zero, show (((0 : Nat)) : Int) = 0 from rfl] at v0 v1 v2 v3 v4
  go_wp2
  refine bodyPost_ret (by simp [results, Tryz.results107, go_sem, v0, v1, v2, v3, v4, v5]; rfl) rfl ?_
  exact ⟨co, n4, cc, rfl, HBZ.out, HN4.out.le (by have := HBX.out.size; omega), HNN.out, HEZ.out⟩
set_option maxRecDepth 20000 in
set_option maxHeartbeats 1600000 in
theorem do_n101 (z : Int) (m : Msg) (so : Option Addr) (sn sc : Nat) (l : List UInt8) (w : World) (h : Mb w A.g A.sb) (x : Sv w0 w A p ws s) (k : Dok z s) (hb : Bts w so sn sc l) :
    Calls Tryz.prog 107 #[.pointer (some ⟨A.sb.1, 0, none⟩), .int .u16 101, .int .i64 z, .agg #[.int .u64 m.ta, .int .u64 m.rp, .int .u32 m.id, .int .u16 m.op, .int .u16 m.st, .int .u64 m.p, .int .u32 m.o, .int .u8 m.r, .int .u64 m.c, .int .u64 m.ar, .slice so sn sc]] w fun e w' => OutEnd w0 w A p ws (nameF ws s 101 z m.ar l) l e w' := by
  obtain ⟨X, hX, bm, br, bX⟩ := own_vars w m (.slice so sn sc)
  unfold resZ at hX
  have HS := hide h
  have HX := hide (x.grow bX)
  have HB := hide (hb.carry bX)
  have HR := hide br
  have HM := hide bm
  have HBX := hide bX
  have HW0 : Hid (w0.heap.size ≤ w.heap.size) := x.bel.size
  have HK := hide k
  have HSZ : Hid (w.heap.size + 1 < X.heap.size) := lt_of_heap br
  obtain ⟨k0, k1, k2, k3, k4, k5, k6, k7, k8, k9, k10⟩ := bm.all
  obtain ⟨RF, hRF⟩ : ∃ R, nameF ws s 101 z m.ar l = R := ⟨_, rfl⟩
  rw [hRF]
  have HRF := hide hRF
  obtain ⟨er, her⟩ : ∃ er, erN (RF.e : Int) = er := ⟨_, rfl⟩
  have HEE := hide her
  obtain ⟨⟨qp, qo, qr, qc⟩, hq⟩ : ∃ q, RF.c = q := ⟨_, rfl⟩
  have HQ := hide hq
  obtain ⟨ra, hra⟩ : ∃ q, RF.ar = q := ⟨_, rfl⟩
  have HRA := hide hra
  clear hRF her hq hra bm br bX h x hb k
  go_enter Tryz.func107, Tryz.ntmps107
  go_wp2_with fail
  refine (named_any 101 z m so sn sc l _ (show Mb X A.g A.sb from HS.out) HX.out HK.out HB.out (by omega)).mono ?_; unfold OutEnd; rw [HRF.out, HEE.out, HQ.out, HRA.out]; rintro e w4 ⟨co, n4, cc, rfl, B4, N4, n4l, E4⟩
  clear k0 k1 k2 k3 k4 k5 k6 k7 k8 k9 k10
  have k4 := HX.out.kh E4
  have HR4 := hide (HR.out.kh k4)
  have HE4 := hide (E4.from HBX.out)
  have HB4 := hide B4
  have HN4 := hide N4
  have HNN := hide n4l
  clear B4 N4 n4l E4 k4
  obtain ⟨y0, y1, y2, y3, y4, y5⟩ := HR4.out.all
  have z0 := HR4.out.z 0
  have z1 := HR4.out.z 1
  have z2 := HR4.out.z 2
  have z3 := HR4.out.z 3
  have z4 := HR4.out.z 4
  have z5 := HR4.out.z 5
  simp only [Cp.zero, show (((0 : Nat)) : Int) = 0 from rfl] at y0 y1 y2 y3
  have HRZ := hide (HR4.out.lay ⟨qp, qo, qr, qc⟩ (ra : Int) (.slice co n4 cc))
  have HBZ : Hid (Bts (lay6 w4 (w.heap.size + 1) ⟨qp, qo, qr, qc⟩ (ra : Int) (.slice co n4 cc)) co n4 cc RF.d) := Bts.foot HB4.out (foot_lay6 w4 (w.heap.size + 1) ⟨qp, qo, qr, qc⟩ (ra : Int) (.slice co n4 cc)) (fun ad e _ (h : ad.block = w.heap.size + 1) => by have := HN4.out ad e; have := HSZ.out; omega)
  have HEZ := hide ((HE4.out).res HW0.out HR4.out (by omega) (foot_lay6 w4 (w.heap.size + 1) ⟨qp, qo, qr, qc⟩ (ra : Int) (.slice co n4 cc)))
  obtain ⟨wz, hwz⟩ : ∃ wz, lay6 w4 ((w.heap.size + 1)) ⟨qp, qo, qr, qc⟩ (ra : Int) (.slice co n4 cc) = wz := ⟨_, rfl⟩
  rw [hwz] at HRZ HEZ HBZ
  unfold lay6 at hwz
  obtain ⟨v0, v1, v2, v3, v4, v5⟩ := HRZ.out.all
  go_wp2
  refine bodyPost_ret (by simp [results, Tryz.results107, go_sem, v0, v1, v2, v3, v4, v5]; rfl) rfl ?_
  exact ⟨co, n4, cc, by rw [HEE.out, HQ.out, HRA.out], HBZ.out, HN4.out.le (by have := HBX.out.size; omega), HNN.out, HEZ.out⟩
set_option maxRecDepth 20000 in
set_option maxHeartbeats 1600000 in
theorem do_n102 (z : Int) (m : Msg) (so : Option Addr) (sn sc : Nat) (l : List UInt8) (w : World) (h : Mb w A.g A.sb) (x : Sv w0 w A p ws s) (k : Dok z s) (hb : Bts w so sn sc l) :
    Calls Tryz.prog 107 #[.pointer (some ⟨A.sb.1, 0, none⟩), .int .u16 102, .int .i64 z, .agg #[.int .u64 m.ta, .int .u64 m.rp, .int .u32 m.id, .int .u16 m.op, .int .u16 m.st, .int .u64 m.p, .int .u32 m.o, .int .u8 m.r, .int .u64 m.c, .int .u64 m.ar, .slice so sn sc]] w fun e w' => OutEnd w0 w A p ws (nameF ws s 102 z m.ar l) l e w' := by
  obtain ⟨X, hX, bm, br, bX⟩ := own_vars w m (.slice so sn sc)
  unfold resZ at hX
  have HS := hide h
  have HX := hide (x.grow bX)
  have HB := hide (hb.carry bX)
  have HR := hide br
  have HM := hide bm
  have HBX := hide bX
  have HW0 : Hid (w0.heap.size ≤ w.heap.size) := x.bel.size
  have HK := hide k
  have HSZ : Hid (w.heap.size + 1 < X.heap.size) := lt_of_heap br
  obtain ⟨k0, k1, k2, k3, k4, k5, k6, k7, k8, k9, k10⟩ := bm.all
  obtain ⟨RF, hRF⟩ : ∃ R, nameF ws s 102 z m.ar l = R := ⟨_, rfl⟩
  rw [hRF]
  have HRF := hide hRF
  obtain ⟨er, her⟩ : ∃ er, erN (RF.e : Int) = er := ⟨_, rfl⟩
  have HEE := hide her
  obtain ⟨⟨qp, qo, qr, qc⟩, hq⟩ : ∃ q, RF.c = q := ⟨_, rfl⟩
  have HQ := hide hq
  obtain ⟨ra, hra⟩ : ∃ q, RF.ar = q := ⟨_, rfl⟩
  have HRA := hide hra
  clear hRF her hq hra bm br bX h x hb k
  go_enter Tryz.func107, Tryz.ntmps107
  go_wp2_with fail
  refine (named_any 102 z m so sn sc l _ (show Mb X A.g A.sb from HS.out) HX.out HK.out HB.out (by omega)).mono ?_; unfold OutEnd; rw [HRF.out, HEE.out, HQ.out, HRA.out]; rintro e w4 ⟨co, n4, cc, rfl, B4, N4, n4l, E4⟩
  clear k0 k1 k2 k3 k4 k5 k6 k7 k8 k9 k10
  have k4 := HX.out.kh E4
  have HR4 := hide (HR.out.kh k4)
  have HE4 := hide (E4.from HBX.out)
  have HB4 := hide B4
  have HN4 := hide N4
  have HNN := hide n4l
  clear B4 N4 n4l E4 k4
  obtain ⟨y0, y1, y2, y3, y4, y5⟩ := HR4.out.all
  have z0 := HR4.out.z 0
  have z1 := HR4.out.z 1
  have z2 := HR4.out.z 2
  have z3 := HR4.out.z 3
  have z4 := HR4.out.z 4
  have z5 := HR4.out.z 5
  simp only [Cp.zero, show (((0 : Nat)) : Int) = 0 from rfl] at y0 y1 y2 y3
  have HRZ := hide (HR4.out.lay ⟨qp, qo, qr, qc⟩ (ra : Int) (.slice co n4 cc))
  have HBZ : Hid (Bts (lay6 w4 (w.heap.size + 1) ⟨qp, qo, qr, qc⟩ (ra : Int) (.slice co n4 cc)) co n4 cc RF.d) := Bts.foot HB4.out (foot_lay6 w4 (w.heap.size + 1) ⟨qp, qo, qr, qc⟩ (ra : Int) (.slice co n4 cc)) (fun ad e _ (h : ad.block = w.heap.size + 1) => by have := HN4.out ad e; have := HSZ.out; omega)
  have HEZ := hide ((HE4.out).res HW0.out HR4.out (by omega) (foot_lay6 w4 (w.heap.size + 1) ⟨qp, qo, qr, qc⟩ (ra : Int) (.slice co n4 cc)))
  obtain ⟨wz, hwz⟩ : ∃ wz, lay6 w4 ((w.heap.size + 1)) ⟨qp, qo, qr, qc⟩ (ra : Int) (.slice co n4 cc) = wz := ⟨_, rfl⟩
  rw [hwz] at HRZ HEZ HBZ
  unfold lay6 at hwz
  obtain ⟨v0, v1, v2, v3, v4, v5⟩ := HRZ.out.all
  go_wp2
  refine bodyPost_ret (by simp [results, Tryz.results107, go_sem, v0, v1, v2, v3, v4, v5]; rfl) rfl ?_
  exact ⟨co, n4, cc, by rw [HEE.out, HQ.out, HRA.out], HBZ.out, HN4.out.le (by have := HBX.out.size; omega), HNN.out, HEZ.out⟩
set_option maxRecDepth 20000 in
set_option maxHeartbeats 1600000 in
theorem do_n103 (z : Int) (m : Msg) (so : Option Addr) (sn sc : Nat) (l : List UInt8) (w : World) (h : Mb w A.g A.sb) (x : Sv w0 w A p ws s) (k : Dok z s) (hb : Bts w so sn sc l) :
    Calls Tryz.prog 107 #[.pointer (some ⟨A.sb.1, 0, none⟩), .int .u16 103, .int .i64 z, .agg #[.int .u64 m.ta, .int .u64 m.rp, .int .u32 m.id, .int .u16 m.op, .int .u16 m.st, .int .u64 m.p, .int .u32 m.o, .int .u8 m.r, .int .u64 m.c, .int .u64 m.ar, .slice so sn sc]] w fun e w' => OutEnd w0 w A p ws (nameF ws s 103 z m.ar l) l e w' := by
  obtain ⟨X, hX, bm, br, bX⟩ := own_vars w m (.slice so sn sc)
  unfold resZ at hX
  have HS := hide h
  have HX := hide (x.grow bX)
  have HB := hide (hb.carry bX)
  have HR := hide br
  have HM := hide bm
  have HBX := hide bX
  have HW0 : Hid (w0.heap.size ≤ w.heap.size) := x.bel.size
  have HK := hide k
  have HSZ : Hid (w.heap.size + 1 < X.heap.size) := lt_of_heap br
  obtain ⟨k0, k1, k2, k3, k4, k5, k6, k7, k8, k9, k10⟩ := bm.all
  obtain ⟨RF, hRF⟩ : ∃ R, nameF ws s 103 z m.ar l = R := ⟨_, rfl⟩
  rw [hRF]
  have HRF := hide hRF
  obtain ⟨er, her⟩ : ∃ er, erN (RF.e : Int) = er := ⟨_, rfl⟩
  have HEE := hide her
  obtain ⟨⟨qp, qo, qr, qc⟩, hq⟩ : ∃ q, RF.c = q := ⟨_, rfl⟩
  have HQ := hide hq
  obtain ⟨ra, hra⟩ : ∃ q, RF.ar = q := ⟨_, rfl⟩
  have HRA := hide hra
  clear hRF her hq hra bm br bX h x hb k
  go_enter Tryz.func107, Tryz.ntmps107
  go_wp2_with fail
  refine (named_any 103 z m so sn sc l _ (show Mb X A.g A.sb from HS.out) HX.out HK.out HB.out (by omega)).mono ?_; unfold OutEnd; rw [HRF.out, HEE.out, HQ.out, HRA.out]; rintro e w4 ⟨co, n4, cc, rfl, B4, N4, n4l, E4⟩
  clear k0 k1 k2 k3 k4 k5 k6 k7 k8 k9 k10
  have k4 := HX.out.kh E4
  have HR4 := hide (HR.out.kh k4)
  have HE4 := hide (E4.from HBX.out)
  have HB4 := hide B4
  have HN4 := hide N4
  have HNN := hide n4l
  clear B4 N4 n4l E4 k4
  obtain ⟨y0, y1, y2, y3, y4, y5⟩ := HR4.out.all
  have z0 := HR4.out.z 0
  have z1 := HR4.out.z 1
  have z2 := HR4.out.z 2
  have z3 := HR4.out.z 3
  have z4 := HR4.out.z 4
  have z5 := HR4.out.z 5
  simp only [Cp.zero, show (((0 : Nat)) : Int) = 0 from rfl] at y0 y1 y2 y3
  have HRZ := hide (HR4.out.lay ⟨qp, qo, qr, qc⟩ (ra : Int) (.slice co n4 cc))
  have HBZ : Hid (Bts (lay6 w4 (w.heap.size + 1) ⟨qp, qo, qr, qc⟩ (ra : Int) (.slice co n4 cc)) co n4 cc RF.d) := Bts.foot HB4.out (foot_lay6 w4 (w.heap.size + 1) ⟨qp, qo, qr, qc⟩ (ra : Int) (.slice co n4 cc)) (fun ad e _ (h : ad.block = w.heap.size + 1) => by have := HN4.out ad e; have := HSZ.out; omega)
  have HEZ := hide ((HE4.out).res HW0.out HR4.out (by omega) (foot_lay6 w4 (w.heap.size + 1) ⟨qp, qo, qr, qc⟩ (ra : Int) (.slice co n4 cc)))
  obtain ⟨wz, hwz⟩ : ∃ wz, lay6 w4 ((w.heap.size + 1)) ⟨qp, qo, qr, qc⟩ (ra : Int) (.slice co n4 cc) = wz := ⟨_, rfl⟩
  rw [hwz] at HRZ HEZ HBZ
  unfold lay6 at hwz
  obtain ⟨v0, v1, v2, v3, v4, v5⟩ := HRZ.out.all
  go_wp2
  refine bodyPost_ret (by simp [results, Tryz.results107, go_sem, v0, v1, v2, v3, v4, v5]; rfl) rfl ?_
  exact ⟨co, n4, cc, by rw [HEE.out, HQ.out, HRA.out], HBZ.out, HN4.out.le (by have := HBX.out.size; omega), HNN.out, HEZ.out⟩
set_option maxRecDepth 20000 in
set_option maxHeartbeats 1600000 in
theorem do_n104 (z : Int) (m : Msg) (so : Option Addr) (sn sc : Nat) (l : List UInt8) (w : World) (h : Mb w A.g A.sb) (x : Sv w0 w A p ws s) (k : Dok z s) (hb : Bts w so sn sc l) :
    Calls Tryz.prog 107 #[.pointer (some ⟨A.sb.1, 0, none⟩), .int .u16 104, .int .i64 z, .agg #[.int .u64 m.ta, .int .u64 m.rp, .int .u32 m.id, .int .u16 m.op, .int .u16 m.st, .int .u64 m.p, .int .u32 m.o, .int .u8 m.r, .int .u64 m.c, .int .u64 m.ar, .slice so sn sc]] w fun e w' => OutEnd w0 w A p ws (nameF ws s 104 z m.ar l) l e w' := by
  obtain ⟨X, hX, bm, br, bX⟩ := own_vars w m (.slice so sn sc)
  unfold resZ at hX
  have HS := hide h
  have HX := hide (x.grow bX)
  have HB := hide (hb.carry bX)
  have HR := hide br
  have HM := hide bm
  have HBX := hide bX
  have HW0 : Hid (w0.heap.size ≤ w.heap.size) := x.bel.size
  have HK := hide k
  have HSZ : Hid (w.heap.size + 1 < X.heap.size) := lt_of_heap br
  obtain ⟨k0, k1, k2, k3, k4, k5, k6, k7, k8, k9, k10⟩ := bm.all
  obtain ⟨RF, hRF⟩ : ∃ R, nameF ws s 104 z m.ar l = R := ⟨_, rfl⟩
  rw [hRF]
  have HRF := hide hRF
  obtain ⟨er, her⟩ : ∃ er, erN (RF.e : Int) = er := ⟨_, rfl⟩
  have HEE := hide her
  obtain ⟨⟨qp, qo, qr, qc⟩, hq⟩ : ∃ q, RF.c = q := ⟨_, rfl⟩
  have HQ := hide hq
  obtain ⟨ra, hra⟩ : ∃ q, RF.ar = q := ⟨_, rfl⟩
  have HRA := hide hra
  clear hRF her hq hra bm br bX h x hb k
  go_enter Tryz.func107, Tryz.ntmps107
  go_wp2_with fail
  refine (named_any 104 z m so sn sc l _ (show Mb X A.g A.sb from HS.out) HX.out HK.out HB.out (by omega)).mono ?_; unfold OutEnd; rw [HRF.out, HEE.out, HQ.out, HRA.out]; rintro e w4 ⟨co, n4, cc, rfl, B4, N4, n4l, E4⟩
  clear k0 k1 k2 k3 k4 k5 k6 k7 k8 k9 k10
  have k4 := HX.out.kh E4
  have HR4 := hide (HR.out.kh k4)
  have HE4 := hide (E4.from HBX.out)
  have HB4 := hide B4
  have HN4 := hide N4
  have HNN := hide n4l
  clear B4 N4 n4l E4 k4
  obtain ⟨y0, y1, y2, y3, y4, y5⟩ := HR4.out.all
  have z0 := HR4.out.z 0
  have z1 := HR4.out.z 1
  have z2 := HR4.out.z 2
  have z3 := HR4.out.z 3
  have z4 := HR4.out.z 4
  have z5 := HR4.out.z 5
  simp only [Cp.zero, show (((0 : Nat)) : Int) = 0 from rfl] at y0 y1 y2 y3
  have HRZ := hide (HR4.out.lay ⟨qp, qo, qr, qc⟩ (ra : Int) (.slice co n4 cc))
  have HBZ : Hid (Bts (lay6 w4 (w.heap.size + 1) ⟨qp, qo, qr, qc⟩ (ra : Int) (.slice co n4 cc)) co n4 cc RF.d) := Bts.foot HB4.out (foot_lay6 w4 (w.heap.size + 1) ⟨qp, qo, qr, qc⟩ (ra : Int) (.slice co n4 cc)) (fun ad e _ (h : ad.block = w.heap.size + 1) => by have := HN4.out ad e; have := HSZ.out; omega)
  have HEZ := hide ((HE4.out).res HW0.out HR4.out (by omega) (foot_lay6 w4 (w.heap.size + 1) ⟨qp, qo, qr, qc⟩ (ra : Int) (.slice co n4 cc)))
  obtain ⟨wz, hwz⟩ : ∃ wz, lay6 w4 ((w.heap.size + 1)) ⟨qp, qo, qr, qc⟩ (ra : Int) (.slice co n4 cc) = wz := ⟨_, rfl⟩
  rw [hwz] at HRZ HEZ HBZ
  unfold lay6 at hwz
  obtain ⟨v0, v1, v2, v3, v4, v5⟩ := HRZ.out.all
  go_wp2
  refine bodyPost_ret (by simp [results, Tryz.results107, go_sem, v0, v1, v2, v3, v4, v5]; rfl) rfl ?_
  exact ⟨co, n4, cc, by rw [HEE.out, HQ.out, HRA.out], HBZ.out, HN4.out.le (by have := HBX.out.size; omega), HNN.out, HEZ.out⟩
theorem svc_do (op : Nat) (z : Int) (m : Msg) (so : Option Addr) (sn sc : Nat) (l : List UInt8) (w : World) (h : Mb w A.g A.sb) (x : Sv w0 w A p ws s) (k : Dok z s) (hb : Bts w so sn sc l) (h1 : 100 ≤ op ∧ op ≤ 105) :
    Calls Tryz.prog 107 #[.pointer (some ⟨A.sb.1, 0, none⟩), .int .u16 (op : Int), .int .i64 z, .agg #[.int .u64 m.ta, .int .u64 m.rp, .int .u32 m.id, .int .u16 m.op, .int .u16 m.st, .int .u64 m.p, .int .u32 m.o, .int .u8 m.r, .int .u64 m.c, .int .u64 m.ar, .slice so sn sc]] w fun e w' => OutEnd w0 w A p ws (doF ws p s op z m.ar l) l e w' := by
  unfold doF
  have : op = 100 ∨ op = 101 ∨ op = 102 ∨ op = 103 ∨ op = 104 ∨ op = 105 := by omega
  rcases this with rfl | rfl | rfl | rfl | rfl | rfl
  · rw [if_pos rfl]; exact do_make z m so sn sc l w h x k hb
  · rw [if_neg (by decide), if_neg (by decide)]; exact do_n101 z m so sn sc l w h x k hb
  · rw [if_neg (by decide), if_neg (by decide)]; exact do_n102 z m so sn sc l w h x k hb
  · rw [if_neg (by decide), if_neg (by decide)]; exact do_n103 z m so sn sc l w h x k hb
  · rw [if_neg (by decide), if_neg (by decide)]; exact do_n104 z m so sn sc l w h x k hb
  · rw [if_neg (by decide), if_pos rfl]; exact do_list z m so sn sc l w h x k hb
end
end Go.Proofs.YtlmnnjibggdboaaGreatDoor
