/-
  Servers that are not whole, and a table without draws: what they answer, as contracts; the statements' own first step.
  A Touch by a capability of another port, at a table without draws; the statements' own first step: contracts.
  A half that is made anew: a table of a new oracle of a new tape, and a service.
-/
import Derived.Test.YtjpgfldppepmiaaDoorJh
namespace Go.Proofs.YtjpgfldppepmiaaDoor
section
open Go.RowKit
variable {w0 w w1 w2 w' : World} {A A' : Ad} {p : Nat} {ws : List Nat} {s s' s1 : Hs} {r g sb : Nat}
/- a server in memory: whatever it has -/
def Sa (w : World) (r : Nat) (a : Option Addr) (v : Value) : Prop := w.heap[r]? = some (.cells #[.pointer a, v] 81 (0, 0))
theorem Sa.c0 {a : Option Addr} {v : Value} (h : Sa w r a v) : w.cell? ⟨r, 0, none⟩ = some (.pointer a) := by rw [cell_of_row w r _ _ _ _ h]; rfl
theorem Sa.c1 {a : Option Addr} {v : Value} (h : Sa w r a v) : w.cell? ⟨r, 1, none⟩ = some v := by rw [cell_of_row w r _ _ _ _ h]; rfl
theorem Sa.grow {a : Option Addr} {v : Value} (h : Sa w r a v) (b : Below w.heap.size w w') : Sa w' r a v := (b.block r (lt_of_heap h)).trans h
set_option maxHeartbeats 800000 in
theorem srv_of (a : Option Addr) (v : Value) (hv : v = .nilIface ∨ ∃ q, v = .iface 32 (.pointer q)) (w : World) :
    Calls Tryd.prog 11 #[.pointer a, v] w fun e w' => e = .returned (.pointer (some ⟨w.heap.size, 0, none⟩)) ∧ Sa w' w.heap.size a v ∧ Below w.heap.size w w' := by
  have hs : Sa (w.alloc (.cells #[.pointer a, v] 81)) w.heap.size a v := heap_alloc_new _ _
  have HS := hide hs
  have HB := hide (below_alloc w (.cells #[.pointer a, v] 81))
  clear hs
  rcases hv with rfl | ⟨q, rfl⟩
  all_goals
    go_enter Tryd.func11, Tryd.ntmps11
    go_wp2
    go_ret
    exact ⟨rfl, HS.out, HB.out⟩
set_option maxHeartbeats 800000 in
theorem whole_no {a : Option Addr} {v : Value} (h : Sa w r a v) (hn : a = none ∨ (∃ q, a = some q) ∧ v = .nilIface) : Calls Tryd.prog 42 #[.pointer (some ⟨r, 0, none⟩)] w fun e w' => e = .returned (.bool false) ∧ w' = w := by
  have c0 := h.c0
  have c1 := h.c1
  clear h
  rcases hn with rfl | ⟨⟨q, rfl⟩, rfl⟩
  all_goals
    go_enter Tryd.func42, Tryd.ntmps42
    go_wp2
    go_ret
    exact ⟨rfl, rfl⟩
set_option maxHeartbeats 800000 in
theorem whole_yes {q : Addr} {t : TypeId} {v : Value} (h : Sa w r (some q) (.iface t v)) : Calls Tryd.prog 42 #[.pointer (some ⟨r, 0, none⟩)] w fun e w' => e = .returned (.bool true) ∧ w' = w := by
  have c0 := h.c0
  have c1 := h.c1
  clear h
  go_enter Tryd.func42, Tryd.ntmps42
  go_wp2
  go_ret
  exact ⟨rfl, rfl⟩
set_option maxHeartbeats 800000 in
theorem age_whole {a : Option Addr} {v : Value} (h : Sa w r a v) (hn : a = none ∨ (∃ q, a = some q) ∧ v = .nilIface) : Calls Tryd.prog 17 #[.pointer (some ⟨r, 0, none⟩)] w fun e w' => e = .returned (.int .i64 0) ∧ w' = w := by
  go_enter Tryd.func17, Tryd.ntmps17
  go_wp2_with fail
  refine (whole_no h hn).mono ?_; rintro e w1 ⟨rfl, hw1⟩; subst hw1
  go_wp2
  go_ret
  exact ⟨rfl, rfl⟩
def zeroRes : Value := .agg #[.int .u64 0, .int .u32 0, .int .u8 0, .int .u64 0, .int .u64 0, .slice none 0 0]
set_option maxHeartbeats 1600000 in
theorem out_whole {a : Option Addr} {v : Value} (m : Msg) (D : Value) (h : Sa w r a v) (hn : a = none ∨ (∃ q, a = some q) ∧ v = .nilIface) :
    Calls Tryd.prog 28 #[.pointer (some ⟨r, 0, none⟩), .agg #[.int .u64 m.ta, .int .u64 m.rp, .int .u32 m.id, .int .u16 m.op, .int .u16 m.st, .int .u64 m.p, .int .u32 m.o, .int .u8 m.r, .int .u64 m.c, .int .u64 m.ar, D]] w fun e w' => e = .returned (.tuple #[zeroRes, erN 3]) ∧ Below w.heap.size w w' := by
  obtain ⟨X, hX, bm, br, bX⟩ := own_vars w m D
  unfold resZ at hX
  have HA := hide (h.grow bX)
  have HN := hide hn
  have HB := hide bX
  have HRZ := hide (br.lay Cp.zero 0 (.slice none 0 0))
  have HF : Hid (Below w.heap.size w (lay6 X (w.heap.size + 1) Cp.zero 0 (.slice none 0 0))) := (((below_foot (fun j => w.heap.size ≤ j) bX).trans (foot_lay6 X (w.heap.size + 1) Cp.zero 0 (.slice none 0 0)) (fun j (e : j = _) => .inl (by show w.heap.size ≤ j; omega))).below (Nat.le_refl _) (fun k e => e))
  have z0 := br.z 0
  have z1 := br.z 1
  have z2 := br.z 2
  have z3 := br.z 3
  have z4 := br.z 4
  have z5 := br.z 5
  obtain ⟨y0, y1, y2, y3, y4, y5⟩ := br.all
  simp only [Cp.zero, show (((0 : Nat)) : Int) = 0 from rfl] at y0 y1 y2 y3
  obtain ⟨wz, hwz⟩ : ∃ wz, lay6 X (w.heap.size + 1) Cp.zero 0 (.slice none 0 0) = wz := ⟨_, rfl⟩
  rw [hwz] at HRZ HF
  unfold lay6 at hwz
  simp only [Cp.zero, show (((0 : Nat)) : Int) = 0 from rfl] at hwz
  obtain ⟨v0, v1, v2, v3, v4, v5⟩ := HRZ.out.all
  simp only [Cp.zero, show (((0 : Nat)) : Int) = 0 from rfl] at v0 v1 v2 v3 v4
  clear h hn bm br bX
  go_enter Tryd.func28, Tryd.ntmps28
  go_wp2_with fail
  refine (whole_no HA.out HN.out).mono ?_; rintro e w1 ⟨rfl, hw1⟩; subst hw1
  go_wp2
  refine bodyPost_ret (by simp [results, Tryd.results28, go_sem, v0, v1, v2, v3, v4, v5]; rfl) rfl ?_
  exact ⟨rfl, HF.out⟩
set_option maxRecDepth 20000 in
set_option maxHeartbeats 6400000 in
theorem serve_err (rp : Value) (m : Msg) (D : Value) (k : Nat) (w : World) (hk0 : k ≠ 0) (hk : k ≤ 65535) (hg : Glob w) (Pr : World → Prop) (hp : Pr w) (hgr : ∀ W W', Pr W → Below W.heap.size W W' → Pr W')
    (hout : ∀ W, Pr W → Calls Tryd.prog 28 #[rp, .agg #[.int .u64 m.ta, .int .u64 m.rp, .int .u32 m.id, .int .u16 m.op, .int .u16 m.st, .int .u64 m.p, .int .u32 m.o, .int .u8 m.r, .int .u64 m.c, .int .u64 m.ar, D]] W fun e w' => e = .returned (.tuple #[zeroRes, erN (k : Int)]) ∧ Below W.heap.size W w') (m2 : Msg) (h2 : (⟨m.rp, m.ta, m.id, m.op, k, 0, 0, 0, 0, 0⟩ : Msg) = m2) :
    Calls Tryd.prog 14 #[rp, .agg #[.int .u64 m.ta, .int .u64 m.rp, .int .u32 m.id, .int .u16 m.op, .int .u16 m.st, .int .u64 m.p, .int .u32 m.o, .int .u8 m.r, .int .u64 m.c, .int .u64 m.ar, D]] w fun e w' => ∃ co cc, e = .returned (.agg #[.int .u64 m2.ta, .int .u64 m2.rp, .int .u32 m2.id, .int .u16 m2.op, .int .u16 m2.st, .int .u64 m2.p, .int .u32 m2.o, .int .u8 m2.r, .int .u64 m2.c, .int .u64 m2.ar, .slice co 0 cc]) ∧ Bts w' co 0 cc [] ∧ Below w.heap.size w w' := by
  obtain ⟨X, hX, bm, bz, bX⟩ := rep_vars w m D
  have HP := hide (hgr _ _ hp bX)
  have HOUT := hide hout
  have HM := hide bm
  have HZ := hide bz
  have HBX := hide bX
  have HG := hide (hg.carry bX)
  obtain ⟨tE, hE⟩ : ∃ v, erN (k : Int) = .iface 61 v := ⟨_, erN_not (by omega)⟩
  have HER := hide hE
  have hf := fun W hW => srv_fault m D k W hk hW m2 h2
  rw [hE] at hf
  have HF := hide hf
  obtain ⟨k0, k1, k2, k3, k4, k5, k6, k7, k8, k9, k10⟩ := bm.all
  clear bm bz bX hp hgr hout hg hk0 hk hf hE h2
  go_enter Tryd.func14, Tryd.ntmps14
  go_wp2_with fail
  refine (HOUT.out _ HP.out).mono ?_; rw [HER.out]; unfold zeroRes; rintro e w3 ⟨rfl, b3⟩
  have HM3 := hide (HM.out.grow b3)
  have HZ3 := hide (HZ.out.grow b3)
  have HBX3 := hide (below_one HBX.out b3)
  have HG3 := hide (HG.out.carry b3)
  have HSZ3 : Hid (w.heap.size + 1 < w3.heap.size) := lt_of_heap HZ3.out
  clear b3 k0 k1 k2 k3 k4 k5 k6 k7 k8 k9 k10
  obtain ⟨w4, hw4⟩ : ∃ w4, w3.alloc (.cells resZ 90) = w4 := ⟨_, rfl⟩
  have b4 : Below w3.heap.size w3 w4 := hw4 ▸ below_alloc _ _
  have HR4 : Hid (RB w4 w3.heap.size Cp.zero 0 (.slice none 0 0)) := hw4 ▸ rb_new w3 Cp.zero 0 (.slice none 0 0)
  have HM4 := hide (HM3.out.grow b4)
  have HZ4 := hide (HZ3.out.grow b4)
  have y0 := HR4.out.z 0
  have y1 := HR4.out.z 1
  have y2 := HR4.out.z 2
  have y3 := HR4.out.z 3
  have y4 := HR4.out.z 4
  have y5 := HR4.out.z 5
  obtain ⟨e0, e1, e2, e3, e4, e5⟩ := HR4.out.all
  simp only [Cp.zero, show (((0 : Nat)) : Int) = 0 from rfl] at e0 e1 e2 e3
  have f5 := foot_lay6 w4 w3.heap.size Cp.zero 0 (.slice none 0 0)
  have HM5 := hide (HM4.out.foot f5 (by show ¬ w.heap.size = w3.heap.size; have := HSZ3.out; omega))
  have HZ5 := hide (HZ4.out.foot f5 (by show ¬ w.heap.size + 1 = w3.heap.size; have := HSZ3.out; omega))
  have b5 : Below w3.heap.size w3 (lay6 w4 w3.heap.size Cp.zero 0 (.slice none 0 0)) := ((below_foot (fun j => w3.heap.size ≤ j) b4).trans f5 (fun j (e : j = _) => .inl (by show w3.heap.size ≤ j; omega))).below (Nat.le_refl _) (fun k e => e)
  have HBX5 := hide (below_one HBX3.out b5)
  have HG5 := hide (HG3.out.carry b5)
  obtain ⟨w5, hw5⟩ : ∃ w5, lay6 w4 w3.heap.size Cp.zero 0 (.slice none 0 0) = w5 := ⟨_, rfl⟩
  rw [hw5] at HM5 HZ5 HBX5 HG5
  unfold lay6 at hw5
  simp only [Cp.zero, show (((0 : Nat)) : Int) = 0 from rfl] at hw5
  unfold resZ at hw4
  clear b4 f5 b5
  obtain ⟨k0, k1, k2, k3, k4, k5, k6, k7, k8, k9, k10⟩ := HM5.out.all
  go_wp2_with fail
  refine (HF.out _ HG5.out).mono ?_; rintro e w6 ⟨co2, cc2, rfl, B6, b6⟩
  have HB6 := hide B6
  have HZ6 := hide (HZ5.out.grow b6)
  have HBX6 := hide (below_one HBX5.out b6)
  clear y0 y1 y2 y3 y4 y5 e0 e1 e2 e3 e4 e5 hw5 hw4 B6 b6 k0 k1 k2 k3 k4 k5 k6 k7 k8 k9 k10
  have HZL := hide (HZ6.out.lay (m := m2) (D := .slice co2 0 cc2))
  have HB7 : Hid (Below w.heap.size w (lay11 w6 (w.heap.size + 1) m2 (.slice co2 0 cc2))) := (((below_foot (fun j => w.heap.size ≤ j) HBX6.out).trans (foot_lay11 w6 (w.heap.size + 1) m2 (.slice co2 0 cc2)) (fun j (e : j = _) => .inl (by show w.heap.size ≤ j; omega))).below (Nat.le_refl _) (fun k e => e))
  have HD7 : Hid (Bts (lay11 w6 (w.heap.size + 1) m2 (.slice co2 0 cc2)) co2 0 cc2 []) := bts_none HB6.out
  obtain ⟨w7, hw7⟩ : ∃ w7, lay11 w6 (w.heap.size + 1) m2 (.slice co2 0 cc2) = w7 := ⟨_, rfl⟩
  rw [hw7] at HZL HB7 HD7
  unfold lay11 at hw7
  obtain ⟨v0, v1, v2, v3, v4, v5, v6, v7, v8, v9, v10⟩ := HZL.out.all
  obtain ⟨z0, z1, z2, z3, z4, z5, z6, z7, z8, z9, z10⟩ := HZ6.out.all
  have x0 := HZ6.out.z 0
  have x1 := HZ6.out.z 1
  have x2 := HZ6.out.z 2
  have x3 := HZ6.out.z 3
  have x4 := HZ6.out.z 4
  have x5 := HZ6.out.z 5
  have x6 := HZ6.out.z 6
  have x7 := HZ6.out.z 7
  have x8 := HZ6.out.z 8
  have x9 := HZ6.out.z 9
  have x10 := HZ6.out.z 10
  go_wp2
  refine bodyPost_ret (by simp [results, Tryd.results14, go_sem, v0, v1, v2, v3, v4, v5, v6, v7, v8, v9, v10]; rfl) rfl ?_
  exact ⟨co2, cc2, rfl, HD7.out, HB7.out⟩
/- a table without draws -/
def Tn (w : World) (g p : Nat) : Prop := ∃ cs, w.heap[g]? = some (.cells cs 69 (0, 0)) ∧ cs[0]? = some (.int .u64 (p : Int))
theorem Tn.c0 (h : Tn w g p) : w.cell? ⟨g, 0, none⟩ = some (.int .u64 (p : Int)) := by
  obtain ⟨cs, h1, h2⟩ := h
  rw [cell_of_row w g _ _ _ _ h1]; exact h2
theorem Tn.grow (h : Tn w g p) (b : Below w.heap.size w w') : Tn w' g p := by
  obtain ⟨cs, h1, h2⟩ := h
  exact ⟨cs, (b.block g (lt_of_heap h1)).trans h1, h2⟩
def newTn (p : Nat) : List Value := [.int .u64 (p : Int), .pointer none] ++ (List.replicate 64 Ob.zero).flatMap Ob.cells
set_option maxRecDepth 20000 in
set_option maxHeartbeats 800000 in
theorem tof_nil (p : Nat) (w : World) :
    Calls Tryd.prog 8 #[.int .u64 (p : Int), .pointer none] w fun e w' => e = .returned (.pointer (some ⟨w.heap.size, 0, none⟩)) ∧ Tn w' w.heap.size p ∧ Below w.heap.size w w' := by
  have hz := Tryd.zeroTable
  have HT : Hid (Tn (w.alloc (.cells (newTn p).toArray 69)) w.heap.size p) := ⟨_, heap_alloc_new _ _, rfl⟩
  have HB := hide (below_alloc w (.cells (newTn p).toArray 69))
  go_enter Tryd.func8, Tryd.ntmps8
  go_wp2
  go_ret
  exact ⟨rfl, HT.out, HB.out⟩
end
end Go.Proofs.YtjpgfldppepmiaaDoor
namespace Go.Proofs.YtjpgfldppepmiaaDoor
section
open Go.RowKit
variable {w0 w w1 w2 w' : World} {r g p : Nat} {q : Option Addr}
set_option maxHeartbeats 1600000 in
theorem check_tn (c : Cp) (need : Nat) (w : World) (x : Tn w g p) (hc : c.ok) (hn : c.p ≠ p) :
    Calls Tryd.prog 36 #[.pointer (some ⟨g, 0, none⟩), c.val, .int .u8 (need : Int)] w fun e w' => e = .returned (.tuple #[.int .i64 0, erN 1]) ∧ Below w.heap.size w w' := by
  obtain ⟨cp, co, cr, cc⟩ := c
  obtain ⟨Y, hY⟩ : ∃ Y, w.alloc (.cells #[.int .u64 (cp : Int), .int .u32 (co : Int), .int .u8 (cr : Int), .int .u64 (cc : Int)] 41) = Y := ⟨_, rfl⟩
  have bY : Below w.heap.size w Y := hY ▸ below_alloc w _
  have cY : CBox Y w.heap.size cp co cr cc := hY ▸ CBox.new w cp co cr cc
  have k0 := cY.c0
  have k1 := cY.c1
  have p0 := (x.grow bY).c0
  have hne : ¬ (cp : Int) = (p : Int) := by have : cp ≠ p := hn; omega
  have hnb : ((cp : Int) != (p : Int)) = true := by simpa using hne
  have hu : undef = Value.tuple #[] := rfl
  have hco : (co : Int) ≤ 4294967295 := by have : co ≤ 4294967295 := hc.2.1; omega
  have hco0 : (0 : Int) ≤ co := by omega
  have HB := hide bY
  rw [erN_not (by omega : (1 : Int) ≠ 0)]
  clear x cY hc hn bY
  simp only [Cp.val]
  go_enter Tryd.func36, Tryd.ntmps36
  go_wp2_with fail
  first | (go_region_with (fail)) | fail
  all_goals (go_wp2; go_ret2; exact ⟨rfl, below_drewN HB.out 1⟩)
set_option maxHeartbeats 1600000 in
theorem touch_tn (c : Cp) (w : World) (x : Tn w g p) (hc : c.ok) (hn : c.p ≠ p) :
    Calls Tryd.prog 34 #[.pointer (some ⟨g, 0, none⟩), c.val] w fun e w' => e = .returned (erN 1) ∧ Below w.heap.size w w' := by
  obtain ⟨cp, co, cr, cc⟩ := c
  obtain ⟨Y, hY⟩ : ∃ Y, w.alloc (.cells #[.int .u64 (cp : Int), .int .u32 (co : Int), .int .u8 (cr : Int), .int .u64 (cc : Int)] 41) = Y := ⟨_, rfl⟩
  have bY : Below w.heap.size w Y := hY ▸ below_alloc w _
  have HC : Hid (CBox Y w.heap.size cp co cr cc) := hY ▸ CBox.new w cp co cr cc
  have HK := hide (x.grow bY)
  have HB := hide bY
  have HOK := hide hc
  have HN := hide hn
  have c0 := HC.out.c0
  have c1 := HC.out.c1
  have c2 := HC.out.c2
  have c3 := HC.out.c3
  rw [erN_not (by omega : (1 : Int) ≠ 0)]
  have HE := hide (erN_not (by omega : (1 : Int) ≠ 0))
  clear x bY hc hn
  simp only [Cp.val]
  go_enter Tryd.func34, Tryd.ntmps34
  go_wp2_with fail
  refine (check_tn ⟨cp, co, cr, cc⟩ 0 _ HK.out HOK.out HN.out).mono ?_
  rintro e w2 ⟨rfl, b2⟩
  have HB2 := hide (below_one HB.out b2)
  clear b2 c0 c1 c2 c3
  rw [HE.out]
  go_wp2
  go_ret
  exact ⟨rfl, HB2.out⟩
set_option maxRecDepth 20000 in
set_option maxHeartbeats 6400000 in
theorem out_tn (m : Msg) (D : Value) (w : World) (h : Sa w r (some ⟨g, 0, none⟩) (.iface 32 (.pointer q))) (x : Tn w g p) (hc : (Cp.mk m.p m.o m.r m.c).ok) (hm : mayC ⟨m.p, m.o, m.r, m.c⟩ = true) (hop : m.op = 2) (hn : m.p ≠ p) :
    Calls Tryd.prog 28 #[.pointer (some ⟨r, 0, none⟩), .agg #[.int .u64 m.ta, .int .u64 m.rp, .int .u32 m.id, .int .u16 m.op, .int .u16 m.st, .int .u64 m.p, .int .u32 m.o, .int .u8 m.r, .int .u64 m.c, .int .u64 m.ar, D]] w fun e w' => e = .returned (.tuple #[zeroRes, erN ((1 : Nat) : Int)]) ∧ Below w.heap.size w w' := by
  obtain ⟨X, hX, bm, br, bX⟩ := own_vars w m D
  unfold resZ at hX
  have HS0 := hide (h.grow bX)
  have HX0 := hide (x.grow bX)
  have HM0 := hide bm
  have HR0 := hide br
  have HBX0 := hide bX
  have HC := hide hc
  have HNE := hide hn
  have HMY : Hid (decide (m.p ≤ 281474976710655 ∧ m.o ≤ 16777215 ∧ m.c ≤ 281474976710655) = true) := hm
  have HGR : Hid (w.heap.size + 1 < X.heap.size) := lt_of_heap br
  have hopi : ((m.op : Int)) = 2 := by omega
  have HOP := hide hopi
  obtain ⟨k0, k1, k2, k3, k4, k5, k6, k7, k8, k9, k10⟩ := bm.all
  clear bm br bX h x hc hm hop hopi hn
  go_enter Tryd.func28, Tryd.ntmps28
  go_wp2_with fail
  refine (whole_yes HS0.out).mono ?_; rintro e w1 ⟨rfl, hw1⟩; subst hw1
  go_wp2_with fail
  refine (may_any m.p m.o m.r m.c _ HC.out.1 HC.out.2.1 HC.out.2.2.1 HC.out.2.2.2).mono ?_; rw [HMY.out]; rintro e w2 ⟨rfl, hw2⟩
  have b2 : Below w1.heap.size w1 w2 := hw2 ▸ below_alloc _ _
  have HS := hide (HS0.out.grow b2)
  have HX := hide (HX0.out.grow b2)
  have HM := hide (HM0.out.grow b2)
  have HR := hide (HR0.out.grow b2)
  have HBX := hide (below_one HBX0.out b2)
  clear b2 hw2 k0 k1 k2 k3 k4 k5 k6 k7 k8 k9 k10 HS0 HX0 HM0 HR0 HBX0 HGR
  obtain ⟨k0, k1, k2, k3, k4, k5, k6, k7, k8, k9, k10⟩ := HM.out.all
  rw [HOP.out] at k3
  obtain ⟨er, her⟩ : ∃ er, erN 1 = er := ⟨_, rfl⟩
  have HER := hide her
  clear her
  go_wp2_with fail
  clear k0 k1 k2 k3 k4 k5 k6 k7 k8 k9 k10
  have hS : Hid (w2.drew.cell? ⟨r, 0, none⟩ = some (.pointer (some ⟨g, 0, none⟩)) ∧ w2.drew.cell? ⟨w.heap.size, 5, none⟩ = some (.int .u64 (m.p : Int)) ∧ w2.drew.cell? ⟨w.heap.size, 6, none⟩ = some (.int .u32 (m.o : Int)) ∧ w2.drew.cell? ⟨w.heap.size, 7, none⟩ = some (.int .u8 (m.r : Int)) ∧ w2.drew.cell? ⟨w.heap.size, 8, none⟩ = some (.int .u64 (m.c : Int))) := ⟨HS.out.c0, HM.out.all.2.2.2.2.2.1, HM.out.all.2.2.2.2.2.2.1, HM.out.all.2.2.2.2.2.2.2.1, HM.out.all.2.2.2.2.2.2.2.2.1⟩
  refine wp_region_held_drew (S := fun U => U.cell? ⟨r, 0, none⟩ = some (.pointer (some ⟨g, 0, none⟩)) ∧ U.cell? ⟨w.heap.size, 5, none⟩ = some (.int .u64 (m.p : Int)) ∧ U.cell? ⟨w.heap.size, 6, none⟩ = some (.int .u32 (m.o : Int)) ∧ U.cell? ⟨w.heap.size, 7, none⟩ = some (.int .u8 (m.r : Int)) ∧ U.cell? ⟨w.heap.size, 8, none⟩ = some (.int .u64 (m.c : Int))) (by kernel_rfl) hS.out (fun _ => ?_)
  refine wpAnyH_take (i := 0) (oi := { dst := some 33, op := Op.build 90 #[], type := 90, pos := "skeleton.go:84", after := #[], guard := none }) (v := (.agg #[.int .u64 0, .int .u32 0, .int .u8 0, .int .u64 0, .int .u64 0, .slice none 0 0])) rfl (by kernel_rfl) (by kernel_rfl) (by kernel_rfl) (fun _ _ _ h => h) (Or.inl ⟨by kernel_rfl, fun w hC => by go_simp⟩) hS.out ?_
  simp only [Act.put, List.setIfInBounds_toArray, List.set_cons_zero, List.set_cons_succ]
  refine wpAnyH_take (i := 1) (oi := { dst := some 34, op := Op.move (Operand.tmp 0), type := 36, pos := "skeleton.go:84", after := #[], guard := none }) (v := (.pointer (some ⟨r, 0, none⟩))) rfl (by kernel_rfl) (by kernel_rfl) (by kernel_rfl) (fun _ _ _ h => h) (Or.inl ⟨by kernel_rfl, fun w hC => by go_simp⟩) hS.out ?_
  simp only [Act.put, List.setIfInBounds_toArray, List.set_cons_zero, List.set_cons_succ]
  refine wpAnyH_take (i := 2) (oi := { dst := some 35, op := Op.nilCheck (Operand.tmp 34), type := 0, pos := "skeleton.go:84", after := #[{ on := 1, ground := Ground.data }], guard := none }) (v := (.pointer (some ⟨r, 0, none⟩))) rfl (by kernel_rfl) (by kernel_rfl) (by kernel_rfl) (fun _ _ _ h => h) (Or.inl ⟨by kernel_rfl, fun w hC => by go_simp⟩) hS.out ?_
  simp only [Act.put, List.setIfInBounds_toArray, List.set_cons_zero, List.set_cons_succ]
  refine wpAnyH_take (i := 3) (oi := { dst := some 36, op := Op.fieldAddr 81 (Operand.tmp 35) 0, type := 0, pos := "skeleton.go:84", after := #[{ on := 2, ground := Ground.data }], guard := none }) (v := (.pointer (some ⟨r, 0, none⟩))) rfl (by kernel_rfl) (by kernel_rfl) (by kernel_rfl) (fun _ _ _ h => h) (Or.inl ⟨by kernel_rfl, fun w hC => by go_simp⟩) hS.out ?_
  simp only [Act.put, List.setIfInBounds_toArray, List.set_cons_zero, List.set_cons_succ]
  refine wpAnyH_take (i := 4) (oi := { dst := some 37, op := Op.load 25 (Operand.tmp 36), type := 25, pos := "skeleton.go:84", after := #[{ on := 3, ground := Ground.data }], guard := none }) (v := (.pointer (some ⟨g, 0, none⟩))) rfl (by kernel_rfl) (by kernel_rfl) (by kernel_rfl) (fun _ _ _ h => h) (Or.inl ⟨by kernel_rfl, fun w hC => by (obtain ⟨j0, j5, j6, j7, j8⟩ := hC; go_simp)⟩) hS.out ?_
  simp only [Act.put, List.setIfInBounds_toArray, List.set_cons_zero, List.set_cons_succ]
  refine wpAnyH_take (i := 5) (oi := { dst := some 38, op := Op.fieldAddr 49 (Operand.tmp 3) 5, type := 0, pos := "skeleton.go:84", after := #[], guard := none }) (v := (.pointer (some ⟨w.heap.size, 5, none⟩))) rfl (by kernel_rfl) (by kernel_rfl) (by kernel_rfl) (fun _ _ _ h => h) (Or.inl ⟨by kernel_rfl, fun w hC => by go_simp⟩) hS.out ?_
  simp only [Act.put, List.setIfInBounds_toArray, List.set_cons_zero, List.set_cons_succ]
  refine wpAnyH_take (i := 6) (oi := { dst := some 39, op := Op.load 41 (Operand.tmp 38), type := 41, pos := "skeleton.go:84", after := #[{ on := 5, ground := Ground.data }], guard := none }) (v := (.agg #[.int .u64 (m.p : Int), .int .u32 (m.o : Int), .int .u8 (m.r : Int), .int .u64 (m.c : Int)])) rfl (by kernel_rfl) (by kernel_rfl) (by kernel_rfl) (fun _ _ _ h => h) (Or.inl ⟨by kernel_rfl, fun w hC => by (obtain ⟨j0, j5, j6, j7, j8⟩ := hC; go_simp)⟩) hS.out ?_
  simp only [Act.put, List.setIfInBounds_toArray, List.set_cons_zero, List.set_cons_succ]
  refine wpAnyH_ready (rs := [7]) (by kernel_rfl) (by simp) ?_
  refine AllReadyH.cons (o := { dst := some 40, op := Op.call { callee := Callee.value (Operand.func 34), args := #[Operand.tmp 37, Operand.tmp 39], argTypes := #[25, 41] }, type := 43, pos := "skeleton.go:84", after := #[{ on := 4, ground := Ground.data }, { on := 6, ground := Ground.data }], guard := none }) rfl (fun KK hKK => ?_) AllReadyH.nil
  go_simp
  refine (touch_tn ⟨m.p, m.o, m.r, m.c⟩ _ (HX.out.grow (below_d w2 1)) HC.out HNE.out).mono ?_; rw [HER.out]; rintro e w3 ⟨rfl, b3⟩
  have b3 : Below w2.heap.size w2 w3 := below_one (below_d w2 1) b3
  have HS3 := hide (HS.out.grow b3)
  have HM3 := hide (HM.out.grow b3)
  have HR3 := hide (HR.out.grow b3)
  have HB3 := hide (below_one HBX.out b3)
  clear b3
  have hS : Hid (w3.cell? ⟨r, 0, none⟩ = some (.pointer (some ⟨g, 0, none⟩)) ∧ w3.cell? ⟨w.heap.size, 5, none⟩ = some (.int .u64 (m.p : Int)) ∧ w3.cell? ⟨w.heap.size, 6, none⟩ = some (.int .u32 (m.o : Int)) ∧ w3.cell? ⟨w.heap.size, 7, none⟩ = some (.int .u8 (m.r : Int)) ∧ w3.cell? ⟨w.heap.size, 8, none⟩ = some (.int .u64 (m.c : Int))) := ⟨HS3.out.c0, HM3.out.all.2.2.2.2.2.1, HM3.out.all.2.2.2.2.2.2.1, HM3.out.all.2.2.2.2.2.2.2.1, HM3.out.all.2.2.2.2.2.2.2.2.1⟩
  refine hKK.out _ _ hS.out (fun _ => ?_)
  clear hKK
  obtain ⟨y0, y1, y2, y3, y4, y5⟩ := HR3.out.all
  have z0 := HR3.out.z 0
  have z1 := HR3.out.z 1
  have z2 := HR3.out.z 2
  have z3 := HR3.out.z 3
  have z4 := HR3.out.z 4
  have z5 := HR3.out.z 5
  simp only [Cp.zero, show (((0 : Nat)) : Int) = 0 from rfl] at y0 y1 y2 y3
  have f4 := foot_lay6 w3 (w.heap.size + 1) Cp.zero 0 (.slice none 0 0)
  have HRZ := hide (HR3.out.lay Cp.zero 0 (.slice none 0 0))
  have HEZ : Hid (Below w.heap.size w (lay6 w3 (w.heap.size + 1) Cp.zero 0 (.slice none 0 0))) := (((below_foot (fun j => w.heap.size ≤ j) HB3.out).trans f4 (fun j (e : j = _) => .inl (by show w.heap.size ≤ j; omega))).below (Nat.le_refl _) (fun k e => e))
  have HMZ := hide (HM3.out.foot f4 (by show ¬ w.heap.size = w.heap.size + 1; omega))
  have HSZ : Hid (Sa (lay6 w3 (w.heap.size + 1) Cp.zero 0 (.slice none 0 0)) r (some ⟨g, 0, none⟩) (.iface 32 (.pointer q))) := (f4.block r (lt_of_heap HS3.out) (fun e => two_types HS3.out HR3.out (by decide) e)).trans HS3.out
  obtain ⟨wz, hwz⟩ : ∃ wz, lay6 w3 (w.heap.size + 1) Cp.zero 0 (.slice none 0 0) = wz := ⟨_, rfl⟩
  rw [hwz] at HRZ HEZ HMZ HSZ
  unfold lay6 at hwz
  simp only [Cp.zero, show (((0 : Nat)) : Int) = 0 from rfl] at hwz
  clear f4
  refine wpAnyH_ready (rs := [8]) (by kernel_rfl) (by simp) ?_
  refine AllReadyH.cons (o := { dst := none, op := Op.store 90 (Operand.tmp 4) (Operand.tmp 33), type := 0, pos := "skeleton.go:84", after := #[{ on := 0, ground := Ground.data }, { on := 7, ground := Ground.chain }, { on := 0, ground := Ground.phase }, { on := 1, ground := Ground.textOnly Departure.lateStores }, { on := 2, ground := Ground.textOnly Departure.lateStores }, { on := 3, ground := Ground.textOnly Departure.lateStores }, { on := 4, ground := Ground.textOnly Departure.lateStores }, { on := 5, ground := Ground.textOnly Departure.lateStores }, { on := 6, ground := Ground.textOnly Departure.lateStores }, { on := 7, ground := Ground.textOnly Departure.lateStoresUnsure }], guard := none }) rfl (fun KK hKK => ?_) AllReadyH.nil
  go_simp
  have hS : Hid (wz.cell? ⟨r, 0, none⟩ = some (.pointer (some ⟨g, 0, none⟩)) ∧ wz.cell? ⟨w.heap.size, 5, none⟩ = some (.int .u64 (m.p : Int)) ∧ wz.cell? ⟨w.heap.size, 6, none⟩ = some (.int .u32 (m.o : Int)) ∧ wz.cell? ⟨w.heap.size, 7, none⟩ = some (.int .u8 (m.r : Int)) ∧ wz.cell? ⟨w.heap.size, 8, none⟩ = some (.int .u64 (m.c : Int))) := ⟨HSZ.out.c0, HMZ.out.all.2.2.2.2.2.1, HMZ.out.all.2.2.2.2.2.2.1, HMZ.out.all.2.2.2.2.2.2.2.1, HMZ.out.all.2.2.2.2.2.2.2.2.1⟩
  refine hKK.out _ _ hS.out (fun _ => ?_)
  clear hKK
  refine wpAnyH_take (i := 9) (oi := { dst := some 5, op := Op.assign (Operand.tmp 40), type := 43, pos := "skeleton.go:84", after := #[{ on := 7, ground := Ground.data }, { on := 8, ground := Ground.chain }, { on := 0, ground := Ground.phase }, { on := 1, ground := Ground.phase }, { on := 2, ground := Ground.phase }, { on := 3, ground := Ground.phase }, { on := 4, ground := Ground.phase }, { on := 5, ground := Ground.phase }, { on := 6, ground := Ground.phase }, { on := 7, ground := Ground.phase }, { on := 8, ground := Ground.phase }], guard := none }) (v := er) rfl (by kernel_rfl) (by kernel_rfl) (by kernel_rfl) (fun _ _ _ h => h) (Or.inl ⟨by kernel_rfl, fun w hC => by go_simp⟩) hS.out ?_
  simp only [Act.put, List.setIfInBounds_toArray, List.set_cons_zero, List.set_cons_succ]
  refine wpAnyH_done (by kernel_rfl) ?_ _
  obtain ⟨v0, v1, v2, v3, v4, v5⟩ := HRZ.out.all
  simp only [Cp.zero, show (((0 : Nat)) : Int) = 0 from rfl] at v0 v1 v2 v3 v4
  go_wp2
  refine bodyPost_ret (by simp [results, Tryd.results28, go_sem, v0, v1, v2, v3, v4, v5]; rfl) rfl ?_
  exact ⟨by rw [← HER.out]; rfl, HEZ.out⟩
def awM : Msg := ⟨0, 8, 9, 2, 0, 2, 0, 0, 0, 0⟩
theorem aw_serve (w : World) (hg : Glob w) (h : Sa w r (some ⟨g, 0, none⟩) (.iface 32 (.pointer q))) (x : Tn w g 1) :
    Calls Tryd.prog 14 #[.pointer (some ⟨r, 0, none⟩), .agg #[.int .u64 0, .int .u64 8, .int .u32 9, .int .u16 2, .int .u16 0, .int .u64 2, .int .u32 0, .int .u8 0, .int .u64 0, .int .u64 0, .slice none 0 0]] w fun e w' => ∃ co cc, e = .returned (.agg #[.int .u64 8, .int .u64 0, .int .u32 9, .int .u16 2, .int .u16 1, .int .u64 0, .int .u32 0, .int .u8 0, .int .u64 0, .int .u64 0, .slice co 0 cc]) ∧ Below w.heap.size w w' := by
  refine (serve_err (.pointer (some ⟨r, 0, none⟩)) awM (.slice none 0 0) 1 w (by omega) (by omega) hg (fun W => Sa W r (some ⟨g, 0, none⟩) (.iface 32 (.pointer q)) ∧ Tn W g 1) ⟨h, x⟩ (fun W W' hp b => ⟨hp.1.grow b, hp.2.grow b⟩) (fun W hp => out_tn awM (.slice none 0 0) W hp.1 hp.2 ⟨by decide, by decide, by decide, by decide⟩ (by decide) rfl (by decide)) _ rfl).mono ?_
  rintro e w' ⟨co, cc, rfl, -, b⟩
  exact ⟨co, cc, rfl, b⟩
set_option maxRecDepth 20000 in
set_option maxHeartbeats 3200000 in
theorem awake_any (w : World) (hg : Glob w) :
    Calls Tryd.prog 7 #[] w fun e w' => e = .returned (.bool true) ∧ Below w.heap.size w w' := by
  have HG := hide hg
  clear hg
  go_enter Tryd.func7, Tryd.ntmps7
  go_wp2_with fail
  refine (tof_nil 1 _).mono ?_; rintro e w1 ⟨rfl, T1, b1⟩
  have HT := hide T1
  have HB1 := hide b1
  clear T1 b1
  go_wp2_with fail
  obtain ⟨W1, hW1⟩ : ∃ W1, w1.alloc (.cells #[.slice none 0 0, .slice none 0 0] 35) = W1 := ⟨_, rfl⟩
  have bS : Below w1.heap.size w1 W1 := hW1 ▸ below_alloc _ _
  rw [hW1]
  clear hW1
  refine (srv_of _ _ (.inr ⟨_, rfl⟩) _).mono ?_; rintro e w2 ⟨rfl, S2, b2⟩
  have HT2 := hide ((HT.out.grow bS).grow b2)
  have HS2 := hide S2
  have HB2 := hide (below_one (below_one HB1.out bS) b2)
  clear bS S2 b2
  obtain ⟨r0, hr0⟩ : ∃ r0, W1.heap.size = r0 := ⟨_, rfl⟩
  rw [hr0] at HS2 ⊢
  clear hr0
  go_wp2_with fail
  refine (aw_serve _ (HG.out.carry HB2.out) HS2.out HT2.out).mono ?_; rintro e w3 ⟨co, cc, rfl, b3⟩
  have HB3 := hide (below_one HB2.out b3)
  clear b3
  go_wp2
  go_ret
  exact ⟨rfl, HB3.out.alloc HB3.out.size _⟩
end
end Go.Proofs.YtjpgfldppepmiaaDoor
namespace Go.Proofs.YtjpgfldppepmiaaDoor
section
open Go.RowKit
variable {w0 w w1 w2 w' : World} {A A' : Ad} {p : Nat} {ws : List Nat} {s s' s1 : Hs} {r g sb : Nat}
theorem owns_none (w : World) (B : Nat) (e : TypeId) (sz : Nat) : w.ownsRow B e sz (.slice none 0 0) 0 [] := ⟨by simp, .inl ⟨rfl, rfl⟩⟩
theorem Sv.make {B go m a h k : Nat} (x : Od w0 w B g go m a h k p (.slice none 0 0) ws 0 [] noneO) :
    Sv w0 (w.alloc (.cells #[.slice none 0 0, .slice none 0 0] 35)) ⟨B, g, go, m, a, h, k, .slice none 0 0, w.heap.size, w.heap.size, .slice none 0 0, .slice none 0 0⟩ p ws ⟨0, [], noneO, [], []⟩ := by
  have hr : w.heap[h]? = some _ := x.tk.tape.row
  exact ⟨x.grow (below_alloc _ _), heap_alloc_new _ _, owns_none _ _ _ _, owns_none _ _ _ _, lt_of_heap hr, x.tk.new.bel.size, (below_alloc w _).size, x.tk.new.bel.size⟩
theorem Od.make {w3 : World} {B go m a h k : Nat} (S : Tk w0 w B go m a h k (.slice none 0 0) ws 0 []) (tb : Tb w3 w.heap.size p go noneO) (b : Below w.heap.size w w3) : Od w0 w3 B w.heap.size go m a h k p (.slice none 0 0) ws 0 [] noneO :=
  ⟨S.grow b, tb, S.new.bel.size⟩
theorem Sr.of {r : Nat} {g sb : Nat} (h : Sa w r (some ⟨g, 0, none⟩) (.iface 32 (.pointer (some ⟨sb, 0, none⟩)))) : Sr w r g sb := h
end
end Go.Proofs.YtjpgfldppepmiaaDoor
