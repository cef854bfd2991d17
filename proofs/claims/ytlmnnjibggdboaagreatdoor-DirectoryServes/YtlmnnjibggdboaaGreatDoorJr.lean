/-
  A deed's request (the statement's own message), as a contract.
-/
import Derived.Test.YtlmnnjibggdboaaGreatDoorJn
import Derived.Deep.RegionHeld
import Derived.Deep.CutRange
namespace Go.Proofs.YtlmnnjibggdboaaGreatDoor
section
open Go.RowKit
variable {w0 w w1 w2 w' : World}
theorem dat_ne {N n g : Nat} {co : Option Addr} {m : Msg} {D : Value} (h : Dat N w n co) (hm : MB w g m D) (hg : N ≤ g) : ∀ ad, co = some ad → 0 < n → ad.block ≠ g := fun ad e hp e2 => by
  rcases h hp ad e with h1 | ⟨cs, z, h1⟩
  · omega
  · rw [e2, show w.heap[g]? = _ from hm] at h1
    exact absurd (Obj.cells.inj (Option.some.inj h1)).2.1 (by decide)
theorem dat_foot {N n : Nat} {co : Option Addr} {S : Nat → Prop} (h : Dat N w n co) (f : Foot S w w') (hS : ∀ ad, co = some ad → 0 < n → ¬ S ad.block) : Dat N w' n co := fun hp ad e => by
  rcases h hp ad e with h1 | ⟨cs, z, h1⟩
  · exact .inl h1
  · exact .inr ⟨cs, z, (f.block _ (lt_of_heap h1) (hS ad e hp)).trans h1⟩
theorem bts_dat {n cc : Nat} {co : Option Addr} {l : List UInt8} {S : Nat → Prop} (h : Bts w co n cc l) (f : Foot S w w') (hS : ∀ ad, co = some ad → 0 < n → ¬ S ad.block) : Bts w' co n cc l :=
  ⟨h.1, h.2.1, h.2.2.1, h.2.2.2.1, fun ad e j hj => by
    have c1 := h.2.2.2.2 ad e j hj
    have h1 := h.1
    rw [f.cell _ (lt_of_cell c1) (by rw [add_block]; exact hS ad e (by omega))]
    exact c1⟩
set_option maxRecDepth 20000 in
set_option maxHeartbeats 12800000 in
theorem msg_any (x : Ac) (hx : x.ok) {B n : Nat} {v : Value} {L : List Cp} (w : World) (hr : w.ownsRow B 40 4 v n (cellsC L)) (hn : n = L.length) (h0 : 0 < n) (q : Cp) (hq : L.getD (x.wh % n) Cp.zero = q) (hD : Bts w x.so x.sn x.sc x.l) (hsn : x.sn ≤ 140737488351232) (N : Nat) (hNw : N ≤ w.heap.size) (hN : Dat N w x.sn x.so) :
    Calls Tryz.prog 16 #[.agg #[.int .u8 (x.o : Int), .int .u8 (x.wh : Int), .int .u8 (x.nm : Int), .int .u64 (x.p : Int), .int .u32 (x.po : Int), .int .u8 (x.r : Int), .int .u64 (x.c : Int), .bool x.ow, .int .u16 (x.a : Int), .slice x.so x.sn x.sc], v] w fun e w' =>
      ∃ op ar co m cc l, e = .returned (.agg #[.int .u64 0, .int .u64 0, .int .u32 0, .int .u16 ((op : Nat) : Int), .int .u16 0, .int .u64 (q.p : Int), .int .u32 (q.o : Int), .int .u8 (q.r : Int), .int .u64 (q.c : Int), .int .u64 ((ar : Nat) : Int), .slice co m cc]) ∧ (op = 5 ∨ 100 ≤ op) ∧ op ≤ 106 ∧ ar ≤ 300 ∧ Bts w' co m cc l ∧ m ≤ 140737488355328 ∧ Dat N w' m co ∧ Below w.heap.size w w' := by
  obtain ⟨o, wh, nx, cp, co, cr, cc, ow, a, so, sn, sc, l⟩ := x
  obtain ⟨qp, qo, qr, qc⟩ := q
  simp only at hq hx hD hsn hN ⊢
  obtain ⟨k, hk⟩ : ∃ k, wh % n = k := ⟨_, rfl⟩
  have hkn : k < n := by rw [← hk]; exact Nat.mod_lt _ h0
  rw [hk] at hq
  obtain ⟨rb, cap, rfl, hnc, hcm, e0, e1, e2, e3⟩ := owns_cap hr hn k hkn qp qo qr qc hq
  unfold maxLen at hcm
  have hxo : o ≤ 255 ∧ wh ≤ 255 ∧ nx ≤ 255 := hx.1
  have hxc : cp ≤ 18446744073709551615 ∧ co ≤ 4294967295 ∧ cr ≤ 255 ∧ cc ≤ 18446744073709551615 := hx.2.1
  have hxa : a ≤ 65535 := hx.2.2
  have hk1 : (wh : Int) % (n : Int) = (k : Int) := by rw [← hk]; rfl
  have hk2 : (wh : Int).tmod (n : Int) = (k : Int) := by rw [Int.tmod_eq_emod_of_nonneg (by omega)]; exact hk1
  have hn0 : ¬ ((n : Int) = 0) := by omega
  have hn00 : ((n : Int) == 0) = false := by simp; omega
  have hn000 : ¬ n = 0 := by omega
  have hkl : (k : Int) < (n : Int) := by omega
  have hk0 : (0 : Int) ≤ (k : Int) := by omega
  have hwk : IntKind.i64.wrap (wh : Int) = (wh : Int) := by rw [IntKind.wrap_i64]; omega
  have hwk2 : IntKind.i64.wrap (k : Int) = (k : Int) := by rw [IntKind.wrap_i64]; omega
  obtain ⟨o7, ho7⟩ : ∃ x, o % 7 = x := ⟨_, rfl⟩
  have p1 : (o : Int) % 7 = (o7 : Int) := by omega
  have p2 : (o : Int).tmod 7 = (o7 : Int) := by rw [Int.tmod_eq_emod_of_nonneg (by omega)]; exact p1
  have p3 : IntKind.u16.wrap (o7 : Int) = (o7 : Int) := by rw [IntKind.wrap_u16]; omega
  have p3b : IntKind.u8.wrap (o7 : Int) = (o7 : Int) := by rw [IntKind.wrap_u8]; omega
  obtain ⟨po, hpo⟩ : ∃ po, 100 + o7 = po := ⟨_, rfl⟩
  have p4 : IntKind.u16.wrap (100 + (o7 : Int)) = (po : Int) := by rw [IntKind.wrap_u16]; omega
  obtain ⟨o8, ho8⟩ : ∃ x, o / 8 = x := ⟨_, rfl⟩
  have r1 : (o : Int) / 8 = (o8 : Int) := by omega
  have r2 : (o : Int).tdiv 8 = (o8 : Int) := by rw [Int.tdiv_eq_ediv_of_nonneg (by omega)]; exact r1
  have r3 : IntKind.u8.wrap (o8 : Int) = (o8 : Int) := by rw [IntKind.wrap_u8]; omega
  obtain ⟨m4, hm4⟩ : ∃ x, o8 % 4 = x := ⟨_, rfl⟩
  have s1 : (o8 : Int) % 4 = (m4 : Int) := by omega
  have s2 : (o8 : Int).tmod 4 = (m4 : Int) := by rw [Int.tmod_eq_emod_of_nonneg (by omega)]; exact s1
  have s3 : IntKind.u8.wrap (m4 : Int) = (m4 : Int) := by rw [IntKind.wrap_u8]; omega
  obtain ⟨m8, hm8⟩ : ∃ x, o8 % 8 = x := ⟨_, rfl⟩
  have t1 : (o8 : Int) % 8 = (m8 : Int) := by omega
  have t2 : (o8 : Int).tmod 8 = (m8 : Int) := by rw [Int.tmod_eq_emod_of_nonneg (by omega)]; exact t1
  have t3 : IntKind.u8.wrap (m8 : Int) = (m8 : Int) := by rw [IntKind.wrap_u8]; omega
  obtain ⟨a3, ha3⟩ : ∃ x, a % 300 = x := ⟨_, rfl⟩
  have a1 : (a : Int) % 300 = (a3 : Int) := by omega
  have a2 : (a : Int).tmod 300 = (a3 : Int) := by rw [Int.tmod_eq_emod_of_nonneg (by omega)]; exact a1
  have a4 : IntKind.u64.wrap (a : Int) = (a : Int) := by rw [IntKind.wrap_u64]; omega
  have a5 : IntKind.u64.wrap (a3 : Int) = (a3 : Int) := by rw [IntKind.wrap_u64]; omega
  obtain ⟨k8, hk8⟩ : ∃ x, nx % 8 = x := ⟨_, rfl⟩
  have n1 : (nx : Int) % 8 = (k8 : Int) := by omega
  have n2 : (nx : Int).tmod 8 = (k8 : Int) := by rw [Int.tmod_eq_emod_of_nonneg (by omega)]; exact n1
  have n3 : IntKind.u8.wrap (k8 : Int) = (k8 : Int) := by rw [IntKind.wrap_u8]; omega
  have k8l : (k8 : Int) < 8 := by omega
  have k80 : (0 : Int) ≤ (k8 : Int) := by omega
  have HPO : Hid (100 ≤ po ∧ po ≤ 106) := ⟨by omega, by omega⟩
  have HA3 : Hid (a3 ≤ 300) := by show _ ≤ _; omega
  obtain ⟨xp, hxp⟩ : ∃ x, cp % 281474976710656 = x := ⟨_, rfl⟩
  obtain ⟨xo, hxo2⟩ : ∃ x, co % 16777216 = x := ⟨_, rfl⟩
  obtain ⟨xc, hxc2⟩ : ∃ x, cc % 281474976710656 = x := ⟨_, rfl⟩
  have HMK : Hid (∀ W : World, Calls Tryz.prog 21 #[.agg #[.int .u64 (cp : Int), .int .u32 (co : Int), .int .u8 (cr : Int), .int .u64 (cc : Int)]] W fun e w' => e = .returned (.agg #[.int .u64 (xp : Int), .int .u32 (xo : Int), .int .u8 (cr : Int), .int .u64 (xc : Int)]) ∧ w' = (W.alloc (.cells #[.int .u64 (cp : Int), .int .u32 (co : Int), .int .u8 (cr : Int), .int .u64 (cc : Int)] 40)).alloc (.cells #[.int .u64 (xp : Int), .int .u32 (xo : Int), .int .u8 (cr : Int), .int .u64 (xc : Int)] 40)) := by
    intro W
    refine (make_any cp co cr cc W hxc.1 hxc.2.1 hxc.2.2.1 hxc.2.2.2).mono ?_
    rintro e w' ⟨rfl, hw⟩
    rw [hxp, hxo2, hxc2] at hw ⊢
    exact ⟨rfl, hw⟩
  have HENC : Hid (∀ (cr2 : Nat) (W : World), cr2 ≤ 255 → Calls Tryz.prog 23 #[.agg #[.int .u64 (xp : Int), .int .u32 (xo : Int), .int .u8 (cr2 : Int), .int .u64 (xc : Int)]] W fun e w' => ∃ g, e = .returned (.slice (some ⟨g, 0, none⟩) 16 16) ∧ Bts w' (some ⟨g, 0, none⟩) 16 16 (capF xp xo cr2 xc) ∧ Below W.heap.size W w') := fun cr2 W h => enc_any ⟨xp, xo, cr2, xc⟩ ⟨by show xp ≤ _; omega, by show xo ≤ _; omega, h, by show xc ≤ _; omega⟩ W
  obtain ⟨X1, hX1⟩ : ∃ X, w.alloc (.cells #[.int .u8 (o : Int), .int .u8 (wh : Int), .int .u8 (nx : Int), .int .u64 (cp : Int), .int .u32 (co : Int), .int .u8 (cr : Int), .int .u64 (cc : Int), .bool ow, .int .u16 (a : Int), .slice so sn sc] 53) = X := ⟨_, rfl⟩
  have b1 : Below w.heap.size w X1 := hX1 ▸ below_alloc w _
  have HA1 : Hid (AB X1 w.heap.size ⟨o, wh, nx, cp, co, cr, cc, ow, a, so, sn, sc, l⟩) := hX1 ▸ AB.new w ⟨o, wh, nx, cp, co, cr, cc, ow, a, so, sn, sc, l⟩
  obtain ⟨X2, hX2⟩ : ∃ X, X1.alloc (.cells #[.int .u64 0, .int .u64 0, .int .u32 0, .int .u16 0, .int .u16 0, .int .u64 0, .int .u32 0, .int .u8 0, .int .u64 0, .int .u64 0, .slice none 0 0] 55) = X := ⟨_, rfl⟩
  have b2 : Below X1.heap.size X1 X2 := hX2 ▸ below_alloc _ _
  obtain ⟨gz, hgz⟩ : ∃ g, X1.heap.size = g := ⟨_, rfl⟩
  have HZ2 : Hid (MB X2 gz Msg.zero (.slice none 0 0)) := by rw [← hgz, ← hX2]; exact mbz_new X1
  obtain ⟨X, hX⟩ : ∃ X, X2.alloc (.cells #[.string { data := #[97] }, .string { data := #[98, 99] }, .string { data := #[] }, .string { data := #[100] }, .string { data := #[101] }, .string { data := #[48, 49, 50, 51, 52, 53, 54, 55, 56, 57, 48, 49, 50, 51, 52, 53, 54, 55, 56, 57, 48, 49, 50, 51, 52, 53, 54, 55, 56, 57, 48, 120] }, .string { data := #[48, 49, 50, 51, 52, 53, 54, 55, 56, 57, 48, 49, 50, 51, 52, 53, 54, 55, 56, 57, 48, 49, 50, 51, 52, 53, 54, 55, 56, 57, 48, 120, 121] }, .string { data := #[102] }] 9) = X := ⟨_, rfl⟩
  have b3 : Below X2.heap.size X2 X := hX ▸ below_alloc _ _
  obtain ⟨gn, hgn⟩ : ∃ g, X2.heap.size = g := ⟨_, rfl⟩
  obtain ⟨nm, hnml, hnc8⟩ := name_at X2 k8 (by omega)
  rw [hX, hgn] at hnc8
  obtain ⟨ss, hss⟩ : ∃ t, str nm = t := ⟨_, rfl⟩
  have HSS := hide hss
  have HNML := hide hnml
  rw [hss] at hnc8
  have b13 := below_one (below_one b1 b2) b3
  have HAX := hide ((HA1.out.grow b2).grow b3)
  have HZX := hide (HZ2.out.grow b3)
  have HGZ : Hid (w.heap.size < gz ∧ gz < X.heap.size) := ⟨by have := lt_of_heap HA1.out; omega, lt_of_heap HZX.out⟩
  have HBX := hide b13
  have HNINE : Hid (∀ U, Below X.heap.size X U → U.cell? ⟨w.heap.size, 0, none⟩ = some (.int .u8 (o : Int)) ∧ U.cell? ⟨w.heap.size, 1, none⟩ = some (.int .u8 (wh : Int)) ∧ U.cell? ⟨w.heap.size, 2, none⟩ = some (.int .u8 (nx : Int)) ∧ U.cell? ⟨w.heap.size, 8, none⟩ = some (.int .u16 (a : Int)) ∧ U.cell? ⟨rb, k * 4, none⟩ = some (.int .u64 (qp : Int)) ∧ U.cell? ⟨rb, k * 4 + 1, none⟩ = some (.int .u32 (qo : Int)) ∧ U.cell? ⟨rb, k * 4 + 2, none⟩ = some (.int .u8 (qr : Int)) ∧ U.cell? ⟨rb, k * 4 + 3, none⟩ = some (.int .u64 (qc : Int)) ∧ U.cell? ⟨gn, k8, none⟩ = some (.string ss)) := fun U hb => by
    obtain ⟨g0, g1, g2, -, -, -, -, -, g8, -⟩ := (HAX.out.grow hb).all
    have c := b13.trans (hb.mono b13.size)
    exact ⟨g0, g1, g2, g8, by rw [c.cell (lt_of_cell e0), e0], by rw [c.cell (lt_of_cell e1), e1], by rw [c.cell (lt_of_cell e2), e2], by rw [c.cell (lt_of_cell e3), e3], by rw [hb.cell (lt_of_cell hnc8), hnc8]⟩
  have HDD := hide hD
  have HCR : Hid (cr ≤ 255) := hxc.2.2.1
  have HDN := hide hN
  have HNW := hide hNw
  have HSN := hide hsn
  clear hr hn h0 hq hx hk hD hsn hN hNw e0 e1 e2 e3 hxo hxc hxp hxo2 hxc2 b1 b2 b3 b13 hss hnml ho7 hpo ho8 hm4 hm8 ha3 hk8 hxa
  go_enter Tryz.func16, Tryz.ntmps16
  obtain ⟨g0, g1, g2, g3, g4, g5, g6, g7, g8, g9⟩ := HAX.out.all
  simp only at g0 g1 g2 g3 g4 g5 g6 g7 g8 g9
  go_wp2_with fail
  refine (HMK.out _).mono ?_; rintro e w1 ⟨rfl, rfl⟩
  have bM : Below X.heap.size X ((X.alloc (.cells #[.int .u64 (cp : Int), .int .u32 (co : Int), .int .u8 (cr : Int), .int .u64 (cc : Int)] 40)).alloc (.cells #[.int .u64 (xp : Int), .int .u32 (xo : Int), .int .u8 (cr : Int), .int .u64 (xc : Int)] 40)) := below_one (below_alloc _ _) (below_alloc _ _)
  obtain ⟨X4, hX4⟩ : ∃ W, (X.alloc (.cells #[.int .u64 (cp : Int), .int .u32 (co : Int), .int .u8 (cr : Int), .int .u64 (cc : Int)] 40)).alloc (.cells #[.int .u64 (xp : Int), .int .u32 (xo : Int), .int .u8 (cr : Int), .int .u64 (xc : Int)] 40) = W := ⟨_, rfl⟩
  rw [hX4] at bM ⊢
  clear hX4
  obtain ⟨X5, hX5⟩ : ∃ W, X4.alloc (.cells #[.int .u64 (xp : Int), .int .u32 (xo : Int), .int .u8 (cr : Int), .int .u64 (xc : Int)] 40) = W := ⟨_, rfl⟩
  obtain ⟨gc, hgc⟩ : ∃ g, X4.heap.size = g := ⟨_, rfl⟩
  have b5 : Below X4.heap.size X4 X5 := hX5 ▸ below_alloc _ _
  have HC5 : Hid (CBI X5 gc xp xo cr xc) := by rw [← hgc, ← hX5]; exact CBI.new X4 _ _ _ _
  have b45 := below_one bM b5
  have HB5 := hide b45
  have HGC : Hid (X.heap.size ≤ gc) := by show _ ≤ _; rw [← hgc]; exact bM.size
  clear g0 g1 g2 g3 g4 g5 g6 g7 g8 g9
  obtain ⟨g0, g1, g2, g3, g4, g5, g6, g7, g8, g9⟩ := (HAX.out.grow b45).all
  simp only at g0 g1 g2 g3 g4 g5 g6 g7 g8 g9
  clear bM b5 b45
  go_upto_if 14 with fail
  go_cut [] from 15 to 15 (fun wx => ∃ cr2 : Nat, cr2 ≤ 255 ∧ CBI wx gc xp xo cr2 xc ∧ Below X.heap.size X wx)
  case first =>
    cases ow with
    | true =>
      have y2 := HC5.out.c2
      have x2 := CBI.z' HC5.out 2
      go_wp2_with fail
      go_meet
      refine ⟨255, by omega, ?_, HB5.out.trans (((foot_one X5 gc 2 (.int .u8 255))).below (HB5.out.size) (fun j (e : j = gc) => by have := HGC.out; omega))⟩
      have h1 := heap_setCell_same X5 gc 2 _ _ (.int .u8 255) HC5.out
      exact h1
    | false =>
      go_wp2_with fail
      go_meet
      exact ⟨cr, HCR.out, HC5.out, HB5.out⟩
  case rest =>
    obtain ⟨X6, rfl⟩ : ∃ x, x = wc := ⟨wc, rfl⟩
    obtain ⟨cr2, hcr2, hc6, b6⟩ := hcut
    have HB6 := hide b6
    have d0 := hc6.c0
    have d1 := hc6.c1
    have d2 := hc6.c2
    have d3 := hc6.c3
    have HCR2 := hide hcr2
    clear g0 g1 g2 g3 g4 g5 g6 g7 g8 g9 hc6 b6 hcr2
    go_wp2_with fail
    refine (HENC.out cr2 _ HCR2.out).mono ?_; rintro e X7 ⟨ge, rfl, BE, be⟩
    have b7 := below_one HB6.out be
    have HB7 := hide b7
    have HBE := hide BE
    obtain ⟨g0, g1, g2, g3, g4, g5, g6, g7, g8, g9⟩ := (HAX.out.grow b7).all
    simp only at g0 g1 g2 g3 g4 g5 g6 g7 g8 g9
    have HD7 := hide (HDD.out.carry (HBX.out.trans (b7.mono HBX.out.size)))
    clear b7 BE be d0 d1 d2 d3
    go_upto_if 22 with fail
    go_cut [7] from 23 to 24 (fun vb wx => ∃ bo bn bc lb, vb = .slice bo bn bc ∧ Bts X7 bo bn bc lb ∧ bn ≤ 140737488351232 ∧ wx = X7)
    case first =>
      by_cases h3 : m4 = 3
      · have hm3 : ((m4 : Int) == 3) = true := by rw [h3]; rfl
        go_wp2_with fail
        go_meet
        exact ⟨so, sn, sc, l, rfl, HD7.out, HSN.out, rfl⟩
      · have hm3 : ((m4 : Int) == 3) = false := by rw [beq_eq_false_iff_ne]; omega
        go_wp2_with fail
        go_meet
        exact ⟨_, _, _, _, rfl, HBE.out, by omega, rfl⟩
    case rest =>
      obtain ⟨bo, bn, bc, lb, rfl, hbb, hbn, hwc⟩ := hcut
      have hwc2 := hwc.symm
      subst hwc2
      clear hwc
      have HBB := hide hbb
      obtain ⟨M, hM⟩ : ∃ M : Msg, (⟨0, 0, 0, po, 0, qp, qo, qr, qc, a3⟩ : Msg) = M := ⟨_, rfl⟩
      have HRQ : Hid (∀ W, Below X7.heap.size X7 W → Calls Tryz.prog 22 #[.int .u16 (po : Int), .agg #[.int .u64 (qp : Int), .int .u32 (qo : Int), .int .u8 (qr : Int), .int .u64 (qc : Int)], .int .u64 (a3 : Int), .string ss, .slice bo bn bc] W fun e w' => ∃ co n cc l', e = .returned (.agg #[.int .u64 M.ta, .int .u64 M.rp, .int .u32 M.id, .int .u16 M.op, .int .u16 M.st, .int .u64 M.p, .int .u32 M.o, .int .u8 M.r, .int .u64 M.c, .int .u64 M.ar, .slice co n cc]) ∧ Bts w' co n cc l' ∧ New W co ∧ Typ8 w' co ∧ n ≤ 140737488355328 ∧ Below W.heap.size W w') := fun W b => by
        rw [← HSS.out]
        refine (req_big po ⟨qp, qo, qr, qc⟩ a3 nm bo bn bc lb W (hbb.carry b) (by have := HNML.out; omega) hbn M hM _ rfl).mono ?_
        rintro e w' ⟨co, n, cc, rfl, B, Nw, T, hn, b2⟩
        exact ⟨co, n, cc, _, rfl, B, Nw, T, by have := HNML.out; omega, b2⟩
      have HMM := hide hM
      have HN7 : Hid (∀ U, Below X7.heap.size X7 U → U.cell? ⟨w.heap.size, 0, none⟩ = some (.int .u8 (o : Int)) ∧ U.cell? ⟨w.heap.size, 1, none⟩ = some (.int .u8 (wh : Int)) ∧ U.cell? ⟨w.heap.size, 2, none⟩ = some (.int .u8 (nx : Int)) ∧ U.cell? ⟨w.heap.size, 8, none⟩ = some (.int .u16 (a : Int)) ∧ U.cell? ⟨rb, k * 4, none⟩ = some (.int .u64 (qp : Int)) ∧ U.cell? ⟨rb, k * 4 + 1, none⟩ = some (.int .u32 (qo : Int)) ∧ U.cell? ⟨rb, k * 4 + 2, none⟩ = some (.int .u8 (qr : Int)) ∧ U.cell? ⟨rb, k * 4 + 3, none⟩ = some (.int .u64 (qc : Int)) ∧ U.cell? ⟨gn, k8, none⟩ = some (.string ss)) := fun U hb => HNINE.out U (HB7.out.trans (hb.mono HB7.out.size))
      clear hbb hbn hM g0 g1 g2 g3 g4 g5 g6 g7 g8 g9
      go_upto_region 8 with fail
      go_cut [8] from 25 to 50 (fun vv wx => ∃ g co n cc l', vv = .pointer (some ⟨g, 0, none⟩) ∧ MB wx g M (.slice co n cc) ∧ Bts wx co n cc l' ∧ n ≤ 140737488355328 ∧ Typ8 wx co ∧ Below X7.heap.size X7 wx ∧ X7.heap.size ≤ g)
      case first =>
        have bb : Below X7.heap.size X7 X7.drew := (Below.refl _ _).drew
        have hS : Hid (X7.drew.cell? ⟨w.heap.size, 0, none⟩ = some (.int .u8 (o : Int)) ∧ X7.drew.cell? ⟨w.heap.size, 1, none⟩ = some (.int .u8 (wh : Int)) ∧ X7.drew.cell? ⟨w.heap.size, 2, none⟩ = some (.int .u8 (nx : Int)) ∧ X7.drew.cell? ⟨w.heap.size, 8, none⟩ = some (.int .u16 (a : Int)) ∧ X7.drew.cell? ⟨rb, k * 4, none⟩ = some (.int .u64 (qp : Int)) ∧ X7.drew.cell? ⟨rb, k * 4 + 1, none⟩ = some (.int .u32 (qo : Int)) ∧ X7.drew.cell? ⟨rb, k * 4 + 2, none⟩ = some (.int .u8 (qr : Int)) ∧ X7.drew.cell? ⟨rb, k * 4 + 3, none⟩ = some (.int .u64 (qc : Int)) ∧ X7.drew.cell? ⟨gn, k8, none⟩ = some (.string ss)) := HN7.out _ bb
        refine wp_region_held_drew (S := fun U => U.cell? ⟨w.heap.size, 0, none⟩ = some (.int .u8 (o : Int)) ∧ U.cell? ⟨w.heap.size, 1, none⟩ = some (.int .u8 (wh : Int)) ∧ U.cell? ⟨w.heap.size, 2, none⟩ = some (.int .u8 (nx : Int)) ∧ U.cell? ⟨w.heap.size, 8, none⟩ = some (.int .u16 (a : Int)) ∧ U.cell? ⟨rb, k * 4, none⟩ = some (.int .u64 (qp : Int)) ∧ U.cell? ⟨rb, k * 4 + 1, none⟩ = some (.int .u32 (qo : Int)) ∧ U.cell? ⟨rb, k * 4 + 2, none⟩ = some (.int .u8 (qr : Int)) ∧ U.cell? ⟨rb, k * 4 + 3, none⟩ = some (.int .u64 (qc : Int)) ∧ U.cell? ⟨gn, k8, none⟩ = some (.string ss)) (by kernel_rfl) hS.out (fun _ => ?_)
        refine wpAnyH_take (i := 0) (oi := { dst := some 25, op := Go.Op.fieldAddr 53 (Go.Operand.tmp 2) 0, type := 0, pos := "law.go:60", after := #[], guard := none }) (v := (.pointer (some ⟨w.heap.size, 0, none⟩))) rfl (by kernel_rfl) (by kernel_rfl) (by kernel_rfl) (fun _ _ _ h => h) (Or.inl ⟨by kernel_rfl, fun w hC => by go_simp⟩) hS.out ?_
        simp only [Act.put, List.setIfInBounds_toArray, List.set_cons_zero, List.set_cons_succ]
        refine wpAnyH_take (i := 1) (oi := { dst := some 26, op := Go.Op.load 5 (Go.Operand.tmp 25), type := 5, pos := "law.go:60", after := #[{ on := 0, ground := Go.Ground.data }], guard := none }) (v := (.int .u8 (o : Int))) rfl (by kernel_rfl) (by kernel_rfl) (by kernel_rfl) (fun _ _ _ h => h) (Or.inl ⟨by kernel_rfl, fun w hC => by ((obtain ⟨g0, g1, g2, g8, f0, f1, f2, f3, fn⟩ := hC); go_simp)⟩) hS.out ?_
        simp only [Act.put, List.setIfInBounds_toArray, List.set_cons_zero, List.set_cons_succ]
        refine wpAnyH_take (i := 2) (oi := { dst := some 27, op := Go.Op.binOp Go.BinOp.rem 5 (Go.Operand.tmp 26) (Go.Operand.const (Go.Value.int Go.IntKind.u8 7)) 5, type := 5, pos := "law.go:60", after := #[{ on := 1, ground := Go.Ground.data }], guard := none }) (v := (.int .u8 (o7 : Int))) rfl (by kernel_rfl) (by kernel_rfl) (by kernel_rfl) (fun _ _ _ h => h) (Or.inl ⟨by kernel_rfl, fun w hC => by go_simp⟩) hS.out ?_
        simp only [Act.put, List.setIfInBounds_toArray, List.set_cons_zero, List.set_cons_succ]
        refine wpAnyH_take (i := 3) (oi := { dst := some 28, op := Go.Op.convert 5 51 (Go.Operand.tmp 27), type := 51, pos := "law.go:60", after := #[{ on := 2, ground := Go.Ground.data }], guard := none }) (v := (.int .u16 (o7 : Int))) rfl (by kernel_rfl) (by kernel_rfl) (by kernel_rfl) (fun _ _ _ h => h) (Or.inl ⟨by kernel_rfl, fun w hC => by go_simp⟩) hS.out ?_
        simp only [Act.put, List.setIfInBounds_toArray, List.set_cons_zero, List.set_cons_succ]
        refine wpAnyH_take (i := 4) (oi := { dst := some 29, op := Go.Op.binOp Go.BinOp.add 51 (Go.Operand.const (Go.Value.int Go.IntKind.u16 100)) (Go.Operand.tmp 28) 51, type := 51, pos := "law.go:60", after := #[{ on := 3, ground := Go.Ground.data }], guard := none }) (v := (.int .u16 (po : Int))) rfl (by kernel_rfl) (by kernel_rfl) (by kernel_rfl) (fun _ _ _ h => h) (Or.inl ⟨by kernel_rfl, fun w hC => by go_simp⟩) hS.out ?_
        simp only [Act.put, List.setIfInBounds_toArray, List.set_cons_zero, List.set_cons_succ]
        refine wpAnyH_take (i := 5) (oi := { dst := some 30, op := Go.Op.move (Go.Operand.tmp 1), type := 49, pos := "law.go:60", after := #[], guard := none }) (v := (.slice (some ⟨rb, 0, none⟩) n cap)) rfl (by kernel_rfl) (by kernel_rfl) (by kernel_rfl) (fun _ _ _ h => h) (Or.inl ⟨by kernel_rfl, fun w hC => by go_simp⟩) hS.out ?_
        simp only [Act.put, List.setIfInBounds_toArray, List.set_cons_zero, List.set_cons_succ]
        refine wpAnyH_take (i := 6) (oi := { dst := some 31, op := Go.Op.fieldAddr 53 (Go.Operand.tmp 2) 1, type := 0, pos := "law.go:60", after := #[], guard := none }) (v := (.pointer (some ⟨w.heap.size, 1, none⟩))) rfl (by kernel_rfl) (by kernel_rfl) (by kernel_rfl) (fun _ _ _ h => h) (Or.inl ⟨by kernel_rfl, fun w hC => by go_simp⟩) hS.out ?_
        simp only [Act.put, List.setIfInBounds_toArray, List.set_cons_zero, List.set_cons_succ]
        refine wpAnyH_take (i := 7) (oi := { dst := some 32, op := Go.Op.load 5 (Go.Operand.tmp 31), type := 5, pos := "law.go:60", after := #[{ on := 6, ground := Go.Ground.data }], guard := none }) (v := (.int .u8 (wh : Int))) rfl (by kernel_rfl) (by kernel_rfl) (by kernel_rfl) (fun _ _ _ h => h) (Or.inl ⟨by kernel_rfl, fun w hC => by ((obtain ⟨g0, g1, g2, g8, f0, f1, f2, f3, fn⟩ := hC); go_simp)⟩) hS.out ?_
        simp only [Act.put, List.setIfInBounds_toArray, List.set_cons_zero, List.set_cons_succ]
        refine wpAnyH_take (i := 8) (oi := { dst := some 33, op := Go.Op.convert 5 3 (Go.Operand.tmp 32), type := 3, pos := "law.go:60", after := #[{ on := 7, ground := Go.Ground.data }], guard := none }) (v := (.int .i64 (wh : Int))) rfl (by kernel_rfl) (by kernel_rfl) (by kernel_rfl) (fun _ _ _ h => h) (Or.inl ⟨by kernel_rfl, fun w hC => by go_simp⟩) hS.out ?_
        simp only [Act.put, List.setIfInBounds_toArray, List.set_cons_zero, List.set_cons_succ]
        refine wpAnyH_take (i := 9) (oi := { dst := some 34, op := Go.Op.move (Go.Operand.tmp 1), type := 49, pos := "law.go:60", after := #[], guard := none }) (v := (.slice (some ⟨rb, 0, none⟩) n cap)) rfl (by kernel_rfl) (by kernel_rfl) (by kernel_rfl) (fun _ _ _ h => h) (Or.inl ⟨by kernel_rfl, fun w hC => by go_simp⟩) hS.out ?_
        simp only [Act.put, List.setIfInBounds_toArray, List.set_cons_zero, List.set_cons_succ]
        refine wpAnyH_take (i := 10) (oi := { dst := some 35, op := Go.Op.call { callee := Go.Callee.builtin Go.Builtin.len, args := #[Go.Operand.tmp 34], argTypes := #[49] }, type := 3, pos := "law.go:60", after := #[{ on := 9, ground := Go.Ground.data }], guard := none }) (v := (.int .i64 (n : Int))) rfl (by kernel_rfl) (by kernel_rfl) (by kernel_rfl) (fun _ _ _ h => h) (Or.inl ⟨by kernel_rfl, fun w hC => by go_simp⟩) hS.out ?_
        simp only [Act.put, List.setIfInBounds_toArray, List.set_cons_zero, List.set_cons_succ]
        refine wpAnyH_take (i := 11) (oi := { dst := some 36, op := Go.Op.binOp Go.BinOp.rem 3 (Go.Operand.tmp 33) (Go.Operand.tmp 35) 3, type := 3, pos := "law.go:60", after := #[{ on := 8, ground := Go.Ground.data }, { on := 10, ground := Go.Ground.data }], guard := none }) (v := (.int .i64 (k : Int))) rfl (by kernel_rfl) (by kernel_rfl) (by kernel_rfl) (fun _ _ _ h => h) (Or.inl ⟨by kernel_rfl, fun w hC => by go_simp⟩) hS.out ?_
        simp only [Act.put, List.setIfInBounds_toArray, List.set_cons_zero, List.set_cons_succ]
        refine wpAnyH_take (i := 12) (oi := { dst := some 37, op := Go.Op.indexAddr 49 (Go.Operand.tmp 30) (Go.Operand.tmp 36), type := 0, pos := "law.go:60", after := #[{ on := 5, ground := Go.Ground.data }, { on := 11, ground := Go.Ground.data }], guard := none }) (v := (.pointer (some ⟨rb, k * 4, none⟩))) rfl (by kernel_rfl) (by kernel_rfl) (by kernel_rfl) (fun _ _ _ h => h) (Or.inl ⟨by kernel_rfl, fun w hC => by go_simp⟩) hS.out ?_
        simp only [Act.put, List.setIfInBounds_toArray, List.set_cons_zero, List.set_cons_succ]
        refine wpAnyH_take (i := 13) (oi := { dst := some 38, op := Go.Op.load 40 (Go.Operand.tmp 37), type := 40, pos := "law.go:60", after := #[{ on := 12, ground := Go.Ground.data }], guard := none }) (v := (.agg #[.int .u64 (qp : Int), .int .u32 (qo : Int), .int .u8 (qr : Int), .int .u64 (qc : Int)])) rfl (by kernel_rfl) (by kernel_rfl) (by kernel_rfl) (fun _ _ _ h => h) (Or.inl ⟨by kernel_rfl, fun w hC => by ((obtain ⟨g0, g1, g2, g8, f0, f1, f2, f3, fn⟩ := hC); go_simp)⟩) hS.out ?_
        simp only [Act.put, List.setIfInBounds_toArray, List.set_cons_zero, List.set_cons_succ]
        refine wpAnyH_take (i := 14) (oi := { dst := some 39, op := Go.Op.fieldAddr 53 (Go.Operand.tmp 2) 5, type := 0, pos := "law.go:60", after := #[], guard := none }) (v := (.pointer (some ⟨w.heap.size, 8, none⟩))) rfl (by kernel_rfl) (by kernel_rfl) (by kernel_rfl) (fun _ _ _ h => h) (Or.inl ⟨by kernel_rfl, fun w hC => by go_simp⟩) hS.out ?_
        simp only [Act.put, List.setIfInBounds_toArray, List.set_cons_zero, List.set_cons_succ]
        refine wpAnyH_take (i := 15) (oi := { dst := some 40, op := Go.Op.load 51 (Go.Operand.tmp 39), type := 51, pos := "law.go:60", after := #[{ on := 14, ground := Go.Ground.data }], guard := none }) (v := (.int .u16 (a : Int))) rfl (by kernel_rfl) (by kernel_rfl) (by kernel_rfl) (fun _ _ _ h => h) (Or.inl ⟨by kernel_rfl, fun w hC => by ((obtain ⟨g0, g1, g2, g8, f0, f1, f2, f3, fn⟩ := hC); go_simp)⟩) hS.out ?_
        simp only [Act.put, List.setIfInBounds_toArray, List.set_cons_zero, List.set_cons_succ]
        refine wpAnyH_take (i := 16) (oi := { dst := some 41, op := Go.Op.convert 51 32 (Go.Operand.tmp 40), type := 32, pos := "law.go:60", after := #[{ on := 15, ground := Go.Ground.data }], guard := none }) (v := (.int .u64 (a : Int))) rfl (by kernel_rfl) (by kernel_rfl) (by kernel_rfl) (fun _ _ _ h => h) (Or.inl ⟨by kernel_rfl, fun w hC => by go_simp⟩) hS.out ?_
        simp only [Act.put, List.setIfInBounds_toArray, List.set_cons_zero, List.set_cons_succ]
        refine wpAnyH_take (i := 17) (oi := { dst := some 42, op := Go.Op.binOp Go.BinOp.rem 32 (Go.Operand.tmp 41) (Go.Operand.const (Go.Value.int Go.IntKind.u64 300)) 32, type := 32, pos := "law.go:60", after := #[{ on := 16, ground := Go.Ground.data }], guard := none }) (v := (.int .u64 (a3 : Int))) rfl (by kernel_rfl) (by kernel_rfl) (by kernel_rfl) (fun _ _ _ h => h) (Or.inl ⟨by kernel_rfl, fun w hC => by go_simp⟩) hS.out ?_
        simp only [Act.put, List.setIfInBounds_toArray, List.set_cons_zero, List.set_cons_succ]
        refine wpAnyH_take (i := 18) (oi := { dst := some 43, op := Go.Op.move (Go.Operand.tmp 5), type := 71, pos := "law.go:60", after := #[], guard := none }) (v := (.slice (some ⟨gn, 0, none⟩) 8 8)) rfl (by kernel_rfl) (by kernel_rfl) (by kernel_rfl) (fun _ _ _ h => h) (Or.inl ⟨by kernel_rfl, fun w hC => by go_simp⟩) hS.out ?_
        simp only [Act.put, List.setIfInBounds_toArray, List.set_cons_zero, List.set_cons_succ]
        refine wpAnyH_take (i := 19) (oi := { dst := some 44, op := Go.Op.fieldAddr 53 (Go.Operand.tmp 2) 2, type := 0, pos := "law.go:60", after := #[], guard := none }) (v := (.pointer (some ⟨w.heap.size, 2, none⟩))) rfl (by kernel_rfl) (by kernel_rfl) (by kernel_rfl) (fun _ _ _ h => h) (Or.inl ⟨by kernel_rfl, fun w hC => by go_simp⟩) hS.out ?_
        simp only [Act.put, List.setIfInBounds_toArray, List.set_cons_zero, List.set_cons_succ]
        refine wpAnyH_take (i := 20) (oi := { dst := some 45, op := Go.Op.load 5 (Go.Operand.tmp 44), type := 5, pos := "law.go:60", after := #[{ on := 19, ground := Go.Ground.data }], guard := none }) (v := (.int .u8 (nx : Int))) rfl (by kernel_rfl) (by kernel_rfl) (by kernel_rfl) (fun _ _ _ h => h) (Or.inl ⟨by kernel_rfl, fun w hC => by ((obtain ⟨g0, g1, g2, g8, f0, f1, f2, f3, fn⟩ := hC); go_simp)⟩) hS.out ?_
        simp only [Act.put, List.setIfInBounds_toArray, List.set_cons_zero, List.set_cons_succ]
        refine wpAnyH_take (i := 21) (oi := { dst := some 46, op := Go.Op.binOp Go.BinOp.rem 5 (Go.Operand.tmp 45) (Go.Operand.const (Go.Value.int Go.IntKind.u8 8)) 5, type := 5, pos := "law.go:60", after := #[{ on := 20, ground := Go.Ground.data }], guard := none }) (v := (.int .u8 (k8 : Int))) rfl (by kernel_rfl) (by kernel_rfl) (by kernel_rfl) (fun _ _ _ h => h) (Or.inl ⟨by kernel_rfl, fun w hC => by go_simp⟩) hS.out ?_
        simp only [Act.put, List.setIfInBounds_toArray, List.set_cons_zero, List.set_cons_succ]
        refine wpAnyH_take (i := 22) (oi := { dst := some 47, op := Go.Op.indexAddr 71 (Go.Operand.tmp 43) (Go.Operand.tmp 46), type := 0, pos := "law.go:60", after := #[{ on := 18, ground := Go.Ground.data }, { on := 21, ground := Go.Ground.data }], guard := none }) (v := (.pointer (some ⟨gn, k8, none⟩))) rfl (by kernel_rfl) (by kernel_rfl) (by kernel_rfl) (fun _ _ _ h => h) (Or.inl ⟨by kernel_rfl, fun w hC => by go_simp⟩) hS.out ?_
        simp only [Act.put, List.setIfInBounds_toArray, List.set_cons_zero, List.set_cons_succ]
        refine wpAnyH_take (i := 23) (oi := { dst := some 48, op := Go.Op.load 9 (Go.Operand.tmp 47), type := 9, pos := "law.go:60", after := #[{ on := 22, ground := Go.Ground.data }], guard := none }) (v := (.string ss)) rfl (by kernel_rfl) (by kernel_rfl) (by kernel_rfl) (fun _ _ _ h => h) (Or.inl ⟨by kernel_rfl, fun w hC => by ((obtain ⟨g0, g1, g2, g8, f0, f1, f2, f3, fn⟩ := hC); go_simp)⟩) hS.out ?_
        simp only [Act.put, List.setIfInBounds_toArray, List.set_cons_zero, List.set_cons_succ]
        refine wpAnyH_take (i := 24) (oi := { dst := some 49, op := Go.Op.move (Go.Operand.tmp 7), type := 23, pos := "law.go:60", after := #[], guard := none }) (v := (.slice bo bn bc)) rfl (by kernel_rfl) (by kernel_rfl) (by kernel_rfl) (fun _ _ _ h => h) (Or.inl ⟨by kernel_rfl, fun w hC => by go_simp⟩) hS.out ?_
        simp only [Act.put, List.setIfInBounds_toArray, List.set_cons_zero, List.set_cons_succ]
        refine wpAnyH_ready (rs := [25, 26]) (by kernel_rfl) (by simp) ?_
        refine AllReadyH.cons (o := { dst := some 50, op := Go.Op.call { callee := Go.Callee.value (Go.Operand.func 22), args := #[Go.Operand.tmp 29, Go.Operand.tmp 38, Go.Operand.tmp 42, Go.Operand.tmp 48, Go.Operand.tmp 49], argTypes := #[51, 40, 32, 9, 23] }, type := 55, pos := "law.go:60", after := #[{ on := 4, ground := Go.Ground.data }, { on := 13, ground := Go.Ground.data }, { on := 17, ground := Go.Ground.data }, { on := 23, ground := Go.Ground.data }, { on := 24, ground := Go.Ground.data }], guard := none }) rfl (fun KK hKK => ?_) (AllReadyH.cons (o := { dst := some 8, op := Go.Op.alloc 55, type := 0, pos := "law.go:60", after := #[], guard := none }) rfl (fun KK hKK => ?_) AllReadyH.nil)
        · go_simp
          refine (HRQ.out _ bb).mono ?_; rintro e W3 ⟨qo2, qn, qcc, ql, rfl, B3, N3, T3, hn3, be3⟩
          have bb3 : Below X7.heap.size X7 W3 := below_one bb be3
          have hS : Hid (W3.cell? ⟨w.heap.size, 0, none⟩ = some (.int .u8 (o : Int)) ∧ W3.cell? ⟨w.heap.size, 1, none⟩ = some (.int .u8 (wh : Int)) ∧ W3.cell? ⟨w.heap.size, 2, none⟩ = some (.int .u8 (nx : Int)) ∧ W3.cell? ⟨w.heap.size, 8, none⟩ = some (.int .u16 (a : Int)) ∧ W3.cell? ⟨rb, k * 4, none⟩ = some (.int .u64 (qp : Int)) ∧ W3.cell? ⟨rb, k * 4 + 1, none⟩ = some (.int .u32 (qo : Int)) ∧ W3.cell? ⟨rb, k * 4 + 2, none⟩ = some (.int .u8 (qr : Int)) ∧ W3.cell? ⟨rb, k * 4 + 3, none⟩ = some (.int .u64 (qc : Int)) ∧ W3.cell? ⟨gn, k8, none⟩ = some (.string ss)) := HN7.out _ bb3
          refine hKK.out _ _ hS.out (fun _ => ?_)
          clear hKK
          refine wpAnyH_ready (rs := [26]) (by kernel_rfl) (by simp) ?_
          refine AllReadyH.cons (o := { dst := some 8, op := Go.Op.alloc 55, type := 0, pos := "law.go:60", after := #[], guard := none }) rfl (fun KK hKK => ?_) AllReadyH.nil
          go_simp
          obtain ⟨Y, hY⟩ : ∃ Y, W3.alloc (.cells #[.int .u64 0, .int .u64 0, .int .u32 0, .int .u16 0, .int .u16 0, .int .u64 0, .int .u32 0, .int .u8 0, .int .u64 0, .int .u64 0, .slice none 0 0] 55) = Y := ⟨_, rfl⟩
          try rw [hY]
          have bY : Below W3.heap.size W3 Y := hY ▸ below_alloc _ _
          have bb4 := below_one bb3 bY
          have hm0 : MB Y W3.heap.size Msg.zero (.slice none 0 0) := hY ▸ mbz_new W3
          have hb3 := B3.carry bY
          have ht3 := T3.grow bY
          have hna : ∀ ad, qo2 = some ad → ad.block = W3.heap.size → False := fun ad e h => by
            obtain ⟨cs, hc⟩ := T3 ad e
            have := lt_of_heap hc
            omega
          have hge : X7.heap.size ≤ W3.heap.size := bb3.size
          clear B3 T3 N3 bY
          have hS : Hid (Y.cell? ⟨w.heap.size, 0, none⟩ = some (.int .u8 (o : Int)) ∧ Y.cell? ⟨w.heap.size, 1, none⟩ = some (.int .u8 (wh : Int)) ∧ Y.cell? ⟨w.heap.size, 2, none⟩ = some (.int .u8 (nx : Int)) ∧ Y.cell? ⟨w.heap.size, 8, none⟩ = some (.int .u16 (a : Int)) ∧ Y.cell? ⟨rb, k * 4, none⟩ = some (.int .u64 (qp : Int)) ∧ Y.cell? ⟨rb, k * 4 + 1, none⟩ = some (.int .u32 (qo : Int)) ∧ Y.cell? ⟨rb, k * 4 + 2, none⟩ = some (.int .u8 (qr : Int)) ∧ Y.cell? ⟨rb, k * 4 + 3, none⟩ = some (.int .u64 (qc : Int)) ∧ Y.cell? ⟨gn, k8, none⟩ = some (.string ss)) := HN7.out _ bb4
          refine hKK.out _ _ hS.out (fun _ => ?_)
          clear hKK
          have HL := hide (hm0.lay (m := M) (D := .slice qo2 qn qcc))
          have f5 := foot_lay11 Y W3.heap.size M (.slice qo2 qn qcc)
          have HBL := hide (Bts.foot hb3 f5 (fun ad e _ (h : ad.block = W3.heap.size) => hna ad e h))
          have HTL := hide (ht3.foot f5 (fun ad e (h : ad.block = W3.heap.size) => hna ad e h))
          have HBW := hide (bb4.trans (f5.below bb4.size (fun j (e : j = _) => by have := hge; omega)))
          obtain ⟨V, hV⟩ : ∃ V, lay11 Y W3.heap.size M (.slice qo2 qn qcc) = V := ⟨_, rfl⟩
          rw [hV] at HL HBL HTL HBW
          unfold lay11 at hV
          obtain ⟨z0, z1, z2, z3, z4, z5, z6, z7, z8, z9, z10⟩ := hm0.all
          simp only [Msg.zero, show (((0 : Nat)) : Int) = 0 from rfl] at z0 z1 z2 z3 z4 z5 z6 z7 z8 z9 z10
          have x0 := hm0.z 0
          have x1 := hm0.z 1
          have x2 := hm0.z 2
          have x3 := hm0.z 3
          have x4 := hm0.z 4
          have x5 := hm0.z 5
          have x6 := hm0.z 6
          have x7 := hm0.z 7
          have x8 := hm0.z 8
          have x9 := hm0.z 9
          have x10 := hm0.z 10
          have HN3 := hide hn3
          have HGE := hide hge
          clear f5 hm0 hb3 ht3 hna hn3 hge
          refine wpAnyH_ready (rs := [27]) (by kernel_rfl) (by simp) ?_
          refine AllReadyH.cons (o := { dst := none, op := Go.Op.store 55 (Go.Operand.tmp 8) (Go.Operand.tmp 50), type := 0, pos := "law.go:60", after := #[{ on := 26, ground := Go.Ground.data }, { on := 25, ground := Go.Ground.data }, { on := 25, ground := Go.Ground.chain }, { on := 0, ground := Go.Ground.phase }, { on := 1, ground := Go.Ground.phase }, { on := 2, ground := Go.Ground.phase }, { on := 3, ground := Go.Ground.phase }, { on := 4, ground := Go.Ground.phase }, { on := 5, ground := Go.Ground.phase }, { on := 6, ground := Go.Ground.phase }, { on := 7, ground := Go.Ground.phase }, { on := 8, ground := Go.Ground.phase }, { on := 9, ground := Go.Ground.phase }, { on := 10, ground := Go.Ground.phase }, { on := 11, ground := Go.Ground.phase }, { on := 12, ground := Go.Ground.phase }, { on := 13, ground := Go.Ground.phase }, { on := 14, ground := Go.Ground.phase }, { on := 15, ground := Go.Ground.phase }, { on := 16, ground := Go.Ground.phase }, { on := 17, ground := Go.Ground.phase }, { on := 18, ground := Go.Ground.phase }, { on := 19, ground := Go.Ground.phase }, { on := 20, ground := Go.Ground.phase }, { on := 21, ground := Go.Ground.phase }, { on := 22, ground := Go.Ground.phase }, { on := 23, ground := Go.Ground.phase }, { on := 24, ground := Go.Ground.phase }, { on := 25, ground := Go.Ground.phase }, { on := 26, ground := Go.Ground.phase }], guard := none }) rfl (fun KK hKK => ?_) AllReadyH.nil
          go_simp
          have hS : Hid (V.cell? ⟨w.heap.size, 0, none⟩ = some (.int .u8 (o : Int)) ∧ V.cell? ⟨w.heap.size, 1, none⟩ = some (.int .u8 (wh : Int)) ∧ V.cell? ⟨w.heap.size, 2, none⟩ = some (.int .u8 (nx : Int)) ∧ V.cell? ⟨w.heap.size, 8, none⟩ = some (.int .u16 (a : Int)) ∧ V.cell? ⟨rb, k * 4, none⟩ = some (.int .u64 (qp : Int)) ∧ V.cell? ⟨rb, k * 4 + 1, none⟩ = some (.int .u32 (qo : Int)) ∧ V.cell? ⟨rb, k * 4 + 2, none⟩ = some (.int .u8 (qr : Int)) ∧ V.cell? ⟨rb, k * 4 + 3, none⟩ = some (.int .u64 (qc : Int)) ∧ V.cell? ⟨gn, k8, none⟩ = some (.string ss)) := HN7.out _ HBW.out
          refine hKK.out _ _ hS.out (fun _ => ?_)
          clear hKK
          refine wpAnyH_done (by kernel_rfl) ?_ _
          go_wp2_with fail
          go_meet
          exact ⟨_, _, _, _, _, rfl, HL.out, HBL.out, HN3.out, HTL.out, HBW.out, HGE.out⟩
        · go_simp
          obtain ⟨Y, hY⟩ : ∃ Y, (X7.alloc (.cells #[.int .u64 0, .int .u64 0, .int .u32 0, .int .u16 0, .int .u16 0, .int .u64 0, .int .u32 0, .int .u8 0, .int .u64 0, .int .u64 0, .slice none 0 0] 55)).drew = Y := ⟨_, rfl⟩
          try rw [hY]
          have bY : Below X7.heap.size X7 Y := hY ▸ (below_alloc X7 _).drew
          have hmy : MB Y X7.heap.size Msg.zero (.slice none 0 0) := hY ▸ MB.dr (mbz_new X7)
          have hys : X7.heap.size < Y.heap.size := lt_of_heap hmy
          have hS : Hid (Y.cell? ⟨w.heap.size, 0, none⟩ = some (.int .u8 (o : Int)) ∧ Y.cell? ⟨w.heap.size, 1, none⟩ = some (.int .u8 (wh : Int)) ∧ Y.cell? ⟨w.heap.size, 2, none⟩ = some (.int .u8 (nx : Int)) ∧ Y.cell? ⟨w.heap.size, 8, none⟩ = some (.int .u16 (a : Int)) ∧ Y.cell? ⟨rb, k * 4, none⟩ = some (.int .u64 (qp : Int)) ∧ Y.cell? ⟨rb, k * 4 + 1, none⟩ = some (.int .u32 (qo : Int)) ∧ Y.cell? ⟨rb, k * 4 + 2, none⟩ = some (.int .u8 (qr : Int)) ∧ Y.cell? ⟨rb, k * 4 + 3, none⟩ = some (.int .u64 (qc : Int)) ∧ Y.cell? ⟨gn, k8, none⟩ = some (.string ss)) := HN7.out _ bY
          refine hKK.out _ _ hS.out (fun _ => ?_)
          clear hKK
          refine wpAnyH_ready (rs := [25]) (by kernel_rfl) (by simp) ?_
          refine AllReadyH.cons (o := { dst := some 50, op := Go.Op.call { callee := Go.Callee.value (Go.Operand.func 22), args := #[Go.Operand.tmp 29, Go.Operand.tmp 38, Go.Operand.tmp 42, Go.Operand.tmp 48, Go.Operand.tmp 49], argTypes := #[51, 40, 32, 9, 23] }, type := 55, pos := "law.go:60", after := #[{ on := 4, ground := Go.Ground.data }, { on := 13, ground := Go.Ground.data }, { on := 17, ground := Go.Ground.data }, { on := 23, ground := Go.Ground.data }, { on := 24, ground := Go.Ground.data }], guard := none }) rfl (fun KK hKK => ?_) AllReadyH.nil
          go_simp
          refine (HRQ.out _ bY).mono ?_; rintro e W3 ⟨qo2, qn, qcc, ql, rfl, B3, N3, T3, hn3, be3⟩
          have bb3 : Below X7.heap.size X7 W3 := below_one bY be3
          have hm0 := MB.grow hmy be3
          have hb3 := B3
          have ht3 := T3
          have hna : ∀ ad, qo2 = some ad → ad.block = X7.heap.size → False := fun ad e h => by
            have := N3 ad e
            omega
          have hge : X7.heap.size ≤ X7.heap.size := Nat.le_refl _
          clear B3 T3 N3
          have hS : Hid (W3.cell? ⟨w.heap.size, 0, none⟩ = some (.int .u8 (o : Int)) ∧ W3.cell? ⟨w.heap.size, 1, none⟩ = some (.int .u8 (wh : Int)) ∧ W3.cell? ⟨w.heap.size, 2, none⟩ = some (.int .u8 (nx : Int)) ∧ W3.cell? ⟨w.heap.size, 8, none⟩ = some (.int .u16 (a : Int)) ∧ W3.cell? ⟨rb, k * 4, none⟩ = some (.int .u64 (qp : Int)) ∧ W3.cell? ⟨rb, k * 4 + 1, none⟩ = some (.int .u32 (qo : Int)) ∧ W3.cell? ⟨rb, k * 4 + 2, none⟩ = some (.int .u8 (qr : Int)) ∧ W3.cell? ⟨rb, k * 4 + 3, none⟩ = some (.int .u64 (qc : Int)) ∧ W3.cell? ⟨gn, k8, none⟩ = some (.string ss)) := HN7.out _ bb3
          refine hKK.out _ _ hS.out (fun _ => ?_)
          clear hKK
          have HL := hide (hm0.lay (m := M) (D := .slice qo2 qn qcc))
          have f5 := foot_lay11 W3 X7.heap.size M (.slice qo2 qn qcc)
          have HBL := hide (Bts.foot hb3 f5 (fun ad e _ (h : ad.block = X7.heap.size) => hna ad e h))
          have HTL := hide (ht3.foot f5 (fun ad e (h : ad.block = X7.heap.size) => hna ad e h))
          have HBW := hide (bb3.trans (f5.below bb3.size (fun j (e : j = _) => by have := hge; omega)))
          obtain ⟨V, hV⟩ : ∃ V, lay11 W3 X7.heap.size M (.slice qo2 qn qcc) = V := ⟨_, rfl⟩
          rw [hV] at HL HBL HTL HBW
          unfold lay11 at hV
          obtain ⟨z0, z1, z2, z3, z4, z5, z6, z7, z8, z9, z10⟩ := hm0.all
          simp only [Msg.zero, show (((0 : Nat)) : Int) = 0 from rfl] at z0 z1 z2 z3 z4 z5 z6 z7 z8 z9 z10
          have x0 := hm0.z 0
          have x1 := hm0.z 1
          have x2 := hm0.z 2
          have x3 := hm0.z 3
          have x4 := hm0.z 4
          have x5 := hm0.z 5
          have x6 := hm0.z 6
          have x7 := hm0.z 7
          have x8 := hm0.z 8
          have x9 := hm0.z 9
          have x10 := hm0.z 10
          have HN3 := hide hn3
          have HGE := hide hge
          clear f5 hm0 hb3 ht3 hna hn3 hge
          refine wpAnyH_ready (rs := [27]) (by kernel_rfl) (by simp) ?_
          refine AllReadyH.cons (o := { dst := none, op := Go.Op.store 55 (Go.Operand.tmp 8) (Go.Operand.tmp 50), type := 0, pos := "law.go:60", after := #[{ on := 26, ground := Go.Ground.data }, { on := 25, ground := Go.Ground.data }, { on := 25, ground := Go.Ground.chain }, { on := 0, ground := Go.Ground.phase }, { on := 1, ground := Go.Ground.phase }, { on := 2, ground := Go.Ground.phase }, { on := 3, ground := Go.Ground.phase }, { on := 4, ground := Go.Ground.phase }, { on := 5, ground := Go.Ground.phase }, { on := 6, ground := Go.Ground.phase }, { on := 7, ground := Go.Ground.phase }, { on := 8, ground := Go.Ground.phase }, { on := 9, ground := Go.Ground.phase }, { on := 10, ground := Go.Ground.phase }, { on := 11, ground := Go.Ground.phase }, { on := 12, ground := Go.Ground.phase }, { on := 13, ground := Go.Ground.phase }, { on := 14, ground := Go.Ground.phase }, { on := 15, ground := Go.Ground.phase }, { on := 16, ground := Go.Ground.phase }, { on := 17, ground := Go.Ground.phase }, { on := 18, ground := Go.Ground.phase }, { on := 19, ground := Go.Ground.phase }, { on := 20, ground := Go.Ground.phase }, { on := 21, ground := Go.Ground.phase }, { on := 22, ground := Go.Ground.phase }, { on := 23, ground := Go.Ground.phase }, { on := 24, ground := Go.Ground.phase }, { on := 25, ground := Go.Ground.phase }, { on := 26, ground := Go.Ground.phase }], guard := none }) rfl (fun KK hKK => ?_) AllReadyH.nil
          go_simp
          have hS : Hid (V.cell? ⟨w.heap.size, 0, none⟩ = some (.int .u8 (o : Int)) ∧ V.cell? ⟨w.heap.size, 1, none⟩ = some (.int .u8 (wh : Int)) ∧ V.cell? ⟨w.heap.size, 2, none⟩ = some (.int .u8 (nx : Int)) ∧ V.cell? ⟨w.heap.size, 8, none⟩ = some (.int .u16 (a : Int)) ∧ V.cell? ⟨rb, k * 4, none⟩ = some (.int .u64 (qp : Int)) ∧ V.cell? ⟨rb, k * 4 + 1, none⟩ = some (.int .u32 (qo : Int)) ∧ V.cell? ⟨rb, k * 4 + 2, none⟩ = some (.int .u8 (qr : Int)) ∧ V.cell? ⟨rb, k * 4 + 3, none⟩ = some (.int .u64 (qc : Int)) ∧ V.cell? ⟨gn, k8, none⟩ = some (.string ss)) := HN7.out _ HBW.out
          refine hKK.out _ _ hS.out (fun _ => ?_)
          clear hKK
          refine wpAnyH_done (by kernel_rfl) ?_ _
          go_wp2_with fail
          go_meet
          exact ⟨_, _, _, _, _, rfl, HL.out, HBL.out, HN3.out, HTL.out, HBW.out, HGE.out⟩
      case rest =>
        obtain ⟨X8, rfl⟩ : ∃ x, x = wc := ⟨wc, rfl⟩
        obtain ⟨gm, ko, kn, kc, kl, rfl, mb8, bt8, kn8, ty8, b8, hgm⟩ := hcut
        have HMB8 := hide mb8
        have HBT8 := hide bt8
        have HKN := hide kn8
        have HTY := hide ty8
        have b78 := HB7.out.trans (b8.mono HB7.out.size)
        have HB8 := hide b78
        have HGM : Hid (X.heap.size ≤ gm) := by show _ ≤ _; have := HB7.out.size; omega
        obtain ⟨g0, g1, g2, g3, g4, g5, g6, g7, g8, g9⟩ := (HAX.out.grow b78).all
        simp only at g0 g1 g2 g3 g4 g5 g6 g7 g8 g9
        have HD8 := hide (HDD.out.carry (HBX.out.trans (b78.mono HBX.out.size)))
        have HDN8 := hide (Dat.grow HDN.out (HBX.out.trans (b78.mono HBX.out.size)))
        clear mb8 bt8 kn8 ty8 b8 b78 hgm
        go_upto_region 9 with fail
        go_cut [61] from 51 to 61 (fun vv wx => ∃ bb : Bool, vv = .bool bb ∧ wx = X8)
        case first =>
          by_cases h4 : o7 = 4
          · have h4b : ((o7 : Int) == 4) = true := by rw [h4]; rfl
            by_cases h7 : m8 = 7
            · have h7b : ((m8 : Int) == 7) = true := by rw [h7]; rfl
              go_wp2_with fail
              go_meet
              exact ⟨_, rfl, rfl⟩
            · have h7b : ((m8 : Int) == 7) = false := by rw [beq_eq_false_iff_ne]; omega
              go_wp2_with fail
              go_meet
              exact ⟨_, rfl, rfl⟩
          · have h4b : ((o7 : Int) == 4) = false := by rw [beq_eq_false_iff_ne]; omega
            go_wp2_with fail
            go_meet
            exact ⟨_, rfl, rfl⟩
        case rest =>
          obtain ⟨bb, rfl, hwx⟩ := hcut
          have hwx2 := hwx.symm
          subst hwx2
          clear hwx
          go_upto_if 61 with fail
          go_cut [] from 62 to 64 (fun wx => ∃ co n cc l', MB wx gm M (.slice co n cc) ∧ Bts wx co n cc l' ∧ n ≤ 140737488355328 ∧ Dat N wx n co ∧ Below X.heap.size X wx)
          case first =>
            have f10 := foot_one X8 gm 10 (.slice so sn sc)
            have HB10 : Hid (Below X.heap.size X (X8.setCell ⟨gm, 10, none⟩ (.slice so sn sc))) := HB8.out.trans (f10.below HB8.out.size (fun j (e : j = gm) => by have := HGM.out; omega))
            have y10 := HMB8.out.all.2.2.2.2.2.2.2.2.2.2
            have x10 := HMB8.out.z 10
            have HD10 : Hid (Bts (X8.setCell ⟨gm, 10, none⟩ (.slice so sn sc)) so sn sc l) := HDD.out.carry (HBX.out.trans (HB10.out.mono HBX.out.size))
            have HDN10 : Hid (Dat N (X8.setCell ⟨gm, 10, none⟩ (.slice so sn sc)) sn so) := Dat.grow HDN.out (HBX.out.trans (HB10.out.mono HBX.out.size))
            clear f10
            cases bb with
            | true =>
              go_wp2_with fail
              go_meet
              exact ⟨so, sn, sc, l, HMB8.out.put10 _, HD10.out, by have := HSN.out; omega, HDN10.out, HB10.out⟩
            | false =>
              go_wp2_with fail
              go_meet
              exact ⟨ko, kn, kc, kl, HMB8.out, HBT8.out, HKN.out, dat_typ HTY.out, HB8.out⟩
          case rest =>
            obtain ⟨X9, rfl⟩ : ∃ x, x = wc := ⟨wc, rfl⟩
            obtain ⟨co9, n9, cc9, l9, mb9, bt9, hn9, dt9, b9⟩ := hcut
            have HMB9 := hide mb9
            have HBT9 := hide bt9
            have HN9 := hide hn9
            have HDT9 := hide dt9
            have HB9 := hide b9
            clear g0 g1 g2 g3 g4 g5 g6 g7 g8 g9
            obtain ⟨g0, g1, g2, g3, g4, g5, g6, g7, g8, g9⟩ := (HAX.out.grow b9).all
            simp only at g0 g1 g2 g3 g4 g5 g6 g7 g8 g9
            clear mb9 bt9 hn9 dt9 b9
            rw [← HMM.out] at HMB9
            go_upto_if 68 with fail
            go_cut [] from 68 to 69 (fun wx => ∃ op : Nat, (op = 5 ∨ 100 ≤ op) ∧ op ≤ 106 ∧ MB wx gm ⟨0, 0, 0, op, 0, qp, qo, qr, qc, a3⟩ (.slice co9 n9 cc9) ∧ Bts wx co9 n9 cc9 l9 ∧ Dat N wx n9 co9 ∧ Below X.heap.size X wx)
            case first =>
              have f3 := foot_one X9 gm 3 (.int .u16 5)
              have y3 := HMB9.out.all.2.2.2.1
              have x3 := HMB9.out.z 3
              by_cases h30 : o8 = 30
              · have h30b : ((o8 : Int) == 30) = true := by rw [h30]; rfl
                clear h30
                go_wp2_with fail
                go_meet
                have hne := dat_ne HDT9.out HMB9.out (by have := HNW.out; have := HGM.out; have := HBX.out.size; omega)
                exact ⟨5, .inl rfl, by omega, HMB9.out.put3 5, bts_dat HBT9.out f3 (fun ad e hp (h : ad.block = gm) => hne ad e hp h), dat_foot HDT9.out f3 (fun ad e hp (h : ad.block = gm) => hne ad e hp h), HB9.out.trans (f3.below HB9.out.size (fun j (e : j = gm) => by have := HGM.out; omega))⟩
              · have h30b : ((o8 : Int) == 30) = false := by rw [beq_eq_false_iff_ne]; omega
                go_wp2_with fail
                go_meet
                exact ⟨po, .inr HPO.out.1, HPO.out.2, HMB9.out, HBT9.out, HDT9.out, HB9.out⟩
            case rest =>
              obtain ⟨V, rfl⟩ : ∃ x, x = wc := ⟨wc, rfl⟩
              obtain ⟨op, hop, hop2, mbv, btv, dtv, bv⟩ := hcut
              have HOP := hide hop
              have HOP2 := hide hop2
              have HMV := hide mbv
              have HBV := hide btv
              have HDV := hide dtv
              have HVB := hide bv
              have HZV := hide (HZX.out.grow bv)
              clear hop hop2 mbv btv dtv bv g0 g1 g2 g3 g4 g5 g6 g7 g8 g9
              obtain ⟨M2, hM2⟩ : ∃ m : Msg, (⟨0, 0, 0, op, 0, qp, qo, qr, qc, a3⟩ : Msg) = m := ⟨_, rfl⟩
              have HM2 := hide hM2
              rw [hM2] at HMV
              clear hM2
              obtain ⟨k0, k1, k2, k3, k4, k5, k6, k7, k8', k9, k10⟩ := HMV.out.all
              have HZL := hide (HZV.out.lay (m := M2) (D := .slice co9 n9 cc9))
              have f7 := foot_lay11 V gz M2 (.slice co9 n9 cc9)
              have HNE := hide (dat_ne HDV.out HZV.out (by have := HNW.out; have := HGZ.out.1; omega))
              have HB7' := hide (bts_dat HBV.out f7 (fun ad e hp (h : ad.block = gz) => HNE.out ad e hp h))
              have HD7' : Hid (Dat N (lay11 V gz M2 (.slice co9 n9 cc9)) n9 co9) := fun hp ad e => by
                rcases HDV.out hp ad e with h | ⟨cs, z, h⟩
                · exact .inl h
                · exact .inr ⟨cs, z, (f7.block _ (lt_of_heap h) (fun (e2 : ad.block = gz) => HNE.out ad e hp e2)).trans h⟩
              have HBW := hide (HBX.out.trans ((HVB.out.mono HBX.out.size).trans (f7.below (Nat.le_trans HBX.out.size HVB.out.size) (fun j (e : j = gz) => by have := HGZ.out.1; omega))))
              obtain ⟨wz, hwz⟩ : ∃ w7, lay11 V gz M2 (.slice co9 n9 cc9) = w7 := ⟨_, rfl⟩
              rw [hwz] at HZL HB7' HD7' HBW
              unfold lay11 at hwz
              clear f7
              obtain ⟨v0, v1, v2, v3, v4, v5, v6, v7, v8, v9, v10⟩ := HZL.out.all
              obtain ⟨z0, z1, z2, z3, z4, z5, z6, z7, z8, z9, z10⟩ := HZV.out.all
              have x0 := HZV.out.z 0
              have x1 := HZV.out.z 1
              have x2 := HZV.out.z 2
              have x3 := HZV.out.z 3
              have x4 := HZV.out.z 4
              have x5 := HZV.out.z 5
              have x6 := HZV.out.z 6
              have x7 := HZV.out.z 7
              have x8 := HZV.out.z 8
              have x9 := HZV.out.z 9
              have x10 := HZV.out.z 10
              go_wp2
              refine bodyPost_ret (by simp [results, Tryz.results16, go_sem, v0, v1, v2, v3, v4, v5, v6, v7, v8, v9, v10]; rfl) rfl ?_
              exact ⟨op, a3, co9, n9, cc9, l9, by rw [← HM2.out]; rfl, HOP.out, HOP2.out, HA3.out, HB7'.out, HN9.out, HD7'.out, HBW.out⟩
end
end Go.Proofs.YtlmnnjibggdboaaGreatDoor
