/-
  The statements' own step, of one kind of deed: a contract.
-/
import Derived.Test.YtgcmompldcnhlaaDoorIJb
import Derived.Deep.CutBlock
import Derived.Deep.RegionHeldLaw
namespace Go.Proofs.YtgcmompldcnhlaaDoor
open Go.RowKit
variable {w0 w w1 w2 w' : World} {g mg p N : Nat} {ws : List Nat} {t : Nat} {es : List Ent} {T : Nat → Ob} {v : Value} {L : List Cp}
set_option maxRecDepth 20000 in
set_option maxHeartbeats 6400000 in
theorem step_info (o wh ch wi : Nat) (w : World) (S : St N w0 w g mg p ws t es T v L) (hN : N < 2000000) (ho : o ≤ 255) (hwh : wh ≤ 255) (hch : ch ≤ 255) (hwi : wi ≤ 255) (hd : o % 9 = 7) :
    Calls Tryd.prog 12 #[.pointer (some ⟨mg, 0, none⟩), .pointer (some ⟨g, 0, none⟩), .agg #[.int .u8 (o : Int), .int .u8 (wh : Int), .int .u8 (ch : Int), .int .u8 (wi : Int)], v] w fun e w' => StepEnd N w0 g mg p ws e w' := by
  obtain ⟨ao, cap, rfl, hcap, hcm0⟩ := owns_form S.row
  have hcm : cap ≤ 9223372036854775807 := hcm0
  obtain ⟨n, hn⟩ : ∃ n, L.length = n := ⟨_, rfl⟩
  have HNL := hide hn
  have hrow := S.row
  rw [hn] at hcap
  have HSS := hide S.ss
  have HGL := hide S.gl
  have HPW := hide S.pw
  have HNN := hide hN
  have HWI := hide hwi
  have HCH := hide hch
  have hb0 := S.bo.bel.size
  obtain ⟨V1, hV1⟩ : ∃ V, w.alloc (.cells #[.int .u8 (o : Int), .int .u8 (wh : Int), .int .u8 (ch : Int), .int .u8 (wi : Int)] 40) = V := ⟨_, rfl⟩
  have bV1 : Below w.heap.size w V1 := hV1 ▸ below_alloc _ _
  have hA1 : ABox V1 w.heap.size o wh ch wi := hV1 ▸ heap_alloc_new _ _
  have hs1 : V1.heap.size = w.heap.size + 1 := by rw [← hV1]; simp
  obtain ⟨V2, hV2⟩ : ∃ V, V1.alloc (.cells #[.int .u64 0, .int .u32 0, .int .u8 0, .int .u64 0] 49) = V := ⟨_, rfl⟩
  have bV2 : Below V1.heap.size V1 V2 := hV2 ▸ below_alloc _ _
  obtain ⟨ab, hab⟩ : ∃ b, w.heap.size = b := ⟨_, rfl⟩
  obtain ⟨cb, hcb⟩ : ∃ b, V1.heap.size = b := ⟨_, rfl⟩
  have hHd : Hd w0 V2 g mg p ws t es T t es T (.slice ao L.length cap) L ab cb o wh ch wi Cp.zero := by
    refine ⟨(S.bo.grow bV1).grow bV2, owns_grow (owns_grow S.row bV1) bV2, by rw [← hab]; exact hA1.grow bV2, by rw [← hcb, ← hV2]; exact CBox.new V1 0 0 0 0, fun e => ?_⟩
    obtain ⟨cur, h1, _⟩ := owns_block S.row e
    have := lt_of_heap h1
    omega
  rw [hn] at hHd ⊢
  have HD := hide hHd
  have HCB : Hid (w0.heap.size ≤ cb) := by show _ ≤ _; omega
  have HABS : Hid (w.heap.size = ab ∧ V1.heap.size = cb) := ⟨hab, hcb⟩
  have k0 : V2.cell? ⟨ab, 1, none⟩ = some (.int .u8 (wh : Int)) := hHd.act.c1
  have hcb2 : w.heap.size + 1 = cb := by omega
  clear S hn hrow hN hwi hch hb0 bV1 hA1 bV2 hHd hs1
  go_enter Tryd.func12, Tryd.ntmps12
  go_upto_if 50 with fail
  clear hcb2 hab hcb hV1 hV2
  go_cut [] from 48 to 62 (fun wx => ∃ c : Cp, c.ok ∧ Hd w0 wx g mg p ws t es T t es T (.slice ao n cap) L ab cb o wh ch wi c)
  case first =>
    by_cases h0 : 0 < n
    · have h1 : (0 : Int) < (n : Int) := by omega
      obtain ⟨r, hr⟩ : ∃ r, wh % n = r := ⟨_, rfl⟩
      have hrn : r < n := by rw [← hr]; exact Nat.mod_lt _ h0
      have hrn1 : (r : Int) < (n : Int) := by omega
      have hmod : (wh : Int) % (n : Int) = (r : Int) := by omega
      have htm : (wh : Int).tmod (n : Int) = (r : Int) := by rw [Int.tmod_eq_emod_of_nonneg (by omega)]; exact hmod
      have hwr : IntKind.i64.wrap (wh : Int) = (wh : Int) := by rw [IntKind.wrap_i64]; omega
      rcases hx : L.getD r Cp.zero with ⟨xp, xo, xr, xc⟩
      have hrl : r < L.length := by have := HNL.out; omega
      have hok := HSS.out.ok _ (cap_mem hrl)
      rw [hx] at hok
      obtain ⟨b, hao, x0, x1, x2, x3⟩ := owns_cap3 HD.out.row r hrl xp xo xr xc hx
      have HXX := hide hx
      have HAO := hide hao
      have HRL := hide hrl
      have HOK := hide hok
      have HD1 := hide (HD.out.drewN 1)
      clear hx hrl hok hr h0 x0 x1 x2 x3 k0
      go_upto_region 3 with fail
      go_region_held (fun W => W.cell? ⟨b, r * 4, none⟩ = some (.int .u64 (xp : Int)) ∧ W.cell? ⟨b, r * 4 + 1, none⟩ = some (.int .u32 (xo : Int)) ∧ W.cell? ⟨b, r * 4 + 2, none⟩ = some (.int .u8 (xr : Int)) ∧ W.cell? ⟨b, r * 4 + 3, none⟩ = some (.int .u64 (xc : Int)) ∧ W.cell? ⟨ab, 1, none⟩ = some (.int .u8 (wh : Int)) ∧ W.cell? ⟨ab, 2, none⟩ = some (.int .u8 (ch : Int))) (first | exact (by obtain ⟨b', e, y0, y1, y2, y3⟩ := owns_cap3 HP.out.row r HRL.out xp xo xr xc HXX.out; cases (HAO.out.symm.trans e); exact ⟨y0, y1, y2, y3, HP.out.act.c1, HP.out.act.c2⟩) | exact (by obtain ⟨b', e, y0, y1, y2, y3⟩ := owns_cap3 HD1.out.row r HRL.out xp xo xr xc HXX.out; cases (HAO.out.symm.trans e); exact ⟨y0, y1, y2, y3, HD1.out.act.c1, HD1.out.act.c2⟩)) (first
        | (go_at_call 19; refine (change_any ⟨xp, xo, xr, xc⟩ ch _ HOK.out HCH.out).mono ?_; rintro e wx ⟨⟨⟨zp, zo, zr, zc⟩, rfl, zok⟩, bx⟩; have HZ := hide zok; clear zok; have HD1 := hide (HD1.out.grow bx); have HP := hide (HD1.out.put HCB.out ⟨zp, zo, zr, zc⟩); have v0 := HD1.out.box.c0; have v1 := HD1.out.box.c1; have v2 := HD1.out.box.c2; have v3 := HD1.out.box.c3; have z := HD1.out.box.z; simp only [Cp.val]))
      rw [← HAO.out]
      clear hao v0 v1 v2 v3 z
      go_wp2_with fail
      go_meet
      exact ⟨_, HZ.out, HP.out⟩
    · have h1 : ¬ ((0 : Int) < (n : Int)) := by omega
      clear h0
      go_wp2_with fail
      go_meet
      exact ⟨_, cp_ok (by decide) (by decide) (by decide) (by decide), HD.out⟩
  case rest =>
    obtain ⟨c, hc, hD⟩ := hcut
    have HD := hide hD
    have HC := hide hc
    clear hD hc
    obtain ⟨K, hK⟩ : ∃ K, chkF ws t es p T c 0 = K := ⟨_, rfl⟩
    have HK := hide hK
    have HSK : Hid (Ss (N + 1) ws K.t K.es T L) := HSS.out.chk HNN.out hK
    clear hK
    have hd1 : (o : Int) % 9 = 7 := by omega
    have HEL : Hid (es.length ≤ 2000000) := HSS.out.less
    obtain ⟨cp, co, cr, cc⟩ := c
    have a0 : wc.cell? ⟨ab, 0, none⟩ = some (.int .u8 (o : Int)) := HD.out.act.c0
    have v0 : wc.cell? ⟨cb, 0, none⟩ = some (.int .u64 (cp : Int)) := HD.out.box.c0
    have v1 : wc.cell? ⟨cb, 1, none⟩ = some (.int .u32 (co : Int)) := HD.out.box.c1
    have v2 : wc.cell? ⟨cb, 2, none⟩ = some (.int .u8 (cr : Int)) := HD.out.box.c2
    have v3 : wc.cell? ⟨cb, 3, none⟩ = some (.int .u64 (cc : Int)) := HD.out.box.c3
    go_wp2_with fail
    refine (bo_mCheck ⟨cp, co, cr, cc⟩ 0 _ HD.out.bo HC.out (by decide) (by have := HEL.out; omega) HGL.out K HK.out).mono ?_; rintro e w3 ⟨rfl, B3, k3⟩
    have HD3 := hide (HD.out.kq k3 B3)
    clear B3 k3 a0 v0 v1 v2 v3
    have v0 : w3.cell? ⟨cb, 0, none⟩ = some (.int .u64 (cp : Int)) := HD3.out.box.c0
    have v1 : w3.cell? ⟨cb, 1, none⟩ = some (.int .u32 (co : Int)) := HD3.out.box.c1
    have v2 : w3.cell? ⟨cb, 2, none⟩ = some (.int .u8 (cr : Int)) := HD3.out.box.c2
    have v3 : w3.cell? ⟨cb, 3, none⟩ = some (.int .u64 (cc : Int)) := HD3.out.box.c3
    go_wp2_with fail
    refine (bo_info ⟨cp, co, cr, cc⟩ _ HD3.out.bo HC.out (by have := HEL.out; omega) K HK.out).mono ?_; rintro e w4 ⟨rfl, B4, k4⟩
    have HD4 := hide ((HD3.out.kq k4 B4).drewN 1)
    clear B4 k4 v0 v1 v2 v3
    have hdr : Below w4.heap.size w4 (w4.drewN 1) := below_d w4 1
    clear hdr
    by_cases h0 : K.e = 0
    · rcases hT : T K.k with ⟨s, ep, vl, l⟩
      have hkl : K.k < 64 := by have := HK.out; rw [← this] at h0 ⊢; exact chk_lt h0
      have hk1 : ((K.k : Nat) : Int) < 64 := by omega
      rw [if_pos h0, if_pos h0, h0]
      simp only [Int.cast_ofNat_Int, show erN 0 = .nilIface from rfl]
      obtain ⟨mg2, hmd⟩ := HD4.out.bo.md
      have HM := hide hmd
      have HT := hide hT
      have HKL := hide hkl
      clear hT hkl hmd h0
      go_upto_region 56 with fail
      have hS : Hid ((w4.drewN 1).cell? ⟨mg, 2 + K.k * 5 + 2, none⟩ = some (.int .i64 (ep : Int)) ∧ (w4.drewN 1).cell? ⟨mg, 2 + K.k * 5 + 4, none⟩ = some (.int .i64 (l : Int))) := ⟨(HM.out.at K.k HKL.out s ep vl l HT.out).2.2.1, (HM.out.at K.k HKL.out s ep vl l HT.out).2.2.2.2⟩
      refine wp_region_held_drew (S := fun W => W.cell? ⟨mg, 2 + K.k * 5 + 2, none⟩ = some (.int .i64 (ep : Int)) ∧ W.cell? ⟨mg, 2 + K.k * 5 + 4, none⟩ = some (.int .i64 (l : Int))) (by kernel_rfl) hS.out (fun _ => ?_)
      refine wpAnyH_take (i := 0) (oi := { dst := some 347, op := Op.move (Operand.tmp 3), type := 38, pos := "law.go:173", after := #[], guard := none }) (v := (.slice ao n cap)) rfl (by kernel_rfl) (by kernel_rfl) (by kernel_rfl) (fun _ _ _ h => h) (Or.inl ⟨by kernel_rfl, fun w hC => by go_simp⟩) hS.out ?_
      simp only [Act.put, List.setIfInBounds_toArray, List.set_cons_zero, List.set_cons_succ]
      refine wpAnyH_take (i := 1) (oi := { dst := some 348, op := Op.move (Operand.tmp 44), type := 52, pos := "law.go:173", after := #[], guard := none }) (v := .nilIface) rfl (by kernel_rfl) (by kernel_rfl) (by kernel_rfl) (fun _ _ _ h => h) (Or.inl ⟨by kernel_rfl, fun w hC => by go_simp⟩) hS.out ?_
      simp only [Act.put, List.setIfInBounds_toArray, List.set_cons_zero, List.set_cons_succ]
      refine wpAnyH_take (i := 3) (oi := { dst := some 350, op := Op.move (Operand.tmp 41), type := 60, pos := "law.go:173", after := #[], guard := none }) (v := (.int .i64 0)) rfl (by kernel_rfl) (by kernel_rfl) (by kernel_rfl) (fun _ _ _ h => h) (Or.inl ⟨by kernel_rfl, fun w hC => by go_simp⟩) hS.out ?_
      simp only [Act.put, List.setIfInBounds_toArray, List.set_cons_zero, List.set_cons_succ]
      refine wpAnyH_ready (rs := [2]) (by kernel_rfl) (by simp) ?_
      refine AllReadyH.cons (o := { dst := some 349, op := Op.call { callee := Callee.value (Operand.func 21), args := #[Operand.tmp 348], argTypes := #[52] }, type := 60, pos := "law.go:173", after := #[{ on := 1, ground := Ground.data }], guard := none }) rfl (fun KK hKK => ?_) AllReadyH.nil
      go_simp
      refine (number_nil _).mono ?_; rintro e w5 ⟨rfl, b5⟩
      have HD5 := hide (HD4.out.grow b5)
      have HM5 := hide (HM.out.grow b5)
      have hS : Hid (w5.cell? ⟨mg, 2 + K.k * 5 + 2, none⟩ = some (.int .i64 (ep : Int)) ∧ w5.cell? ⟨mg, 2 + K.k * 5 + 4, none⟩ = some (.int .i64 (l : Int))) := ⟨(HM5.out.at K.k HKL.out s ep vl l HT.out).2.2.1, (HM5.out.at K.k HKL.out s ep vl l HT.out).2.2.2.2⟩
      refine hKK.out _ _ hS.out (fun _ => ?_)
      clear hKK b5
      refine wpAnyH_take (i := 4) (oi := { dst := some 351, op := Op.binOp BinOp.eql 60 (Operand.tmp 349) (Operand.tmp 350) 60, type := 4, pos := "law.go:173", after := #[{ on := 2, ground := Ground.data }, { on := 3, ground := Ground.data }], guard := none }) (v := (.bool true)) rfl (by kernel_rfl) (by kernel_rfl) (by kernel_rfl) (fun _ _ _ h => h) (Or.inl ⟨by kernel_rfl, fun w hC => by go_simp⟩) hS.out ?_
      simp only [Act.put, List.setIfInBounds_toArray, List.set_cons_zero, List.set_cons_succ]
      refine wpAnyH_take (i := 5) (oi := { dst := some 352, op := Op.move (Operand.tmp 351), type := 4, pos := "law.go:173", after := #[{ on := 4, ground := Ground.data }, { on := 2, ground := Ground.chain }], guard := none }) (v := (.bool true)) rfl (by kernel_rfl) (by kernel_rfl) (by kernel_rfl) (fun _ _ _ h => h) (Or.inl ⟨by kernel_rfl, fun w hC => by go_simp⟩) hS.out ?_
      simp only [Act.put, List.setIfInBounds_toArray, List.set_cons_zero, List.set_cons_succ]
      refine wpAnyH_take (i := 6) (oi := { dst := some 353, op := Op.move (Operand.tmp 41), type := 60, pos := "law.go:173", after := #[{ on := 5, ground := Ground.guard }], guard := some (5, true) }) (v := (.int .i64 0)) rfl (by kernel_rfl) (by kernel_rfl) (by kernel_rfl) (fun _ _ _ h => h) (Or.inl ⟨by kernel_rfl, fun w hC => by go_simp⟩) hS.out ?_
      simp only [Act.put, List.setIfInBounds_toArray, List.set_cons_zero, List.set_cons_succ]
      refine wpAnyH_take (i := 7) (oi := { dst := some 354, op := Op.binOp BinOp.neq 60 (Operand.tmp 353) (Operand.const (Value.int IntKind.i64 0)) 60, type := 4, pos := "law.go:173", after := #[{ on := 6, ground := Ground.data }, { on := 5, ground := Ground.guard }], guard := some (5, true) }) (v := (.bool false)) rfl (by kernel_rfl) (by kernel_rfl) (by kernel_rfl) (fun _ _ _ h => h) (Or.inl ⟨by kernel_rfl, fun w hC => by go_simp⟩) hS.out ?_
      simp only [Act.put, List.setIfInBounds_toArray, List.set_cons_zero, List.set_cons_succ]
      refine wpAnyH_take (i := 8) (oi := { dst := some 355, op := Op.move (Operand.tmp 354), type := 4, pos := "law.go:173", after := #[{ on := 7, ground := Ground.data }, { on := 5, ground := Ground.chain }, { on := 5, ground := Ground.guard }], guard := some (5, true) }) (v := (.bool false)) rfl (by kernel_rfl) (by kernel_rfl) (by kernel_rfl) (fun _ _ _ h => h) (Or.inl ⟨by kernel_rfl, fun w hC => by go_simp⟩) hS.out ?_
      simp only [Act.put, List.setIfInBounds_toArray, List.set_cons_zero, List.set_cons_succ]
      refine wpAnyH_take (i := 9) (oi := { dst := some 356, op := Op.move (Operand.tmp 42), type := 3, pos := "law.go:173", after := #[{ on := 8, ground := Ground.guard }], guard := some (8, true) }) (v := undef) rfl (by kernel_rfl) (by kernel_rfl) (by kernel_rfl) (fun _ _ _ h => h) (Or.inr ⟨by kernel_rfl, rfl⟩) hS.out ?_
      simp only [Act.put, List.setIfInBounds_toArray, List.set_cons_zero, List.set_cons_succ]
      refine wpAnyH_take (i := 10) (oi := { dst := some 357, op := Op.binOp BinOp.eql 3 (Operand.tmp 356) (Operand.const (Value.int IntKind.i64 0)) 3, type := 4, pos := "law.go:173", after := #[{ on := 9, ground := Ground.data }, { on := 8, ground := Ground.guard }], guard := some (8, true) }) (v := undef) rfl (by kernel_rfl) (by kernel_rfl) (by kernel_rfl) (fun _ _ _ h => h) (Or.inr ⟨by kernel_rfl, rfl⟩) hS.out ?_
      simp only [Act.put, List.setIfInBounds_toArray, List.set_cons_zero, List.set_cons_succ]
      refine wpAnyH_take (i := 11) (oi := { dst := some 358, op := Op.pick (Operand.tmp 355) (Operand.tmp 357) (Operand.const (Value.bool false)), type := 4, pos := "law.go:173", after := #[{ on := 8, ground := Ground.data }, { on := 10, ground := Ground.data }, { on := 5, ground := Ground.guard }], guard := some (5, true) }) (v := (.bool false)) rfl (by kernel_rfl) (by kernel_rfl) (by kernel_rfl) (fun _ _ _ h => h) (Or.inl ⟨by kernel_rfl, fun w hC => by go_simp⟩) hS.out ?_
      simp only [Act.put, List.setIfInBounds_toArray, List.set_cons_zero, List.set_cons_succ]
      refine wpAnyH_take (i := 12) (oi := { dst := some 359, op := Op.move (Operand.tmp 358), type := 4, pos := "law.go:173", after := #[{ on := 11, ground := Ground.data }, { on := 8, ground := Ground.chain }, { on := 5, ground := Ground.guard }], guard := some (5, true) }) (v := (.bool false)) rfl (by kernel_rfl) (by kernel_rfl) (by kernel_rfl) (fun _ _ _ h => h) (Or.inl ⟨by kernel_rfl, fun w hC => by go_simp⟩) hS.out ?_
      simp only [Act.put, List.setIfInBounds_toArray, List.set_cons_zero, List.set_cons_succ]
      refine wpAnyH_take (i := 13) (oi := { dst := some 360, op := Op.move (Operand.tmp 43), type := 3, pos := "law.go:173", after := #[{ on := 12, ground := Ground.guard }], guard := some (12, true) }) (v := undef) rfl (by kernel_rfl) (by kernel_rfl) (by kernel_rfl) (fun _ _ _ h => h) (Or.inr ⟨by kernel_rfl, rfl⟩) hS.out ?_
      simp only [Act.put, List.setIfInBounds_toArray, List.set_cons_zero, List.set_cons_succ]
      refine wpAnyH_take (i := 14) (oi := { dst := some 361, op := Op.binOp BinOp.eql 3 (Operand.tmp 360) (Operand.const (Value.int IntKind.i64 0)) 3, type := 4, pos := "law.go:173", after := #[{ on := 13, ground := Ground.data }, { on := 12, ground := Ground.guard }], guard := some (12, true) }) (v := undef) rfl (by kernel_rfl) (by kernel_rfl) (by kernel_rfl) (fun _ _ _ h => h) (Or.inr ⟨by kernel_rfl, rfl⟩) hS.out ?_
      simp only [Act.put, List.setIfInBounds_toArray, List.set_cons_zero, List.set_cons_succ]
      refine wpAnyH_take (i := 15) (oi := { dst := some 362, op := Op.pick (Operand.tmp 359) (Operand.tmp 361) (Operand.const (Value.bool false)), type := 4, pos := "law.go:173", after := #[{ on := 12, ground := Ground.data }, { on := 14, ground := Ground.data }, { on := 5, ground := Ground.guard }], guard := some (5, true) }) (v := (.bool false)) rfl (by kernel_rfl) (by kernel_rfl) (by kernel_rfl) (fun _ _ _ h => h) (Or.inl ⟨by kernel_rfl, fun w hC => by go_simp⟩) hS.out ?_
      simp only [Act.put, List.setIfInBounds_toArray, List.set_cons_zero, List.set_cons_succ]
      refine wpAnyH_take (i := 16) (oi := { dst := some 363, op := Op.move (Operand.tmp 362), type := 4, pos := "law.go:173", after := #[{ on := 15, ground := Ground.data }, { on := 12, ground := Ground.chain }, { on := 5, ground := Ground.guard }], guard := some (5, true) }) (v := (.bool false)) rfl (by kernel_rfl) (by kernel_rfl) (by kernel_rfl) (fun _ _ _ h => h) (Or.inl ⟨by kernel_rfl, fun w hC => by go_simp⟩) hS.out ?_
      simp only [Act.put, List.setIfInBounds_toArray, List.set_cons_zero, List.set_cons_succ]
      refine wpAnyH_take (i := 17) (oi := { dst := some 364, op := Op.move (Operand.tmp 41), type := 60, pos := "law.go:173", after := #[{ on := 16, ground := Ground.guard }], guard := some (16, false) }) (v := (.int .i64 0)) rfl (by kernel_rfl) (by kernel_rfl) (by kernel_rfl) (fun _ _ _ h => h) (Or.inl ⟨by kernel_rfl, fun w hC => by go_simp⟩) hS.out ?_
      simp only [Act.put, List.setIfInBounds_toArray, List.set_cons_zero, List.set_cons_succ]
      refine wpAnyH_take (i := 18) (oi := { dst := some 365, op := Op.binOp BinOp.eql 60 (Operand.tmp 364) (Operand.const (Value.int IntKind.i64 0)) 60, type := 4, pos := "law.go:173", after := #[{ on := 17, ground := Ground.data }, { on := 16, ground := Ground.guard }], guard := some (16, false) }) (v := (.bool true)) rfl (by kernel_rfl) (by kernel_rfl) (by kernel_rfl) (fun _ _ _ h => h) (Or.inl ⟨by kernel_rfl, fun w hC => by go_simp⟩) hS.out ?_
      simp only [Act.put, List.setIfInBounds_toArray, List.set_cons_zero, List.set_cons_succ]
      refine wpAnyH_take (i := 19) (oi := { dst := some 366, op := Op.move (Operand.tmp 365), type := 4, pos := "law.go:173", after := #[{ on := 18, ground := Ground.data }, { on := 16, ground := Ground.chain }, { on := 16, ground := Ground.guard }], guard := some (16, false) }) (v := (.bool true)) rfl (by kernel_rfl) (by kernel_rfl) (by kernel_rfl) (fun _ _ _ h => h) (Or.inl ⟨by kernel_rfl, fun w hC => by go_simp⟩) hS.out ?_
      simp only [Act.put, List.setIfInBounds_toArray, List.set_cons_zero, List.set_cons_succ]
      refine wpAnyH_take (i := 20) (oi := { dst := some 367, op := Op.move (Operand.tmp 42), type := 3, pos := "law.go:173", after := #[{ on := 19, ground := Ground.guard }], guard := some (19, true) }) (v := (.int .i64 (ep : Int))) rfl (by kernel_rfl) (by kernel_rfl) (by kernel_rfl) (fun _ _ _ h => h) (Or.inl ⟨by kernel_rfl, fun w hC => by go_simp⟩) hS.out ?_
      simp only [Act.put, List.setIfInBounds_toArray, List.set_cons_zero, List.set_cons_succ]
      refine wpAnyH_take (i := 21) (oi := { dst := some 368, op := Op.move (Operand.tmp 0), type := 32, pos := "law.go:173", after := #[{ on := 19, ground := Ground.guard }], guard := some (19, true) }) (v := (.pointer (some ⟨mg, 0, none⟩))) rfl (by kernel_rfl) (by kernel_rfl) (by kernel_rfl) (fun _ _ _ h => h) (Or.inl ⟨by kernel_rfl, fun w hC => by go_simp⟩) hS.out ?_
      simp only [Act.put, List.setIfInBounds_toArray, List.set_cons_zero, List.set_cons_succ]
      refine wpAnyH_take (i := 22) (oi := { dst := some 369, op := Op.move (Operand.tmp 40), type := 3, pos := "law.go:173", after := #[{ on := 19, ground := Ground.guard }], guard := some (19, true) }) (v := (.int .i64 (K.k : Int))) rfl (by kernel_rfl) (by kernel_rfl) (by kernel_rfl) (fun _ _ _ h => h) (Or.inl ⟨by kernel_rfl, fun w hC => by go_simp⟩) hS.out ?_
      simp only [Act.put, List.setIfInBounds_toArray, List.set_cons_zero, List.set_cons_succ]
      refine wpAnyH_take (i := 23) (oi := { dst := some 370, op := Op.nilCheck (Operand.tmp 368), type := 0, pos := "law.go:173", after := #[{ on := 21, ground := Ground.data }, { on := 19, ground := Ground.guard }], guard := some (19, true) }) (v := (.pointer (some ⟨mg, 0, none⟩))) rfl (by kernel_rfl) (by kernel_rfl) (by kernel_rfl) (fun _ _ _ h => h) (Or.inl ⟨by kernel_rfl, fun w hC => by go_simp⟩) hS.out ?_
      simp only [Act.put, List.setIfInBounds_toArray, List.set_cons_zero, List.set_cons_succ]
      refine wpAnyH_take (i := 24) (oi := { dst := some 371, op := Op.fieldAddr 37 (Operand.tmp 370) 2, type := 0, pos := "law.go:173", after := #[{ on := 23, ground := Ground.data }, { on := 19, ground := Ground.guard }], guard := some (19, true) }) (v := (.pointer (some ⟨mg, 2, none⟩))) rfl (by kernel_rfl) (by kernel_rfl) (by kernel_rfl) (fun _ _ _ h => h) (Or.inl ⟨by kernel_rfl, fun w hC => by go_simp⟩) hS.out ?_
      simp only [Act.put, List.setIfInBounds_toArray, List.set_cons_zero, List.set_cons_succ]
      refine wpAnyH_take (i := 25) (oi := { dst := some 372, op := Op.indexAddr 35 (Operand.tmp 371) (Operand.tmp 369), type := 0, pos := "law.go:173", after := #[{ on := 24, ground := Ground.data }, { on := 22, ground := Ground.data }, { on := 19, ground := Ground.guard }], guard := some (19, true) }) (v := (.pointer (some ⟨mg, 2 + K.k * 5, none⟩))) rfl (by kernel_rfl) (by kernel_rfl) (by kernel_rfl) (fun _ _ _ h => h) (Or.inl ⟨by kernel_rfl, fun w hC => by go_simp⟩) hS.out ?_
      simp only [Act.put, List.setIfInBounds_toArray, List.set_cons_zero, List.set_cons_succ]
      refine wpAnyH_take (i := 26) (oi := { dst := some 373, op := Op.fieldAddr 34 (Operand.tmp 372) 2, type := 0, pos := "law.go:173", after := #[{ on := 25, ground := Ground.data }, { on := 19, ground := Ground.guard }], guard := some (19, true) }) (v := (.pointer (some ⟨mg, 2 + K.k * 5 + 2, none⟩))) rfl (by kernel_rfl) (by kernel_rfl) (by kernel_rfl) (fun _ _ _ h => h) (Or.inl ⟨by kernel_rfl, fun w hC => by go_simp⟩) hS.out ?_
      simp only [Act.put, List.setIfInBounds_toArray, List.set_cons_zero, List.set_cons_succ]
      refine wpAnyH_take (i := 27) (oi := { dst := some 374, op := Op.load 3 (Operand.tmp 373), type := 3, pos := "law.go:173", after := #[{ on := 26, ground := Ground.data }, { on := 19, ground := Ground.guard }], guard := some (19, true) }) (v := (.int .i64 (ep : Int))) rfl (by kernel_rfl) (by kernel_rfl) (by kernel_rfl) (fun _ _ _ h => h) (Or.inl ⟨by kernel_rfl, fun w hC => by (obtain ⟨m2, m4⟩ := hC; go_simp)⟩) hS.out ?_
      simp only [Act.put, List.setIfInBounds_toArray, List.set_cons_zero, List.set_cons_succ]
      refine wpAnyH_take (i := 28) (oi := { dst := some 375, op := Op.binOp BinOp.eql 3 (Operand.tmp 367) (Operand.tmp 374) 3, type := 4, pos := "law.go:173", after := #[{ on := 20, ground := Ground.data }, { on := 27, ground := Ground.data }, { on := 19, ground := Ground.guard }], guard := some (19, true) }) (v := (.bool true)) rfl (by kernel_rfl) (by kernel_rfl) (by kernel_rfl) (fun _ _ _ h => h) (Or.inl ⟨by kernel_rfl, fun w hC => by go_simp⟩) hS.out ?_
      simp only [Act.put, List.setIfInBounds_toArray, List.set_cons_zero, List.set_cons_succ]
      refine wpAnyH_take (i := 29) (oi := { dst := some 376, op := Op.pick (Operand.tmp 366) (Operand.tmp 375) (Operand.const (Value.bool false)), type := 4, pos := "law.go:173", after := #[{ on := 19, ground := Ground.data }, { on := 28, ground := Ground.data }, { on := 16, ground := Ground.guard }], guard := some (16, false) }) (v := (.bool true)) rfl (by kernel_rfl) (by kernel_rfl) (by kernel_rfl) (fun _ _ _ h => h) (Or.inl ⟨by kernel_rfl, fun w hC => by go_simp⟩) hS.out ?_
      simp only [Act.put, List.setIfInBounds_toArray, List.set_cons_zero, List.set_cons_succ]
      refine wpAnyH_take (i := 30) (oi := { dst := some 377, op := Op.move (Operand.tmp 376), type := 4, pos := "law.go:173", after := #[{ on := 29, ground := Ground.data }, { on := 19, ground := Ground.chain }, { on := 16, ground := Ground.guard }], guard := some (16, false) }) (v := (.bool true)) rfl (by kernel_rfl) (by kernel_rfl) (by kernel_rfl) (fun _ _ _ h => h) (Or.inl ⟨by kernel_rfl, fun w hC => by go_simp⟩) hS.out ?_
      simp only [Act.put, List.setIfInBounds_toArray, List.set_cons_zero, List.set_cons_succ]
      refine wpAnyH_take (i := 31) (oi := { dst := some 378, op := Op.move (Operand.tmp 43), type := 3, pos := "law.go:173", after := #[{ on := 30, ground := Ground.guard }, { on := 43, ground := Ground.gcOnly Departure.lateStores }], guard := some (30, true) }) (v := (.int .i64 (l : Int))) rfl (by kernel_rfl) (by kernel_rfl) (by kernel_rfl) (fun _ _ _ h => h) (Or.inl ⟨by kernel_rfl, fun w hC => by go_simp⟩) hS.out ?_
      simp only [Act.put, List.setIfInBounds_toArray, List.set_cons_zero, List.set_cons_succ]
      refine wpAnyH_take (i := 32) (oi := { dst := some 379, op := Op.move (Operand.tmp 0), type := 32, pos := "law.go:173", after := #[{ on := 30, ground := Ground.guard }, { on := 43, ground := Ground.gcOnly Departure.lateStores }], guard := some (30, true) }) (v := (.pointer (some ⟨mg, 0, none⟩))) rfl (by kernel_rfl) (by kernel_rfl) (by kernel_rfl) (fun _ _ _ h => h) (Or.inl ⟨by kernel_rfl, fun w hC => by go_simp⟩) hS.out ?_
      simp only [Act.put, List.setIfInBounds_toArray, List.set_cons_zero, List.set_cons_succ]
      refine wpAnyH_take (i := 33) (oi := { dst := some 380, op := Op.move (Operand.tmp 40), type := 3, pos := "law.go:173", after := #[{ on := 30, ground := Ground.guard }, { on := 43, ground := Ground.gcOnly Departure.lateStores }], guard := some (30, true) }) (v := (.int .i64 (K.k : Int))) rfl (by kernel_rfl) (by kernel_rfl) (by kernel_rfl) (fun _ _ _ h => h) (Or.inl ⟨by kernel_rfl, fun w hC => by go_simp⟩) hS.out ?_
      simp only [Act.put, List.setIfInBounds_toArray, List.set_cons_zero, List.set_cons_succ]
      refine wpAnyH_take (i := 34) (oi := { dst := some 381, op := Op.nilCheck (Operand.tmp 379), type := 0, pos := "law.go:173", after := #[{ on := 32, ground := Ground.data }, { on := 30, ground := Ground.guard }, { on := 43, ground := Ground.gcOnly Departure.lateStores }], guard := some (30, true) }) (v := (.pointer (some ⟨mg, 0, none⟩))) rfl (by kernel_rfl) (by kernel_rfl) (by kernel_rfl) (fun _ _ _ h => h) (Or.inl ⟨by kernel_rfl, fun w hC => by go_simp⟩) hS.out ?_
      simp only [Act.put, List.setIfInBounds_toArray, List.set_cons_zero, List.set_cons_succ]
      refine wpAnyH_take (i := 35) (oi := { dst := some 382, op := Op.fieldAddr 37 (Operand.tmp 381) 2, type := 0, pos := "law.go:173", after := #[{ on := 34, ground := Ground.data }, { on := 30, ground := Ground.guard }, { on := 43, ground := Ground.gcOnly Departure.lateStores }], guard := some (30, true) }) (v := (.pointer (some ⟨mg, 2, none⟩))) rfl (by kernel_rfl) (by kernel_rfl) (by kernel_rfl) (fun _ _ _ h => h) (Or.inl ⟨by kernel_rfl, fun w hC => by go_simp⟩) hS.out ?_
      simp only [Act.put, List.setIfInBounds_toArray, List.set_cons_zero, List.set_cons_succ]
      refine wpAnyH_take (i := 36) (oi := { dst := some 383, op := Op.indexAddr 35 (Operand.tmp 382) (Operand.tmp 380), type := 0, pos := "law.go:173", after := #[{ on := 35, ground := Ground.data }, { on := 33, ground := Ground.data }, { on := 30, ground := Ground.guard }, { on := 43, ground := Ground.gcOnly Departure.lateStores }], guard := some (30, true) }) (v := (.pointer (some ⟨mg, 2 + K.k * 5, none⟩))) rfl (by kernel_rfl) (by kernel_rfl) (by kernel_rfl) (fun _ _ _ h => h) (Or.inl ⟨by kernel_rfl, fun w hC => by go_simp⟩) hS.out ?_
      simp only [Act.put, List.setIfInBounds_toArray, List.set_cons_zero, List.set_cons_succ]
      refine wpAnyH_take (i := 37) (oi := { dst := some 384, op := Op.fieldAddr 34 (Operand.tmp 383) 4, type := 0, pos := "law.go:173", after := #[{ on := 36, ground := Ground.data }, { on := 30, ground := Ground.guard }, { on := 43, ground := Ground.gcOnly Departure.lateStores }], guard := some (30, true) }) (v := (.pointer (some ⟨mg, 2 + K.k * 5 + 4, none⟩))) rfl (by kernel_rfl) (by kernel_rfl) (by kernel_rfl) (fun _ _ _ h => h) (Or.inl ⟨by kernel_rfl, fun w hC => by go_simp⟩) hS.out ?_
      simp only [Act.put, List.setIfInBounds_toArray, List.set_cons_zero, List.set_cons_succ]
      refine wpAnyH_take (i := 38) (oi := { dst := some 385, op := Op.load 3 (Operand.tmp 384), type := 3, pos := "law.go:173", after := #[{ on := 37, ground := Ground.data }, { on := 30, ground := Ground.guard }, { on := 43, ground := Ground.gcOnly Departure.lateStores }], guard := some (30, true) }) (v := (.int .i64 (l : Int))) rfl (by kernel_rfl) (by kernel_rfl) (by kernel_rfl) (fun _ _ _ h => h) (Or.inl ⟨by kernel_rfl, fun w hC => by (obtain ⟨m2, m4⟩ := hC; go_simp)⟩) hS.out ?_
      simp only [Act.put, List.setIfInBounds_toArray, List.set_cons_zero, List.set_cons_succ]
      refine wpAnyH_take (i := 39) (oi := { dst := some 386, op := Op.binOp BinOp.eql 3 (Operand.tmp 378) (Operand.tmp 385) 3, type := 4, pos := "law.go:173", after := #[{ on := 31, ground := Ground.data }, { on := 38, ground := Ground.data }, { on := 30, ground := Ground.guard }, { on := 43, ground := Ground.gcOnly Departure.lateStores }], guard := some (30, true) }) (v := (.bool true)) rfl (by kernel_rfl) (by kernel_rfl) (by kernel_rfl) (fun _ _ _ h => h) (Or.inl ⟨by kernel_rfl, fun w hC => by go_simp⟩) hS.out ?_
      simp only [Act.put, List.setIfInBounds_toArray, List.set_cons_zero, List.set_cons_succ]
      refine wpAnyH_take (i := 40) (oi := { dst := some 387, op := Op.pick (Operand.tmp 377) (Operand.tmp 386) (Operand.const (Value.bool false)), type := 4, pos := "law.go:173", after := #[{ on := 30, ground := Ground.data }, { on := 39, ground := Ground.data }, { on := 16, ground := Ground.guard }, { on := 43, ground := Ground.gcOnly Departure.lateStores }], guard := some (16, false) }) (v := (.bool true)) rfl (by kernel_rfl) (by kernel_rfl) (by kernel_rfl) (fun _ _ _ h => h) (Or.inl ⟨by kernel_rfl, fun w hC => by go_simp⟩) hS.out ?_
      simp only [Act.put, List.setIfInBounds_toArray, List.set_cons_zero, List.set_cons_succ]
      refine wpAnyH_take (i := 41) (oi := { dst := some 388, op := Op.pick (Operand.tmp 363) (Operand.const (Value.bool true)) (Operand.tmp 387), type := 4, pos := "law.go:173", after := #[{ on := 16, ground := Ground.data }, { on := 40, ground := Ground.data }, { on := 5, ground := Ground.guard }, { on := 43, ground := Ground.gcOnly Departure.lateStores }], guard := some (5, true) }) (v := (.bool true)) rfl (by kernel_rfl) (by kernel_rfl) (by kernel_rfl) (fun _ _ _ h => h) (Or.inl ⟨by kernel_rfl, fun w hC => by go_simp⟩) hS.out ?_
      simp only [Act.put, List.setIfInBounds_toArray, List.set_cons_zero, List.set_cons_succ]
      refine wpAnyH_take (i := 42) (oi := { dst := some 389, op := Op.pick (Operand.tmp 352) (Operand.tmp 388) (Operand.const (Value.bool false)), type := 4, pos := "law.go:173", after := #[{ on := 5, ground := Ground.data }, { on := 41, ground := Ground.data }, { on := 43, ground := Ground.gcOnly Departure.lateStores }], guard := none }) (v := (.bool true)) rfl (by kernel_rfl) (by kernel_rfl) (by kernel_rfl) (fun _ _ _ h => h) (Or.inl ⟨by kernel_rfl, fun w hC => by go_simp⟩) hS.out ?_
      simp only [Act.put, List.setIfInBounds_toArray, List.set_cons_zero, List.set_cons_succ]
      refine wpAnyH_take (i := 43) (oi := { dst := some 8, op := Op.assign (Operand.tmp 347), type := 38, pos := "law.go:173", after := #[{ on := 0, ground := Ground.data }, { on := 30, ground := Ground.chain }, { on := 0, ground := Ground.phase }, { on := 1, ground := Ground.textOnly Departure.lateStores }, { on := 2, ground := Ground.textOnly Departure.lateStoresUnsure }, { on := 3, ground := Ground.textOnly Departure.lateStores }, { on := 4, ground := Ground.textOnly Departure.lateStores }, { on := 5, ground := Ground.textOnly Departure.lateStores }, { on := 6, ground := Ground.textOnly Departure.lateStores }, { on := 7, ground := Ground.textOnly Departure.lateStores }, { on := 8, ground := Ground.textOnly Departure.lateStores }, { on := 9, ground := Ground.textOnly Departure.lateStores }, { on := 10, ground := Ground.textOnly Departure.lateStores }, { on := 11, ground := Ground.textOnly Departure.lateStores }, { on := 12, ground := Ground.textOnly Departure.lateStores }, { on := 13, ground := Ground.textOnly Departure.lateStores }, { on := 14, ground := Ground.textOnly Departure.lateStores }, { on := 15, ground := Ground.textOnly Departure.lateStores }, { on := 16, ground := Ground.textOnly Departure.lateStores }, { on := 17, ground := Ground.textOnly Departure.lateStores }, { on := 18, ground := Ground.textOnly Departure.lateStores }, { on := 19, ground := Ground.textOnly Departure.lateStores }, { on := 20, ground := Ground.textOnly Departure.lateStores }, { on := 21, ground := Ground.textOnly Departure.lateStores }, { on := 22, ground := Ground.textOnly Departure.lateStores }, { on := 23, ground := Ground.textOnly Departure.lateStores }, { on := 24, ground := Ground.textOnly Departure.lateStores }, { on := 25, ground := Ground.textOnly Departure.lateStores }, { on := 26, ground := Ground.textOnly Departure.lateStores }, { on := 27, ground := Ground.textOnly Departure.lateStores }, { on := 28, ground := Ground.textOnly Departure.lateStores }, { on := 29, ground := Ground.textOnly Departure.lateStores }, { on := 30, ground := Ground.textOnly Departure.lateStores }, { on := 31, ground := Ground.textOnly Departure.lateStores }, { on := 32, ground := Ground.textOnly Departure.lateStores }, { on := 33, ground := Ground.textOnly Departure.lateStores }, { on := 34, ground := Ground.textOnly Departure.lateStores }, { on := 35, ground := Ground.textOnly Departure.lateStores }, { on := 36, ground := Ground.textOnly Departure.lateStores }, { on := 37, ground := Ground.textOnly Departure.lateStores }, { on := 38, ground := Ground.textOnly Departure.lateStores }, { on := 39, ground := Ground.textOnly Departure.lateStores }, { on := 40, ground := Ground.textOnly Departure.lateStores }, { on := 41, ground := Ground.textOnly Departure.lateStores }, { on := 42, ground := Ground.textOnly Departure.lateStores }], guard := none }) (v := (.slice ao n cap)) rfl (by kernel_rfl) (by kernel_rfl) (by kernel_rfl) (fun _ _ _ h => h) (Or.inl ⟨by kernel_rfl, fun w hC => by go_simp⟩) hS.out ?_
      simp only [Act.put, List.setIfInBounds_toArray, List.set_cons_zero, List.set_cons_succ]
      refine wpAnyH_take (i := 44) (oi := { dst := some 9, op := Op.assign (Operand.tmp 389), type := 4, pos := "law.go:173", after := #[{ on := 42, ground := Ground.data }, { on := 43, ground := Ground.chain }, { on := 0, ground := Ground.phase }, { on := 1, ground := Ground.phase }, { on := 2, ground := Ground.phase }, { on := 3, ground := Ground.phase }, { on := 4, ground := Ground.phase }, { on := 5, ground := Ground.phase }, { on := 6, ground := Ground.phase }, { on := 7, ground := Ground.phase }, { on := 8, ground := Ground.phase }, { on := 9, ground := Ground.phase }, { on := 10, ground := Ground.phase }, { on := 11, ground := Ground.phase }, { on := 12, ground := Ground.phase }, { on := 13, ground := Ground.phase }, { on := 14, ground := Ground.phase }, { on := 15, ground := Ground.phase }, { on := 16, ground := Ground.phase }, { on := 17, ground := Ground.phase }, { on := 18, ground := Ground.phase }, { on := 19, ground := Ground.phase }, { on := 20, ground := Ground.phase }, { on := 21, ground := Ground.phase }, { on := 22, ground := Ground.phase }, { on := 23, ground := Ground.phase }, { on := 24, ground := Ground.phase }, { on := 25, ground := Ground.phase }, { on := 26, ground := Ground.phase }, { on := 27, ground := Ground.phase }, { on := 28, ground := Ground.phase }, { on := 29, ground := Ground.phase }, { on := 30, ground := Ground.phase }, { on := 31, ground := Ground.phase }, { on := 32, ground := Ground.phase }, { on := 33, ground := Ground.phase }, { on := 34, ground := Ground.phase }, { on := 35, ground := Ground.phase }, { on := 36, ground := Ground.phase }, { on := 37, ground := Ground.phase }, { on := 38, ground := Ground.phase }, { on := 39, ground := Ground.phase }, { on := 40, ground := Ground.phase }, { on := 41, ground := Ground.phase }, { on := 42, ground := Ground.phase }, { on := 43, ground := Ground.phase }], guard := none }) (v := (.bool true)) rfl (by kernel_rfl) (by kernel_rfl) (by kernel_rfl) (fun _ _ _ h => h) (Or.inl ⟨by kernel_rfl, fun w hC => by go_simp⟩) hS.out ?_
      simp only [Act.put, List.setIfInBounds_toArray, List.set_cons_zero, List.set_cons_succ]
      refine wpAnyH_done (by kernel_rfl) ?_ _
      go_wp2
      go_ret2
      exact ⟨K.t, K.es, T, .slice ao n cap, L, rfl, HD5.out.bo, HD5.out.row, HSK.out, HGL.out, HPW.out⟩
    · have hke : ((K.e : Nat) : Int) ≠ 0 := by omega
      have hkb : (((K.e : Nat) : Int) == 0) = false := by rw [beq_eq_false_iff_ne]; exact hke
      have hkn : (((K.e : Nat) : Int) != 0) = true := by rw [bne_iff_ne]; exact hke
      rw [if_neg h0, if_neg h0]
      clear h0
      go_upto_region 56 with fail
      have hS : Hid ((w4.drewN 1).cell? ⟨ab, 0, none⟩ = some (.int .u8 (o : Int))) := HD4.out.act.c0
      refine wp_region_held_drew (S := fun W => W.cell? ⟨ab, 0, none⟩ = some (.int .u8 (o : Int))) (by kernel_rfl) hS.out (fun _ => ?_)
      refine wpAnyH_take (i := 0) (oi := { dst := some 347, op := Op.move (Operand.tmp 3), type := 38, pos := "law.go:173", after := #[], guard := none }) (v := (.slice ao n cap)) rfl (by kernel_rfl) (by kernel_rfl) (by kernel_rfl) (fun _ _ _ h => h) (Or.inl ⟨by kernel_rfl, fun w hC => by go_simp⟩) hS.out ?_
      simp only [Act.put, List.setIfInBounds_toArray, List.set_cons_zero, List.set_cons_succ]
      refine wpAnyH_take (i := 1) (oi := { dst := some 348, op := Op.move (Operand.tmp 44), type := 52, pos := "law.go:173", after := #[], guard := none }) (v := (erN (K.e : Int))) rfl (by kernel_rfl) (by kernel_rfl) (by kernel_rfl) (fun _ _ _ h => h) (Or.inl ⟨by kernel_rfl, fun w hC => by go_simp⟩) hS.out ?_
      simp only [Act.put, List.setIfInBounds_toArray, List.set_cons_zero, List.set_cons_succ]
      refine wpAnyH_take (i := 3) (oi := { dst := some 350, op := Op.move (Operand.tmp 41), type := 60, pos := "law.go:173", after := #[], guard := none }) (v := (.int .i64 (K.e : Int))) rfl (by kernel_rfl) (by kernel_rfl) (by kernel_rfl) (fun _ _ _ h => h) (Or.inl ⟨by kernel_rfl, fun w hC => by go_simp⟩) hS.out ?_
      simp only [Act.put, List.setIfInBounds_toArray, List.set_cons_zero, List.set_cons_succ]
      refine wpAnyH_ready (rs := [2]) (by kernel_rfl) (by simp) ?_
      refine AllReadyH.cons (o := { dst := some 349, op := Op.call { callee := Callee.value (Operand.func 21), args := #[Operand.tmp 348], argTypes := #[52] }, type := 60, pos := "law.go:173", after := #[{ on := 1, ground := Ground.data }], guard := none }) rfl (fun KK hKK => ?_) AllReadyH.nil
      go_simp
      refine (number_any _ _ (HD4.out.bo.glob HGL.out)).mono ?_; rintro e w5 ⟨rfl, b5⟩
      have HD5 := hide (HD4.out.grow b5)
      have hS : Hid (w5.cell? ⟨ab, 0, none⟩ = some (.int .u8 (o : Int))) := HD5.out.act.c0
      refine hKK.out _ _ hS.out (fun _ => ?_)
      clear hKK b5
      refine wpAnyH_take (i := 4) (oi := { dst := some 351, op := Op.binOp BinOp.eql 60 (Operand.tmp 349) (Operand.tmp 350) 60, type := 4, pos := "law.go:173", after := #[{ on := 2, ground := Ground.data }, { on := 3, ground := Ground.data }], guard := none }) (v := (.bool true)) rfl (by kernel_rfl) (by kernel_rfl) (by kernel_rfl) (fun _ _ _ h => h) (Or.inl ⟨by kernel_rfl, fun w hC => by go_simp⟩) hS.out ?_
      simp only [Act.put, List.setIfInBounds_toArray, List.set_cons_zero, List.set_cons_succ]
      refine wpAnyH_take (i := 5) (oi := { dst := some 352, op := Op.move (Operand.tmp 351), type := 4, pos := "law.go:173", after := #[{ on := 4, ground := Ground.data }, { on := 2, ground := Ground.chain }], guard := none }) (v := (.bool true)) rfl (by kernel_rfl) (by kernel_rfl) (by kernel_rfl) (fun _ _ _ h => h) (Or.inl ⟨by kernel_rfl, fun w hC => by go_simp⟩) hS.out ?_
      simp only [Act.put, List.setIfInBounds_toArray, List.set_cons_zero, List.set_cons_succ]
      refine wpAnyH_take (i := 6) (oi := { dst := some 353, op := Op.move (Operand.tmp 41), type := 60, pos := "law.go:173", after := #[{ on := 5, ground := Ground.guard }], guard := some (5, true) }) (v := (.int .i64 (K.e : Int))) rfl (by kernel_rfl) (by kernel_rfl) (by kernel_rfl) (fun _ _ _ h => h) (Or.inl ⟨by kernel_rfl, fun w hC => by go_simp⟩) hS.out ?_
      simp only [Act.put, List.setIfInBounds_toArray, List.set_cons_zero, List.set_cons_succ]
      refine wpAnyH_take (i := 7) (oi := { dst := some 354, op := Op.binOp BinOp.neq 60 (Operand.tmp 353) (Operand.const (Value.int IntKind.i64 0)) 60, type := 4, pos := "law.go:173", after := #[{ on := 6, ground := Ground.data }, { on := 5, ground := Ground.guard }], guard := some (5, true) }) (v := (.bool true)) rfl (by kernel_rfl) (by kernel_rfl) (by kernel_rfl) (fun _ _ _ h => h) (Or.inl ⟨by kernel_rfl, fun w hC => by go_simp⟩) hS.out ?_
      simp only [Act.put, List.setIfInBounds_toArray, List.set_cons_zero, List.set_cons_succ]
      refine wpAnyH_take (i := 8) (oi := { dst := some 355, op := Op.move (Operand.tmp 354), type := 4, pos := "law.go:173", after := #[{ on := 7, ground := Ground.data }, { on := 5, ground := Ground.chain }, { on := 5, ground := Ground.guard }], guard := some (5, true) }) (v := (.bool true)) rfl (by kernel_rfl) (by kernel_rfl) (by kernel_rfl) (fun _ _ _ h => h) (Or.inl ⟨by kernel_rfl, fun w hC => by go_simp⟩) hS.out ?_
      simp only [Act.put, List.setIfInBounds_toArray, List.set_cons_zero, List.set_cons_succ]
      refine wpAnyH_take (i := 9) (oi := { dst := some 356, op := Op.move (Operand.tmp 42), type := 3, pos := "law.go:173", after := #[{ on := 8, ground := Ground.guard }], guard := some (8, true) }) (v := (.int .i64 0)) rfl (by kernel_rfl) (by kernel_rfl) (by kernel_rfl) (fun _ _ _ h => h) (Or.inl ⟨by kernel_rfl, fun w hC => by go_simp⟩) hS.out ?_
      simp only [Act.put, List.setIfInBounds_toArray, List.set_cons_zero, List.set_cons_succ]
      refine wpAnyH_take (i := 10) (oi := { dst := some 357, op := Op.binOp BinOp.eql 3 (Operand.tmp 356) (Operand.const (Value.int IntKind.i64 0)) 3, type := 4, pos := "law.go:173", after := #[{ on := 9, ground := Ground.data }, { on := 8, ground := Ground.guard }], guard := some (8, true) }) (v := (.bool true)) rfl (by kernel_rfl) (by kernel_rfl) (by kernel_rfl) (fun _ _ _ h => h) (Or.inl ⟨by kernel_rfl, fun w hC => by go_simp⟩) hS.out ?_
      simp only [Act.put, List.setIfInBounds_toArray, List.set_cons_zero, List.set_cons_succ]
      refine wpAnyH_take (i := 11) (oi := { dst := some 358, op := Op.pick (Operand.tmp 355) (Operand.tmp 357) (Operand.const (Value.bool false)), type := 4, pos := "law.go:173", after := #[{ on := 8, ground := Ground.data }, { on := 10, ground := Ground.data }, { on := 5, ground := Ground.guard }], guard := some (5, true) }) (v := (.bool true)) rfl (by kernel_rfl) (by kernel_rfl) (by kernel_rfl) (fun _ _ _ h => h) (Or.inl ⟨by kernel_rfl, fun w hC => by go_simp⟩) hS.out ?_
      simp only [Act.put, List.setIfInBounds_toArray, List.set_cons_zero, List.set_cons_succ]
      refine wpAnyH_take (i := 12) (oi := { dst := some 359, op := Op.move (Operand.tmp 358), type := 4, pos := "law.go:173", after := #[{ on := 11, ground := Ground.data }, { on := 8, ground := Ground.chain }, { on := 5, ground := Ground.guard }], guard := some (5, true) }) (v := (.bool true)) rfl (by kernel_rfl) (by kernel_rfl) (by kernel_rfl) (fun _ _ _ h => h) (Or.inl ⟨by kernel_rfl, fun w hC => by go_simp⟩) hS.out ?_
      simp only [Act.put, List.setIfInBounds_toArray, List.set_cons_zero, List.set_cons_succ]
      refine wpAnyH_take (i := 13) (oi := { dst := some 360, op := Op.move (Operand.tmp 43), type := 3, pos := "law.go:173", after := #[{ on := 12, ground := Ground.guard }], guard := some (12, true) }) (v := (.int .i64 0)) rfl (by kernel_rfl) (by kernel_rfl) (by kernel_rfl) (fun _ _ _ h => h) (Or.inl ⟨by kernel_rfl, fun w hC => by go_simp⟩) hS.out ?_
      simp only [Act.put, List.setIfInBounds_toArray, List.set_cons_zero, List.set_cons_succ]
      refine wpAnyH_take (i := 14) (oi := { dst := some 361, op := Op.binOp BinOp.eql 3 (Operand.tmp 360) (Operand.const (Value.int IntKind.i64 0)) 3, type := 4, pos := "law.go:173", after := #[{ on := 13, ground := Ground.data }, { on := 12, ground := Ground.guard }], guard := some (12, true) }) (v := (.bool true)) rfl (by kernel_rfl) (by kernel_rfl) (by kernel_rfl) (fun _ _ _ h => h) (Or.inl ⟨by kernel_rfl, fun w hC => by go_simp⟩) hS.out ?_
      simp only [Act.put, List.setIfInBounds_toArray, List.set_cons_zero, List.set_cons_succ]
      refine wpAnyH_take (i := 15) (oi := { dst := some 362, op := Op.pick (Operand.tmp 359) (Operand.tmp 361) (Operand.const (Value.bool false)), type := 4, pos := "law.go:173", after := #[{ on := 12, ground := Ground.data }, { on := 14, ground := Ground.data }, { on := 5, ground := Ground.guard }], guard := some (5, true) }) (v := (.bool true)) rfl (by kernel_rfl) (by kernel_rfl) (by kernel_rfl) (fun _ _ _ h => h) (Or.inl ⟨by kernel_rfl, fun w hC => by go_simp⟩) hS.out ?_
      simp only [Act.put, List.setIfInBounds_toArray, List.set_cons_zero, List.set_cons_succ]
      refine wpAnyH_take (i := 16) (oi := { dst := some 363, op := Op.move (Operand.tmp 362), type := 4, pos := "law.go:173", after := #[{ on := 15, ground := Ground.data }, { on := 12, ground := Ground.chain }, { on := 5, ground := Ground.guard }], guard := some (5, true) }) (v := (.bool true)) rfl (by kernel_rfl) (by kernel_rfl) (by kernel_rfl) (fun _ _ _ h => h) (Or.inl ⟨by kernel_rfl, fun w hC => by go_simp⟩) hS.out ?_
      simp only [Act.put, List.setIfInBounds_toArray, List.set_cons_zero, List.set_cons_succ]
      refine wpAnyH_take (i := 17) (oi := { dst := some 364, op := Op.move (Operand.tmp 41), type := 60, pos := "law.go:173", after := #[{ on := 16, ground := Ground.guard }], guard := some (16, false) }) (v := undef) rfl (by kernel_rfl) (by kernel_rfl) (by kernel_rfl) (fun _ _ _ h => h) (Or.inr ⟨by kernel_rfl, rfl⟩) hS.out ?_
      simp only [Act.put, List.setIfInBounds_toArray, List.set_cons_zero, List.set_cons_succ]
      refine wpAnyH_take (i := 18) (oi := { dst := some 365, op := Op.binOp BinOp.eql 60 (Operand.tmp 364) (Operand.const (Value.int IntKind.i64 0)) 60, type := 4, pos := "law.go:173", after := #[{ on := 17, ground := Ground.data }, { on := 16, ground := Ground.guard }], guard := some (16, false) }) (v := undef) rfl (by kernel_rfl) (by kernel_rfl) (by kernel_rfl) (fun _ _ _ h => h) (Or.inr ⟨by kernel_rfl, rfl⟩) hS.out ?_
      simp only [Act.put, List.setIfInBounds_toArray, List.set_cons_zero, List.set_cons_succ]
      refine wpAnyH_take (i := 19) (oi := { dst := some 366, op := Op.move (Operand.tmp 365), type := 4, pos := "law.go:173", after := #[{ on := 18, ground := Ground.data }, { on := 16, ground := Ground.chain }, { on := 16, ground := Ground.guard }], guard := some (16, false) }) (v := undef) rfl (by kernel_rfl) (by kernel_rfl) (by kernel_rfl) (fun _ _ _ h => h) (Or.inr ⟨by kernel_rfl, rfl⟩) hS.out ?_
      simp only [Act.put, List.setIfInBounds_toArray, List.set_cons_zero, List.set_cons_succ]
      refine wpAnyH_take (i := 20) (oi := { dst := some 367, op := Op.move (Operand.tmp 42), type := 3, pos := "law.go:173", after := #[{ on := 19, ground := Ground.guard }], guard := some (19, true) }) (v := undef) rfl (by kernel_rfl) (by kernel_rfl) (by kernel_rfl) (fun _ _ _ h => h) (Or.inr ⟨by kernel_rfl, rfl⟩) hS.out ?_
      simp only [Act.put, List.setIfInBounds_toArray, List.set_cons_zero, List.set_cons_succ]
      refine wpAnyH_take (i := 21) (oi := { dst := some 368, op := Op.move (Operand.tmp 0), type := 32, pos := "law.go:173", after := #[{ on := 19, ground := Ground.guard }], guard := some (19, true) }) (v := undef) rfl (by kernel_rfl) (by kernel_rfl) (by kernel_rfl) (fun _ _ _ h => h) (Or.inr ⟨by kernel_rfl, rfl⟩) hS.out ?_
      simp only [Act.put, List.setIfInBounds_toArray, List.set_cons_zero, List.set_cons_succ]
      refine wpAnyH_take (i := 22) (oi := { dst := some 369, op := Op.move (Operand.tmp 40), type := 3, pos := "law.go:173", after := #[{ on := 19, ground := Ground.guard }], guard := some (19, true) }) (v := undef) rfl (by kernel_rfl) (by kernel_rfl) (by kernel_rfl) (fun _ _ _ h => h) (Or.inr ⟨by kernel_rfl, rfl⟩) hS.out ?_
      simp only [Act.put, List.setIfInBounds_toArray, List.set_cons_zero, List.set_cons_succ]
      refine wpAnyH_take (i := 23) (oi := { dst := some 370, op := Op.nilCheck (Operand.tmp 368), type := 0, pos := "law.go:173", after := #[{ on := 21, ground := Ground.data }, { on := 19, ground := Ground.guard }], guard := some (19, true) }) (v := undef) rfl (by kernel_rfl) (by kernel_rfl) (by kernel_rfl) (fun _ _ _ h => h) (Or.inr ⟨by kernel_rfl, rfl⟩) hS.out ?_
      simp only [Act.put, List.setIfInBounds_toArray, List.set_cons_zero, List.set_cons_succ]
      refine wpAnyH_take (i := 24) (oi := { dst := some 371, op := Op.fieldAddr 37 (Operand.tmp 370) 2, type := 0, pos := "law.go:173", after := #[{ on := 23, ground := Ground.data }, { on := 19, ground := Ground.guard }], guard := some (19, true) }) (v := undef) rfl (by kernel_rfl) (by kernel_rfl) (by kernel_rfl) (fun _ _ _ h => h) (Or.inr ⟨by kernel_rfl, rfl⟩) hS.out ?_
      simp only [Act.put, List.setIfInBounds_toArray, List.set_cons_zero, List.set_cons_succ]
      refine wpAnyH_take (i := 25) (oi := { dst := some 372, op := Op.indexAddr 35 (Operand.tmp 371) (Operand.tmp 369), type := 0, pos := "law.go:173", after := #[{ on := 24, ground := Ground.data }, { on := 22, ground := Ground.data }, { on := 19, ground := Ground.guard }], guard := some (19, true) }) (v := undef) rfl (by kernel_rfl) (by kernel_rfl) (by kernel_rfl) (fun _ _ _ h => h) (Or.inr ⟨by kernel_rfl, rfl⟩) hS.out ?_
      simp only [Act.put, List.setIfInBounds_toArray, List.set_cons_zero, List.set_cons_succ]
      refine wpAnyH_take (i := 26) (oi := { dst := some 373, op := Op.fieldAddr 34 (Operand.tmp 372) 2, type := 0, pos := "law.go:173", after := #[{ on := 25, ground := Ground.data }, { on := 19, ground := Ground.guard }], guard := some (19, true) }) (v := undef) rfl (by kernel_rfl) (by kernel_rfl) (by kernel_rfl) (fun _ _ _ h => h) (Or.inr ⟨by kernel_rfl, rfl⟩) hS.out ?_
      simp only [Act.put, List.setIfInBounds_toArray, List.set_cons_zero, List.set_cons_succ]
      refine wpAnyH_take (i := 27) (oi := { dst := some 374, op := Op.load 3 (Operand.tmp 373), type := 3, pos := "law.go:173", after := #[{ on := 26, ground := Ground.data }, { on := 19, ground := Ground.guard }], guard := some (19, true) }) (v := undef) rfl (by kernel_rfl) (by kernel_rfl) (by kernel_rfl) (fun _ _ _ h => h) (Or.inr ⟨by kernel_rfl, rfl⟩) hS.out ?_
      simp only [Act.put, List.setIfInBounds_toArray, List.set_cons_zero, List.set_cons_succ]
      refine wpAnyH_take (i := 28) (oi := { dst := some 375, op := Op.binOp BinOp.eql 3 (Operand.tmp 367) (Operand.tmp 374) 3, type := 4, pos := "law.go:173", after := #[{ on := 20, ground := Ground.data }, { on := 27, ground := Ground.data }, { on := 19, ground := Ground.guard }], guard := some (19, true) }) (v := undef) rfl (by kernel_rfl) (by kernel_rfl) (by kernel_rfl) (fun _ _ _ h => h) (Or.inr ⟨by kernel_rfl, rfl⟩) hS.out ?_
      simp only [Act.put, List.setIfInBounds_toArray, List.set_cons_zero, List.set_cons_succ]
      refine wpAnyH_take (i := 29) (oi := { dst := some 376, op := Op.pick (Operand.tmp 366) (Operand.tmp 375) (Operand.const (Value.bool false)), type := 4, pos := "law.go:173", after := #[{ on := 19, ground := Ground.data }, { on := 28, ground := Ground.data }, { on := 16, ground := Ground.guard }], guard := some (16, false) }) (v := undef) rfl (by kernel_rfl) (by kernel_rfl) (by kernel_rfl) (fun _ _ _ h => h) (Or.inr ⟨by kernel_rfl, rfl⟩) hS.out ?_
      simp only [Act.put, List.setIfInBounds_toArray, List.set_cons_zero, List.set_cons_succ]
      refine wpAnyH_take (i := 30) (oi := { dst := some 377, op := Op.move (Operand.tmp 376), type := 4, pos := "law.go:173", after := #[{ on := 29, ground := Ground.data }, { on := 19, ground := Ground.chain }, { on := 16, ground := Ground.guard }], guard := some (16, false) }) (v := undef) rfl (by kernel_rfl) (by kernel_rfl) (by kernel_rfl) (fun _ _ _ h => h) (Or.inr ⟨by kernel_rfl, rfl⟩) hS.out ?_
      simp only [Act.put, List.setIfInBounds_toArray, List.set_cons_zero, List.set_cons_succ]
      refine wpAnyH_take (i := 31) (oi := { dst := some 378, op := Op.move (Operand.tmp 43), type := 3, pos := "law.go:173", after := #[{ on := 30, ground := Ground.guard }, { on := 43, ground := Ground.gcOnly Departure.lateStores }], guard := some (30, true) }) (v := undef) rfl (by kernel_rfl) (by kernel_rfl) (by kernel_rfl) (fun _ _ _ h => h) (Or.inr ⟨by kernel_rfl, rfl⟩) hS.out ?_
      simp only [Act.put, List.setIfInBounds_toArray, List.set_cons_zero, List.set_cons_succ]
      refine wpAnyH_take (i := 32) (oi := { dst := some 379, op := Op.move (Operand.tmp 0), type := 32, pos := "law.go:173", after := #[{ on := 30, ground := Ground.guard }, { on := 43, ground := Ground.gcOnly Departure.lateStores }], guard := some (30, true) }) (v := undef) rfl (by kernel_rfl) (by kernel_rfl) (by kernel_rfl) (fun _ _ _ h => h) (Or.inr ⟨by kernel_rfl, rfl⟩) hS.out ?_
      simp only [Act.put, List.setIfInBounds_toArray, List.set_cons_zero, List.set_cons_succ]
      refine wpAnyH_take (i := 33) (oi := { dst := some 380, op := Op.move (Operand.tmp 40), type := 3, pos := "law.go:173", after := #[{ on := 30, ground := Ground.guard }, { on := 43, ground := Ground.gcOnly Departure.lateStores }], guard := some (30, true) }) (v := undef) rfl (by kernel_rfl) (by kernel_rfl) (by kernel_rfl) (fun _ _ _ h => h) (Or.inr ⟨by kernel_rfl, rfl⟩) hS.out ?_
      simp only [Act.put, List.setIfInBounds_toArray, List.set_cons_zero, List.set_cons_succ]
      refine wpAnyH_take (i := 34) (oi := { dst := some 381, op := Op.nilCheck (Operand.tmp 379), type := 0, pos := "law.go:173", after := #[{ on := 32, ground := Ground.data }, { on := 30, ground := Ground.guard }, { on := 43, ground := Ground.gcOnly Departure.lateStores }], guard := some (30, true) }) (v := undef) rfl (by kernel_rfl) (by kernel_rfl) (by kernel_rfl) (fun _ _ _ h => h) (Or.inr ⟨by kernel_rfl, rfl⟩) hS.out ?_
      simp only [Act.put, List.setIfInBounds_toArray, List.set_cons_zero, List.set_cons_succ]
      refine wpAnyH_take (i := 35) (oi := { dst := some 382, op := Op.fieldAddr 37 (Operand.tmp 381) 2, type := 0, pos := "law.go:173", after := #[{ on := 34, ground := Ground.data }, { on := 30, ground := Ground.guard }, { on := 43, ground := Ground.gcOnly Departure.lateStores }], guard := some (30, true) }) (v := undef) rfl (by kernel_rfl) (by kernel_rfl) (by kernel_rfl) (fun _ _ _ h => h) (Or.inr ⟨by kernel_rfl, rfl⟩) hS.out ?_
      simp only [Act.put, List.setIfInBounds_toArray, List.set_cons_zero, List.set_cons_succ]
      refine wpAnyH_take (i := 36) (oi := { dst := some 383, op := Op.indexAddr 35 (Operand.tmp 382) (Operand.tmp 380), type := 0, pos := "law.go:173", after := #[{ on := 35, ground := Ground.data }, { on := 33, ground := Ground.data }, { on := 30, ground := Ground.guard }, { on := 43, ground := Ground.gcOnly Departure.lateStores }], guard := some (30, true) }) (v := undef) rfl (by kernel_rfl) (by kernel_rfl) (by kernel_rfl) (fun _ _ _ h => h) (Or.inr ⟨by kernel_rfl, rfl⟩) hS.out ?_
      simp only [Act.put, List.setIfInBounds_toArray, List.set_cons_zero, List.set_cons_succ]
      refine wpAnyH_take (i := 37) (oi := { dst := some 384, op := Op.fieldAddr 34 (Operand.tmp 383) 4, type := 0, pos := "law.go:173", after := #[{ on := 36, ground := Ground.data }, { on := 30, ground := Ground.guard }, { on := 43, ground := Ground.gcOnly Departure.lateStores }], guard := some (30, true) }) (v := undef) rfl (by kernel_rfl) (by kernel_rfl) (by kernel_rfl) (fun _ _ _ h => h) (Or.inr ⟨by kernel_rfl, rfl⟩) hS.out ?_
      simp only [Act.put, List.setIfInBounds_toArray, List.set_cons_zero, List.set_cons_succ]
      refine wpAnyH_take (i := 38) (oi := { dst := some 385, op := Op.load 3 (Operand.tmp 384), type := 3, pos := "law.go:173", after := #[{ on := 37, ground := Ground.data }, { on := 30, ground := Ground.guard }, { on := 43, ground := Ground.gcOnly Departure.lateStores }], guard := some (30, true) }) (v := undef) rfl (by kernel_rfl) (by kernel_rfl) (by kernel_rfl) (fun _ _ _ h => h) (Or.inr ⟨by kernel_rfl, rfl⟩) hS.out ?_
      simp only [Act.put, List.setIfInBounds_toArray, List.set_cons_zero, List.set_cons_succ]
      refine wpAnyH_take (i := 39) (oi := { dst := some 386, op := Op.binOp BinOp.eql 3 (Operand.tmp 378) (Operand.tmp 385) 3, type := 4, pos := "law.go:173", after := #[{ on := 31, ground := Ground.data }, { on := 38, ground := Ground.data }, { on := 30, ground := Ground.guard }, { on := 43, ground := Ground.gcOnly Departure.lateStores }], guard := some (30, true) }) (v := undef) rfl (by kernel_rfl) (by kernel_rfl) (by kernel_rfl) (fun _ _ _ h => h) (Or.inr ⟨by kernel_rfl, rfl⟩) hS.out ?_
      simp only [Act.put, List.setIfInBounds_toArray, List.set_cons_zero, List.set_cons_succ]
      refine wpAnyH_take (i := 40) (oi := { dst := some 387, op := Op.pick (Operand.tmp 377) (Operand.tmp 386) (Operand.const (Value.bool false)), type := 4, pos := "law.go:173", after := #[{ on := 30, ground := Ground.data }, { on := 39, ground := Ground.data }, { on := 16, ground := Ground.guard }, { on := 43, ground := Ground.gcOnly Departure.lateStores }], guard := some (16, false) }) (v := undef) rfl (by kernel_rfl) (by kernel_rfl) (by kernel_rfl) (fun _ _ _ h => h) (Or.inr ⟨by kernel_rfl, rfl⟩) hS.out ?_
      simp only [Act.put, List.setIfInBounds_toArray, List.set_cons_zero, List.set_cons_succ]
      refine wpAnyH_take (i := 41) (oi := { dst := some 388, op := Op.pick (Operand.tmp 363) (Operand.const (Value.bool true)) (Operand.tmp 387), type := 4, pos := "law.go:173", after := #[{ on := 16, ground := Ground.data }, { on := 40, ground := Ground.data }, { on := 5, ground := Ground.guard }, { on := 43, ground := Ground.gcOnly Departure.lateStores }], guard := some (5, true) }) (v := (.bool true)) rfl (by kernel_rfl) (by kernel_rfl) (by kernel_rfl) (fun _ _ _ h => h) (Or.inl ⟨by kernel_rfl, fun w hC => by go_simp⟩) hS.out ?_
      simp only [Act.put, List.setIfInBounds_toArray, List.set_cons_zero, List.set_cons_succ]
      refine wpAnyH_take (i := 42) (oi := { dst := some 389, op := Op.pick (Operand.tmp 352) (Operand.tmp 388) (Operand.const (Value.bool false)), type := 4, pos := "law.go:173", after := #[{ on := 5, ground := Ground.data }, { on := 41, ground := Ground.data }, { on := 43, ground := Ground.gcOnly Departure.lateStores }], guard := none }) (v := (.bool true)) rfl (by kernel_rfl) (by kernel_rfl) (by kernel_rfl) (fun _ _ _ h => h) (Or.inl ⟨by kernel_rfl, fun w hC => by go_simp⟩) hS.out ?_
      simp only [Act.put, List.setIfInBounds_toArray, List.set_cons_zero, List.set_cons_succ]
      refine wpAnyH_take (i := 43) (oi := { dst := some 8, op := Op.assign (Operand.tmp 347), type := 38, pos := "law.go:173", after := #[{ on := 0, ground := Ground.data }, { on := 30, ground := Ground.chain }, { on := 0, ground := Ground.phase }, { on := 1, ground := Ground.textOnly Departure.lateStores }, { on := 2, ground := Ground.textOnly Departure.lateStoresUnsure }, { on := 3, ground := Ground.textOnly Departure.lateStores }, { on := 4, ground := Ground.textOnly Departure.lateStores }, { on := 5, ground := Ground.textOnly Departure.lateStores }, { on := 6, ground := Ground.textOnly Departure.lateStores }, { on := 7, ground := Ground.textOnly Departure.lateStores }, { on := 8, ground := Ground.textOnly Departure.lateStores }, { on := 9, ground := Ground.textOnly Departure.lateStores }, { on := 10, ground := Ground.textOnly Departure.lateStores }, { on := 11, ground := Ground.textOnly Departure.lateStores }, { on := 12, ground := Ground.textOnly Departure.lateStores }, { on := 13, ground := Ground.textOnly Departure.lateStores }, { on := 14, ground := Ground.textOnly Departure.lateStores }, { on := 15, ground := Ground.textOnly Departure.lateStores }, { on := 16, ground := Ground.textOnly Departure.lateStores }, { on := 17, ground := Ground.textOnly Departure.lateStores }, { on := 18, ground := Ground.textOnly Departure.lateStores }, { on := 19, ground := Ground.textOnly Departure.lateStores }, { on := 20, ground := Ground.textOnly Departure.lateStores }, { on := 21, ground := Ground.textOnly Departure.lateStores }, { on := 22, ground := Ground.textOnly Departure.lateStores }, { on := 23, ground := Ground.textOnly Departure.lateStores }, { on := 24, ground := Ground.textOnly Departure.lateStores }, { on := 25, ground := Ground.textOnly Departure.lateStores }, { on := 26, ground := Ground.textOnly Departure.lateStores }, { on := 27, ground := Ground.textOnly Departure.lateStores }, { on := 28, ground := Ground.textOnly Departure.lateStores }, { on := 29, ground := Ground.textOnly Departure.lateStores }, { on := 30, ground := Ground.textOnly Departure.lateStores }, { on := 31, ground := Ground.textOnly Departure.lateStores }, { on := 32, ground := Ground.textOnly Departure.lateStores }, { on := 33, ground := Ground.textOnly Departure.lateStores }, { on := 34, ground := Ground.textOnly Departure.lateStores }, { on := 35, ground := Ground.textOnly Departure.lateStores }, { on := 36, ground := Ground.textOnly Departure.lateStores }, { on := 37, ground := Ground.textOnly Departure.lateStores }, { on := 38, ground := Ground.textOnly Departure.lateStores }, { on := 39, ground := Ground.textOnly Departure.lateStores }, { on := 40, ground := Ground.textOnly Departure.lateStores }, { on := 41, ground := Ground.textOnly Departure.lateStores }, { on := 42, ground := Ground.textOnly Departure.lateStores }], guard := none }) (v := (.slice ao n cap)) rfl (by kernel_rfl) (by kernel_rfl) (by kernel_rfl) (fun _ _ _ h => h) (Or.inl ⟨by kernel_rfl, fun w hC => by go_simp⟩) hS.out ?_
      simp only [Act.put, List.setIfInBounds_toArray, List.set_cons_zero, List.set_cons_succ]
      refine wpAnyH_take (i := 44) (oi := { dst := some 9, op := Op.assign (Operand.tmp 389), type := 4, pos := "law.go:173", after := #[{ on := 42, ground := Ground.data }, { on := 43, ground := Ground.chain }, { on := 0, ground := Ground.phase }, { on := 1, ground := Ground.phase }, { on := 2, ground := Ground.phase }, { on := 3, ground := Ground.phase }, { on := 4, ground := Ground.phase }, { on := 5, ground := Ground.phase }, { on := 6, ground := Ground.phase }, { on := 7, ground := Ground.phase }, { on := 8, ground := Ground.phase }, { on := 9, ground := Ground.phase }, { on := 10, ground := Ground.phase }, { on := 11, ground := Ground.phase }, { on := 12, ground := Ground.phase }, { on := 13, ground := Ground.phase }, { on := 14, ground := Ground.phase }, { on := 15, ground := Ground.phase }, { on := 16, ground := Ground.phase }, { on := 17, ground := Ground.phase }, { on := 18, ground := Ground.phase }, { on := 19, ground := Ground.phase }, { on := 20, ground := Ground.phase }, { on := 21, ground := Ground.phase }, { on := 22, ground := Ground.phase }, { on := 23, ground := Ground.phase }, { on := 24, ground := Ground.phase }, { on := 25, ground := Ground.phase }, { on := 26, ground := Ground.phase }, { on := 27, ground := Ground.phase }, { on := 28, ground := Ground.phase }, { on := 29, ground := Ground.phase }, { on := 30, ground := Ground.phase }, { on := 31, ground := Ground.phase }, { on := 32, ground := Ground.phase }, { on := 33, ground := Ground.phase }, { on := 34, ground := Ground.phase }, { on := 35, ground := Ground.phase }, { on := 36, ground := Ground.phase }, { on := 37, ground := Ground.phase }, { on := 38, ground := Ground.phase }, { on := 39, ground := Ground.phase }, { on := 40, ground := Ground.phase }, { on := 41, ground := Ground.phase }, { on := 42, ground := Ground.phase }, { on := 43, ground := Ground.phase }], guard := none }) (v := (.bool true)) rfl (by kernel_rfl) (by kernel_rfl) (by kernel_rfl) (fun _ _ _ h => h) (Or.inl ⟨by kernel_rfl, fun w hC => by go_simp⟩) hS.out ?_
      simp only [Act.put, List.setIfInBounds_toArray, List.set_cons_zero, List.set_cons_succ]
      refine wpAnyH_done (by kernel_rfl) ?_ _
      go_wp2
      go_ret2
      exact ⟨K.t, K.es, T, .slice ao n cap, L, rfl, HD5.out.bo, HD5.out.row, HSK.out, HGL.out, HPW.out⟩

end Go.Proofs.YtgcmompldcnhlaaDoor
