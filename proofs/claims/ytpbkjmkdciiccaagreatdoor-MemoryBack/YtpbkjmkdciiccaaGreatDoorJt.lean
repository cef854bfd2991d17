/-
  The walk of MemoryBack.
-/
import Derived.Test.YtpbkjmkdciiccaaGreatDoorJs
import Derived.Lib.MinMax
import Derived.Laws.Concat
namespace Go.Proofs.YtpbkjmkdciiccaaGreatDoor
section
open Go.RowKit
theorem str_size (l : List UInt8) : (str l).size = l.length := by simp [str, ByteArray.size]
theorem add_str {P : Program} (a b : List UInt8) (h : a.length + b.length ≤ 9223372036854775807) (w : World) : (Op.stringOp .add (str a) (str b)).run P w = .ok (.string (str (a ++ b))) w := by
  rw [run_string_add_sum (P := P) (w := w) (str a) (str b) (by rw [str_size, str_size]; exact h)]
  congr 2
theorem add_zero {P : Program} (i : Nat) (h : i ≤ 256) (w : World) : (Op.stringOp .add (str (zeros i)) { data := #[0] }).run P w = .ok (.string (str (zeros (i + 1)))) w := by
  have := add_str (P := P) (zeros i) [0] (by rw [zeros_len]; show i + 1 ≤ _; omega) w
  rw [show zeros i ++ [0] = zeros (i + 1) from by unfold zeros; rw [List.replicate_succ']] at this
  exact this
theorem dat_ok (c : Cp) (ar : Nat) (d : List UInt8) (s : Hs) : datF ⟨0, c, ar, d, s⟩ [] = d := rfl
theorem bk_rb0 {n : Nat} (hn : n ≤ 256) (f : Nat) (d : List UInt8) : outF bkW 1 (bkS 3 bkT2 (bL3 n f d)) 101 bkB (0 * 4294967296 + n) [] = ⟨0, Cp.zero, 0, zeros n, bkS 3 bkT2 (bL3 n f d)⟩ := by
  rw [Nat.zero_mul, Nat.zero_add]; exact bk_rb hn f d
theorem bk_rc0 {n : Nat} (hn : n ≤ 256) (f : Nat) (d : List UInt8) : outF bkW 1 (bkS 4 bkT4 (bL5 n f d)) 101 bkC (0 * 4294967296 + n) [] = ⟨0, Cp.zero, 0, zeros n, bkS 4 bkT4 (bL5 n f d)⟩ := by
  rw [Nat.zero_mul, Nat.zero_add]; exact bk_rc hn f d
def ZerRel (n : Nat) (W : World) (gk : Nat) (vs vi : Value) (wr : World) : Prop := ∃ i : Nat, i + gk = n ∧ vs = .string (str (zeros i)) ∧ vi = .int .i64 (i : Int) ∧ wr = W
set_option maxRecDepth 20000 in
set_option maxHeartbeats 12800000 in
theorem walk_back (size at0 : Nat) (ao : Option Addr) (n0 c0 : Nat) (l : List UInt8) (w : World) (hb : Bts w ao n0 c0 l) (hlow : 0 < n0 → ∀ ad, ao = some ad → ad.block < w.heap.size) (hs : size ≤ 255) (ha : at0 ≤ 255) (hg : Glob w) :
    Calls Tryz.prog 5 #[.int .u8 (size : Int), .int .u8 (at0 : Int), .slice ao n0 c0] w fun e w' => e = .returned (.bool true) ∧ Below w.heap.size w w' := by
  have HG := hide hg
  have HB := hide hb
  obtain ⟨n, hn⟩ : ∃ n, 1 + size = n := ⟨_, rfl⟩
  have hn256 : n ≤ 256 := by omega
  have hn1 : 1 ≤ n := by omega
  have hws : IntKind.i64.wrap (size : Int) = (size : Int) := by rw [IntKind.wrap_i64]; omega
  have hadd : (1 : Int) + (size : Int) = (n : Int) := by omega
  have hwn : IntKind.i64.wrap (n : Int) = (n : Int) := by rw [IntKind.wrap_i64]; omega
  obtain ⟨len, hlen⟩ : ∃ len, min n0 n = len := ⟨_, rfl⟩
  have hmin : min (n0 : Int) (n : Int) = (len : Int) := by rw [← hlen]; omega
  have hl1 : len ≤ n0 := by omega
  have hl2 : len ≤ n := by omega
  have hcap : c0 ≤ 9223372036854775807 := hb.2.2.1
  have hn0 : n0 ≤ c0 := hb.2.1
  have hcut : ∀ W : World, (Instr.slice 23 (.slice ao n0 c0) none (some (.int .i64 (len : Int))) none).run Tryz.prog W = .ok (.slice ao len c0) W := fun W => cut_head W ao n0 c0 len (by omega)
  have HBD : Hid (Bts w ao len c0 (l.take len)) := hb.head len hl1
  have HDL : Hid ((l.take len).length = len) := HBD.out.1.symm
  have HDT : Hid (Dat w.heap.size w len ao) := fun hp ad e => .inl (hlow (by omega) ad e)
  obtain ⟨d, hd⟩ : ∃ d, l.take len = d := ⟨_, rfl⟩
  rw [hd] at HBD HDL
  obtain ⟨f, hf⟩ : ∃ f, at0 % (n - len + 1) = f := ⟨_, rfl⟩
  have hf1 : f + len ≤ n := by have := Nat.mod_lt at0 (show 0 < n - len + 1 by omega); omega
  have hf2 : f ≤ 256 := by omega
  obtain ⟨q, hq⟩ : ∃ q, n - len + 1 = q := ⟨_, rfl⟩
  have hwa : IntKind.i64.wrap (at0 : Int) = (at0 : Int) := by rw [IntKind.wrap_i64]; omega
  obtain ⟨q0, hq0⟩ : ∃ q0, n - len = q0 := ⟨_, rfl⟩
  have hsub : (n : Int) - (len : Int) = (q0 : Int) := by omega
  have hwq0 : IntKind.i64.wrap (q0 : Int) = (q0 : Int) := by rw [IntKind.wrap_i64]; omega
  have hq1 : (q0 : Int) + 1 = (q : Int) := by omega
  have hwq : IntKind.i64.wrap (q : Int) = (q : Int) := by rw [IntKind.wrap_i64]; omega
  have hqn : ¬ ((q : Int) = 0) := by omega
  have hqb : ((q : Int) == 0) = false := by simp; omega
  have hrem : (at0 : Int).tmod (q : Int) = (f : Int) := by rw [Int.tmod_eq_emod_of_nonneg (by omega), ← hf, hq]; omega
  have hrem2 : (at0 : Int) % (q : Int) = (f : Int) := by rw [← hf, hq]; omega
  have hwf : IntKind.i64.wrap (f : Int) = (f : Int) := by rw [IntKind.wrap_i64]; omega
  have hwuf : IntKind.u64.wrap (f : Int) = (f : Int) := by rw [IntKind.wrap_u64]; omega
  have HN := hide hn256
  have HN1 := hide hn1
  have HF1 := hide hf1
  have HF2 := hide hf2
  have HL2 := hide hl2
  clear hg hb hlow hn hlen hl1 hl2 hd hf hq hq0 hs ha hn256 hn1 hf1 hf2
  go_enter Tryz.func5, Tryz.ntmps5
  go_wp2_with fail
  refine (awake_any _ HG.out).mono ?_; rintro e w1 ⟨rfl, b1⟩
  have HB1 := hide b1
  clear b1
  go_wp2_with fail
  refine (of_any _ _ _ bkW _ (u64s_bk w1) (by omega)).mono ?_; rintro e x1 ⟨ta, th, tk, rfl, TA, _, ha, hh2, bel⟩
  rw [cut_bkW] at TA
  have HT := hide TA
  have HTA := hide ha
  have HTH := hide hh2
  have HBE := hide bel
  clear TA bel ha hh2
  go_wp2_with fail
  refine (oof_any _ ⟨_, rfl⟩ _).mono ?_; rintro e x2 ⟨go, gm, rfl, O2, bel2⟩
  have HS3 := hide (Tk.made (below_one HB1.out (below_alloc w1 _)) HT.out HTA.out HTH.out HBE.out O2 bel2)
  clear O2 bel2 HT HBE HTA HTH
  go_wp2_with fail
  refine (tof_new 1 _).mono ?_; rintro e x3 ⟨rfl, T4, b4⟩
  have HO4 := hide (Od.make HS3.out T4 b4)
  obtain ⟨g, hgg⟩ : ∃ g, x2.heap.size = g := ⟨_, rfl⟩
  rw [hgg] at HO4 ⊢
  clear T4 b4 HS3 hgg
  go_wp2_with fail
  refine (mem_yes 30 30 (by decide) (by omega) _ HO4.out (by show 0 ≤ _; omega) bk0 rfl bk0_e).mono ?_; rintro e x4 ⟨rr, rfl, A, hA, -, -, -, hAh, -, -, hAN, -, hAb, X4, S4, F4⟩
  rw [bk0_c]
  simp only [bkR, Cp.val]
  rw [bk0_s] at X4
  have HX4 := hide X4
  have HS4 := hide S4
  clear F4 X4 S4 HO4 hA hAh hAN hAb
  have hup : ∀ j, SvS A j → j < x4.heap.size := fun j e => (HX4.out.up e).2
  have HUP := hide hup
  go_upto_region 4 with fail
  obtain ⟨Y1, hY1⟩ : ∃ Y, x4.alloc (.cells #[.pointer (some ⟨rr, 0, none⟩)] 33) = Y := ⟨_, rfl⟩
  have q1 : Y1.heap[x4.heap.size]? = some (.cells #[.pointer (some ⟨rr, 0, none⟩)] 33 (0, 0)) := hY1 ▸ heap_alloc_new _ _
  have z1 : Y1.heap.size = x4.heap.size + 1 := by rw [← hY1]; simp
  have b1 : Below x4.heap.size x4 Y1 := hY1 ▸ below_alloc _ _
  rw [hY1]
  obtain ⟨Y2, hY2⟩ : ∃ Y, Y1.alloc (.cells #[.int .u64 1, .int .u32 0, .int .u8 255, .int .u64 1] 36) = Y := ⟨_, rfl⟩
  have q2 : CBox Y2 Y1.heap.size 1 0 255 1 := hY2 ▸ CBox.new Y1 1 0 255 1
  have z2 : Y2.heap.size = Y1.heap.size + 1 := by rw [← hY2]; simp
  have b2 : Below Y1.heap.size Y1 Y2 := hY2 ▸ below_alloc _ _
  rw [hY2]
  go_upto_region 5 with fail
  obtain ⟨Y3, hY3⟩ : ∃ Y, Y2.alloc (.cells #[.int .i64 (n : Int)] 3) = Y := ⟨_, rfl⟩
  have q3 : Y3.heap[Y2.heap.size]? = some (.cells #[.int .i64 (n : Int)] 3 (0, 0)) := hY3 ▸ heap_alloc_new _ _
  have b3 : Below Y2.heap.size Y2 Y3 := hY3 ▸ below_alloc _ _
  rw [hY3]
  rw [z1] at q2 z2
  rw [z2] at q3
  try rw [z2]
  obtain ⟨bs, hbs⟩ : ∃ k, x4.heap.size = k := ⟨_, rfl⟩
  obtain ⟨br, hbr⟩ : ∃ k, bs + 1 = k := ⟨_, rfl⟩
  obtain ⟨bn, hbn⟩ : ∃ k, bs + 1 + 1 = k := ⟨_, rfl⟩
  rw [hbs] at q1 q2 q3
  rw [hbn] at q3
  rw [hbr] at q2
  have HK : Hid (Bk w Y3 A rr bs br bn n (bkS 1 bkT0 L0)) := ⟨((HS4.out.grow b1).grow b2).grow b3, ((HX4.out.grow b1).grow b2).grow b3, (b3.block _ (lt_of_heap ((b2.block _ (lt_of_heap q1)).trans q1))).trans ((b2.block _ (lt_of_heap q1)).trans q1), q2.grow b3, q3, fun e => by have := HUP.out _ e; omega⟩
  have hc3 := HK.out.c
  have HBW : Hid (Below w.heap.size w Y3) := HK.out.x.bel
  try rw [show bs + 2 = bn from hbn]
  try rw [hbs]
  try rw [hbn]
  try rw [hbr]
  clear q1 q2 q3 b1 b2 b3 z1 z2 hY1 hY2 hY3 HUP HS4 HX4 hbs hbr hbn hup
  obtain ⟨e0, e1, e2, e3, e4, e5⟩ := hc3
  go_wp2_with fail
  have h5 := mk_any _ HK.out HN.out (by show 0 < _; omega) HG.out _ (bk_m1 HN.out)
  refine h5.mono ?_; clear h5; rintro e x5 ⟨m5, co5, n5, cc5, A5, rfl, hm5, X5, K5⟩
  have hm5 : m5 = ⟨0, 0, 0, 100, 0, 1, 1, 255, 2, 0⟩ := hm5
  subst hm5
  have HK := hide X5
  clear X5 K5 e0 e1 e2 e3 e4 e5
  obtain ⟨e0, e1, e2, e3, e4, e5⟩ := HK.out.c
  go_wp2_with fail
  have h6 := mk_any _ HK.out HN.out (by show 0 < _; omega) HG.out _ (bk_m2 HN.out)
  refine h6.mono ?_; clear h6; rintro e x6 ⟨m6, co6, n6, cc6, A6, rfl, hm6, X6, K6⟩
  have hm6 : m6 = ⟨0, 0, 0, 100, 0, 1, 2, 255, 3, 0⟩ := hm6
  subst hm6
  have HK := hide X6
  clear X6 K6 e0 e1 e2 e3 e4 e5
  go_upto_region 10 with fail
  obtain ⟨Ya, hYa⟩ : ∃ Y, x6.alloc (.cells #[.int .u64 0, .int .u64 0, .int .u32 0, .int .u16 100, .int .u16 0, .int .u64 1, .int .u32 1, .int .u8 255, .int .u64 2, .int .u64 0, .slice co5 n5 cc5] 53) = Y := ⟨_, rfl⟩
  have bYa : Below x6.heap.size x6 Ya := hYa ▸ below_alloc _ _
  have zYa : Ya.heap.size = x6.heap.size + 1 := by rw [← hYa]; simp
  have HA : Hid (MB Ya x6.heap.size ⟨0, 0, 0, 100, 0, 1, 1, 255, 2, 0⟩ (.slice co5 n5 cc5)) := by show MB _ _ _ _; rw [← hYa]; exact heap_alloc_new _ _
  rw [hYa]
  have HK := hide (HK.out.grow bYa)
  obtain ⟨Yb, hYb⟩ : ∃ Y, Ya.alloc (.cells #[.int .u64 0, .int .u64 0, .int .u32 0, .int .u16 100, .int .u16 0, .int .u64 1, .int .u32 2, .int .u8 255, .int .u64 3, .int .u64 0, .slice co6 n6 cc6] 53) = Y := ⟨_, rfl⟩
  have bYb : Below Ya.heap.size Ya Yb := hYb ▸ below_alloc _ _
  have zYb : Yb.heap.size = Ya.heap.size + 1 := by rw [← hYb]; simp
  have HBB : Hid (MB Yb Ya.heap.size ⟨0, 0, 0, 100, 0, 1, 2, 255, 3, 0⟩ (.slice co6 n6 cc6)) := by show MB _ _ _ _; rw [← hYb]; exact heap_alloc_new _ _
  rw [hYb]
  have HK := hide (HK.out.grow bYb)
  have HA := hide (HA.out.grow bYb)
  rw [zYa] at HBB
  obtain ⟨ga, hga⟩ : ∃ k, x6.heap.size = k := ⟨_, rfl⟩
  obtain ⟨gb, hgb⟩ : ∃ k, ga + 1 = k := ⟨_, rfl⟩
  rw [hga] at HA HBB
  rw [hgb] at HBB
  rw [hga]
  try rw [hgb]
  clear hYa hYb bYa bYb zYa zYb hga hgb
  obtain ⟨e0, e1, e2, e3, e4, e5⟩ := HK.out.c
  have hca : (Yb.cell? ⟨ga, 0, none⟩ = some (.int .u64 0) ∧ Yb.cell? ⟨ga, 1, none⟩ = some (.int .u64 0) ∧ Yb.cell? ⟨ga, 2, none⟩ = some (.int .u32 0) ∧ Yb.cell? ⟨ga, 3, none⟩ = some (.int .u16 100) ∧ Yb.cell? ⟨ga, 4, none⟩ = some (.int .u16 0) ∧ Yb.cell? ⟨ga, 5, none⟩ = some (.int .u64 1) ∧ Yb.cell? ⟨ga, 6, none⟩ = some (.int .u32 1) ∧ Yb.cell? ⟨ga, 7, none⟩ = some (.int .u8 255) ∧ Yb.cell? ⟨ga, 8, none⟩ = some (.int .u64 2) ∧ Yb.cell? ⟨ga, 9, none⟩ = some (.int .u64 0) ∧ Yb.cell? ⟨ga, 10, none⟩ = some (.slice co5 n5 cc5)) := HA.out.all
  obtain ⟨a0, a1, a2, a3, a4, a5, a6, a7, a8, a9, a10⟩ := hca
  go_wp2_with fail
  have h7 := bkask_any 102 (f) bkA ao len c0 d _ HK.out (HBD.out.carry HK.out.x.bel) ⟨by show 1 ≤ _; omega, by show 1 ≤ _; omega, by show 255 ≤ _; omega, by show 2 ≤ _; omega⟩ (by have := HL2.out; have := HN.out; omega) (HDT.out.grow HK.out.x.bel) (by omega) (by have := HF2.out; omega) (by show 0 < _; omega) HG.out _ (bk_write f d (by rw [HDL.out]; exact HF1.out) HN.out) 102 (f : Int) 1 1 255 2 rfl rfl rfl rfl rfl rfl
  refine h7.mono ?_; clear h7; rintro e x7 ⟨m7, co7, n7, cc7, A7, rfl, hm7, B7, X7, K7⟩
  have hm7 : m7 = ⟨0, 0, 0, 102, 0, 0, 0, 0, 0, 0⟩ := hm7
  subst hm7
  have HK := hide X7
  have HA := hide (HA.out.kh K7)
  have HBB := hide (HBB.out.kh K7)
  clear B7 X7 K7
  clear e0 e1 e2 e3 e4 e5 a0 a1 a2 a3 a4 a5 a6 a7 a8 a9 a10
  go_upto_region 11 with fail
  obtain ⟨Yw, hYw⟩ : ∃ Y, x7.alloc (.cells #[.int .u64 0, .int .u64 0, .int .u32 0, .int .u16 102, .int .u16 0, .int .u64 0, .int .u32 0, .int .u8 0, .int .u64 0, .int .u64 0, .slice co7 n7 cc7] 53) = Y := ⟨_, rfl⟩
  have bYw : Below x7.heap.size x7 Yw := hYw ▸ below_alloc _ _
  have zYw : Yw.heap.size = x7.heap.size + 1 := by rw [← hYw]; simp
  have HWW : Hid (MB Yw x7.heap.size ⟨0, 0, 0, 102, 0, 0, 0, 0, 0, 0⟩ (.slice co7 n7 cc7)) := by show MB _ _ _ _; rw [← hYw]; exact heap_alloc_new _ _
  rw [hYw]
  have HK := hide (HK.out.grow bYw)
  have HA := hide (HA.out.grow bYw)
  have HBB := hide (HBB.out.grow bYw)
  obtain ⟨gw, hgw⟩ : ∃ k, x7.heap.size = k := ⟨_, rfl⟩
  rw [hgw] at HWW
  try rw [hgw]
  clear hYw bYw zYw hgw
  obtain ⟨e0, e1, e2, e3, e4, e5⟩ := HK.out.c
  go_wp2_with fail
  go_loopg [17, 18] n (fun gk vs vi wr => ZerRel n Yw gk vs vi wr)
  case atStart => exact ⟨0, by omega, rfl, rfl, rfl⟩
  case round =>
    obtain ⟨i, hi, rfl, rfl, rfl⟩ := hrel
    cases gk with
    | succ g1 =>
      have hlt : (i : Int) < (n : Int) := by omega
      have hnb : n ≤ 256 := HN.out
      have hi0 : (0 : Int) ≤ (i : Int) := by omega
      have hzs := fun W => add_zero (P := Tryz.prog) i (by have := HN.out; omega) W
      go_wp2_with fail
      go_roundg g1
      case measure => omega
      case rel => exact ⟨i + 1, by omega, rfl, by have := HN.out; go_num, rfl⟩
    | zero =>
      obtain rfl : n = i := by omega
      have hlt : ¬ ((n : Int) < (n : Int)) := by omega
      have HA := hide (show MB wr.drew ga _ _ from HA.out)
      have HBB := hide (show MB wr.drew gb _ _ from HBB.out)
      have HWW := hide (show MB wr.drew gw _ _ from HWW.out)
      have HK := hide (HK.out.drewN 1)
      go_upto_region 16 with fail
      have hS : Hid ((((wr.drew.cell? ⟨ga, 0, none⟩ = some (.int .u64 0) ∧ wr.drew.cell? ⟨ga, 1, none⟩ = some (.int .u64 0) ∧ wr.drew.cell? ⟨ga, 2, none⟩ = some (.int .u32 0) ∧ wr.drew.cell? ⟨ga, 3, none⟩ = some (.int .u16 100) ∧ wr.drew.cell? ⟨ga, 4, none⟩ = some (.int .u16 0) ∧ wr.drew.cell? ⟨ga, 5, none⟩ = some (.int .u64 1) ∧ wr.drew.cell? ⟨ga, 6, none⟩ = some (.int .u32 1) ∧ wr.drew.cell? ⟨ga, 7, none⟩ = some (.int .u8 255) ∧ wr.drew.cell? ⟨ga, 8, none⟩ = some (.int .u64 2) ∧ wr.drew.cell? ⟨ga, 9, none⟩ = some (.int .u64 0) ∧ wr.drew.cell? ⟨ga, 10, none⟩ = some (.slice co5 n5 cc5)) ∧ (wr.drew.cell? ⟨gb, 0, none⟩ = some (.int .u64 0) ∧ wr.drew.cell? ⟨gb, 1, none⟩ = some (.int .u64 0) ∧ wr.drew.cell? ⟨gb, 2, none⟩ = some (.int .u32 0) ∧ wr.drew.cell? ⟨gb, 3, none⟩ = some (.int .u16 100) ∧ wr.drew.cell? ⟨gb, 4, none⟩ = some (.int .u16 0) ∧ wr.drew.cell? ⟨gb, 5, none⟩ = some (.int .u64 1) ∧ wr.drew.cell? ⟨gb, 6, none⟩ = some (.int .u32 2) ∧ wr.drew.cell? ⟨gb, 7, none⟩ = some (.int .u8 255) ∧ wr.drew.cell? ⟨gb, 8, none⟩ = some (.int .u64 3) ∧ wr.drew.cell? ⟨gb, 9, none⟩ = some (.int .u64 0) ∧ wr.drew.cell? ⟨gb, 10, none⟩ = some (.slice co6 n6 cc6))) ∧ wr.drew.cell? ⟨bn, 0, none⟩ = some (.int .i64 (n : Int)))) := ⟨⟨HA.out.all, HBB.out.all⟩, HK.out.c.2.1⟩
      refine wp_region_held_drew (S := fun U => (((U.cell? ⟨ga, 0, none⟩ = some (.int .u64 0) ∧ U.cell? ⟨ga, 1, none⟩ = some (.int .u64 0) ∧ U.cell? ⟨ga, 2, none⟩ = some (.int .u32 0) ∧ U.cell? ⟨ga, 3, none⟩ = some (.int .u16 100) ∧ U.cell? ⟨ga, 4, none⟩ = some (.int .u16 0) ∧ U.cell? ⟨ga, 5, none⟩ = some (.int .u64 1) ∧ U.cell? ⟨ga, 6, none⟩ = some (.int .u32 1) ∧ U.cell? ⟨ga, 7, none⟩ = some (.int .u8 255) ∧ U.cell? ⟨ga, 8, none⟩ = some (.int .u64 2) ∧ U.cell? ⟨ga, 9, none⟩ = some (.int .u64 0) ∧ U.cell? ⟨ga, 10, none⟩ = some (.slice co5 n5 cc5)) ∧ (U.cell? ⟨gb, 0, none⟩ = some (.int .u64 0) ∧ U.cell? ⟨gb, 1, none⟩ = some (.int .u64 0) ∧ U.cell? ⟨gb, 2, none⟩ = some (.int .u32 0) ∧ U.cell? ⟨gb, 3, none⟩ = some (.int .u16 100) ∧ U.cell? ⟨gb, 4, none⟩ = some (.int .u16 0) ∧ U.cell? ⟨gb, 5, none⟩ = some (.int .u64 1) ∧ U.cell? ⟨gb, 6, none⟩ = some (.int .u32 2) ∧ U.cell? ⟨gb, 7, none⟩ = some (.int .u8 255) ∧ U.cell? ⟨gb, 8, none⟩ = some (.int .u64 3) ∧ U.cell? ⟨gb, 9, none⟩ = some (.int .u64 0) ∧ U.cell? ⟨gb, 10, none⟩ = some (.slice co6 n6 cc6))) ∧ U.cell? ⟨bn, 0, none⟩ = some (.int .i64 (n : Int)))) (by kernel_rfl) hS.out (fun _ => ?_)
      refine wpAnyH_take (i := 0) (oi := { dst := some 73, op := Go.Op.move (Go.Operand.tmp 13), type := 67, pos := "law.go:186", after := #[], guard := none }) (v := (.func (Fn.func 22) #[] #[.pointer (some ⟨bs, 0, none⟩)])) rfl (by kernel_rfl) (by kernel_rfl) (by kernel_rfl) (fun _ _ _ h => h) (Or.inl ⟨by kernel_rfl, fun w hC => by go_simp⟩) hS.out ?_
      simp only [Act.put, List.setIfInBounds_toArray, List.set_cons_zero, List.set_cons_succ]
      refine wpAnyH_take (i := 1) (oi := { dst := some 74, op := Go.Op.fieldAddr 53 (Go.Operand.tmp 14) 5, type := 0, pos := "law.go:186", after := #[], guard := none }) (v := (.pointer (some ⟨ga, 5, none⟩))) rfl (by kernel_rfl) (by kernel_rfl) (by kernel_rfl) (fun _ _ _ h => h) (Or.inl ⟨by kernel_rfl, fun w hC => by go_simp⟩) hS.out ?_
      simp only [Act.put, List.setIfInBounds_toArray, List.set_cons_zero, List.set_cons_succ]
      refine wpAnyH_take (i := 2) (oi := { dst := some 75, op := Go.Op.load 36 (Go.Operand.tmp 74), type := 36, pos := "law.go:186", after := #[{ on := 1, ground := Go.Ground.data }], guard := none }) (v := (.agg #[.int .u64 1, .int .u32 1, .int .u8 255, .int .u64 2])) rfl (by kernel_rfl) (by kernel_rfl) (by kernel_rfl) (fun _ _ _ h => h) (Or.inl ⟨by kernel_rfl, fun w hC => by (obtain ⟨⟨⟨k0, k1, k2, k3, k4, k5, k6, k7, k8, k9, k10⟩, -⟩, -⟩ := hC; go_simp)⟩) hS.out ?_
      simp only [Act.put, List.setIfInBounds_toArray, List.set_cons_zero, List.set_cons_succ]
      refine wpAnyH_take (i := 3) (oi := { dst := some 76, op := Go.Op.move (Go.Operand.tmp 11), type := 3, pos := "law.go:186", after := #[], guard := none }) (v := (.int .i64 (f : Int))) rfl (by kernel_rfl) (by kernel_rfl) (by kernel_rfl) (fun _ _ _ h => h) (Or.inl ⟨by kernel_rfl, fun w hC => by go_simp⟩) hS.out ?_
      simp only [Act.put, List.setIfInBounds_toArray, List.set_cons_zero, List.set_cons_succ]
      refine wpAnyH_take (i := 4) (oi := { dst := some 77, op := Go.Op.move (Go.Operand.tmp 2), type := 23, pos := "law.go:186", after := #[], guard := none }) (v := (.slice ao len c0)) rfl (by kernel_rfl) (by kernel_rfl) (by kernel_rfl) (fun _ _ _ h => h) (Or.inl ⟨by kernel_rfl, fun w hC => by go_simp⟩) hS.out ?_
      simp only [Act.put, List.setIfInBounds_toArray, List.set_cons_zero, List.set_cons_succ]
      refine wpAnyH_take (i := 5) (oi := { dst := some 78, op := Go.Op.call { callee := Go.Callee.builtin Go.Builtin.len, args := #[Go.Operand.tmp 77], argTypes := #[23] }, type := 3, pos := "law.go:186", after := #[{ on := 4, ground := Go.Ground.data }], guard := none }) (v := (.int .i64 (len : Int))) rfl (by kernel_rfl) (by kernel_rfl) (by kernel_rfl) (fun _ _ _ h => h) (Or.inl ⟨by kernel_rfl, fun w hC => by go_simp⟩) hS.out ?_
      simp only [Act.put, List.setIfInBounds_toArray, List.set_cons_zero, List.set_cons_succ]
      refine wpAnyH_take (i := 7) (oi := { dst := some 80, op := Go.Op.move (Go.Operand.tmp 13), type := 67, pos := "law.go:186", after := #[], guard := none }) (v := (.func (Fn.func 22) #[] #[.pointer (some ⟨bs, 0, none⟩)])) rfl (by kernel_rfl) (by kernel_rfl) (by kernel_rfl) (fun _ _ _ h => h) (Or.inl ⟨by kernel_rfl, fun w hC => by go_simp⟩) hS.out ?_
      simp only [Act.put, List.setIfInBounds_toArray, List.set_cons_zero, List.set_cons_succ]
      refine wpAnyH_take (i := 8) (oi := { dst := some 81, op := Go.Op.fieldAddr 53 (Go.Operand.tmp 15) 5, type := 0, pos := "law.go:186", after := #[], guard := none }) (v := (.pointer (some ⟨gb, 5, none⟩))) rfl (by kernel_rfl) (by kernel_rfl) (by kernel_rfl) (fun _ _ _ h => h) (Or.inl ⟨by kernel_rfl, fun w hC => by go_simp⟩) hS.out ?_
      simp only [Act.put, List.setIfInBounds_toArray, List.set_cons_zero, List.set_cons_succ]
      refine wpAnyH_take (i := 9) (oi := { dst := some 82, op := Go.Op.load 36 (Go.Operand.tmp 81), type := 36, pos := "law.go:186", after := #[{ on := 8, ground := Go.Ground.data }], guard := none }) (v := (.agg #[.int .u64 1, .int .u32 2, .int .u8 255, .int .u64 3])) rfl (by kernel_rfl) (by kernel_rfl) (by kernel_rfl) (fun _ _ _ h => h) (Or.inl ⟨by kernel_rfl, fun w hC => by (obtain ⟨⟨-, ⟨k0, k1, k2, k3, k4, k5, k6, k7, k8, k9, k10⟩⟩, -⟩ := hC; go_simp)⟩) hS.out ?_
      simp only [Act.put, List.setIfInBounds_toArray, List.set_cons_zero, List.set_cons_succ]
      refine wpAnyH_take (i := 10) (oi := { dst := some 83, op := Go.Op.load 3 (Go.Operand.tmp 10), type := 3, pos := "law.go:186", after := #[], guard := none }) (v := (.int .i64 (n : Int))) rfl (by kernel_rfl) (by kernel_rfl) (by kernel_rfl) (fun _ _ _ h => h) (Or.inl ⟨by kernel_rfl, fun w hC => by (obtain ⟨-, kn⟩ := hC; go_simp)⟩) hS.out ?_
      simp only [Act.put, List.setIfInBounds_toArray, List.set_cons_zero, List.set_cons_succ]
      refine wpAnyH_ready (rs := [6]) (by kernel_rfl) (by simp) ?_
      refine AllReadyH.cons (o := { dst := some 79, op := Go.Op.call { callee := Go.Callee.value (Go.Operand.tmp 73), args := #[Go.Operand.tmp 75, Go.Operand.tmp 76, Go.Operand.tmp 78], argTypes := #[36, 3, 3] }, type := 9, pos := "law.go:186", after := #[{ on := 0, ground := Go.Ground.data }, { on := 2, ground := Go.Ground.data }, { on := 3, ground := Go.Ground.data }, { on := 5, ground := Go.Ground.data }], guard := none }) rfl (fun KK hKK => ?_) AllReadyH.nil
      go_simp
      have h8 := rd_any bkA f len _ HK.out ⟨by show 1 ≤ _; omega, by show 1 ≤ _; omega, by show 255 ≤ _; omega, by show 2 ≤ _; omega⟩ HF2.out (by have := HL2.out; have := HN.out; omega) (by show 0 < _; omega) HG.out _ (bk_ra HN.out f d (by rw [HDL.out]; exact HF1.out) _ (by rw [HDL.out])) _ (dat_ok _ _ _ _) 1 1 255 2 (f : Int) (len : Int) rfl rfl rfl rfl rfl rfl
      refine h8.mono ?_; clear h8; rintro e x8 ⟨A8, rfl, X8, K8⟩
      have HK := hide X8
      have HA := hide (HA.out.kh K8)
      have HBB := hide (HBB.out.kh K8)
      have HWW := hide (HWW.out.kh K8)
      clear X8 K8
      have hS : Hid ((((x8.cell? ⟨ga, 0, none⟩ = some (.int .u64 0) ∧ x8.cell? ⟨ga, 1, none⟩ = some (.int .u64 0) ∧ x8.cell? ⟨ga, 2, none⟩ = some (.int .u32 0) ∧ x8.cell? ⟨ga, 3, none⟩ = some (.int .u16 100) ∧ x8.cell? ⟨ga, 4, none⟩ = some (.int .u16 0) ∧ x8.cell? ⟨ga, 5, none⟩ = some (.int .u64 1) ∧ x8.cell? ⟨ga, 6, none⟩ = some (.int .u32 1) ∧ x8.cell? ⟨ga, 7, none⟩ = some (.int .u8 255) ∧ x8.cell? ⟨ga, 8, none⟩ = some (.int .u64 2) ∧ x8.cell? ⟨ga, 9, none⟩ = some (.int .u64 0) ∧ x8.cell? ⟨ga, 10, none⟩ = some (.slice co5 n5 cc5)) ∧ (x8.cell? ⟨gb, 0, none⟩ = some (.int .u64 0) ∧ x8.cell? ⟨gb, 1, none⟩ = some (.int .u64 0) ∧ x8.cell? ⟨gb, 2, none⟩ = some (.int .u32 0) ∧ x8.cell? ⟨gb, 3, none⟩ = some (.int .u16 100) ∧ x8.cell? ⟨gb, 4, none⟩ = some (.int .u16 0) ∧ x8.cell? ⟨gb, 5, none⟩ = some (.int .u64 1) ∧ x8.cell? ⟨gb, 6, none⟩ = some (.int .u32 2) ∧ x8.cell? ⟨gb, 7, none⟩ = some (.int .u8 255) ∧ x8.cell? ⟨gb, 8, none⟩ = some (.int .u64 3) ∧ x8.cell? ⟨gb, 9, none⟩ = some (.int .u64 0) ∧ x8.cell? ⟨gb, 10, none⟩ = some (.slice co6 n6 cc6))) ∧ x8.cell? ⟨bn, 0, none⟩ = some (.int .i64 (n : Int)))) := ⟨⟨HA.out.all, HBB.out.all⟩, HK.out.c.2.1⟩
      refine hKK.out _ _ hS.out (fun _ => ?_)
      clear hKK
      refine wpAnyH_ready (rs := [11]) (by kernel_rfl) (by simp) ?_
      refine AllReadyH.cons (o := { dst := some 84, op := Go.Op.call { callee := Go.Callee.value (Go.Operand.tmp 80), args := #[Go.Operand.tmp 82, Go.Operand.const (Go.Value.int Go.IntKind.i64 0), Go.Operand.tmp 83], argTypes := #[36, 3, 3] }, type := 9, pos := "law.go:186", after := #[{ on := 7, ground := Go.Ground.data }, { on := 9, ground := Go.Ground.data }, { on := 10, ground := Go.Ground.data }, { on := 6, ground := Go.Ground.chain }], guard := none }) rfl (fun KK hKK => ?_) AllReadyH.nil
      go_simp
      have h9 := rd_any bkB 0 n _ HK.out ⟨by show 1 ≤ _; omega, by show 2 ≤ _; omega, by show 255 ≤ _; omega, by show 3 ≤ _; omega⟩ (by omega) HN.out (by show 0 < _; omega) HG.out _ (bk_rb0 HN.out f d) _ (dat_ok _ _ _ _) 1 2 255 3 0 (n : Int) rfl rfl rfl rfl rfl rfl
      refine h9.mono ?_; clear h9; rintro e x9 ⟨A9, rfl, X9, K9⟩
      have HK := hide X9
      have HA := hide (HA.out.kh K9)
      have HBB := hide (HBB.out.kh K9)
      have HWW := hide (HWW.out.kh K9)
      clear X9 K9
      have hS : Hid ((((x9.cell? ⟨ga, 0, none⟩ = some (.int .u64 0) ∧ x9.cell? ⟨ga, 1, none⟩ = some (.int .u64 0) ∧ x9.cell? ⟨ga, 2, none⟩ = some (.int .u32 0) ∧ x9.cell? ⟨ga, 3, none⟩ = some (.int .u16 100) ∧ x9.cell? ⟨ga, 4, none⟩ = some (.int .u16 0) ∧ x9.cell? ⟨ga, 5, none⟩ = some (.int .u64 1) ∧ x9.cell? ⟨ga, 6, none⟩ = some (.int .u32 1) ∧ x9.cell? ⟨ga, 7, none⟩ = some (.int .u8 255) ∧ x9.cell? ⟨ga, 8, none⟩ = some (.int .u64 2) ∧ x9.cell? ⟨ga, 9, none⟩ = some (.int .u64 0) ∧ x9.cell? ⟨ga, 10, none⟩ = some (.slice co5 n5 cc5)) ∧ (x9.cell? ⟨gb, 0, none⟩ = some (.int .u64 0) ∧ x9.cell? ⟨gb, 1, none⟩ = some (.int .u64 0) ∧ x9.cell? ⟨gb, 2, none⟩ = some (.int .u32 0) ∧ x9.cell? ⟨gb, 3, none⟩ = some (.int .u16 100) ∧ x9.cell? ⟨gb, 4, none⟩ = some (.int .u16 0) ∧ x9.cell? ⟨gb, 5, none⟩ = some (.int .u64 1) ∧ x9.cell? ⟨gb, 6, none⟩ = some (.int .u32 2) ∧ x9.cell? ⟨gb, 7, none⟩ = some (.int .u8 255) ∧ x9.cell? ⟨gb, 8, none⟩ = some (.int .u64 3) ∧ x9.cell? ⟨gb, 9, none⟩ = some (.int .u64 0) ∧ x9.cell? ⟨gb, 10, none⟩ = some (.slice co6 n6 cc6))) ∧ x9.cell? ⟨bn, 0, none⟩ = some (.int .i64 (n : Int)))) := ⟨⟨HA.out.all, HBB.out.all⟩, HK.out.c.2.1⟩
      refine hKK.out _ _ hS.out (fun _ => ?_)
      clear hKK
      refine wpAnyH_take (i := 12) (oi := { dst := some 19, op := Go.Op.assign (Go.Operand.tmp 79), type := 9, pos := "law.go:186", after := #[{ on := 6, ground := Go.Ground.data }, { on := 11, ground := Go.Ground.chain }, { on := 0, ground := Go.Ground.phase }, { on := 1, ground := Go.Ground.phase }, { on := 2, ground := Go.Ground.phase }, { on := 3, ground := Go.Ground.phase }, { on := 4, ground := Go.Ground.phase }, { on := 5, ground := Go.Ground.phase }, { on := 6, ground := Go.Ground.phase }, { on := 7, ground := Go.Ground.textOnly Go.Departure.lateStores }, { on := 8, ground := Go.Ground.textOnly Go.Departure.lateStores }, { on := 9, ground := Go.Ground.textOnly Go.Departure.lateStores }, { on := 10, ground := Go.Ground.textOnly Go.Departure.lateStores }, { on := 11, ground := Go.Ground.textOnly Go.Departure.lateStoresUnsure }], guard := none }) (v := (.string (str d))) rfl (by kernel_rfl) (by kernel_rfl) (by kernel_rfl) (fun _ _ _ h => h) (Or.inl ⟨by kernel_rfl, fun w hC => by go_simp⟩) hS.out ?_
      simp only [Act.put, List.setIfInBounds_toArray, List.set_cons_zero, List.set_cons_succ]
      refine wpAnyH_take (i := 13) (oi := { dst := some 20, op := Go.Op.assign (Go.Operand.tmp 84), type := 9, pos := "law.go:186", after := #[{ on := 11, ground := Go.Ground.data }, { on := 12, ground := Go.Ground.chain }, { on := 0, ground := Go.Ground.phase }, { on := 1, ground := Go.Ground.phase }, { on := 2, ground := Go.Ground.phase }, { on := 3, ground := Go.Ground.phase }, { on := 4, ground := Go.Ground.phase }, { on := 5, ground := Go.Ground.phase }, { on := 6, ground := Go.Ground.phase }, { on := 7, ground := Go.Ground.phase }, { on := 8, ground := Go.Ground.phase }, { on := 9, ground := Go.Ground.phase }, { on := 10, ground := Go.Ground.phase }, { on := 11, ground := Go.Ground.phase }, { on := 12, ground := Go.Ground.phase }], guard := none }) (v := (.string (str (zeros n)))) rfl (by kernel_rfl) (by kernel_rfl) (by kernel_rfl) (fun _ _ _ h => h) (Or.inl ⟨by kernel_rfl, fun w hC => by go_simp⟩) hS.out ?_
      simp only [Act.put, List.setIfInBounds_toArray, List.set_cons_zero, List.set_cons_succ]
      refine wpAnyH_done (by kernel_rfl) ?_ _
      clear hS
      obtain ⟨e0, e1, e2, e3, e4, e5⟩ := HK.out.c
      have hca : (x9.cell? ⟨ga, 0, none⟩ = some (.int .u64 0) ∧ x9.cell? ⟨ga, 1, none⟩ = some (.int .u64 0) ∧ x9.cell? ⟨ga, 2, none⟩ = some (.int .u32 0) ∧ x9.cell? ⟨ga, 3, none⟩ = some (.int .u16 100) ∧ x9.cell? ⟨ga, 4, none⟩ = some (.int .u16 0) ∧ x9.cell? ⟨ga, 5, none⟩ = some (.int .u64 1) ∧ x9.cell? ⟨ga, 6, none⟩ = some (.int .u32 1) ∧ x9.cell? ⟨ga, 7, none⟩ = some (.int .u8 255) ∧ x9.cell? ⟨ga, 8, none⟩ = some (.int .u64 2) ∧ x9.cell? ⟨ga, 9, none⟩ = some (.int .u64 0) ∧ x9.cell? ⟨ga, 10, none⟩ = some (.slice co5 n5 cc5)) := HA.out.all
      obtain ⟨a0, a1, a2, a3, a4, a5, a6, a7, a8, a9, a10⟩ := hca
      go_wp2_with fail
      have h10 := bkask_any 5 (0) bkA none 0 0 [] _ HK.out (bts_nil _) ⟨by show 1 ≤ _; omega, by show 1 ≤ _; omega, by show 255 ≤ _; omega, by show 2 ≤ _; omega⟩ (by omega) (fun h => absurd h (by omega)) (by omega) (by have := HF2.out; omega) (by show 0 < _; omega) HG.out _ (bk_dst n f d) 5 0 1 1 255 2 rfl rfl rfl rfl rfl rfl
      refine h10.mono ?_; clear h10; rintro e x10 ⟨m10, co10, n10, cc10, A10, rfl, hm10, B10, X10, K10⟩
      have hm10 : m10 = ⟨0, 0, 0, 5, 0, 0, 0, 0, 0, 0⟩ := hm10
      subst hm10
      have HK := hide X10
      have HA := hide (HA.out.kh K10)
      have HBB := hide (HBB.out.kh K10)
      have HWW := hide (HWW.out.kh K10)
      clear B10 X10 K10
      clear e0 e1 e2 e3 e4 e5 a0 a1 a2 a3 a4 a5 a6 a7 a8 a9 a10
      go_upto_region 18 with fail
      obtain ⟨Yd, hYd⟩ : ∃ Y, x10.alloc (.cells #[.int .u64 0, .int .u64 0, .int .u32 0, .int .u16 5, .int .u16 0, .int .u64 0, .int .u32 0, .int .u8 0, .int .u64 0, .int .u64 0, .slice co10 n10 cc10] 53) = Y := ⟨_, rfl⟩
      have bYd : Below x10.heap.size x10 Yd := hYd ▸ below_alloc _ _
      have zYd : Yd.heap.size = x10.heap.size + 1 := by rw [← hYd]; simp
      have HDD : Hid (MB Yd x10.heap.size ⟨0, 0, 0, 5, 0, 0, 0, 0, 0, 0⟩ (.slice co10 n10 cc10)) := by show MB _ _ _ _; rw [← hYd]; exact heap_alloc_new _ _
      rw [hYd]
      have HK := hide (HK.out.grow bYd)
      have HA := hide (HA.out.grow bYd)
      have HBB := hide (HBB.out.grow bYd)
      have HWW := hide (HWW.out.grow bYd)
      obtain ⟨gd, hgd⟩ : ∃ k, x10.heap.size = k := ⟨_, rfl⟩
      rw [hgd] at HDD
      try rw [hgd]
      clear hYd bYd zYd hgd
      obtain ⟨e0, e1, e2, e3, e4, e5⟩ := HK.out.c
      go_wp2_with fail
      have h11 := mk_any _ HK.out HN.out (by show 0 < _; omega) HG.out _ (bk_m3 HN.out f d)
      refine h11.mono ?_; clear h11; rintro e x11 ⟨m11, co11, n11, cc11, A11, rfl, hm11, X11, K11⟩
      have hm11 : m11 = ⟨0, 0, 0, 100, 0, 1, 1, 255, 4, 0⟩ := hm11
      subst hm11
      have HK := hide X11
      have HA := hide (HA.out.kh K11)
      have HBB := hide (HBB.out.kh K11)
      have HWW := hide (HWW.out.kh K11)
      have HDD := hide (HDD.out.kh K11)
      clear X11 K11
      clear e0 e1 e2 e3 e4 e5
      go_upto_region 19 with fail
      obtain ⟨Yc, hYc⟩ : ∃ Y, x11.alloc (.cells #[.int .u64 0, .int .u64 0, .int .u32 0, .int .u16 100, .int .u16 0, .int .u64 1, .int .u32 1, .int .u8 255, .int .u64 4, .int .u64 0, .slice co11 n11 cc11] 53) = Y := ⟨_, rfl⟩
      have bYc : Below x11.heap.size x11 Yc := hYc ▸ below_alloc _ _
      have zYc : Yc.heap.size = x11.heap.size + 1 := by rw [← hYc]; simp
      have HCC : Hid (MB Yc x11.heap.size ⟨0, 0, 0, 100, 0, 1, 1, 255, 4, 0⟩ (.slice co11 n11 cc11)) := by show MB _ _ _ _; rw [← hYc]; exact heap_alloc_new _ _
      rw [hYc]
      have HK := hide (HK.out.grow bYc)
      have HA := hide (HA.out.grow bYc)
      have HBB := hide (HBB.out.grow bYc)
      have HWW := hide (HWW.out.grow bYc)
      have HDD := hide (HDD.out.grow bYc)
      obtain ⟨gc, hgc⟩ : ∃ k, x11.heap.size = k := ⟨_, rfl⟩
      rw [hgc] at HCC
      try rw [hgc]
      clear hYc bYc zYc hgc
      obtain ⟨e0, e1, e2, e3, e4, e5⟩ := HK.out.c
      have hca : (Yc.cell? ⟨ga, 0, none⟩ = some (.int .u64 0) ∧ Yc.cell? ⟨ga, 1, none⟩ = some (.int .u64 0) ∧ Yc.cell? ⟨ga, 2, none⟩ = some (.int .u32 0) ∧ Yc.cell? ⟨ga, 3, none⟩ = some (.int .u16 100) ∧ Yc.cell? ⟨ga, 4, none⟩ = some (.int .u16 0) ∧ Yc.cell? ⟨ga, 5, none⟩ = some (.int .u64 1) ∧ Yc.cell? ⟨ga, 6, none⟩ = some (.int .u32 1) ∧ Yc.cell? ⟨ga, 7, none⟩ = some (.int .u8 255) ∧ Yc.cell? ⟨ga, 8, none⟩ = some (.int .u64 2) ∧ Yc.cell? ⟨ga, 9, none⟩ = some (.int .u64 0) ∧ Yc.cell? ⟨ga, 10, none⟩ = some (.slice co5 n5 cc5)) := HA.out.all
      obtain ⟨a0, a1, a2, a3, a4, a5, a6, a7, a8, a9, a10⟩ := hca
      go_wp2_with fail
      have h12 := bkask_any 103 (0) bkA none 0 0 [] _ HK.out (bts_nil _) ⟨by show 1 ≤ _; omega, by show 1 ≤ _; omega, by show 255 ≤ _; omega, by show 2 ≤ _; omega⟩ (by omega) (fun h => absurd h (by omega)) (by omega) (by have := HF2.out; omega) (by show 0 < _; omega) HG.out _ (bk_gone (bL5 n f d)) 103 0 1 1 255 2 rfl rfl rfl rfl rfl rfl
      refine h12.mono ?_; clear h12; rintro e x12 ⟨m12, co12, n12, cc12, A12, rfl, hm12, B12, X12, K12⟩
      have hm12 : m12 = ⟨0, 0, 0, 103, 1, 0, 0, 0, 0, 0⟩ := hm12
      subst hm12
      have HK := hide X12
      have HA := hide (HA.out.kh K12)
      have HBB := hide (HBB.out.kh K12)
      have HWW := hide (HWW.out.kh K12)
      have HDD := hide (HDD.out.kh K12)
      have HCC := hide (HCC.out.kh K12)
      clear B12 X12 K12
      clear e0 e1 e2 e3 e4 e5 a0 a1 a2 a3 a4 a5 a6 a7 a8 a9 a10
      go_upto_region 20 with fail
      obtain ⟨Ys, hYs⟩ : ∃ Y, x12.alloc (.cells #[.int .u64 0, .int .u64 0, .int .u32 0, .int .u16 103, .int .u16 1, .int .u64 0, .int .u32 0, .int .u8 0, .int .u64 0, .int .u64 0, .slice co12 n12 cc12] 53) = Y := ⟨_, rfl⟩
      have bYs : Below x12.heap.size x12 Ys := hYs ▸ below_alloc _ _
      have zYs : Ys.heap.size = x12.heap.size + 1 := by rw [← hYs]; simp
      have HSS : Hid (MB Ys x12.heap.size ⟨0, 0, 0, 103, 1, 0, 0, 0, 0, 0⟩ (.slice co12 n12 cc12)) := by show MB _ _ _ _; rw [← hYs]; exact heap_alloc_new _ _
      rw [hYs]
      have HK := hide (HK.out.grow bYs)
      have HA := hide (HA.out.grow bYs)
      have HBB := hide (HBB.out.grow bYs)
      have HWW := hide (HWW.out.grow bYs)
      have HDD := hide (HDD.out.grow bYs)
      have HCC := hide (HCC.out.grow bYs)
      obtain ⟨gs, hgs⟩ : ∃ k, x12.heap.size = k := ⟨_, rfl⟩
      rw [hgs] at HSS
      try rw [hgs]
      clear hYs bYs zYs hgs
      obtain ⟨e0, e1, e2, e3, e4, e5⟩ := HK.out.c
      have sga : Ys.cell? ⟨ga, 4, none⟩ = some (.int .u16 0) := HA.out.all.2.2.2.2.1
      have sgb : Ys.cell? ⟨gb, 4, none⟩ = some (.int .u16 0) := HBB.out.all.2.2.2.2.1
      have sgw : Ys.cell? ⟨gw, 4, none⟩ = some (.int .u16 0) := HWW.out.all.2.2.2.2.1
      have sgd : Ys.cell? ⟨gd, 4, none⟩ = some (.int .u16 0) := HDD.out.all.2.2.2.2.1
      have sgc : Ys.cell? ⟨gc, 4, none⟩ = some (.int .u16 0) := HCC.out.all.2.2.2.2.1
      have hcc : (Ys.cell? ⟨gc, 0, none⟩ = some (.int .u64 0) ∧ Ys.cell? ⟨gc, 1, none⟩ = some (.int .u64 0) ∧ Ys.cell? ⟨gc, 2, none⟩ = some (.int .u32 0) ∧ Ys.cell? ⟨gc, 3, none⟩ = some (.int .u16 100) ∧ Ys.cell? ⟨gc, 4, none⟩ = some (.int .u16 0) ∧ Ys.cell? ⟨gc, 5, none⟩ = some (.int .u64 1) ∧ Ys.cell? ⟨gc, 6, none⟩ = some (.int .u32 1) ∧ Ys.cell? ⟨gc, 7, none⟩ = some (.int .u8 255) ∧ Ys.cell? ⟨gc, 8, none⟩ = some (.int .u64 4) ∧ Ys.cell? ⟨gc, 9, none⟩ = some (.int .u64 0) ∧ Ys.cell? ⟨gc, 10, none⟩ = some (.slice co11 n11 cc11)) := HCC.out.all
      obtain ⟨b0, b1, b2, b3, b4, b5, b6, b7, b8, b9, b10⟩ := hcc
      have cv := conv_bts (HBD.out.carry HK.out.x.bel)
      go_wp2_with fail
      have h13 := rd_any bkC 0 n _ HK.out ⟨by show 1 ≤ _; omega, by show 1 ≤ _; omega, by show 255 ≤ _; omega, by show 4 ≤ _; omega⟩ (by omega) HN.out (by show 0 < _; omega) HG.out _ (bk_rc0 HN.out f d) _ (dat_ok _ _ _ _) 1 1 255 4 0 (n : Int) rfl rfl rfl rfl rfl rfl
      refine h13.mono ?_; clear h13; rintro e x13 ⟨A13, rfl, X13, K13⟩
      have HK := hide X13
      have HSS := hide (HSS.out.kh K13)
      clear X13 K13
      have sgs : x13.cell? ⟨gs, 4, none⟩ = some (.int .u16 1) := HSS.out.all.2.2.2.2.1
      clear e0 e1 e2 e3 e4 e5 b0 b1 b2 b3 b4 b5 b6 b7 b8 b9 b10
      go_wp2
      go_ret
      exact ⟨rfl, HK.out.x.bel⟩
end
end Go.Proofs.YtpbkjmkdciiccaaGreatDoor
