/-
  What header.Decode answers, as contracts.
-/
import Derived.Test.YtmgbcnlnikchbaaDoorHEnc
import Derived.Deep.CutRange
namespace Go.Proofs.YtmgbcnlnikchbaaDoor
open Go.RowKit
theorem num2' (l : List UInt8) (k : Nat) : numF ((l.drop k).take 2) ≤ 65535 := num2 l k
theorem num4 (l : List UInt8) (k : Nat) : numF ((l.drop k).take 4) ≤ 4294967295 := by
  have := numF_lt ((l.drop k).take 4)
  have h2 : 256 ^ ((l.drop k).take 4).length ≤ 256 ^ 4 := Nat.pow_le_pow_right (by omega) (by rw [List.length_take]; omega)
  have h3 : (256 : Nat) ^ 4 = 4294967296 := by decide
  omega
theorem num8 (l : List UInt8) (k : Nat) : numF ((l.drop k).take 8) ≤ 18446744073709551615 := numF_le8 _ (by rw [List.length_take]; omega)
/- the parts that bytes have -/
def partsF (l : List UInt8) : Msg :=
  ⟨numF ((l.drop 0).take 6), numF ((l.drop 6).take 6), numF ((l.drop 12).take 4), numF ((l.drop 16).take 2), numF ((l.drop 18).take 2),
   numF ((((l.drop 20).take 16).drop 0).take 6), numF ((((l.drop 20).take 16).drop 6).take 3), numF ((((l.drop 20).take 16).drop 9).take 1), numF ((((l.drop 20).take 16).drop 10).take 6), numF ((l.drop 36).take 8)⟩
theorem partsF_good (l : List UInt8) : (partsF l).good := ⟨num6 _ _, num6 _ _, num4 _ _, num2 _ _, num2 _ _, num6 _ _, num3 _ _, num1 _ _, num6 _ _, num8 _ _⟩
theorem addS (a : Addr) (f : Nat) (hf : 0 < f) : a.add f = ⟨a.block, a.off + f, none⟩ := by unfold Addr.add; rw [if_neg (by omega)]
theorem zero_new (w : World) : MBox (w.alloc (.cells #[.int .u64 0, .int .u64 0, .int .u32 0, .int .u16 0, .int .u16 0, .int .u64 0, .int .u32 0, .int .u8 0, .int .u64 0, .int .u64 0, .slice none 0 0] 29)) w.heap.size Msg.zero (.slice none 0 0) := mbox_new w Msg.zero _
set_option maxHeartbeats 1600000 in
theorem parts_any (ad : Addr) (n cap : Nat) (l : List UInt8) (w : World) (hb : Bts w (some ad) n cap l) (h46 : 46 ≤ n) (m : Msg) (hm : partsF l = m) :
    Calls Tryd.prog 19 #[.slice (some ad) n cap] w fun e w' => e = .returned (.agg #[.int .u64 m.ta, .int .u64 m.rp, .int .u32 m.id, .int .u16 m.op, .int .u16 m.st, .int .u64 m.p, .int .u32 m.o, .int .u8 m.r, .int .u64 m.c, .int .u64 m.ar, .slice none 0 0]) ∧ Below w.heap.size w w' := by
  have hgood : m.good := by rw [← hm]; exact partsF_good l
  obtain ⟨o0, o1, o2, o3, o4, o5, o6, o7, o8, o9⟩ := hgood
  have H0 : Hid (numF ((l.drop 0).take 6) = m.ta) := congrArg Msg.ta hm
  have H1 : Hid (numF ((l.drop 6).take 6) = m.rp) := congrArg Msg.rp hm
  have H2 : Hid (numF ((l.drop 12).take 4) = m.id) := congrArg Msg.id hm
  have H3 : Hid (numF ((l.drop 16).take 2) = m.op) := congrArg Msg.op hm
  have H4 : Hid (numF ((l.drop 18).take 2) = m.st) := congrArg Msg.st hm
  have H5 : Hid (numF ((((l.drop 20).take 16).drop 0).take 6) = m.p) := congrArg Msg.p hm
  have H6 : Hid (numF ((((l.drop 20).take 16).drop 6).take 3) = m.o) := congrArg Msg.o hm
  have H7 : Hid (numF ((((l.drop 20).take 16).drop 9).take 1) = m.r) := congrArg Msg.r hm
  have H8 : Hid (numF ((((l.drop 20).take 16).drop 10).take 6) = m.c) := congrArg Msg.c hm
  have H9 : Hid (numF ((l.drop 36).take 8) = m.ar) := congrArg Msg.ar hm
  clear hm
  have hcm : cap ≤ 9223372036854775807 := hb.2.2.1
  have hnc : n ≤ cap := hb.2.1
  have b0 : Below w.heap.size w (w.alloc (.cells #[.int .u64 0, .int .u64 0, .int .u32 0, .int .u16 0, .int .u16 0, .int .u64 0, .int .u32 0, .int .u8 0, .int .u64 0, .int .u64 0, .slice none 0 0] 29)) := below_alloc _ _
  have HB0 : Hid (Bts (w.alloc (.cells #[.int .u64 0, .int .u64 0, .int .u32 0, .int .u16 0, .int .u16 0, .int .u64 0, .int .u32 0, .int .u8 0, .int .u64 0, .int .u64 0, .slice none 0 0] 29)) (some ad) n cap l) := hb.carry b0
  have HX0 : Hid (MBox (w.alloc (.cells #[.int .u64 0, .int .u64 0, .int .u32 0, .int .u16 0, .int .u16 0, .int .u64 0, .int .u32 0, .int .u8 0, .int .u64 0, .int .u64 0, .slice none 0 0] 29)) w.heap.size Msg.zero (.slice none 0 0)) := zero_new w
  have HZ0 : Hid (MFree (w.alloc (.cells #[.int .u64 0, .int .u64 0, .int .u32 0, .int .u16 0, .int .u16 0, .int .u64 0, .int .u32 0, .int .u8 0, .int .u64 0, .int .u64 0, .slice none 0 0] 29)) w.heap.size) := mfree_new w _
  clear hb
  go_enter Tryd.func19, Tryd.ntmps19
  go_wp2_with fail
  refine (get_yes (some ad) n cap 0 6 l _ HB0.out (by omega) (by omega) (by omega)).mono ?_; rintro e w1 ⟨rfl, bel1⟩
  rw [H0.out]
  have b1 : Below w.heap.size w w1 := below_one b0 bel1
  have HB1 : Hid (Bts w1 (some ad) n cap l) := HB0.out.carry bel1
  have HX1 : Hid (MBox w1 w.heap.size Msg.zero (.slice none 0 0)) := HX0.out.carry bel1
  have HZ1 : Hid (MFree w1 w.heap.size) := HZ0.out.carry HX0.out.lt bel1
  clear bel1 HX0 HZ0 HB0 b0
  go_wp2_with fail
  refine (get_yes (some ad) n cap 6 6 l _ HB1.out (by omega) (by omega) (by omega)).mono ?_; rintro e w2 ⟨rfl, bel2⟩
  rw [H1.out]
  have b2 : Below w.heap.size w w2 := below_one b1 bel2
  have HB2 : Hid (Bts w2 (some ad) n cap l) := HB1.out.carry bel2
  have HX2 : Hid (MBox w2 w.heap.size Msg.zero (.slice none 0 0)) := HX1.out.carry bel2
  have HZ2 : Hid (MFree w2 w.heap.size) := HZ1.out.carry HX1.out.lt bel2
  clear bel2 HX1 HZ1 HB1 b1
  go_wp2_with fail
  refine (get_yes (some ad) n cap 12 4 l _ HB2.out (by omega) (by omega) (by omega)).mono ?_; rintro e w3 ⟨rfl, bel3⟩
  rw [H2.out]
  have b3 : Below w.heap.size w w3 := below_one b2 bel3
  have HB3 : Hid (Bts w3 (some ad) n cap l) := HB2.out.carry bel3
  have HX3 : Hid (MBox w3 w.heap.size Msg.zero (.slice none 0 0)) := HX2.out.carry bel3
  have HZ3 : Hid (MFree w3 w.heap.size) := HZ2.out.carry HX2.out.lt bel3
  clear bel3 HX2 HZ2 HB2 b2
  go_wp2_with fail
  refine (get_yes (some ad) n cap 16 2 l _ HB3.out (by omega) (by omega) (by omega)).mono ?_; rintro e w4 ⟨rfl, bel4⟩
  rw [H3.out]
  have b4 : Below w.heap.size w w4 := below_one b3 bel4
  have HB4 : Hid (Bts w4 (some ad) n cap l) := HB3.out.carry bel4
  have HX4 : Hid (MBox w4 w.heap.size Msg.zero (.slice none 0 0)) := HX3.out.carry bel4
  have HZ4 : Hid (MFree w4 w.heap.size) := HZ3.out.carry HX3.out.lt bel4
  clear bel4 HX3 HZ3 HB3 b3
  go_wp2_with fail
  refine (get_yes (some ad) n cap 18 2 l _ HB4.out (by omega) (by omega) (by omega)).mono ?_; rintro e w5 ⟨rfl, bel5⟩
  rw [H4.out]
  have b5 : Below w.heap.size w w5 := below_one b4 bel5
  have HB5 : Hid (Bts w5 (some ad) n cap l) := HB4.out.carry bel5
  have HX5 : Hid (MBox w5 w.heap.size Msg.zero (.slice none 0 0)) := HX4.out.carry bel5
  have HZ5 : Hid (MFree w5 w.heap.size) := HZ4.out.carry HX4.out.lt bel5
  clear bel5 HX4 HZ4 HB4 b4
  go_wp2_with fail
  rw [← addS ad 20 (by omega)]
  refine (decode_yes _ _ ((l.drop 20).take 16) _ (HB5.out.add 20 16 (by omega)) m.p m.o m.r m.c H5.out H6.out H7.out H8.out).mono ?_; rintro e w6 ⟨rfl, bel6⟩
  have b6 : Below w.heap.size w w6 := below_one b5 bel6
  have HB6 : Hid (Bts w6 (some ad) n cap l) := HB5.out.carry bel6
  have HX6 : Hid (MBox w6 w.heap.size Msg.zero (.slice none 0 0)) := HX5.out.carry bel6
  have HZ6 : Hid (MFree w6 w.heap.size) := HZ5.out.carry HX5.out.lt bel6
  clear bel6 HX5 HZ5 HB5 b5
  have HT7 : Hid (Below w6.heap.size w6 (w6.alloc (.cells #[.int .u64 m.p, .int .u32 m.o, .int .u8 m.r, .int .u64 m.c] 26))) := below_alloc _ _
  have HC7 : Hid (Box (w6.alloc (.cells #[.int .u64 m.p, .int .u32 m.o, .int .u8 m.r, .int .u64 m.c] 26)) w6.heap.size m.p m.o m.r m.c) := box_new _ _ _ _ _
  go_wp2_with fail
  refine (get_yes (some ad) n cap 36 8 l _ (HB6.out.carry HT7.out) (by omega) (by omega) (by omega)).mono ?_; rintro e w7 ⟨rfl, bel7⟩
  rw [H9.out]
  have b7 : Below w.heap.size w w7 := below_one (below_one b6 HT7.out) bel7
  have HX7 : Hid (MBox w7 w.heap.size Msg.zero (.slice none 0 0)) := (HX6.out.carry HT7.out).carry bel7
  have HZ7 : Hid (MFree w7 w.heap.size) := (HZ6.out.carry HX6.out.lt HT7.out).carry (HX6.out.carry HT7.out).lt bel7
  have HK7 : Hid (Box w7 w6.heap.size m.p m.o m.r m.c) := HC7.out.carry bel7
  clear bel7 HX6 HZ6 HB6 b6 HT7 HC7
  obtain ⟨k0, k1, k2, k3, k4, k5, k6, k7, k8, k9, k10⟩ := HX7.out
  obtain ⟨z0, z1, z2, z3, z4, z5, z6, z7, z8, z9, z10⟩ := HZ7.out
  obtain ⟨c0, c1, c2, c3⟩ := HK7.out
  go_wp2
  refine bodyPost_ret (by simp [results, Tryd.results19, go_sem, k0, k1, k2, k3, k4, k5, k6, k7, k8, k9, k10]; rfl) rfl ?_
  exact ⟨rfl, ((((((((((b7.setCell (Nat.le_refl _) _).setCell (Nat.le_refl _) _).setCell (Nat.le_refl _) _).setCell (Nat.le_refl _) _).setCell (Nat.le_refl _) _).setCell (Nat.le_refl _) _).setCell (Nat.le_refl _) _).setCell (Nat.le_refl _) _).setCell (Nat.le_refl _) _).setCell (Nat.le_refl _) _).setCell (Nat.le_refl _) _⟩
/- are bytes a message's? -/
def readD (l : List UInt8) : Bool := decide (46 ≤ l.length ∧ numF ((l.drop 44).take 2) ≤ 4096 ∧ l.length = 46 + numF ((l.drop 44).take 2))
set_option maxHeartbeats 1600000 in
theorem hdecode_no (ao : Option Addr) (n cap : Nat) (l : List UInt8) (w : World) (hb : Bts w ao n cap l) (hno : readD l = false) :
    Calls Tryd.prog 10 #[.slice ao n cap] w fun e w' => e = .returned (.tuple #[.agg #[.int .u64 0, .int .u64 0, .int .u32 0, .int .u16 0, .int .u16 0, .int .u64 0, .int .u32 0, .int .u8 0, .int .u64 0, .int .u64 0, .slice none 0 0], .iface 32 (.int .i64 8)]) ∧ Below w.heap.size w w' := by
  have hno' := of_decide_eq_false hno
  rw [← hb.1] at hno'
  clear hno
  obtain ⟨x, hx⟩ : ∃ x, numF ((l.drop 44).take 2) = x := ⟨_, rfl⟩
  have hx2 := num2 l 44
  rw [hx] at hno' hx2
  have b0 : Below w.heap.size w (w.alloc (.cells #[.int .u64 0, .int .u64 0, .int .u32 0, .int .u16 0, .int .u16 0, .int .u64 0, .int .u32 0, .int .u8 0, .int .u64 0, .int .u64 0, .slice none 0 0] 29)) := below_alloc _ _
  have HB0 : Hid (Bts (w.alloc (.cells #[.int .u64 0, .int .u64 0, .int .u32 0, .int .u16 0, .int .u16 0, .int .u64 0, .int .u32 0, .int .u8 0, .int .u64 0, .int .u64 0, .slice none 0 0] 29)) ao n cap l) := hb.carry b0
  have HX0 : Hid (MBox (w.alloc (.cells #[.int .u64 0, .int .u64 0, .int .u32 0, .int .u16 0, .int .u16 0, .int .u64 0, .int .u32 0, .int .u8 0, .int .u64 0, .int .u64 0, .slice none 0 0] 29)) w.heap.size Msg.zero (.slice none 0 0)) := zero_new w
  have HZ0 : Hid (MFree (w.alloc (.cells #[.int .u64 0, .int .u64 0, .int .u32 0, .int .u16 0, .int .u16 0, .int .u64 0, .int .u32 0, .int .u8 0, .int .u64 0, .int .u64 0, .slice none 0 0] 29)) w.heap.size) := mfree_new w _
  have hcm : cap ≤ 9223372036854775807 := hb.2.2.1
  clear hb
  by_cases h : 46 ≤ n ∧ 46 + x ≤ n
  · have HX : Hid _ := hx
    clear hx
    by_cases hq : n = 46 + x
    · have hq4 : 4096 < x := by omega
      have HN : Hid (n = 46 + x) := hq
      have he : ((46 + x : Nat) : Int) = (n : Int) := by omega
      have HE : Hid _ := he
      clear hno' hq he
      go_enter Tryd.func10, Tryd.ntmps10
      go_wp2_with fail
      refine (getBytes_yes ao n cap 44 l _ HB0.out (by omega) x HX.out (by omega)).mono ?_; rintro e w1 ⟨co, cc, rfl, hb1, hn1, bel1⟩
      rw [show ((44 + 2 + x : Nat) : Int) = (n : Int) from by have := HN.out; omega]
      have hcc : cc ≤ 9223372036854775807 := hb1.2.2.1
      have hcc2 : x ≤ cc := hb1.2.1
      have b1 : Below w.heap.size w w1 := below_one b0 bel1
      obtain ⟨k0, k1, k2, k3, k4, k5, k6, k7, k8, k9, k10⟩ := HX0.out.carry bel1
      obtain ⟨z0, z1, z2, z3, z4, z5, z6, z7, z8, z9, z10⟩ := HZ0.out.carry HX0.out.lt bel1
      clear bel1 hb1 hn1
      go_wp2
      refine bodyPost_ret (by simp [results, Tryd.results10, go_sem, k0, k1, k2, k3, k4, k5, k6, k7, k8, k9, k10]; rfl) rfl ?_
      exact ⟨rfl, ((((((((((b1.setCell (Nat.le_refl _) _).setCell (Nat.le_refl _) _).setCell (Nat.le_refl _) _).setCell (Nat.le_refl _) _).setCell (Nat.le_refl _) _).setCell (Nat.le_refl _) _).setCell (Nat.le_refl _) _).setCell (Nat.le_refl _) _).setCell (Nat.le_refl _) _).setCell (Nat.le_refl _) _).setCell (Nat.le_refl _) _⟩
    · have hne : ¬ ((46 + x : Nat) : Int) = (n : Int) := by omega
      clear hno' hq
      go_enter Tryd.func10, Tryd.ntmps10
      go_wp2_with fail
      refine (getBytes_yes ao n cap 44 l _ HB0.out (by omega) x HX.out (by omega)).mono ?_; rintro e w1 ⟨co, cc, rfl, hb1, hn1, bel1⟩
      rw [show (44 + 2 + x : Nat) = 46 + x from by omega]
      generalize hy : 46 + x = y at hne h ⊢
      have b1 : Below w.heap.size w w1 := below_one b0 bel1
      obtain ⟨k0, k1, k2, k3, k4, k5, k6, k7, k8, k9, k10⟩ := HX0.out.carry bel1
      obtain ⟨z0, z1, z2, z3, z4, z5, z6, z7, z8, z9, z10⟩ := HZ0.out.carry HX0.out.lt bel1
      clear bel1 hb1 hn1 hy
      go_wp2
      refine bodyPost_ret (by simp [results, Tryd.results10, go_sem, k0, k1, k2, k3, k4, k5, k6, k7, k8, k9, k10]; rfl) rfl ?_
      exact ⟨rfl, ((((((((((b1.setCell (Nat.le_refl _) _).setCell (Nat.le_refl _) _).setCell (Nat.le_refl _) _).setCell (Nat.le_refl _) _).setCell (Nat.le_refl _) _).setCell (Nat.le_refl _) _).setCell (Nat.le_refl _) _).setCell (Nat.le_refl _) _).setCell (Nat.le_refl _) _).setCell (Nat.le_refl _) _).setCell (Nat.le_refl _) _⟩
  · clear hno'
    have HNO : Hid (¬ (0 ≤ (44 : Int) ∧ (44 : Int) + 2 ≤ (n : Int) ∧ (44 : Int) + 2 + numF ((l.drop (44 : Int).toNat).take 2) ≤ (n : Int))) := by
      show ¬ _
      rw [show (44 : Int).toNat = 44 from rfl, hx]; omega
    clear h hx
    go_enter Tryd.func10, Tryd.ntmps10
    go_wp2_with fail
    refine (getBytes_no ao n cap 44 l _ HB0.out HNO.out).mono ?_; rintro e w1 ⟨rfl, bel1⟩
    have b1 : Below w.heap.size w w1 := below_one b0 bel1
    obtain ⟨k0, k1, k2, k3, k4, k5, k6, k7, k8, k9, k10⟩ := HX0.out.carry bel1
    obtain ⟨z0, z1, z2, z3, z4, z5, z6, z7, z8, z9, z10⟩ := HZ0.out.carry HX0.out.lt bel1
    clear bel1
    go_wp2
    refine bodyPost_ret (by simp [results, Tryd.results10, go_sem, k0, k1, k2, k3, k4, k5, k6, k7, k8, k9, k10]; rfl) rfl ?_
    exact ⟨rfl, ((((((((((b1.setCell (Nat.le_refl _) _).setCell (Nat.le_refl _) _).setCell (Nat.le_refl _) _).setCell (Nat.le_refl _) _).setCell (Nat.le_refl _) _).setCell (Nat.le_refl _) _).setCell (Nat.le_refl _) _).setCell (Nat.le_refl _) _).setCell (Nat.le_refl _) _).setCell (Nat.le_refl _) _).setCell (Nat.le_refl _) _⟩
end Go.Proofs.YtmgbcnlnikchbaaDoor
