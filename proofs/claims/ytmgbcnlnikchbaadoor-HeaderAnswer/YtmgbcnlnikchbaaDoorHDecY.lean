/-
  What header.Decode answers of bytes that are a message's, as a contract.
-/
import Derived.Test.YtmgbcnlnikchbaaDoorHDec
import Derived.Deep.CutRange
namespace Go.Proofs.YtmgbcnlnikchbaaDoor
open Go.RowKit
set_option maxHeartbeats 1600000 in
theorem hdecode_yes (ao : Option Addr) (n cap : Nat) (l : List UInt8) (w : World) (hb : Bts w ao n cap l) (m : Msg) (hm : partsF l = m) (x : Nat) (hx : numF ((l.drop 44).take 2) = x) (hx4 : x ≤ 4096) (hn : n = 46 + x) :
    Calls Tryd.prog 10 #[.slice ao n cap] w fun e w' => ∃ co cc, e = .returned (.tuple #[.agg #[.int .u64 m.ta, .int .u64 m.rp, .int .u32 m.id, .int .u16 m.op, .int .u16 m.st, .int .u64 m.p, .int .u32 m.o, .int .u8 m.r, .int .u64 m.c, .int .u64 m.ar, .slice co x cc], .nilIface]) ∧ Bts w' co x cc (l.drop 46) ∧ New w co ∧ Below w.heap.size w w' := by
  have b0 : Below w.heap.size w (w.alloc (.cells #[.int .u64 0, .int .u64 0, .int .u32 0, .int .u16 0, .int .u16 0, .int .u64 0, .int .u32 0, .int .u8 0, .int .u64 0, .int .u64 0, .slice none 0 0] 29)) := below_alloc _ _
  have HB0 : Hid (Bts (w.alloc (.cells #[.int .u64 0, .int .u64 0, .int .u32 0, .int .u16 0, .int .u16 0, .int .u64 0, .int .u32 0, .int .u8 0, .int .u64 0, .int .u64 0, .slice none 0 0] 29)) ao n cap l) := hb.carry b0
  have HX0 : Hid (MBox (w.alloc (.cells #[.int .u64 0, .int .u64 0, .int .u32 0, .int .u16 0, .int .u16 0, .int .u64 0, .int .u32 0, .int .u8 0, .int .u64 0, .int .u64 0, .slice none 0 0] 29)) w.heap.size Msg.zero (.slice none 0 0)) := zero_new w
  have HZ0 : Hid (MFree (w.alloc (.cells #[.int .u64 0, .int .u64 0, .int .u32 0, .int .u16 0, .int .u16 0, .int .u64 0, .int .u32 0, .int .u8 0, .int .u64 0, .int .u64 0, .slice none 0 0] 29)) w.heap.size) := mfree_new w _
  have hcm : cap ≤ 9223372036854775807 := hb.2.2.1
  have HX : Hid _ := hx
  have HM : Hid _ := hm
  have HN : Hid _ := hn
  have HL : Hid ((l.drop (44 + 2)).take x = l.drop 46) := by
    show (l.drop 46).take x = l.drop 46
    rw [List.take_of_length_le]; rw [List.length_drop, ← hb.1]; omega
  have h46 : 46 ≤ n := by omega
  have h46x : 44 + 2 + x ≤ n := by omega
  clear hx hm hn
  cases ao with
  | none => have := hb.none rfl; omega
  | some ad =>
    clear hb
    go_enter Tryd.func10, Tryd.ntmps10
    go_wp2_with fail
    refine (getBytes_yes (some ad) n cap 44 l _ HB0.out (by omega) x HX.out h46x).mono ?_; rintro e w1 ⟨co, cc, rfl, hb1, hn1, bel1⟩
    rw [show ((44 + 2 + x : Nat) : Int) = (n : Int) from by have := HN.out; omega]
    rw [HL.out] at hb1
    have hcc : cc ≤ 9223372036854775807 := hb1.2.2.1
    have hcc2 : x ≤ cc := hb1.2.1
    have hsz : (w.alloc (.cells #[.int .u64 0, .int .u64 0, .int .u32 0, .int .u16 0, .int .u16 0, .int .u64 0, .int .u32 0, .int .u8 0, .int .u64 0, .int .u64 0, .slice none 0 0] 29)).heap.size = w.heap.size + 1 := by simp
    have HW : Hid (New w co ∧ ∀ ad, co = some ad → ad.block ≠ w.heap.size) := ⟨hn1.le b0.size, fun ad e h => by have := hn1 ad e; omega⟩
    clear hn1 hsz
    have HC1 : Hid (Bts w1 co x cc (l.drop 46)) := hb1
    have b1 : Below w.heap.size w w1 := below_one b0 bel1
    have HB1 : Hid (Bts w1 (some ad) n cap l) := HB0.out.carry bel1
    have HX1 : Hid (MBox w1 w.heap.size Msg.zero (.slice none 0 0)) := HX0.out.carry bel1
    have HZ1 : Hid (MFree w1 w.heap.size) := HZ0.out.carry HX0.out.lt bel1
    clear bel1 hb1 HX0 HZ0 HB0
    go_wp2_with fail
    refine (parts_any ad n cap l _ HB1.out h46 m HM.out).mono ?_; rintro e w2 ⟨rfl, bel2⟩
    have b2 : Below w.heap.size w w2 := below_one b1 bel2
    have HC2 : Hid (Bts w2 co x cc (l.drop 46)) := HC1.out.carry bel2
    have HX2 : Hid (MBox w2 w.heap.size Msg.zero (.slice none 0 0)) := HX1.out.carry bel2
    have HZ2 : Hid (MFree w2 w.heap.size) := HZ1.out.carry HX1.out.lt bel2
    clear bel2 HX1 HZ1 HB1 HC1 b1
    have hlt : w.heap.size < w2.heap.size := HX2.out.lt
    go_upto_region 5 with fail
    go_cut [] from 31 to 32 (fun wx => Hid (MBox wx w2.heap.size m (.slice co x cc)) ∧ Hid (MBox wx w.heap.size Msg.zero (.slice none 0 0)) ∧ Hid (MFree wx w.heap.size) ∧ Hid (Below w.heap.size w wx) ∧ Hid (Bts wx co x cc (l.drop 46)))
    case first =>
      go_wp2_with fail
      go_meet
      exact ⟨mbox_new _ _ _, HX2.out.carry (below_alloc _ _), HZ2.out.carry HX2.out.lt (below_alloc _ _), below_one b2 (below_alloc _ _), HC2.out.carry (below_alloc _ _)⟩
    case rest =>
      obtain ⟨HY3, HX3, HZ3, HL3, HC3⟩ := hcut
      clear HX2 HZ2 HC2 b2
      have b3 := HL3.out
      obtain ⟨k0, k1, k2, k3, k4, k5, k6, k7, k8, k9, k10⟩ := HX3.out
      obtain ⟨z0, z1, z2, z3, z4, z5, z6, z7, z8, z9, z10⟩ := HZ3.out
      obtain ⟨q0, q1, q2, q3, q4, q5, q6, q7, q8, q9, q10⟩ := HY3.out
      go_wp2
      refine bodyPost_ret (by simp [results, Tryd.results10, go_sem, k0, k1, k2, k3, k4, k5, k6, k7, k8, k9, k10]; rfl) rfl ?_
      refine ⟨co, cc, rfl, ?_, HW.out.1, ((((((((((b3.setCell (Nat.le_refl _) _).setCell (Nat.le_refl _) _).setCell (Nat.le_refl _) _).setCell (Nat.le_refl _) _).setCell (Nat.le_refl _) _).setCell (Nat.le_refl _) _).setCell (Nat.le_refl _) _).setCell (Nat.le_refl _) _).setCell (Nat.le_refl _) _).setCell (Nat.le_refl _) _).setCell (Nat.le_refl _) _⟩
      exact ((((((((((HC3.out.set _ _ HW.out.2).set _ _ HW.out.2).set _ _ HW.out.2).set _ _ HW.out.2).set _ _ HW.out.2).set _ _ HW.out.2).set _ _ HW.out.2).set _ _ HW.out.2).set _ _ HW.out.2).set _ _ HW.out.2).set _ _ HW.out.2
end Go.Proofs.YtmgbcnlnikchbaaDoor
