/-
  What header.Encode answers, as contracts: the document's bytes, in new memory, or ErrHeader.
-/
import Derived.Test.YtmgbcnlnikchbaaDoorMsg
namespace Go.Proofs.YtmgbcnlnikchbaaDoor
open Go.RowKit
/- a message's bytes -/
def msgF (m : Msg) (l : List UInt8) : List UInt8 := [] ++ putF m.ta 6 ++ putF m.rp 6 ++ putF m.id 4 ++ putF m.op 2 ++ putF m.st 2 ++ capF m.p m.o m.r m.c ++ putF m.ar 8 ++ putF l.length 2 ++ l
theorem msgF_len (m : Msg) (l : List UInt8) : (msgF m l).length = 46 + l.length := by simp [msgF, putF_len, capF_len]; omega
theorem MBox.grown {w w' : World} {g : Nat} {m : Msg} {D : Value} {row : Option Nat} (h : MBox w g m D) (hg : w.grownBy w' row) (hne : some g ≠ row) : MBox w' g m D := by
  have hl := h.lt
  obtain ⟨k0, k1, k2, k3, k4, k5, k6, k7, k8, k9, k10⟩ := h
  refine ⟨?_, ?_, ?_, ?_, ?_, ?_, ?_, ?_, ?_, ?_, ?_⟩ <;> (rw [hg.cell_far _ (by exact hl) (by exact hne)]; assumption)
theorem Bts.far {w w' : World} {ao : Option Addr} {n cap : Nat} {l : List UInt8} {row : Option Nat} {B : Nat} (h : Bts w ao n cap l) (hg : w.grownBy w' row) (hB : ∀ ad, ao = some ad → ad.block < B) (hr : ∀ k, row = some k → B ≤ k) : Bts w' ao n cap l := by
  refine ⟨h.1, h.2.1, h.2.2.1, h.2.2.2.1, fun ad e j hj => ?_⟩
  have hc := h.2.2.2.2 ad e j hj
  have hb : (ad.add j).block = ad.block := by unfold Addr.add; split <;> rfl
  rw [hg.cell_far _ (lt_of_cell hc) (by rw [hb]; intro e2; have := hr _ e2.symm; have := hB ad e; omega), hc]
set_option maxHeartbeats 1600000 in
theorem hencode_yes (m : Msg) (ao : Option Addr) (n cap : Nat) (l : List UInt8) (w : World) (hm : m.good) (hb : Bts w ao n cap l) (hn : n ≤ 4096) :
    Calls Tryd.prog 9 #[.agg #[.int .u64 m.ta, .int .u64 m.rp, .int .u32 m.id, .int .u16 m.op, .int .u16 m.st, .int .u64 m.p, .int .u32 m.o, .int .u8 m.r, .int .u64 m.c, .int .u64 m.ar, .slice ao n cap]] w fun e w' => ∃ co cc, e = .returned (.tuple #[.slice co (46 + n) cc, .nilIface]) ∧ Bts w' co (46 + n) cc (msgF m l) ∧ Below w.heap.size w w' := by
  have hok := Msg.good_ok hm
  obtain ⟨o0, o1, o2, o3, o4, o5, o6, o7, o8, o9⟩ := hm
  have HD : Hid (hmayD m n = true) := decide_eq_true ⟨o0, o1, ⟨o5, o6, o8⟩, hn⟩
  have HT : Hid (Below w.heap.size w (w.alloc (.cells #[.int .u64 m.ta, .int .u64 m.rp, .int .u32 m.id, .int .u16 m.op, .int .u16 m.st, .int .u64 m.p, .int .u32 m.o, .int .u8 m.r, .int .u64 m.c, .int .u64 m.ar, .slice ao n cap] 29))) := below_alloc _ _
  have HX : Hid (MBox (w.alloc (.cells #[.int .u64 m.ta, .int .u64 m.rp, .int .u32 m.id, .int .u16 m.op, .int .u16 m.st, .int .u64 m.p, .int .u32 m.o, .int .u8 m.r, .int .u64 m.c, .int .u64 m.ar, .slice ao n cap] 29)) w.heap.size m (.slice ao n cap)) := mbox_new w m _
  have HB : Hid (Bts w ao n cap l) := hb
  clear hb
  obtain ⟨i0, hi, hz0, hz1, hz2⟩ := info_parts Tryd.info5
  go_enter Tryd.func9, Tryd.ntmps9
  go_wp2_with fail
  refine (hmay_any m ao n cap _ hok (by omega)).mono ?_; rintro e w1 ⟨rfl, bel1⟩
  rw [HD.out]
  have b1 : Below w.heap.size w w1 := below_one HT.out bel1
  have HX1 : Hid (MBox w1 w.heap.size m (.slice ao n cap)) := HX.out.carry bel1
  clear bel1 HX HT hok
  obtain ⟨k0, k1, k2, k3, k4, k5, k6, k7, k8, k9, k10⟩ := HX1.out
  go_wp2_with fail
  refine (put_to none 0 0 m.ta 6 6 [] _ (bts_nil _) rfl (by omega) (by omega) (by omega) (by omega)).mono ?_; rintro e w2 ⟨rfl, hown2, bel2⟩
  have b2 : Below w.heap.size w w2 := below_one b1 bel2
  have HB2 : Hid (Bts w2 (some ⟨w1.heap.size, 0, none⟩) 6 6 ([] ++ putF m.ta 6)) := owns_at hown2
  have HX2 : Hid (MBox w2 w.heap.size m (.slice ao n cap)) := HX1.out.carry bel2
  clear hown2 bel2 b1 HX1
  clear k0 k1 k2 k3 k4 k5 k6 k7 k8 k9 k10
  obtain ⟨k0, k1, k2, k3, k4, k5, k6, k7, k8, k9, k10⟩ := HX2.out
  go_wp2_with fail
  refine (put_to _ 6 6 m.rp 6 12 _ _ HB2.out rfl (by omega) (by omega) (by omega) (by omega)).mono ?_; rintro e w3 ⟨rfl, hown3, bel3⟩
  have b3 : Below w.heap.size w w3 := below_one b2 bel3
  have HB3 : Hid (Bts w3 (some ⟨w2.heap.size, 0, none⟩) 12 12 ([] ++ putF m.ta 6 ++ putF m.rp 6)) := owns_at hown3
  have HX3 : Hid (MBox w3 w.heap.size m (.slice ao n cap)) := HX2.out.carry bel3
  clear hown3 bel3 b2 HX2 HB2
  clear k0 k1 k2 k3 k4 k5 k6 k7 k8 k9 k10
  obtain ⟨k0, k1, k2, k3, k4, k5, k6, k7, k8, k9, k10⟩ := HX3.out
  go_wp2_with fail
  refine (put_to _ 12 12 m.id 4 16 _ _ HB3.out rfl (by omega) (by omega) (by omega) (by omega)).mono ?_; rintro e w4 ⟨rfl, hown4, bel4⟩
  have b4 : Below w.heap.size w w4 := below_one b3 bel4
  have HB4 : Hid (Bts w4 (some ⟨w3.heap.size, 0, none⟩) 16 16 ([] ++ putF m.ta 6 ++ putF m.rp 6 ++ putF m.id 4)) := owns_at hown4
  have HX4 : Hid (MBox w4 w.heap.size m (.slice ao n cap)) := HX3.out.carry bel4
  clear hown4 bel4 b3 HX3 HB3
  clear k0 k1 k2 k3 k4 k5 k6 k7 k8 k9 k10
  obtain ⟨k0, k1, k2, k3, k4, k5, k6, k7, k8, k9, k10⟩ := HX4.out
  go_wp2_with fail
  refine (put_to _ 16 16 m.op 2 18 _ _ HB4.out rfl (by omega) (by omega) (by omega) (by omega)).mono ?_; rintro e w5 ⟨rfl, hown5, bel5⟩
  have b5 : Below w.heap.size w w5 := below_one b4 bel5
  have HB5 : Hid (Bts w5 (some ⟨w4.heap.size, 0, none⟩) 18 18 ([] ++ putF m.ta 6 ++ putF m.rp 6 ++ putF m.id 4 ++ putF m.op 2)) := owns_at hown5
  have HX5 : Hid (MBox w5 w.heap.size m (.slice ao n cap)) := HX4.out.carry bel5
  clear hown5 bel5 b4 HX4 HB4
  clear k0 k1 k2 k3 k4 k5 k6 k7 k8 k9 k10
  obtain ⟨k0, k1, k2, k3, k4, k5, k6, k7, k8, k9, k10⟩ := HX5.out
  go_wp2_with fail
  refine (put_to _ 18 18 m.st 2 20 _ _ HB5.out rfl (by omega) (by omega) (by omega) (by omega)).mono ?_; rintro e w6 ⟨rfl, hown6, bel6⟩
  have b6 : Below w.heap.size w w6 := below_one b5 bel6
  have HO6 : Hid (w6.ownsRow w5.heap.size 5 1 (.slice (some ⟨w5.heap.size, 0, none⟩) 20 20) 20 (cellsB ([] ++ putF m.ta 6 ++ putF m.rp 6 ++ putF m.id 4 ++ putF m.op 2 ++ putF m.st 2))) := hown6
  have HX6 : Hid (MBox w6 w.heap.size m (.slice ao n cap)) := HX5.out.carry bel6
  have hs5 : w.heap.size < w5.heap.size := HX5.out.lt
  clear hown6 bel6 b5 HX5 HB5
  clear k0 k1 k2 k3 k4 k5 k6 k7 k8 k9 k10
  obtain ⟨k0, k1, k2, k3, k4, k5, k6, k7, k8, k9, k10⟩ := HX6.out
  go_wp2_with fail
  refine (encode_yes m.p m.o m.r m.c _ o5 o6 o7 o8).mono ?_; rintro e w7 ⟨g, rfl, hg, hown7, bel7⟩
  have b7 : Below w.heap.size w w7 := below_one b6 bel7
  have HE7 : Hid (Bts w7 (some ⟨g, 0, none⟩) 16 16 (capF m.p m.o m.r m.c)) := owns_at hown7
  have HO7 : Hid (w7.ownsRow w5.heap.size 5 1 (.slice (some ⟨w5.heap.size, 0, none⟩) 20 20) 20 (cellsB ([] ++ putF m.ta 6 ++ putF m.rp 6 ++ putF m.id 4 ++ putF m.op 2 ++ putF m.st 2))) := owns_carry HO6.out bel7
  have HX7 : Hid (MBox w7 w.heap.size m (.slice ao n cap)) := HX6.out.carry bel7
  have hs7 : w5.heap.size ≤ w7.heap.size := Nat.le_of_lt (owns_lt HO7.out _ rfl).2
  clear hown7 bel7 b6 HX6 HO6 hg
  clear k0 k1 k2 k3 k4 k5 k6 k7 k8 k9 k10
  go_wp2_with (at_builtin; refine wpList_append_own _ rfl _ _ 27 rfl w5.heap.size 5 i0 (.int .u8 0) 1 1 Tryd.underlying27 hi hz0 hz1 hz2 rfl (by decide) _ 20 _ rfl HO7.out ⟨g, 0, none⟩ 16 16 (cellsB (capF m.p m.o m.r m.c)) rfl (by rw [cellsB_len, capF_len]) ?c1 (cellsB_one _) (by unfold maxLen; omega) (by omega) hs7 ?_)
  case c1 => exact HE7.out.news _ rfl
  intro v' w8 hown8 hgrow8 _
  rw [← cellsB_append] at hown8
  have b8 : Below w.heap.size w w8 := b7.grown hgrow8 b7.size (fun k e => by cases e; exact Nat.le_of_lt hs5)
  have HX8 : Hid (MBox w8 w.heap.size m (.slice ao n cap)) := HX7.out.grown hgrow8 (by intro e; have e' : w.heap.size = w5.heap.size := Option.some.inj e; omega)
  obtain ⟨co, cc, rfl, hb8⟩ := owns_bts hown8
  have HB8 : Hid (Bts w8 co 36 cc ([] ++ putF m.ta 6 ++ putF m.rp 6 ++ putF m.id 4 ++ putF m.op 2 ++ putF m.st 2 ++ capF m.p m.o m.r m.c)) := hb8
  clear hown8 hgrow8 hb8 HX7 b7 HO7 HE7
  obtain ⟨k0, k1, k2, k3, k4, k5, k6, k7, k8, k9, k10⟩ := HX8.out
  go_wp2_with fail
  refine (put_to co 36 cc m.ar 8 44 _ _ HB8.out rfl (by omega) (by omega) (by omega) (by omega)).mono ?_; rintro e w9 ⟨rfl, hown9, bel9⟩
  have b9 : Below w.heap.size w w9 := below_one b8 bel9
  have HB9 : Hid (Bts w9 (some ⟨w8.heap.size, 0, none⟩) 44 44 ([] ++ putF m.ta 6 ++ putF m.rp 6 ++ putF m.id 4 ++ putF m.op 2 ++ putF m.st 2 ++ capF m.p m.o m.r m.c ++ putF m.ar 8)) := owns_at hown9
  have HX9 : Hid (MBox w9 w.heap.size m (.slice ao n cap)) := HX8.out.carry bel9
  have HD9 : Hid (Bts w9 ao n cap l) := HB.out.carry b9
  clear hown9 bel9 b8 HX8 HB8 HB
  clear k0 k1 k2 k3 k4 k5 k6 k7 k8 k9 k10
  obtain ⟨k0, k1, k2, k3, k4, k5, k6, k7, k8, k9, k10⟩ := HX9.out
  go_wp2_with fail
  refine (putBytes_yes _ 44 44 _ ao n cap l _ HB9.out HD9.out (by omega) (by omega)).mono ?_; rintro e w10 ⟨co2, cc2, rfl, hb10, hn10, bel10⟩
  have HB10 : Hid (Bts w10 co2 (46 + n) cc2 (msgF m l)) := by
    have e1 : n = l.length := HD9.out.1
    rw [show 44 + 2 + n = 46 + n from by omega] at hb10
    unfold msgF; rw [← e1]; exact hb10
  have b10 : Below w.heap.size w w10 := below_one b9 bel10
  clear hb10 bel10 b9 HX9 HB9 HD9
  clear k0 k1 k2 k3 k4 k5 k6 k7 k8 k9 k10
  go_wp2
  go_ret2
  exact ⟨co2, cc2, by rw [show 44 + 2 + n = 46 + n from by omega]; rfl, HB10.out, b10⟩
set_option maxHeartbeats 800000 in
theorem hencode_no (m : Msg) (ao : Option Addr) (n cap : Nat) (w : World) (hm : m.ok) (hn : n ≤ 9223372036854775807) (hno : hmayD m n = false) :
    Calls Tryd.prog 9 #[.agg #[.int .u64 m.ta, .int .u64 m.rp, .int .u32 m.id, .int .u16 m.op, .int .u16 m.st, .int .u64 m.p, .int .u32 m.o, .int .u8 m.r, .int .u64 m.c, .int .u64 m.ar, .slice ao n cap]] w fun e w' => e = .returned (.tuple #[.slice none 0 0, .iface 32 (.int .i64 8)]) ∧ Below w.heap.size w w' := by
  have HD : Hid (hmayD m n = false) := hno
  clear hno
  have HT : Hid (Below w.heap.size w (w.alloc (.cells #[.int .u64 m.ta, .int .u64 m.rp, .int .u32 m.id, .int .u16 m.op, .int .u16 m.st, .int .u64 m.p, .int .u32 m.o, .int .u8 m.r, .int .u64 m.c, .int .u64 m.ar, .slice ao n cap] 29))) := below_alloc _ _
  go_enter Tryd.func9, Tryd.ntmps9
  go_wp2_with fail
  refine (hmay_any m ao n cap _ hm (by omega)).mono ?_; rintro e w1 ⟨rfl, bel1⟩
  rw [HD.out]
  go_wp2
  go_ret2
  exact ⟨rfl, below_one HT.out bel1⟩
end Go.Proofs.YtmgbcnlnikchbaaDoor
