/-
  HeaderTwo: two messages that may be have the same bytes just if they are the same.
-/
import Derived.Test.YtmgbcnlnikchbaaRows
import Derived.Test.YtmgbcnlnikchbaaHMay
import Derived.Test.YtmgbcnlnikchbaaHAwake
import Derived.Test.YtmgbcnlnikchbaaHOpen
import Derived.Test.YtmgbcnlnikchbaaHMath
import Derived.Test.YtmgbcnlnikchbaaHFill
import Derived.Deep.CutRange
import Derived.WalkKit
import Derived.WalkSpells
import Derived.WalkLawsBesides
import Derived.Deep.QuietTactic
import Derived.BigQuiet
import Derived.ProofKit
import Derived.OpenShut
import Derived.ShutString
import Derived.ChangeOld
import Derived.Below
import Derived.SizedLaws
namespace Go.Proofs.Ytmgbcnlnikchbaa

open Go.RowKit
theorem bcell {W w1 : World} (hb : Below W.heap.size W w1) : (∀ b o, b < W.heap.size → w1.cell? ⟨b, o, none⟩ = W.cell? ⟨b, o, none⟩) ∧ (∀ b o, b < W.heap.size → w1.frozen? ⟨b, o, none⟩ = W.frozen? ⟨b, o, none⟩) :=
  ⟨fun b o h => hb.cell (p := ⟨b, o, none⟩) h, fun b o h => hb.frozen (p := ⟨b, o, none⟩) h⟩
set_option maxHeartbeats 4000000 in
theorem walk_two (m : Msg) (ao : Option Addr) (n cap : Nat) (l : List UInt8) (k : Msg) (bo : Option Addr) (nb capb : Nat) (r : List UInt8) (w : World) (hm : m.ok) (hk : k.ok) (ha : Bts w ao n cap l) (hb : Bts w bo nb capb r) :
    Calls Try.prog 5 #[.agg #[.int .u64 m.ta, .int .u64 m.rp, .int .u32 m.id, .int .u16 m.op, .int .u16 m.st, .int .u64 m.p, .int .u32 m.o, .int .u8 m.r, .int .u64 m.c, .int .u64 m.ar, .slice ao n cap], .agg #[.int .u64 k.ta, .int .u64 k.rp, .int .u32 k.id, .int .u16 k.op, .int .u16 k.st, .int .u64 k.p, .int .u32 k.o, .int .u8 k.r, .int .u64 k.c, .int .u64 k.ar, .slice bo nb capb]] w fun e w' => e = .returned (.bool true) ∧ Below w.heap.size w w' := by
  obtain ⟨m', hm'⟩ : ∃ x, m.made = x := ⟨_, rfl⟩
  obtain ⟨k', hk'⟩ : ∃ x, k.made = x := ⟨_, rfl⟩
  obtain ⟨nl, hnl⟩ : ∃ x, min n 4096 = x := ⟨_, rfl⟩
  obtain ⟨nr, hnr⟩ : ∃ x, min nb 4096 = x := ⟨_, rfl⟩
  have HGM : Hid (m'.good) := by show m'.good; rw [← hm']; exact Msg.made_good hm
  have HGK : Hid (k'.good) := by show k'.good; rw [← hk']; exact Msg.made_good hk
  have hl4 : nl ≤ 4096 := by omega
  have hr4 : nr ≤ 4096 := by omega
  have HM : Hid _ := hm'
  have HK : Hid _ := hk'
  have HNL : Hid _ := hnl
  have HNR : Hid _ := hnr
  have HOM : Hid (m.ok) := hm
  have HOK : Hid (k.ok) := hk
  have HA : Hid (Bts w ao n cap l) := ha
  have HB : Hid (Bts w bo nb capb r) := hb
  have HT0 : Hid (Below w.heap.size w (w.alloc (.cells #[.int .u64 m.ta, .int .u64 m.rp, .int .u32 m.id, .int .u16 m.op, .int .u16 m.st, .int .u64 m.p, .int .u32 m.o, .int .u8 m.r, .int .u64 m.c, .int .u64 m.ar, .slice ao n cap] 29))) := below_alloc _ _
  have HX0 : Hid (MBox (w.alloc (.cells #[.int .u64 m.ta, .int .u64 m.rp, .int .u32 m.id, .int .u16 m.op, .int .u16 m.st, .int .u64 m.p, .int .u32 m.o, .int .u8 m.r, .int .u64 m.c, .int .u64 m.ar, .slice ao n cap] 29)) w.heap.size m (.slice ao n cap)) := mbox_new w m _
  have HT : Hid (Below w.heap.size w ((w.alloc (.cells #[.int .u64 m.ta, .int .u64 m.rp, .int .u32 m.id, .int .u16 m.op, .int .u16 m.st, .int .u64 m.p, .int .u32 m.o, .int .u8 m.r, .int .u64 m.c, .int .u64 m.ar, .slice ao n cap] 29)).alloc (.cells #[.int .u64 k.ta, .int .u64 k.rp, .int .u32 k.id, .int .u16 k.op, .int .u16 k.st, .int .u64 k.p, .int .u32 k.o, .int .u8 k.r, .int .u64 k.c, .int .u64 k.ar, .slice bo nb capb] 29))) := below_one HT0.out (below_alloc _ _)
  have HX : Hid (MBox ((w.alloc (.cells #[.int .u64 m.ta, .int .u64 m.rp, .int .u32 m.id, .int .u16 m.op, .int .u16 m.st, .int .u64 m.p, .int .u32 m.o, .int .u8 m.r, .int .u64 m.c, .int .u64 m.ar, .slice ao n cap] 29)).alloc (.cells #[.int .u64 k.ta, .int .u64 k.rp, .int .u32 k.id, .int .u16 k.op, .int .u16 k.st, .int .u64 k.p, .int .u32 k.o, .int .u8 k.r, .int .u64 k.c, .int .u64 k.ar, .slice bo nb capb] 29)) w.heap.size m (.slice ao n cap)) := HX0.out.carry (below_alloc _ _)
  have HY : Hid (MBox ((w.alloc (.cells #[.int .u64 m.ta, .int .u64 m.rp, .int .u32 m.id, .int .u16 m.op, .int .u16 m.st, .int .u64 m.p, .int .u32 m.o, .int .u8 m.r, .int .u64 m.c, .int .u64 m.ar, .slice ao n cap] 29)).alloc (.cells #[.int .u64 k.ta, .int .u64 k.rp, .int .u32 k.id, .int .u16 k.op, .int .u16 k.st, .int .u64 k.p, .int .u32 k.o, .int .u8 k.r, .int .u64 k.c, .int .u64 k.ar, .slice bo nb capb] 29)) (w.heap.size + 1) k (.slice bo nb capb)) := by
    have h := mbox_new (w.alloc (.cells #[.int .u64 m.ta, .int .u64 m.rp, .int .u32 m.id, .int .u16 m.op, .int .u16 m.st, .int .u64 m.p, .int .u32 m.o, .int .u8 m.r, .int .u64 m.c, .int .u64 m.ar, .slice ao n cap] 29)) k (.slice bo nb capb)
    rw [show (w.alloc (.cells #[.int .u64 m.ta, .int .u64 m.rp, .int .u32 m.id, .int .u16 m.op, .int .u16 m.st, .int .u64 m.p, .int .u32 m.o, .int .u8 m.r, .int .u64 m.c, .int .u64 m.ar, .slice ao n cap] 29)).heap.size = w.heap.size + 1 from by simp] at h
    exact h
  clear ha hb hm hk hm' hk' hnl hnr HT0 HX0
  go_enter Try.func5, Try.ntmps5
  go_wp2_with fail
  refine (awake_any _).mono ?_; rintro e w1 ⟨rfl, bel1⟩
  have b1 : Below w.heap.size w w1 := below_one HT.out bel1
  have hS : Hid (MBox w1 w.heap.size m (.slice ao n cap) ∧ MBox w1 (w.heap.size + 1) k (.slice bo nb capb)) := ⟨HX.out.carry bel1, HY.out.carry bel1⟩
  clear HT HX HY bel1
  go_wp2_with fail
  go_cut [5, 6] from 13 to 16 (fun x y wx => TwoRel w m' k' (l.take 4096) (r.take 4096) nl nr x y wx)
  case first =>
    have HX1 := hide hS.out.1
    have HY1 := hide hS.out.2
    have HA1 := hide (HA.out.carry b1)
    have HB1 := hide (HB.out.carry b1)
    have bb : Below w1.heap.size w1 w1.drew := (Below.refl _ _).drew
    have hz0 : w1.heap.size ≤ w1.heap.size := Nat.le_refl _
    clear hS
    go_region_held (fun w' => (w'.cell? ⟨w.heap.size, 0, none⟩ = some (.int .u64 m.ta) ∧ w'.cell? ⟨w.heap.size, 1, none⟩ = some (.int .u64 m.rp) ∧ w'.cell? ⟨w.heap.size, 2, none⟩ = some (.int .u32 m.id) ∧ w'.cell? ⟨w.heap.size, 3, none⟩ = some (.int .u16 m.op) ∧ w'.cell? ⟨w.heap.size, 4, none⟩ = some (.int .u16 m.st) ∧ w'.cell? ⟨w.heap.size, 5, none⟩ = some (.int .u64 m.p) ∧ w'.cell? ⟨w.heap.size, 6, none⟩ = some (.int .u32 m.o) ∧ w'.cell? ⟨w.heap.size, 7, none⟩ = some (.int .u8 m.r) ∧ w'.cell? ⟨w.heap.size, 8, none⟩ = some (.int .u64 m.c) ∧ w'.cell? ⟨w.heap.size, 9, none⟩ = some (.int .u64 m.ar) ∧ w'.cell? ⟨w.heap.size, 10, none⟩ = some (.slice ao n cap)) ∧ (w'.cell? ⟨(w.heap.size + 1), 0, none⟩ = some (.int .u64 k.ta) ∧ w'.cell? ⟨(w.heap.size + 1), 1, none⟩ = some (.int .u64 k.rp) ∧ w'.cell? ⟨(w.heap.size + 1), 2, none⟩ = some (.int .u32 k.id) ∧ w'.cell? ⟨(w.heap.size + 1), 3, none⟩ = some (.int .u16 k.op) ∧ w'.cell? ⟨(w.heap.size + 1), 4, none⟩ = some (.int .u16 k.st) ∧ w'.cell? ⟨(w.heap.size + 1), 5, none⟩ = some (.int .u64 k.p) ∧ w'.cell? ⟨(w.heap.size + 1), 6, none⟩ = some (.int .u32 k.o) ∧ w'.cell? ⟨(w.heap.size + 1), 7, none⟩ = some (.int .u8 k.r) ∧ w'.cell? ⟨(w.heap.size + 1), 8, none⟩ = some (.int .u64 k.c) ∧ w'.cell? ⟨(w.heap.size + 1), 9, none⟩ = some (.int .u64 k.ar) ∧ w'.cell? ⟨(w.heap.size + 1), 10, none⟩ = some (.slice bo nb capb)))
      (exact ⟨HX1.out.carry (by go_grown), HY1.out.carry (by go_grown)⟩)
      (first
        | (go_at_call_of 8 (Value.agg #[.int .u64 m.ta, .int .u64 m.rp, .int .u32 m.id, .int .u16 m.op, .int .u16 m.st, .int .u64 m.p, .int .u32 m.o, .int .u8 m.r, .int .u64 m.c, .int .u64 m.ar, .slice ao n cap]); refine (hmake_at m ao n cap l _ HOM.out (HA1.out.carry (by go_grown)) m' HM.out nl HNL.out).mono ?_; rintro e wx ⟨cx, ccx, rfl, hbx, hnx, bel⟩; have bb : Below w1.heap.size w1 wx := below_one (by go_grown) bel; have HBX := hide hbx; have HPX := hide (apart hbx hnx); obtain ⟨hc1, hf1⟩ := bcell bel; have hq1 := bel.size; have hzx := bb.size; (try simp only [World.size_alloc, World.size_drew] at hq1); (try have y1 : w1.heap.size < wx.heap.size := by omega); (try have y2 : w1.heap.size + 1 < wx.heap.size := by omega); (try have y3 : w1.heap.size < wx.heap.size + 1 := by omega); (try have y4 : w1.heap.size < wx.heap.size + 1 + 1 := by omega); clear bel hbx hnx)
        | (go_at_call_of 8 (Value.agg #[.int .u64 k.ta, .int .u64 k.rp, .int .u32 k.id, .int .u16 k.op, .int .u16 k.st, .int .u64 k.p, .int .u32 k.o, .int .u8 k.r, .int .u64 k.c, .int .u64 k.ar, .slice bo nb capb]); refine (hmake_at k bo nb capb r _ HOK.out (HB1.out.carry (by go_grown)) k' HK.out nr HNR.out).mono ?_; rintro e wy ⟨cy, ccy, rfl, hby, hny, bel⟩; have bb : Below w1.heap.size w1 wy := below_one (by go_grown) bel; have HBX := hide ((HBX.out.carry (by go_grown)).carry bel); have HBY := hide hby; have HPY := hide (apart hby hny); obtain ⟨hc2, hf2⟩ := bcell bel; have hq2 := bel.size; have hzy := bb.size; (try simp only [World.size_alloc] at hq2); (try have t1 : w1.heap.size < wy.heap.size := by omega); (try have t2 : w1.heap.size + 1 < wy.heap.size := by omega); (try have t3 : wx.heap.size < wy.heap.size := by omega); (try have t4 : wx.heap.size + 1 < wy.heap.size := by omega); clear bel hby hny))
    all_goals go_wp2_with fail
    all_goals go_meet
    · exact rel1 b1 bb HBX.out HBY.out
    · exact rel2 b1 bb HBX.out HBY.out
    · exact rel3 _ b1 bb HBX.out HBY.out (by refine ⟨?_, ?_, ?_, ?_, ?_, ?_, ?_, ?_, ?_, ?_, ?_⟩ <;> go_simp <;> rfl) (by omega) (HPX.out _ (by first | omega | (simp; done) | (simp; omega))) (HPY.out _ (by first | omega | (simp; done) | (simp; omega)))
    · exact rel4 _ _ b1 bb HBX.out HBY.out (by refine ⟨?_, ?_, ?_, ?_, ?_, ?_, ?_, ?_, ?_, ?_, ?_⟩ <;> go_simp <;> rfl) (by refine ⟨?_, ?_, ?_, ?_, ?_, ?_, ?_, ?_, ?_, ?_, ?_⟩ <;> go_simp <;> rfl) (by omega) (by omega) (by omega) (HPX.out _ (by first | omega | (simp; done) | (simp; omega))) (HPY.out _ (by first | omega | (simp; done) | (simp; omega))) (HPX.out _ (by first | omega | (simp; done) | (simp; omega))) (HPY.out _ (by first | omega | (simp; done) | (simp; omega)))
    · exact rel5 _ b1 bb HBX.out HBY.out (by refine ⟨?_, ?_, ?_, ?_, ?_, ?_, ?_, ?_, ?_, ?_, ?_⟩ <;> go_simp <;> rfl) (by omega) (HPX.out _ (by first | omega | (simp; done) | (simp; omega))) (HPY.out _ (by first | omega | (simp; done) | (simp; omega)))
    · exact rel4 _ _ b1 bb HBX.out HBY.out (by refine ⟨?_, ?_, ?_, ?_, ?_, ?_, ?_, ?_, ?_, ?_, ?_⟩ <;> go_simp <;> rfl) (by refine ⟨?_, ?_, ?_, ?_, ?_, ?_, ?_, ?_, ?_, ?_, ?_⟩ <;> go_simp <;> rfl) (by omega) (by omega) (by omega) (HPX.out _ (by first | omega | (simp; done) | (simp; omega))) (HPY.out _ (by first | omega | (simp; done) | (simp; omega))) (HPX.out _ (by first | omega | (simp; done) | (simp; omega))) (HPY.out _ (by first | omega | (simp; done) | (simp; omega)))
    · exact rel3 _ b1 bb HBX.out HBY.out (by refine ⟨?_, ?_, ?_, ?_, ?_, ?_, ?_, ?_, ?_, ?_, ?_⟩ <;> go_simp <;> rfl) (by omega) (HPX.out _ (by first | omega | (simp; done) | (simp; omega))) (HPY.out _ (by first | omega | (simp; done) | (simp; omega)))
    · exact rel4 _ _ b1 bb HBX.out HBY.out (by refine ⟨?_, ?_, ?_, ?_, ?_, ?_, ?_, ?_, ?_, ?_, ?_⟩ <;> go_simp <;> rfl) (by refine ⟨?_, ?_, ?_, ?_, ?_, ?_, ?_, ?_, ?_, ?_, ?_⟩ <;> go_simp <;> rfl) (by omega) (by omega) (by omega) (HPX.out _ (by first | omega | (simp; done) | (simp; omega))) (HPY.out _ (by first | omega | (simp; done) | (simp; omega))) (HPX.out _ (by first | omega | (simp; done) | (simp; omega))) (HPY.out _ (by first | omega | (simp; done) | (simp; omega)))
    · exact rel4 _ _ b1 bb HBX.out HBY.out (by refine ⟨?_, ?_, ?_, ?_, ?_, ?_, ?_, ?_, ?_, ?_, ?_⟩ <;> go_simp <;> rfl) (by refine ⟨?_, ?_, ?_, ?_, ?_, ?_, ?_, ?_, ?_, ?_, ?_⟩ <;> go_simp <;> rfl) (by omega) (by omega) (by omega) (HPX.out _ (by first | omega | (simp; done) | (simp; omega))) (HPY.out _ (by first | omega | (simp; done) | (simp; omega))) (HPX.out _ (by first | omega | (simp; done) | (simp; omega))) (HPY.out _ (by first | omega | (simp; done) | (simp; omega)))
    · exact rel5 _ b1 bb HBX.out HBY.out (by refine ⟨?_, ?_, ?_, ?_, ?_, ?_, ?_, ?_, ?_, ?_, ?_⟩ <;> go_simp <;> rfl) (by omega) (HPX.out _ (by first | omega | (simp; done) | (simp; omega))) (HPY.out _ (by first | omega | (simp; done) | (simp; omega)))
    · exact rel4 _ _ b1 bb HBX.out HBY.out (by refine ⟨?_, ?_, ?_, ?_, ?_, ?_, ?_, ?_, ?_, ?_, ?_⟩ <;> go_simp <;> rfl) (by refine ⟨?_, ?_, ?_, ?_, ?_, ?_, ?_, ?_, ?_, ?_, ?_⟩ <;> go_simp <;> rfl) (by omega) (by omega) (by omega) (HPX.out _ (by first | omega | (simp; done) | (simp; omega))) (HPY.out _ (by first | omega | (simp; done) | (simp; omega))) (HPX.out _ (by first | omega | (simp; done) | (simp; omega))) (HPY.out _ (by first | omega | (simp; done) | (simp; omega)))
    · exact rel4 _ _ b1 bb HBX.out HBY.out (by refine ⟨?_, ?_, ?_, ?_, ?_, ?_, ?_, ?_, ?_, ?_, ?_⟩ <;> go_simp <;> rfl) (by refine ⟨?_, ?_, ?_, ?_, ?_, ?_, ?_, ?_, ?_, ?_, ?_⟩ <;> go_simp <;> rfl) (by omega) (by omega) (by omega) (HPX.out _ (by first | omega | (simp; done) | (simp; omega))) (HPY.out _ (by first | omega | (simp; done) | (simp; omega))) (HPX.out _ (by first | omega | (simp; done) | (simp; omega))) (HPY.out _ (by first | omega | (simp; done) | (simp; omega)))
  case rest =>
    clear hS b1
    obtain ⟨gx, gy, cx, ccx, cy, ccy, rfl, rfl, HX2, HY2, HD2, HE2, HL2⟩ := hcut
    have b2 := HL2.out
    obtain ⟨k0, k1, k2, k3, k4, k5, k6, k7, k8, k9, k10⟩ := HX2.out
    go_wp2_with fail
    refine (hencode_yes m' cx nl ccx (l.take 4096) _ HGM.out HD2.out hl4).mono ?_; rintro e w3 ⟨ca, cca, rfl, hb3, bel3⟩
    have b3 : Below w.heap.size w w3 := below_one b2 bel3
    have HX3 : Hid (MBox w3 gx m' (.slice cx nl ccx)) := HX2.out.carry bel3
    have HY3 : Hid (MBox w3 gy k' (.slice cy nr ccy)) := HY2.out.carry bel3
    have HD3 : Hid (Bts w3 cx nl ccx (l.take 4096)) := HD2.out.carry bel3
    have HE3 : Hid (Bts w3 cy nr ccy (r.take 4096)) := HE2.out.carry bel3
    have HR3 := hide hb3
    clear bel3 b2 HX2 HY2 HD2 HE2 HL2 hb3
    clear k0 k1 k2 k3 k4 k5 k6 k7 k8 k9 k10
    obtain ⟨k0, k1, k2, k3, k4, k5, k6, k7, k8, k9, k10⟩ := HY3.out
    go_wp2_with fail
    refine (hencode_yes k' cy nr ccy (r.take 4096) _ HGK.out HE3.out hr4).mono ?_; rintro e w4 ⟨cb, ccb, rfl, hb4, bel4⟩
    have b4 : Below w.heap.size w w4 := below_one b3 bel4
    have bb := b4.drew
    have hS := hide (And.intro (HX3.out.carry bel4).drew (HY3.out.carry bel4).drew)
    have HD4 := hide (HD3.out.carry bel4).drew
    have HE4 := hide (HE3.out.carry bel4).drew
    have HA4 := hide (HR3.out.carry bel4).drew
    have HB4 := hide (Bts.drew hb4)
    clear bel4 b3 HX3 HY3 HD3 HE3 HR3 hb4 b4
    clear k0 k1 k2 k3 k4 k5 k6 k7 k8 k9 k10
    obtain ⟨q, hq⟩ : ∃ q, sameD m' k' (l.take 4096) (r.take 4096) = q := ⟨_, rfl⟩
    have HQ : Hid _ := hq
    have HE1 : Hid ((((str (msgF m' (l.take 4096))).toList == (str (msgF k' (r.take 4096))).toList) == q) = true) := by
      show ((((str (msgF m' (l.take 4096))).toList == (str (msgF k' (r.take 4096))).toList) == q) = true)
      rw [str_list, str_list, ← hq]
      by_cases h : msgF m' (l.take 4096) = msgF k' (r.take 4096)
      · rw [sameD_iff.2 (msg_inj _ _ _ _ HGM.out HGK.out h), h, BEq.rfl]; rfl
      · rw [beq_eq_false_iff_ne.2 h]
        have : sameD m' k' (l.take 4096) (r.take 4096) = false := by
          cases hs : sameD m' k' (l.take 4096) (r.take 4096) with
          | false => rfl
          | true => obtain ⟨e1, e2⟩ := sameD_iff.1 hs; exact absurd (by rw [e1, e2]) h
        rw [this]; rfl
    clear hq
    go_wp2_with fail
    go_region_held (fun w' => (w'.cell? ⟨gx, 0, none⟩ = some (.int .u64 m'.ta) ∧ w'.cell? ⟨gx, 1, none⟩ = some (.int .u64 m'.rp) ∧ w'.cell? ⟨gx, 2, none⟩ = some (.int .u32 m'.id) ∧ w'.cell? ⟨gx, 3, none⟩ = some (.int .u16 m'.op) ∧ w'.cell? ⟨gx, 4, none⟩ = some (.int .u16 m'.st) ∧ w'.cell? ⟨gx, 5, none⟩ = some (.int .u64 m'.p) ∧ w'.cell? ⟨gx, 6, none⟩ = some (.int .u32 m'.o) ∧ w'.cell? ⟨gx, 7, none⟩ = some (.int .u8 m'.r) ∧ w'.cell? ⟨gx, 8, none⟩ = some (.int .u64 m'.c) ∧ w'.cell? ⟨gx, 9, none⟩ = some (.int .u64 m'.ar) ∧ w'.cell? ⟨gx, 10, none⟩ = some (.slice cx nl ccx)) ∧ (w'.cell? ⟨gy, 0, none⟩ = some (.int .u64 k'.ta) ∧ w'.cell? ⟨gy, 1, none⟩ = some (.int .u64 k'.rp) ∧ w'.cell? ⟨gy, 2, none⟩ = some (.int .u32 k'.id) ∧ w'.cell? ⟨gy, 3, none⟩ = some (.int .u16 k'.op) ∧ w'.cell? ⟨gy, 4, none⟩ = some (.int .u16 k'.st) ∧ w'.cell? ⟨gy, 5, none⟩ = some (.int .u64 k'.p) ∧ w'.cell? ⟨gy, 6, none⟩ = some (.int .u32 k'.o) ∧ w'.cell? ⟨gy, 7, none⟩ = some (.int .u8 k'.r) ∧ w'.cell? ⟨gy, 8, none⟩ = some (.int .u64 k'.c) ∧ w'.cell? ⟨gy, 9, none⟩ = some (.int .u64 k'.ar) ∧ w'.cell? ⟨gy, 10, none⟩ = some (.slice cy nr ccy)) ∧ (convert 27 9 (.slice ca (46 + nl) cca)).run Try.prog w' = .ok (.string (str (msgF m' (l.take 4096)))) w' ∧ (convert 27 9 (.slice cb (46 + nr) ccb)).run Try.prog w' = .ok (.string (str (msgF k' (r.take 4096)))) w') (exact ⟨hS.out.1, hS.out.2, conv_bts HA4.out, conv_bts HB4.out⟩)
      (first
        | (go_at_call 15; refine (same_any m' k' cx nl ccx (l.take 4096) cy nr ccy (r.take 4096) _ HD4.out HE4.out).mono ?_; rintro e wx ⟨rfl, bel⟩; rw [HQ.out]; have bb := below_one bb bel; have hS := hide (And.intro (hS.out.1.carry bel) (hS.out.2.carry bel)); have HA4 := hide (HA4.out.carry bel); have HB4 := hide (HB4.out.carry bel); clear bel))
    go_wp2
    go_ret
    exact ⟨by rw [HE1.out]; rfl, bb⟩

end Go.Proofs.Ytmgbcnlnikchbaa

namespace Go.Proofs.Ytmgbcnlnikchbaa.headerTwo
open Go.ChangeShapes Go.WideShapes Go.ChangeAt Go.RowKit
set_option linter.unusedVariables false

theorem own : ownKnob Try.prog.godebug = none := by kernel_rfl
theorem laidOut : laidOutB Try.prog = true := by kernel_rfl

theorem walk (m0 : Msg) (a0 : Option Addr) (len0 cap0 : Nat) (z0 : List Int) (m1 : Msg) (a1 : Option Addr) (len1 cap1 : Nat) (z1 : List Int) (w : World) (w0 : m0.ok) (x0 : RowOf .u8 w a0 len0 cap0 z0) (w1 : m1.ok) (x1 : RowOf .u8 w a1 len1 cap1 z1) :
    Calls Try.prog 5 #[.agg #[.int .u64 m0.ta, .int .u64 m0.rp, .int .u32 m0.id, .int .u16 m0.op, .int .u16 m0.st, .int .u64 m0.p, .int .u32 m0.o, .int .u8 m0.r, .int .u64 m0.c, .int .u64 m0.ar, .slice a0 len0 cap0], .agg #[.int .u64 m1.ta, .int .u64 m1.rp, .int .u32 m1.id, .int .u16 m1.op, .int .u16 m1.st, .int .u64 m1.p, .int .u32 m1.o, .int .u8 m1.r, .int .u64 m1.c, .int .u64 m1.ar, .slice a1 len1 cap1]] w fun e w' => e = .returned (.bool true) ∧ Below w.heap.size w w' :=
  by obtain ⟨l, hl⟩ := x0.bytes; obtain ⟨r, hr⟩ := x1.bytes; exact walk_two m0 a0 len0 cap0 l m1 a1 len1 cap1 r w w0 w1 hl hr

set_option maxRecDepth 100000 in
theorem lifted (os : Os) (started : os.Started) (H : Type) (enc : TypeId × Value → H) :
    ReturnsInHanded {} Try.checked os 5 .any (Rows.headerTwoSpec.pre6 enc Try.prog Try.f5 Rows.headerTwoRow.domain false) (Rows.headerTwoSpec.post enc Try.prog Try.f5 false true false false) := by
  refine returnsInHanded_of_change (C := Try.checked) own started (by kernel_rfl) Try.func5
    (ChangeSpec.witness6 (enc := enc) (C := Try.checked) false ⟨#[], #[.agg #[.int .u64 0, .int .u64 0, .int .u32 0, .int .u16 0, .int .u16 0, .int .u64 0, .int .u32 0, .int .u8 0, .int .u64 0, .int .u64 0, .slice none 0 0], .agg #[.int .u64 0, .int .u64 0, .int .u32 0, .int .u16 0, .int .u16 0, .int .u64 0, .int .u32 0, .int .u8 0, .int .u64 0, .int .u64 0, .slice none 0 0]], []⟩ 8 (by kernel_rfl) (by kernel_rfl) (by kernel_rfl) (by kernel_rfl)) ?_
  intro W base args ds gs before hval0 hW hcnd _
  have hval : ∀ (j : Nat) t v, Try.f5.params[j]? = some t → args[j]? = some v → Value.okWide Try.prog W .any base t v := hval0
  have hW' := hW
  obtain ⟨p, q, hA0, hV, rfl, hfz, hnd⟩ := hW
  have hA : DataW.TrodAll enc Try.prog W 0 (fun _ => true) true Try.f5.params.toList args.toList ds p := hA0
  rw [Try.params5] at hA hval
  obtain ⟨v0, vs0, d0, ds0, p0, q0, hargs, rfl, rfl, h0, r0⟩ := trodAll_cons hA
  obtain ⟨v1, vs1, d1, ds1, p1, q1, rfl, rfl, rfl, h1, r1⟩ := trodAll_cons r0
  obtain ⟨rfl, rfl, rfl⟩ := trodAll_nil r1
  obtain rfl : args = #[v0, v1] := by cases args; simp_all
  obtain ⟨rfl, rfl⟩ := trodVars_none hV
  have k0 := h0
  have lt0 : ∀ x ∈ p0, x.block < W.heap.size := by obtain ⟨m, hm⟩ := k0; exact DataW.trod_lt m _ _ _ hm
  obtain ⟨m0, a0, len0, cap0, z0, rfl, w0, x0⟩ := open_msg (hval 0 29 v0 rfl rfl) h0
  have k1 := h1
  have lt1 : ∀ x ∈ p1, x.block < W.heap.size := by obtain ⟨m, hm⟩ := k1; exact DataW.trod_lt m _ _ _ hm
  obtain ⟨m1, a1, len1, cap1, z1, rfl, w1, x1⟩ := open_msg (hval 1 29 v1 rfl rfl) h1
  clear hA0 hval0
  refine (walk m0 a0 len0 cap0 z0 m1 a1 len1 cap1 z1 W w0 x0 w1 x1).mono fun e W' ⟨he, bel⟩ => ?_
  subst he
  exact ⟨_, rfl, _, _, _, [], _, [], hW', trodAll_mk1 (shut_bool Try.underlying4 _), (trodAll_cons_mk (Below.trod laidOut (by kernel_rfl) (of_decide_eq_true (by kernel_rfl)) k0 bel lt0) (trodAll_cons_mk (Below.trod laidOut (by kernel_rfl) (of_decide_eq_true (by kernel_rfl)) k1 bel lt1) trodAll_mk0)), rfl, bel.frame _, fun h => by cases h⟩

theorem over : Rows.headerTwoRow.holds Try.pinned (OpenSpec.ofChange Rows.headerTwoSpec) :=
  OpenClaim.holds_of_wide 5 Try.f5 rfl rfl rfl rfl rfl rfl rfl ⟨rfl, rfl, rfl, rfl, rfl⟩ rfl rfl rfl rfl rfl (by kernel_rfl) Try.func5 (by kernel_rfl)
    (of_decide_eq_true (by kernel_rfl)) (by unfold Func.isWrapper; first | (rw [if_pos (by decide +kernel)]; kernel_rfl) | (rw [if_neg (by decide +kernel)]; exact ⟨rfl, rfl⟩))
    (fun os started H enc _ => lifted os started H enc)
end Go.Proofs.Ytmgbcnlnikchbaa.headerTwo

namespace Go.Proofs.Ytmgbcnlnikchbaa
theorem headerTwo_holds : Rows.HeaderTwoSaid := headerTwo.over
#print axioms headerTwo_holds
end Go.Proofs.Ytmgbcnlnikchbaa
