/-
  HeaderAnswer's walk: a reply goes back to where it was asked from, with the transaction's number; one that tells an error tells nothing else.
-/
import Derived.Test.YtmgbcnlnikchbaaDoorHFault
import Derived.Test.YtmgbcnlnikchbaaDoorHFill
import Derived.Test.YtmgbcnlnikchbaaDoorHAwake
import Derived.Deep.CutRange
import Derived.Deep.RegionHeld
namespace Go.Proofs.YtmgbcnlnikchbaaDoor
open Go.RowKit
theorem bcell {W w1 : World} (hb : Below W.heap.size W w1) : (∀ b o, b < W.heap.size → w1.cell? ⟨b, o, none⟩ = W.cell? ⟨b, o, none⟩) ∧ (∀ b o, b < W.heap.size → w1.frozen? ⟨b, o, none⟩ = W.frozen? ⟨b, o, none⟩) :=
  ⟨fun b o h => hb.cell (p := ⟨b, o, none⟩) h, fun b o h => hb.frozen (p := ⟨b, o, none⟩) h⟩
/- a reply to m: with these, or with an error's number alone -/
def Msg.told (m : Msg) (s p o r c ar : Nat) : Msg := ⟨m.rp, m.ta, m.id, m.op, s, p, o, r, c, ar⟩
theorem told_box {w : World} {g : Nat} {m : Msg} {D E : Value} {s p o r c ar : Nat} (h : MBox w g (m.told 0 0 0 0 0 0) D) :
    MBox (((((((w.setCell ⟨g, 4, none⟩ (.int .u16 s)).setCell ⟨g, 5, none⟩ (.int .u64 p)).setCell ⟨g, 6, none⟩ (.int .u32 o)).setCell ⟨g, 7, none⟩ (.int .u8 r)).setCell ⟨g, 8, none⟩ (.int .u64 c)).setCell ⟨g, 9, none⟩ (.int .u64 ar)).setCell ⟨g, 10, none⟩ E) g (m.told s p o r c ar) E := by
  obtain ⟨k0, k1, k2, k3, k4, k5, k6, k7, k8, k9, k10⟩ := h
  refine ⟨?_, ?_, ?_, ?_, ?_, ?_, ?_, ?_, ?_, ?_, ?_⟩ <;> simp [go_sem, Msg.told, k0, k1, k2, k3, k4, k5, k6, k7, k8, k9, k10] <;> assumption
theorem fault_box {w : World} {g : Nat} {m : Msg} {D : Value} {s : Nat} (h : MBox w g (m.told 0 0 0 0 0 0) D) : MBox (w.setCell ⟨g, 4, none⟩ (.int .u16 s)) g (m.told s 0 0 0 0 0) D := by
  obtain ⟨k0, k1, k2, k3, k4, k5, k6, k7, k8, k9, k10⟩ := h
  refine ⟨?_, ?_, ?_, ?_, ?_, ?_, ?_, ?_, ?_, ?_, ?_⟩ <;> simp [go_sem, Msg.told, k0, k1, k2, k3, k4, k5, k6, k7, k8, k9, k10] <;> assumption
theorem MFree.drew {w : World} {g : Nat} (h : MFree w g) : MFree w.drew g := h
theorem nil_any {w w' : World} {ao : Option Addr} {cap : Nat} (h : Bts w ao 0 cap []) : Bts w' ao 0 cap [] := ⟨h.1, h.2.1, h.2.2.1, h.2.2.2.1, fun _ _ j hj => by simp at hj⟩
theorem two_new (W : World) (m : Msg) (D : Value) :
    MBox ((W.alloc (.cells #[.int .u64 m.ta, .int .u64 m.rp, .int .u32 m.id, .int .u16 m.op, .int .u16 m.st, .int .u64 m.p, .int .u32 m.o, .int .u8 m.r, .int .u64 m.c, .int .u64 m.ar, D] 29)).alloc (.cells #[.int .u64 m.ta, .int .u64 m.rp, .int .u32 m.id, .int .u16 m.op, .int .u16 m.st, .int .u64 m.p, .int .u32 m.o, .int .u8 m.r, .int .u64 m.c, .int .u64 m.ar, D] 29)).drew W.heap.size m D ∧ MFree ((W.alloc (.cells #[.int .u64 m.ta, .int .u64 m.rp, .int .u32 m.id, .int .u16 m.op, .int .u16 m.st, .int .u64 m.p, .int .u32 m.o, .int .u8 m.r, .int .u64 m.c, .int .u64 m.ar, D] 29)).alloc (.cells #[.int .u64 m.ta, .int .u64 m.rp, .int .u32 m.id, .int .u16 m.op, .int .u16 m.st, .int .u64 m.p, .int .u32 m.o, .int .u8 m.r, .int .u64 m.c, .int .u64 m.ar, D] 29)).drew W.heap.size ∧
    MBox ((W.alloc (.cells #[.int .u64 m.ta, .int .u64 m.rp, .int .u32 m.id, .int .u16 m.op, .int .u16 m.st, .int .u64 m.p, .int .u32 m.o, .int .u8 m.r, .int .u64 m.c, .int .u64 m.ar, D] 29)).alloc (.cells #[.int .u64 m.ta, .int .u64 m.rp, .int .u32 m.id, .int .u16 m.op, .int .u16 m.st, .int .u64 m.p, .int .u32 m.o, .int .u8 m.r, .int .u64 m.c, .int .u64 m.ar, D] 29)).drew (W.heap.size + 1) m D ∧ MFree ((W.alloc (.cells #[.int .u64 m.ta, .int .u64 m.rp, .int .u32 m.id, .int .u16 m.op, .int .u16 m.st, .int .u64 m.p, .int .u32 m.o, .int .u8 m.r, .int .u64 m.c, .int .u64 m.ar, D] 29)).alloc (.cells #[.int .u64 m.ta, .int .u64 m.rp, .int .u32 m.id, .int .u16 m.op, .int .u16 m.st, .int .u64 m.p, .int .u32 m.o, .int .u8 m.r, .int .u64 m.c, .int .u64 m.ar, D] 29)).drew (W.heap.size + 1) ∧
    Below W.heap.size W ((W.alloc (.cells #[.int .u64 m.ta, .int .u64 m.rp, .int .u32 m.id, .int .u16 m.op, .int .u16 m.st, .int .u64 m.p, .int .u32 m.o, .int .u8 m.r, .int .u64 m.c, .int .u64 m.ar, D] 29)).alloc (.cells #[.int .u64 m.ta, .int .u64 m.rp, .int .u32 m.id, .int .u16 m.op, .int .u16 m.st, .int .u64 m.p, .int .u32 m.o, .int .u8 m.r, .int .u64 m.c, .int .u64 m.ar, D] 29)).drew := by
  have x0 := mbox_new W m D
  have f0 := mfree_new W #[.int .u64 m.ta, .int .u64 m.rp, .int .u32 m.id, .int .u16 m.op, .int .u16 m.st, .int .u64 m.p, .int .u32 m.o, .int .u8 m.r, .int .u64 m.c, .int .u64 m.ar, D]
  have b0 := below_alloc W (.cells #[.int .u64 m.ta, .int .u64 m.rp, .int .u32 m.id, .int .u16 m.op, .int .u16 m.st, .int .u64 m.p, .int .u32 m.o, .int .u8 m.r, .int .u64 m.c, .int .u64 m.ar, D] 29)
  have hs : (W.alloc (.cells #[.int .u64 m.ta, .int .u64 m.rp, .int .u32 m.id, .int .u16 m.op, .int .u16 m.st, .int .u64 m.p, .int .u32 m.o, .int .u8 m.r, .int .u64 m.c, .int .u64 m.ar, D] 29)).heap.size = W.heap.size + 1 := by simp
  generalize W.alloc (.cells #[.int .u64 m.ta, .int .u64 m.rp, .int .u32 m.id, .int .u16 m.op, .int .u16 m.st, .int .u64 m.p, .int .u32 m.o, .int .u8 m.r, .int .u64 m.c, .int .u64 m.ar, D] 29) = w1 at *
  have x1 := mbox_new w1 m D
  have f1 := mfree_new w1 #[.int .u64 m.ta, .int .u64 m.rp, .int .u32 m.id, .int .u16 m.op, .int .u16 m.st, .int .u64 m.p, .int .u32 m.o, .int .u8 m.r, .int .u64 m.c, .int .u64 m.ar, D]
  have b1 := below_alloc w1 (.cells #[.int .u64 m.ta, .int .u64 m.rp, .int .u32 m.id, .int .u16 m.op, .int .u16 m.st, .int .u64 m.p, .int .u32 m.o, .int .u8 m.r, .int .u64 m.c, .int .u64 m.ar, D] 29)
  rw [hs] at x1 f1
  exact ⟨(x0.carry b1).drew, f0.carry x0.lt b1.drew, x1.drew, f1, (below_one b0 b1).drew⟩
set_option maxHeartbeats 1600000 in
theorem walk_answer (m : Msg) (mo : Option Addr) (mn mcap s p o r c ar : Nat) (ao : Option Addr) (n cap : Nat) (l : List UInt8) (nn : Nat) (w : World) (hs : s ≤ 65535) (_hr : r ≤ 255) (hnn : nn ≤ 255) (hb : Bts w ao n cap l) (hn : n ≤ 140737488355328) (hg : Glob w) :
    Calls Tryd.prog 3 #[.agg #[.int .u64 m.ta, .int .u64 m.rp, .int .u32 m.id, .int .u16 m.op, .int .u16 m.st, .int .u64 m.p, .int .u32 m.o, .int .u8 m.r, .int .u64 m.c, .int .u64 m.ar, .slice mo mn mcap], .int .u16 s, .agg #[.int .u64 p, .int .u32 o, .int .u8 r, .int .u64 c], .int .u64 ar, .slice ao n cap, .int .u8 nn] w fun e w' => e = .returned (.bool true) ∧ Below w.heap.size w w' := by
  obtain ⟨mt, hmt⟩ : ∃ x, m.told s p o r c ar = x := ⟨_, rfl⟩
  obtain ⟨mf, hmf⟩ : ∃ x, m.told nn 0 0 0 0 0 = x := ⟨_, rfl⟩
  obtain ⟨mb, hmb⟩ : ∃ x, m.told 0 0 0 0 0 0 = x := ⟨_, rfl⟩
  have HMT : Hid _ := hmt
  have HMF : Hid _ := hmf
  have HMB : Hid _ := hmb
  have HB : Hid (Bts w ao n cap l) := hb
  have HG : Hid (Glob w) := hg
  clear hmt hmf hmb hb hg
  have HW : Hid (∃ W, W = (w.alloc (.cells #[.int .u64 m.ta, .int .u64 m.rp, .int .u32 m.id, .int .u16 m.op, .int .u16 m.st, .int .u64 m.p, .int .u32 m.o, .int .u8 m.r, .int .u64 m.c, .int .u64 m.ar, .slice mo mn mcap] 29)).alloc (.cells #[.int .u64 p, .int .u32 o, .int .u8 r, .int .u64 c] 26) ∧ MBox W w.heap.size m (.slice mo mn mcap) ∧ Box W (w.heap.size + 1) p o r c ∧ Below w.heap.size w W) := by
    have z1 : (w.alloc (.cells #[.int .u64 m.ta, .int .u64 m.rp, .int .u32 m.id, .int .u16 m.op, .int .u16 m.st, .int .u64 m.p, .int .u32 m.o, .int .u8 m.r, .int .u64 m.c, .int .u64 m.ar, .slice mo mn mcap] 29)).heap.size = w.heap.size + 1 := by simp
    have c2 := box_new (w.alloc (.cells #[.int .u64 m.ta, .int .u64 m.rp, .int .u32 m.id, .int .u16 m.op, .int .u16 m.st, .int .u64 m.p, .int .u32 m.o, .int .u8 m.r, .int .u64 m.c, .int .u64 m.ar, .slice mo mn mcap] 29)) p o r c
    rw [z1] at c2
    exact ⟨_, rfl, (mbox_new w m _).carry (below_alloc _ _), c2, below_one (below_alloc _ _) (below_alloc _ _)⟩
  go_enter Tryd.func3, Tryd.ntmps3
  go_wp2_with fail
  obtain ⟨W, hW, hX, hC, b0⟩ := HW.out
  rw [← hW]
  refine (awake_any _).mono ?_; rintro e w1 ⟨rfl, bel1⟩
  have b1 : Below w.heap.size w w1 := below_one b0 bel1
  have HX1 : Hid (MBox w1 w.heap.size m (.slice mo mn mcap)) := hX.carry bel1
  have HC1 : Hid (Box w1 (w.heap.size + 1) p o r c) := hC.carry bel1
  clear hW hX hC b0 bel1 HW
  obtain ⟨k0, k1, k2, k3, k4, k5, k6, k7, k8, k9, k10⟩ := HX1.out
  obtain ⟨q0, q1, q2, q3⟩ := HC1.out
  go_wp2_with fail
  refine (answer_any m (.slice mo mn mcap) s p o r c ar ao n cap l _ hs (HB.out.carry b1) hn mt HMT.out).mono ?_; rintro e w2 ⟨ca, cca, rfl, hba, hna, bel2⟩
  have b2 : Below w.heap.size w w2 := below_one b1 bel2
  have HX2 : Hid (MBox w2 w.heap.size m (.slice mo mn mcap)) := HX1.out.carry bel2
  have HC2 : Hid (Box w2 (w.heap.size + 1) p o r c) := HC1.out.carry bel2
  have HA2 := hide hba
  clear bel2 b1 HX1 HC1 hba hna q0 q1 q2 q3
  clear k0 k1 k2 k3 k4 k5 k6 k7 k8 k9 k10
  have HT3 : Hid (Below w2.heap.size w2 (w2.alloc (.cells #[.int .u64 mt.ta, .int .u64 mt.rp, .int .u32 mt.id, .int .u16 mt.op, .int .u16 mt.st, .int .u64 mt.p, .int .u32 mt.o, .int .u8 mt.r, .int .u64 mt.c, .int .u64 mt.ar, .slice ca n cca] 29))) := below_alloc _ _
  have HY3 : Hid (MBox (w2.alloc (.cells #[.int .u64 mt.ta, .int .u64 mt.rp, .int .u32 mt.id, .int .u16 mt.op, .int .u16 mt.st, .int .u64 mt.p, .int .u32 mt.o, .int .u8 mt.r, .int .u64 mt.c, .int .u64 mt.ar, .slice ca n cca] 29)) w2.heap.size mt (.slice ca n cca)) := mbox_new w2 mt _
  have HX3 := hide (HX2.out.carry HT3.out)
  obtain ⟨k0, k1, k2, k3, k4, k5, k6, k7, k8, k9, k10⟩ := HX3.out
  go_wp2_with fail
  refine (fault_gen m (.slice mo mn mcap) _ nn _ (by omega) (HG.out.carry (below_one b2 HT3.out)) (fun W h => number_errno nn W h) mf HMF.out).mono ?_; rintro e w4 ⟨cf, ccf, rfl, hbf, bel4⟩
  have b4 : Below w.heap.size w w4 := below_one (below_one b2 HT3.out) bel4
  have HX4 : Hid (MBox w4 w.heap.size m (.slice mo mn mcap)) := HX3.out.carry bel4
  have HC4 : Hid (Box w4 (w.heap.size + 1) p o r c) := (HC2.out.carry HT3.out).carry bel4
  have HA4 := hide ((HA2.out.carry HT3.out).carry bel4)
  have HY4 := hide (HY3.out.carry bel4)
  have HF4 := hide hbf
  clear bel4 b2 HX2 HX3 HC2 HT3 HY3 HA2 hbf
  clear k0 k1 k2 k3 k4 k5 k6 k7 k8 k9 k10
  have HT5 : Hid (Below w4.heap.size w4 (w4.alloc (.cells #[.int .u64 mf.ta, .int .u64 mf.rp, .int .u32 mf.id, .int .u16 mf.op, .int .u16 mf.st, .int .u64 mf.p, .int .u32 mf.o, .int .u8 mf.r, .int .u64 mf.c, .int .u64 mf.ar, .slice cf 0 ccf] 29))) := below_alloc _ _
  have HZ5 : Hid (MBox (w4.alloc (.cells #[.int .u64 mf.ta, .int .u64 mf.rp, .int .u32 mf.id, .int .u16 mf.op, .int .u16 mf.st, .int .u64 mf.p, .int .u32 mf.o, .int .u8 mf.r, .int .u64 mf.c, .int .u64 mf.ar, .slice cf 0 ccf] 29)) w4.heap.size mf (.slice cf 0 ccf)) := mbox_new w4 mf _
  have HX5 := hide (HX4.out.carry HT5.out)
  have HC5 := hide (HC4.out.carry HT5.out)
  have HA5 := hide (HA4.out.carry HT5.out)
  have HY5 := hide (HY4.out.carry HT5.out)
  have b5 := below_one b4 HT5.out
  clear HX4 HC4 HA4 HY4 HT5 b4
  go_wp2_with fail
  generalize hW5 : w4.alloc (.cells #[.int .u64 mf.ta, .int .u64 mf.rp, .int .u32 mf.id, .int .u16 mf.op, .int .u16 mf.st, .int .u64 mf.p, .int .u32 mf.o, .int .u8 mf.r, .int .u64 mf.c, .int .u64 mf.ar, .slice cf 0 ccf] 29) = W5 at *
  clear hW5
  go_cut [15] from 33 to 35 (fun x wx => ∃ gg cg ccg, x = .pointer (some ⟨gg, 0, none⟩) ∧ Hid (MBox wx gg mb (.slice cg 0 ccg)) ∧ Hid (Bts wx cg 0 ccg []) ∧ Hid (Below W5.heap.size W5 wx))
  case first =>
    have HG5 := hide (HG.out.carry b5)
    have bb : Below W5.heap.size W5 W5.drew := (Below.refl _ _).drew
    have hz5 : W5.heap.size ≤ W5.heap.size := Nat.le_refl _
    go_region_held (fun w' => (w'.cell? ⟨w.heap.size, 0, none⟩ = some (.int .u64 m.ta) ∧ w'.cell? ⟨w.heap.size, 1, none⟩ = some (.int .u64 m.rp) ∧ w'.cell? ⟨w.heap.size, 2, none⟩ = some (.int .u32 m.id) ∧ w'.cell? ⟨w.heap.size, 3, none⟩ = some (.int .u16 m.op) ∧ w'.cell? ⟨w.heap.size, 4, none⟩ = some (.int .u16 m.st) ∧ w'.cell? ⟨w.heap.size, 5, none⟩ = some (.int .u64 m.p) ∧ w'.cell? ⟨w.heap.size, 6, none⟩ = some (.int .u32 m.o) ∧ w'.cell? ⟨w.heap.size, 7, none⟩ = some (.int .u8 m.r) ∧ w'.cell? ⟨w.heap.size, 8, none⟩ = some (.int .u64 m.c) ∧ w'.cell? ⟨w.heap.size, 9, none⟩ = some (.int .u64 m.ar) ∧ w'.cell? ⟨w.heap.size, 10, none⟩ = some (.slice mo mn mcap))) (exact HX5.out.carry (by go_grown))
      (first
        | (go_at_call 7; refine (new_any _ _).mono ?_; rintro e wx ⟨gn, rfl, bel⟩; have bb : Below W5.heap.size W5 wx := below_one (by go_grown) bel; obtain ⟨hc1, hf1⟩ := bcell bel; have hq1 := bel.size; have hzx := bb.size; (try simp only [World.size_alloc, World.size_drew] at hq1); (try have y1 : W5.heap.size < wx.heap.size := by omega); (try have y2 : W5.heap.size < wx.heap.size + 1 := by omega); clear bel)
        | (go_at_call 6; refine (fault_gen m (.slice mo mn mcap) _ 0 _ (by omega) (HG5.out.carry (by go_grown)) (fun W h => number_other ⟨gn, 0, none⟩ W h) mb HMB.out).mono ?_; rintro e wy ⟨cg, ccg, rfl, hbg, bel⟩; have bb : Below W5.heap.size W5 wy := below_one (by go_grown) bel; have HBG := hide hbg; obtain ⟨hc2, hf2⟩ := bcell bel; have hq2 := bel.size; have hzy := bb.size; (try simp only [World.size_alloc] at hq2); (try have t1 : W5.heap.size < wy.heap.size := by omega); (try have t2 : wx.heap.size < wy.heap.size := by omega); clear bel hbg))
    all_goals go_wp2_with fail
    all_goals go_meet
    · exact ⟨_, cg, ccg, rfl, mbox_new wy mb _, nil_any HBG.out, bb.alloc bb.size _⟩
    · exact ⟨_, cg, ccg, rfl, fill_box (show MBox wy _ Msg.zero (.slice none 0 0) by refine ⟨?_, ?_, ?_, ?_, ?_, ?_, ?_, ?_, ?_, ?_, ?_⟩ <;> go_simp <;> rfl), nil_any HBG.out, fill_below bb (by omega)⟩
    · exact ⟨_, cg, ccg, rfl, fill_box (show MBox wy _ Msg.zero (.slice none 0 0) by refine ⟨?_, ?_, ?_, ?_, ?_, ?_, ?_, ?_, ?_, ?_, ?_⟩ <;> go_simp <;> rfl), nil_any HBG.out, fill_below bb (by omega)⟩
  case rest =>
    obtain ⟨gg, cg, ccg, rfl, HG6, HBG6, HL6⟩ := hcut
    obtain ⟨W6, rfl⟩ : ∃ x, x = wc := ⟨wc, rfl⟩
    have HX6 := hide (HX5.out.carry HL6.out)
    have HC6 := hide (HC5.out.carry HL6.out)
    have HA6 := hide (HA5.out.carry HL6.out)
    have HY6 := hide (HY5.out.carry HL6.out)
    have HZ6 := hide (HZ5.out.carry HL6.out)
    have b6 := below_one b5 HL6.out
    clear HX5 HC5 HA5 HY5 HZ5 HL6 b5
    obtain ⟨k0, k1, k2, k3, k4, k5, k6, k7, k8, k9, k10⟩ := HX6.out
    have HT7 : Hid (Below W6.heap.size W6 (W6.alloc (.cells #[.int .u64 m.rp, .int .u64 m.ta, .int .u32 m.id, .int .u16 m.op, .int .u16 0, .int .u64 0, .int .u32 0, .int .u8 0, .int .u64 0, .int .u64 0, .slice none 0 0] 29))) := below_alloc _ _
    have HK7 : Hid (MBox (W6.alloc (.cells #[.int .u64 m.rp, .int .u64 m.ta, .int .u32 m.id, .int .u16 m.op, .int .u16 0, .int .u64 0, .int .u32 0, .int .u8 0, .int .u64 0, .int .u64 0, .slice none 0 0] 29)) W6.heap.size mb (.slice none 0 0)) := by
      show MBox _ _ mb _
      rw [← HMB.out]; exact mbox_new W6 (m.told 0 0 0 0 0 0) _
    have HC7 := hide (HC6.out.carry HT7.out)
    have HA7 := hide (HA6.out.carry HT7.out)
    have HY7 := hide (HY6.out.carry HT7.out)
    have HZ7 := hide (HZ6.out.carry HT7.out)
    have HG7 := hide (HG6.out.carry HT7.out)
    have b7 := below_one b6 HT7.out
    go_wp2_with fail
    clear HX6 HC6 HA6 HY6 HZ6 HG6 HT7 b6
    clear k0 k1 k2 k3 k4 k5 k6 k7 k8 k9 k10
    generalize hW7 : W6.alloc (.cells #[.int .u64 m.rp, .int .u64 m.ta, .int .u32 m.id, .int .u16 m.op, .int .u16 0, .int .u64 0, .int .u32 0, .int .u8 0, .int .u64 0, .int .u64 0, .slice none 0 0] 29) = W7 at *
    clear hW7
    generalize hg16 : W6.heap.size = g16 at *
    clear hg16
    go_cut [17, 18] from 45 to 46 (fun x y wx => ∃ g7 g8, x = .pointer (some ⟨g7, 0, none⟩) ∧ y = .pointer (some ⟨g8, 0, none⟩) ∧ Hid (MBox wx g7 mb (.slice none 0 0)) ∧ Hid (MFree wx g7) ∧ Hid (MBox wx g8 mb (.slice none 0 0)) ∧ Hid (MFree wx g8) ∧ Hid (g7 ≠ g8 ∧ W7.heap.size ≤ g7 ∧ W7.heap.size ≤ g8) ∧ Hid (Below W7.heap.size W7 wx))
    case first =>
      have bb : Below W7.heap.size W7 W7.drew := (Below.refl _ _).drew
      go_region_held (fun w' => (w'.cell? ⟨g16, 0, none⟩ = some (.int .u64 mb.ta) ∧ w'.cell? ⟨g16, 1, none⟩ = some (.int .u64 mb.rp) ∧ w'.cell? ⟨g16, 2, none⟩ = some (.int .u32 mb.id) ∧ w'.cell? ⟨g16, 3, none⟩ = some (.int .u16 mb.op) ∧ w'.cell? ⟨g16, 4, none⟩ = some (.int .u16 mb.st) ∧ w'.cell? ⟨g16, 5, none⟩ = some (.int .u64 mb.p) ∧ w'.cell? ⟨g16, 6, none⟩ = some (.int .u32 mb.o) ∧ w'.cell? ⟨g16, 7, none⟩ = some (.int .u8 mb.r) ∧ w'.cell? ⟨g16, 8, none⟩ = some (.int .u64 mb.c) ∧ w'.cell? ⟨g16, 9, none⟩ = some (.int .u64 mb.ar) ∧ w'.cell? ⟨g16, 10, none⟩ = some (.slice none 0 0))) (exact HK7.out.carry (by go_grown)) (fail)
      all_goals go_wp2_with fail
      all_goals go_meet
      all_goals have tn := two_new W7 mb (.slice none 0 0)
      · exact ⟨_, _, rfl, rfl, tn.1, tn.2.1, tn.2.2.1, tn.2.2.2.1, (⟨by omega, by omega, by omega⟩ : W7.heap.size ≠ W7.heap.size + 1 ∧ W7.heap.size ≤ W7.heap.size ∧ W7.heap.size ≤ W7.heap.size + 1), tn.2.2.2.2⟩
      · exact ⟨_, _, rfl, rfl, tn.2.2.1, tn.2.2.2.1, tn.1, tn.2.1, (⟨by omega, by omega, by omega⟩ : W7.heap.size + 1 ≠ W7.heap.size ∧ W7.heap.size ≤ W7.heap.size + 1 ∧ W7.heap.size ≤ W7.heap.size), tn.2.2.2.2⟩
    case rest =>
      obtain ⟨g7, g8, rfl, rfl, HX8, HF8, HY8, HE8, HN8, HL8⟩ := hcut
      obtain ⟨W8, rfl⟩ : ∃ x, x = wc := ⟨wc, rfl⟩
      have hn1 : g7 ≠ g8 := HN8.out.1
      have hn2 : W7.heap.size ≤ g7 := HN8.out.2.1
      have hn3 : W7.heap.size ≤ g8 := HN8.out.2.2
      go_wp2_with fail
      go_cut [] from 47 to 54 (fun wx => Hid (MBox wx g7 mt (.slice ao n cap)) ∧ Hid (MBox wx g8 mb (.slice none 0 0)) ∧ Hid (MFree wx g8) ∧ Hid (Below W7.heap.size W7 wx))
      case first =>
        have b8 := HL8.out
        obtain ⟨k0, k1, k2, k3, k4, k5, k6, k7, k8, k9, k10⟩ := HX8.out
        obtain ⟨z0, z1, z2, z3, z4, z5, z6, z7, z8, z9, z10⟩ := HF8.out
        go_region_held (fun w' => w'.cell? ⟨w.heap.size + 1, 0, none⟩ = some (.int .u64 p) ∧ w'.cell? ⟨w.heap.size + 1, 1, none⟩ = some (.int .u32 o) ∧ w'.cell? ⟨w.heap.size + 1, 2, none⟩ = some (.int .u8 r) ∧ w'.cell? ⟨w.heap.size + 1, 3, none⟩ = some (.int .u64 c)) (exact HC7.out.carry (by go_grown)) (fail)
        all_goals go_wp2_with fail
        all_goals go_meet
        have hT : MBox (((((((W8.setCell ⟨g7, 4, none⟩ (.int .u16 s)).setCell ⟨g7, 5, none⟩ (.int .u64 p)).setCell ⟨g7, 6, none⟩ (.int .u32 o)).setCell ⟨g7, 7, none⟩ (.int .u8 r)).setCell ⟨g7, 8, none⟩ (.int .u64 c)).setCell ⟨g7, 9, none⟩ (.int .u64 ar)).setCell ⟨g7, 10, none⟩ (.slice ao n cap)) g7 mt (.slice ao n cap) := by
          rw [← HMT.out]; exact told_box (by rw [HMB.out]; exact HX8.out)
        exact ⟨hT.drew, (((((((HY8.out.setFar hn1 _).setFar hn1 _).setFar hn1 _).setFar hn1 _).setFar hn1 _).setFar hn1 _).setFar hn1 _).drew, (((((((HE8.out.set _ _).set _ _).set _ _).set _ _).set _ _).set _ _).set _ _).drew, (((((((b8.setCell hn2 _).setCell hn2 _).setCell hn2 _).setCell hn2 _).setCell hn2 _).setCell hn2 _).setCell hn2 _).drew⟩
      case rest =>
        obtain ⟨HX9, HY9, HE9, HL9⟩ := hcut
        obtain ⟨W9, rfl⟩ : ∃ x, x = wc := ⟨wc, rfl⟩
        clear HX8 HF8 HY8 HE8 HL8
        go_upto_region 9 with fail
        go_cut [] from 55 to 57 (fun wx => Hid (MBox wx g7 mt (.slice ao n cap)) ∧ Hid (MBox wx g8 mf (.slice none 0 0)) ∧ Hid (Below W7.heap.size W7 wx))
        case first =>
          obtain ⟨k0, k1, k2, k3, k4, k5, k6, k7, k8, k9, k10⟩ := HY9.out
          obtain ⟨z0, z1, z2, z3, z4, z5, z6, z7, z8, z9, z10⟩ := HE9.out
          go_wp2_with fail
          go_meet
          have hF : MBox (W9.setCell ⟨g8, 4, none⟩ (.int .u16 nn)) g8 mf (.slice none 0 0) := by
            rw [← HMF.out]; exact fault_box (by rw [HMB.out]; exact HY9.out)
          exact ⟨HX9.out.setFar (fun e => hn1 e.symm) _, hF, HL9.out.setCell hn3 _⟩
        case rest =>
          obtain ⟨HX10, HY10, HL10⟩ := hcut
          obtain ⟨W10, rfl⟩ : ∃ x, x = wc := ⟨wc, rfl⟩
          clear HX9 HY9 HE9 HL9
          have HA10 := hide (HA7.out.carry HL10.out)
          have HP10 := hide (HY7.out.carry HL10.out)
          have HZ10 := hide (HZ7.out.carry HL10.out)
          have HG10 := hide (HG7.out.carry HL10.out)
          have HK10 := hide (HK7.out.carry HL10.out)
          have b10 := below_one b7 HL10.out
          clear HA7 HY7 HZ7 HG7 HK7 HC7 HL10 b7 hn1 hn2 hn3 HN8
          obtain ⟨k0, k1, k2, k3, k4, k5, k6, k7, k8, k9, k10⟩ := HP10.out
          obtain ⟨q0, q1, q2, q3, q4, q5, q6, q7, q8, q9, q10⟩ := HX10.out
          go_wp2_with fail
          refine (same_any mt mt ca n cca l ao n cap l _ HA10.out (HB.out.carry b10)).mono ?_; rintro e w11 ⟨rfl, bel11⟩
          rw [sameD_iff.2 ⟨rfl, rfl⟩]
          have HZ11 := hide (HZ10.out.carry bel11)
          have HY11 := hide (HY10.out.carry bel11)
          have HG11 := hide (HG10.out.carry bel11)
          have HK11 := hide (HK10.out.carry bel11)
          have b11 := below_one b10 bel11
          clear bel11 b10 HZ10 HY10 HG10 HK10 HP10 HX10 HA10 q0 q1 q2 q3 q4 q5 q6 q7 q8 q9 q10
          clear k0 k1 k2 k3 k4 k5 k6 k7 k8 k9 k10
          obtain ⟨k0, k1, k2, k3, k4, k5, k6, k7, k8, k9, k10⟩ := HZ11.out
          obtain ⟨q0, q1, q2, q3, q4, q5, q6, q7, q8, q9, q10⟩ := HY11.out
          go_wp2_with fail
          refine (same_any mf mf cf 0 ccf [] none 0 0 [] _ (nil_any HF4.out) (bts_nil _)).mono ?_; rintro e w12 ⟨rfl, bel12⟩
          rw [sameD_iff.2 ⟨rfl, rfl⟩]
          have HG12 := hide (HG11.out.carry bel12)
          have HK12 := hide (HK11.out.carry bel12)
          have b12 := below_one b11 bel12
          clear bel12 b11 HZ11 HY11 HG11 HK11 q0 q1 q2 q3 q4 q5 q6 q7 q8 q9 q10
          clear k0 k1 k2 k3 k4 k5 k6 k7 k8 k9 k10
          obtain ⟨k0, k1, k2, k3, k4, k5, k6, k7, k8, k9, k10⟩ := HG12.out
          obtain ⟨q0, q1, q2, q3, q4, q5, q6, q7, q8, q9, q10⟩ := HK12.out
          go_wp2_with fail
          refine (same_any mb mb cg 0 ccg [] none 0 0 [] _ (nil_any HBG6.out) (bts_nil _)).mono ?_; rintro e w13 ⟨rfl, bel13⟩
          rw [sameD_iff.2 ⟨rfl, rfl⟩]
          go_wp2
          go_ret
          exact ⟨rfl, below_one b12 bel13⟩
end Go.Proofs.YtmgbcnlnikchbaaDoor
