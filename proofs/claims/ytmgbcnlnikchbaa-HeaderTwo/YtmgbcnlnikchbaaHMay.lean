/-
  What the statements' own may and read answer, as contracts.
-/
import Derived.Test.YtmgbcnlnikchbaaHMake
import Derived.Test.YtmgbcnlnikchbaaHWant
import Derived.Deep.QuietTactic
import Derived.BigQuiet
namespace Go.Proofs.Ytmgbcnlnikchbaa
open Go.RowKit
theorem same_may (m : Msg) (l : List UInt8) (n : Nat) (hn : n = l.length) : sameD m m.made l (l.take 4096) = hmayD m n := by
  unfold sameD hmayD
  apply decide_eq_decide.2
  simp only [Msg.made]
  have e : l = l.take 4096 ↔ n ≤ 4096 := by
    constructor
    · intro h; have := congrArg List.length h; rw [List.length_take] at this; omega
    · intro h; rw [List.take_of_length_le (by omega)]
  rw [e]
  constructor
  · rintro ⟨h0, h1, _, _, _, ⟨h5, h6, _, h8⟩, _, h10⟩
    exact ⟨by omega, by omega, ⟨by omega, by omega, by omega⟩, h10⟩
  · rintro ⟨h0, h1, ⟨h5, h6, h8⟩, h10⟩
    exact ⟨by omega, by omega, trivial, trivial, trivial, ⟨by omega, by omega, trivial, by omega⟩, trivial, h10⟩
set_option maxHeartbeats 1600000 in
theorem hown_may (m : Msg) (ao : Option Addr) (n cap : Nat) (l : List UInt8) (w : World) (hm : m.ok) (hb : Bts w ao n cap l) :
    Calls Try.prog 12 #[.agg #[.int .u64 m.ta, .int .u64 m.rp, .int .u32 m.id, .int .u16 m.op, .int .u16 m.st, .int .u64 m.p, .int .u32 m.o, .int .u8 m.r, .int .u64 m.c, .int .u64 m.ar, .slice ao n cap]] w fun e w' => e = .returned (.bool (hmayD m n)) ∧ Below w.heap.size w w' := by
  rw [← same_may m l n hb.1]
  obtain ⟨m', hm'⟩ : ∃ x, m.made = x := ⟨_, rfl⟩
  obtain ⟨k, hk⟩ : ∃ x, min n 4096 = x := ⟨_, rfl⟩
  rw [hm']
  have HM : Hid _ := hm'
  have HK : Hid _ := hk
  have HO : Hid (m.ok) := hm
  have HB : Hid (Bts w ao n cap l) := hb
  clear hb hm' hk hm
  go_enter Try.func12, Try.ntmps12
  go_wp2
  have bb : Below w.heap.size w (w.alloc (.cells #[.int .u64 m.ta, .int .u64 m.rp, .int .u32 m.id, .int .u16 m.op, .int .u16 m.st, .int .u64 m.p, .int .u32 m.o, .int .u8 m.r, .int .u64 m.c, .int .u64 m.ar, .slice ao n cap] 29)).drew := (below_alloc _ _).drew
  have hS : Hid (MBox (w.alloc (.cells #[.int .u64 m.ta, .int .u64 m.rp, .int .u32 m.id, .int .u16 m.op, .int .u16 m.st, .int .u64 m.p, .int .u32 m.o, .int .u8 m.r, .int .u64 m.c, .int .u64 m.ar, .slice ao n cap] 29)).drew w.heap.size m (.slice ao n cap)) := mbox_new w m _
  go_region_held (fun w' => (w'.cell? ⟨w.heap.size, 0, none⟩ = some (.int .u64 m.ta) ∧ w'.cell? ⟨w.heap.size, 1, none⟩ = some (.int .u64 m.rp) ∧ w'.cell? ⟨w.heap.size, 2, none⟩ = some (.int .u32 m.id) ∧ w'.cell? ⟨w.heap.size, 3, none⟩ = some (.int .u16 m.op) ∧ w'.cell? ⟨w.heap.size, 4, none⟩ = some (.int .u16 m.st) ∧ w'.cell? ⟨w.heap.size, 5, none⟩ = some (.int .u64 m.p) ∧ w'.cell? ⟨w.heap.size, 6, none⟩ = some (.int .u32 m.o) ∧ w'.cell? ⟨w.heap.size, 7, none⟩ = some (.int .u8 m.r) ∧ w'.cell? ⟨w.heap.size, 8, none⟩ = some (.int .u64 m.c) ∧ w'.cell? ⟨w.heap.size, 9, none⟩ = some (.int .u64 m.ar) ∧ w'.cell? ⟨w.heap.size, 10, none⟩ = some (.slice ao n cap))) (exact hS.out)
    (first
      | (go_at_call 8; refine (hmake_at m ao n cap l _ HO.out (HB.out.carry bb) m' HM.out k HK.out).mono ?_; rintro e wa ⟨co, cc, rfl, hb1, hn1, bel⟩; have bb := below_one bb bel; have hS : Hid (MBox wa w.heap.size m (.slice ao n cap)) := hS.out.carry bel; have hA := hide hb1; clear bel hb1 hn1)
      | (go_at_call 15; refine (same_any m m' ao n cap l co k cc (l.take 4096) _ (HB.out.carry bb) hA.out).mono ?_; rintro e wb ⟨rfl, bel⟩; have bb := below_one bb bel; have hS : Hid (MBox wb w.heap.size m (.slice ao n cap)) := hS.out.carry bel; clear bel))
  go_wp2
  go_ret
  exact ⟨rfl, bb⟩
theorem num_two (l : List UInt8) (k : Nat) (h : k + 2 ≤ l.length) : numF ((l.drop k).take 2) = (l.getD k 0).toNat * 256 + (l.getD (k + 1) 0).toNat := by
  have hl : ((l.drop k).take 2).length = 2 := by rw [List.length_take, List.length_drop]; omega
  have e1 := numF_take ((l.drop k).take 2) 1 (by omega)
  have e0 := numF_take ((l.drop k).take 2) 0 (by omega)
  rw [List.take_of_length_le (by omega)] at e1
  have g0 : ((l.drop k).take 2).getD 0 0 = l.getD k 0 := by
    simp only [List.getD_eq_getElem?_getD]; rw [List.getElem?_take, if_pos (by omega), List.getElem?_drop]; rfl
  have g1 : ((l.drop k).take 2).getD 1 0 = l.getD (k + 1) 0 := by
    simp only [List.getD_eq_getElem?_getD]; rw [List.getElem?_take, if_pos (by omega), List.getElem?_drop]
  rw [e1, e0, g0, g1]
  simp [numF]
set_option maxHeartbeats 1600000 in
theorem read_any (ao : Option Addr) (n cap : Nat) (l : List UInt8) (w : World) (hb : Bts w ao n cap l) :
    Calls Try.prog 16 #[.slice ao n cap] w fun e w' => e = .returned (.bool (readD l)) ∧ Below w.heap.size w w' := by
  have hl := hb.1
  have hcm : cap ≤ 9223372036854775807 := hb.2.2.1
  have hnc : n ≤ cap := hb.2.1
  by_cases h46 : n < 46
  · rw [show readD l = false from decide_eq_false (by omega)]
    clear hl hb
    go_enter Try.func16, Try.ntmps16
    go_wp2
    go_ret
    exact ⟨rfl, Below.refl _ _⟩
  · cases ao with
    | none => have := hb.none rfl; omega
    | some ad =>
      have c4 : w.drew.cell? ⟨ad.block, ad.off + 44, none⟩ = some (.int .u8 (bt l 44)) := by rw [← addS ad 44 (by omega)]; exact hb.2.2.2.2 ad rfl 44 (by omega)
      have c5 : w.drew.cell? ⟨ad.block, ad.off + 45, none⟩ = some (.int .u8 (bt l 45)) := by rw [← addS ad 45 (by omega)]; exact hb.2.2.2.2 ad rfl 45 (by omega)
      have h2 := num_two l 44 (by omega)
      simp only [Nat.reduceAdd] at h2
      have HR : Hid (readD l = (decide (bt l 44 * 256 + bt l 45 ≤ 4096) && decide ((n : Int) = 46 + (bt l 44 * 256 + bt l 45)))) := by
        show readD l = _
        rw [← Bool.decide_and]
        unfold readD
        rw [h2]
        apply decide_eq_decide.2
        unfold bt
        omega
      have b0 := bt_lo l 44
      have b1 := bt_hi l 44
      have b2 := bt_lo l 45
      have b3 := bt_hi l 45
      rw [HR.out]
      have i4 : (44 : Int) < (n : Int) := by omega
      have i5 : (45 : Int) < (n : Int) := by omega
      clear hb hl h2 HR
      go_enter Try.func16, Try.ntmps16
      go_wp2
      go_region_held (fun w' => w'.cell? ⟨ad.block, ad.off + 44, none⟩ = some (.int .u8 (bt l 44)) ∧ w'.cell? ⟨ad.block, ad.off + 45, none⟩ = some (.int .u8 (bt l 45))) (exact ⟨c4, c5⟩) (fail)
      by_cases h4 : bt l 44 * 256 + bt l 45 ≤ 4096
      · go_wp2
        go_ret
        refine ⟨?_, (Below.refl _ _).drew⟩
        show Ending.returned (.bool ((n : Int) == 46 + (bt l 44 * 256 + bt l 45))) = _
        rw [decide_eq_true h4, Bool.true_and]; rfl
      · go_wp2
        go_ret
        refine ⟨?_, (Below.refl _ _).drew⟩
        rw [decide_eq_false (show ¬ (bt l 44 * 256 + bt l 45 ≤ 4096) from by omega), Bool.false_and]; rfl
end Go.Proofs.Ytmgbcnlnikchbaa
