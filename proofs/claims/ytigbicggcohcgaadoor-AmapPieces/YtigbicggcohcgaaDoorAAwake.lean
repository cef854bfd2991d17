/-
  The statements' awake: the document's examples: it answers true.
-/
import Derived.Test.YtigbicggcohcgaaDoorAEq
namespace Go.Proofs.YtigbicggcohcgaaDoor
open Go.RowKit
def a1 : Ar := ⟨10, 10, 2, 0, false⟩
def a2 : Ar := ⟨0, 10, 1, 5, false⟩
theorem ok_a1 : okA a1 := by unfold okA a1; decide
theorem ok_a2 : okA a2 := by unfold okA a2; decide
theorem aw1 : addE [] a1 = 0 := addE_is ok_a1 (fun _ h => by simp at h) (by decide)
theorem aw2 : addE [a1] a2 = 0 := addE_is ok_a2 (fun x h => by rw [List.mem_singleton.1 h]; exact (lapA_iff ok_a2 ok_a1).2 (by unfold a1 a2; decide)) (by decide)
theorem al1 : addL [] a1 = [a1] := by unfold addL; rw [if_pos aw1, putA_ins]; rfl
theorem al2 : addL [a1] a2 = [a2, a1] := by unfold addL; rw [if_pos aw2, putA_ins]; rfl
theorem h8 : hasA a2 8 = true := (has_iff ok_a2 ⟨by decide, by decide⟩).2 (by unfold a2; decide)
theorem h10 : hasA a1 10 = true := (has_iff ok_a1 ⟨by decide, by decide⟩).2 (by unfold a1; decide)
theorem h18 : hasA a2 18 = false := (has_not ok_a2 ⟨by decide, by decide⟩).2 (by unfold a2; decide)
theorem h18' : hasA a1 18 = true := (has_iff ok_a1 ⟨by decide, by decide⟩).2 (by unfold a1; decide)
theorem ap1 : pcsF [a2, a1] 8 4 false = (0, [⟨1, 13, 2⟩, ⟨2, 0, 2⟩]) := by
  unfold pcsF
  rw [if_neg (by decide), goF, if_neg (by decide), if_pos h8, if_neg (by decide)]
  have e1 : min (4 : Int) (a2.s - (8 - a2.b)) = 2 := by decide
  rw [e1, show (8 : Int) + 2 = 10 from rfl, goF, if_neg (by decide), if_pos h10, if_neg (by decide)]
  have e2 : min ((4 : Int) - 2) (a1.s - (10 - a1.b)) = 2 := by decide
  rw [e2, goF, if_neg (by decide)]
  rfl
theorem ap2 : pcsF [a2, a1] 18 4 false = (13, []) := by
  unfold pcsF
  rw [if_neg (by decide), goF, if_neg (by decide), if_neg (by rw [h18]; decide), goF, if_neg (by decide), if_pos h18', if_neg (by decide)]
  have e1 : min (4 : Int) (a1.s - (18 - a1.b)) = 2 := by decide
  rw [e1, goF, if_pos (by decide)]
theorem aok : ∀ a ∈ [a2, a1], okA a ∧ a.o + a.s ≤ 9223372036854775807 := by
  intro a ha
  rcases List.mem_cons.1 ha with rfl | ha
  · exact ⟨ok_a2, by unfold a2; decide⟩
  · rw [List.mem_singleton.1 ha]; exact ⟨ok_a1, by unfold a1; decide⟩
set_option maxRecDepth 20000 in
set_option maxHeartbeats 1600000 in
theorem awake_any (w : World) (hg : Glob w) :
    Calls Tryd.prog 8 #[] w fun e w' => e = .returned (.bool true) ∧ Below w.heap.size w w' := by
  have HG := hide hg
  clear hg
  go_enter Tryd.func8, Tryd.ntmps8
  go_wp2_with fail
  refine (add_any a1 none 0 0 [] _ (ars_nil _) ok_a1.fit (by decide)).mono ?_; rintro e w1 ⟨r1, c1, rfl, A1, b1⟩
  rw [al1] at A1
  rw [aw1, al1, erN_zero]
  have HB1 := hide b1
  have HA1 := hide (show Ars w1 r1 1 c1 [a1] from A1)
  clear A1 b1
  go_wp2_with fail
  refine (add_any a2 r1 1 c1 [a1] _ HA1.out ok_a2.fit (by decide)).mono ?_; rintro e w2 ⟨r2, c2, rfl, A2, b2⟩
  rw [al2] at A2
  rw [aw2, al2, erN_zero]
  have HB2 := hide (below_one HB1.out b2)
  have HA2 := hide (show Ars w2 r2 2 c2 [a2, a1] from A2)
  clear A2 b2 HA1 HB1
  go_wp2_with fail
  refine (pieces_any 8 4 false r2 2 c2 _ _ HA2.out aok (by decide) ⟨by decide, by decide⟩).mono ?_; rintro e w3 ⟨r3, c3, rfl, A3, b3⟩
  rw [ap1] at A3 ⊢
  rw [erN_zero]
  have HB3 := hide (below_one HB2.out b3)
  have HA3 := hide (HA2.out.carry b3)
  have HP3 := hide (show Pcs w3 r3 2 c3 [⟨1, 13, 2⟩, ⟨2, 0, 2⟩] from A3)
  clear A3 b3 HA2 HB2
  go_wp2_with fail
  refine (pieces_any 18 4 false r2 2 c2 _ _ HA3.out aok (by decide) ⟨by decide, by decide⟩).mono ?_; rintro e w4 ⟨r4, c4, rfl, A4, b4⟩
  rw [ap2, erN_not (by decide)]
  have HB4 := hide (below_one HB3.out b4)
  have HP4 := hide (HP3.out.carry b4)
  have HG4 := hide (HG.out.grow HB4.out HG.out.lt)
  clear A4 b4 HA3 HB3 HP3
  obtain ⟨ad, rfl⟩ := HP4.out.there (k := 0) (by omega)
  have p0 : w4.cell? ad = some (.int .i64 1) := by have := HP4.out.2.2.2.2 ad rfl 0 _ rfl; simpa [Addr.add] using this
  have p1 : w4.cell? { block := ad.block, off := ad.off + 1 } = some (.int .i64 13) := by have := HP4.out.2.2.2.2 ad rfl 1 _ rfl; rw [addS _ 0] at this; exact this
  have p2 : w4.cell? { block := ad.block, off := ad.off + 2 } = some (.int .i64 2) := by have := HP4.out.2.2.2.2 ad rfl 2 _ rfl; rw [addS _ 1] at this; exact this
  have p3 : w4.cell? { block := ad.block, off := ad.off + 3 } = some (.int .i64 2) := by have := HP4.out.2.2.2.2 ad rfl 3 _ rfl; rw [addS _ 2] at this; exact this
  have p4 : w4.cell? { block := ad.block, off := ad.off + 4 } = some (.int .i64 0) := by have := HP4.out.2.2.2.2 ad rfl 4 _ rfl; rw [addS _ 3] at this; exact this
  have p5 : w4.cell? { block := ad.block, off := ad.off + 5 } = some (.int .i64 2) := by have := HP4.out.2.2.2.2 ad rfl 5 _ rfl; rw [addS _ 4] at this; exact this
  have hq1 := fun w => eql_pc 1 13 2 1 13 2 w
  have hq2 := fun w => eql_pc 2 0 2 2 0 2 w
  have hgd := eqGuardP
  have hcap : c3 ≤ 9223372036854775807 := HP4.out.2.2.1
  have hc2 : 2 ≤ c3 := HP4.out.2.1
  go_wp2_with fail
  refine (number_errno 13 _ HG4.out).mono ?_; rintro e w5 ⟨rfl, b5⟩
  have HB5 := hide (below_one HB4.out b5)
  clear b5
  go_wp2
  go_ret
  exact ⟨rfl, HB5.out⟩
end Go.Proofs.YtigbicggcohcgaaDoor
