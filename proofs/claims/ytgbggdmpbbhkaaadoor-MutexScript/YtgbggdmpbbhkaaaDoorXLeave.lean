/-
  What a lock's Leave answers, as a contract: what became of its line.
-/
import Derived.Test.YtgbggdmpbbhkaaaDoorXFree
namespace Go.Proofs.YtgbggdmpbbhkaaaDoor
open Go.RowKit
variable {g : Nat} {L : List Int} {ro : Option Addr} {rc : Nat}
theorem below_ad (w : World) (o : Obj) : Below w.heap.size w (w.alloc o).drew := below_drewN (below_alloc w o) 1
theorem MxEnd.same_of {w w' : World} {M M' : List Int} {n n' : Nat} {ro' : Option Addr} (h : MxEnd w g M ro n w') (e : M = M') (e1 : ro = ro') (e2 : n = n') : MxEnd w g M' ro' n' w' := by subst e; subst e1; subst e2; exact h
set_option maxRecDepth 20000 in
set_option maxHeartbeats 1600000 in
theorem leave_any (id : Int) (w : World) (x : Mx w g L ro rc) (hR : Row L) :
    Calls Tryd.prog 11 #[.pointer (some ⟨g, 0, none⟩), .int .i64 id] w fun e w' => BackM w g (dropL L id) ro L.length (.int .i64 (freeX L id)) e w' := by
  have HX := hide x
  have HR := hide hR
  obtain ⟨K, hK⟩ : ∃ K, freeE L id = K := ⟨_, rfl⟩
  obtain ⟨M, hM⟩ : ∃ M, dropL L id = M := ⟨_, rfl⟩
  obtain ⟨X, hX⟩ : ∃ X, freeX L id = X := ⟨_, rfl⟩
  rw [hM, hX]
  have HK := hide hK
  have HM := hide hM
  have HXX := hide hX
  by_cases h0 : K = 0
  · subst h0
    obtain ⟨hlen, _, _, hdrop⟩ := hR.free hK
    have HL2 : Hid (freeL L id = M) := by show _ = _; unfold freeL; rw [if_pos hK, hdrop]; exact HM.out
    clear hK hM hX x hR hlen hdrop
    go_enter Tryd.func11, Tryd.ntmps11
    go_wp2_with fail
    refine (free_any id _ HX.out HR.out).mono ?_; rintro e w1 ⟨rfl, h1⟩
    rw [HL2.out] at h1
    rw [HK.out, HXX.out, erN_zero]
    have HE := hide h1
    clear h1
    go_wp2
    go_ret
    exact ⟨rfl, HE.out⟩
  · have HL2 : Hid (freeL L id = L) := by show _ = _; unfold freeL; rw [hK, if_neg h0]
    have HX2 : Hid (X = -1) := by show _ = _; rw [← HXX.out]; unfold freeX; rw [hK, if_neg h0]
    have HER := hide (erN_not h0)
    clear hK hM hX x hR
    go_enter Tryd.func11, Tryd.ntmps11
    go_wp2_with fail
    refine (free_any id _ HX.out HR.out).mono ?_; rintro e w1 ⟨rfl, h1⟩
    rw [HL2.out] at h1
    rw [HK.out, HER.out]
    obtain ⟨qo, qc, x1, f1, k1⟩ := h1
    have c1 : ∀ q, (w1.drewN q).cell? ⟨g, 0, none⟩ = some (.slice qo L.length qc) := fun q => (x1.drewN q).c0
    have z1 : ∀ q, (w1.drewN q).frozen? ⟨g, 0, none⟩ = false := fun q => (x1.drewN q).z
    have hc : qc ≤ 9223372036854775807 := x1.row.2.2.1
    have hnc := x1.row.2.1
    have HN := hide x1.row
    have H1 := hide x1
    have HF := hide f1
    have HK1 := hide k1
    have hfew := HR.out.few
    obtain ⟨n, hn⟩ : ∃ n, L.length = n := ⟨_, rfl⟩
    have HLN := hide hn
    rw [hn] at c1 HN hnc hfew
    have c2 : w1.cell? ⟨g, 0, none⟩ = some (.slice qo n qc) := c1 0
    clear x1 f1 k1 hn
    go_wp2_with fail
    refine (index_any id qo n qc L _ HN.out).mono ?_; rintro e w2 ⟨rfl, ⟨rfl, hz⟩ | ⟨i, rfl, hi, hz⟩⟩
    · have HZ := hide hz
      clear hz
      go_wp2
      go_ret
      refine ⟨by rw [HX2.out]; rfl, qo, qc, ?_, HF.out, ?_⟩
      · rw [← HM.out, xdropL_none L id HZ.out]; exact H1.out
      · rw [← HM.out, xdropL_none L id HZ.out]; exact HK1.out.imp (fun e => ⟨e.1, rfl⟩) (fun e => e)
    · have hin : i < n := by rw [← HLN.out]; exact hi
      have HD := hide ((first_at L id i HR.out.nd hi hz).trans HM.out)
      clear hi hz
      have hp : (0 : Int) ≤ (i : Int) := by omega
      have hww : IntKind.i64.wrap ((i : Int) + 1) = (i : Int) + 1 := by rw [IntKind.wrap_i64]; omega
      have hc1 := fun W : World => cut_head_at Tryd.underlying25 W qo n qc i (by omega)
      have hc2 := fun W : World => cut_tail_at Tryd.underlying25 W qo n qc (i + 1) (by omega)
      obtain ⟨m, hm⟩ : ∃ m, n - (i + 1) = m := ⟨_, rfl⟩
      obtain ⟨cm, hcm⟩ : ∃ m, qc - (i + 1) = m := ⟨_, rfl⟩
      obtain ⟨ta, hta⟩ : ∃ X, tailA qo (i + 1) qc = X := ⟨_, rfl⟩
      rw [hta, hm, hcm] at hc2
      have hc2' : ∀ W : World, (Instr.slice 25 (.slice qo n qc) (some (.int .i64 ((i : Int) + 1))) none none).run Tryd.prog W = .ok (.slice ta m cm) W := fun W => by rw [← hc2 W]; rfl
      obtain ⟨ps, hps⟩ : ∃ ps : List Prt, [⟨qo, i, qc, L.take i⟩, ⟨ta, m, cm, L.drop (i + 1)⟩] = ps := ⟨_, rfl⟩
      have HPA : Hid (Parts (w2.alloc (.cells #[.slice qo i qc, .slice ta m cm] 25)).drew ⟨w2.heap.size, 0, none⟩ ps) := by
        have h1 := HN.out.head i (by omega)
        have h2 := HN.out.tail (i + 1) (by omega)
        rw [hta, hm, hcm] at h2
        rw [← hps]
        exact parts_two h1 h2
      have HL2 : Hid (ps.length = 2) := by show _ = _; rw [← hps]; rfl
      have HSU : Hid (sumN ps 2 = i + m) := by show _ = _; rw [← hps]; simp [sumN]
      have HFL : Hid (flatL ps 2 = M) := by show _ = _; rw [← HD.out, ← hps]; simp [flatL]
      have HMM := hide hm
      clear hm hcm hta hps hc2 hnc
      go_wp2_with fail
      go_region_with (first | (go_at_call 16; go_must (refine (concat_any _ 2 ps _ HL2.out (by omega) HPA.out (by rw [HSU.out]; have := HMM.out; omega)).mono ?_); rintro e w5 ⟨v5, rfl, ao5, c5, rfl, A5, b5, n5⟩; have b6 := below_one (below_ad w2 _) b5; have n6 := New.le n5 (below_ad w2 (.cells #[.slice qo i qc, .slice ta m cm] 25)).size; rw [HFL.out] at A5; have HPUT := hide ((H1.out.grow b6).put A5 (fun ad e h => by have := n6 ad e; have := H1.out.lt; omega)); have HFT := hide ((below_foot _ b6).then (foot_set w5 ⟨g, 0, none⟩ (.slice ao5 (sumN ps 2) c5))); have HN6 := hide (New.le n6 HF.out.size); have d5 := (H1.out.grow b6).c0; have zz5 := (H1.out.grow b6).z; clear A5 b5 b6 n5 n6))
      all_goals
        go_wp2
        go_ret
        rw [HX2.out]
        exact ⟨rfl, _, _, HPUT.out, HF.out.then HFT.out, .inr HN6.out⟩
end Go.Proofs.YtgbggdmpbbhkaaaDoor
