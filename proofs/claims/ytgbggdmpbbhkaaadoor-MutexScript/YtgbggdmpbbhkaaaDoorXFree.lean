/-
  What a lock's Unlock and Leave answer, as contracts: what became of its line.
-/
import Derived.Test.YtgbggdmpbbhkaaaDoorXDeeds
namespace Go.Proofs.YtgbggdmpbbhkaaaDoor
open Go.RowKit
variable {g : Nat} {L : List Int} {ro : Option Addr} {rc : Nat}
set_option maxRecDepth 20000 in
set_option maxHeartbeats 800000 in
theorem free_any (id : Int) (w : World) (x : Mx w g L ro rc) (hR : Row L) :
    Calls Tryd.prog 9 #[.pointer (some ⟨g, 0, none⟩), .int .i64 id] w fun e w' => BackM w g (freeL L id) ro L.length (.tuple #[.int .i64 (freeX L id), erN (freeE L id)]) e w' := by
  have HX := hide x
  have hc : rc ≤ 9223372036854775807 := x.row.2.2.1
  have hnc := x.row.2.1
  have HN := hide x.row
  obtain ⟨K, hK⟩ : ∃ K, freeE L id = K := ⟨_, rfl⟩
  obtain ⟨M, hM⟩ : ∃ M, freeL L id = M := ⟨_, rfl⟩
  obtain ⟨X, hX⟩ : ∃ X, freeX L id = X := ⟨_, rfl⟩
  rw [hK, hM, hX]
  have HK := hide hK
  have HM := hide hM
  have HXX := hide hX
  have HS := hide (x.same (Below.refl _ _))
  have HE (e : K = 15) : BackM w g M ro L.length (.tuple #[.int .i64 X, erN K]) (.returned (.tuple #[.int .i64 (-1), .iface 36 (.int .i64 15)])) w := by
    have hk : freeE L id ≠ 0 := by rw [HK.out, e]; decide
    refine ⟨by rw [e, erN_not (by decide), ← HXX.out]; unfold freeX; rw [if_neg hk], ?_⟩
    rw [← HM.out]
    unfold freeL
    rw [if_neg hk]; exact HS.out
  have HE := hide HE
  have HROW := hide hR
  clear hK hM hX x
  obtain ⟨y, hy⟩ : ∃ y, holdF L = y := ⟨_, rfl⟩
  have HY := hide hy
  clear hy
  by_cases h0 : id < 0
  · have HQ : Hid (K = 15) := by show _ = _; rw [← HK.out]; unfold freeE; rw [if_pos (.inl h0)]
    clear hR
    go_enter Tryd.func9, Tryd.ntmps9
    go_wp2
    go_ret2
    exact HE.out HQ.out
  · by_cases h1 : id = y
    · subst h1
      have hF : freeE L id = 0 := by unfold freeE; rw [if_neg (fun e => by rcases e with e | e; exact h0 e; exact e HY.out)]
      have HQ : Hid (K = 0) := by show _ = _; rw [← HK.out]; exact hF
      obtain ⟨hlen, _, _, _⟩ := hR.free hF
      have HMM : Hid (L.drop 1 = M) := by show _ = _; rw [← HM.out]; unfold freeL; rw [if_pos hF]
      have HXX2 : Hid (holdF M = X) := by show _ = _; rw [← HXX.out]; unfold freeX; rw [if_pos hF, HMM.out]
      have c := HX.out.c0
      obtain ⟨n, hn⟩ : ∃ n, L.length = n := ⟨_, rfl⟩
      have HLN := hide hn
      have hfew := hR.few
      rw [hn] at hlen c HN hnc hfew ⊢
      have hcut : ∀ W : World, (Instr.slice 25 (.slice ro n rc) (some (.int .i64 1)) none none).run Tryd.prog W = .ok (.slice (tailA ro 1 rc) (n - 1) (rc - 1)) W := fun W => cut_tail_at Tryd.underlying25 W ro n rc 1 (by omega)
      have HT := hide (HN.out.tail 1 (by omega))
      rw [HMM.out] at HT
      clear hF hR hn HE
      go_enter Tryd.func9, Tryd.ntmps9
      go_wp2_with fail
      refine (hold_any _ HX.out).mono ?_; rintro e w1 ⟨rfl, rfl⟩
      rw [HY.out]
      go_wp2_with fail
      refine (clone_any _ _ _ M _ HT.out (by omega)).mono ?_; rintro e w2 ⟨ao, ac, rfl, hA, b, hN⟩
      have HEND := hide (HX.out.ended hA b hN)
      have c1 := (HX.out.grow b).c0
      have z1 := (HX.out.grow b).z
      rw [HLN.out] at c1 HEND
      obtain ⟨W, hW⟩ : ∃ W, w2.setCell ⟨g, 0, none⟩ (.slice ao M.length ac) = W := ⟨_, rfl⟩
      have hP := (HX.out.grow b).put hA (fun ad e h => by have := hN ad e; have := HX.out.lt; omega)
      rw [hW] at HEND hP
      have HP := hide hP
      clear hA b hN hP
      go_wp2_with fail
      refine (hold_any _ HP.out).mono ?_; rintro e w3 ⟨rfl, rfl⟩
      rw [HXX2.out]
      go_wp2
      go_ret2
      rw [HQ.out, erN_zero]
      exact ⟨rfl, HEND.out⟩
    · have HQ : Hid (K = 15) := by show _ = _; rw [← HK.out]; unfold freeE; rw [if_pos (.inr (fun e => h1 (by rw [← HY.out, e])))]
      clear hR
      go_enter Tryd.func9, Tryd.ntmps9
      go_wp2_with fail
      refine (hold_any _ HX.out).mono ?_; rintro e w1 ⟨rfl, rfl⟩
      rw [HY.out]
      go_wp2
      go_ret2
      exact HE.out HQ.out
end Go.Proofs.YtgbggdmpbbhkaaaDoor
