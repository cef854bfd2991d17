/-
  What firstAgain answers, as a contract: the place of the first word that is like one ahead of it.
-/
import Derived.Test.YtgcmompldcnhlaaDoorTDraw
import Derived.WalkMore
import Derived.Deep.LoopGhost
namespace Go.Proofs.YtgcmompldcnhlaaDoor
open Go.RowKit
theorem Tryd.tinfo3 : (Tryd.prog.info? 3).map (fun i => (i.zero, i.size, i.bytes)) = some (some (.int .i64 0), 1, 8) := by kernel_rfl
/- at each round of the outer search -/
def OutRel (w : World) (ws : List Nat) (m S0 : Nat) (gk : Nat) (i : Value) (wr : World) : Prop :=
  ∃ (k : Nat) (S : List Nat), k + gk = ws.length ∧ i = .int .i64 k ∧ Hid (Tab ws m k S) ∧ Hid (RowN wr .i64 3 S0 S) ∧ Hid (Below w.heap.size w wr)
/- at each round of the inner one -/
def InRel (w : World) (ws : List Nat) (m S0 : Nat) (S : List Nat) (x e : Nat) (gk : Nat) (i : Value) (wr : World) : Prop :=
  ∃ d : Nat, d + gk = e ∧ i = .int .i64 ((homeF x m + d) % m : Nat) ∧ Hid (Probe ws m S x d) ∧ Hid (RowN wr .i64 3 S0 S) ∧ Hid (Below w.heap.size w wr)
set_option maxHeartbeats 1600000 in
theorem again_any (g : Nat) (ws : List Nat) (n m : Nat) (w : World) (hr : RowN w .u64 22 g ws) (hn : ws.length = n) (hb : n ≤ 17592186043904) (hm : m = 2 * n + 1) (hw : ∀ j, ws.getD j 0 ≤ 281474976710655) :
    Calls Tryd.prog 26 #[.slice (some ⟨g, 0, none⟩) n n] w fun e w' => ∃ k : Nat, e = .returned (.int .i64 k) ∧ Again ws k ∧ Below w.heap.size w w' := by
  have HR := hide hr
  have HN := hide hn
  have HW := hide hw
  have hmk := run_make_row' (P := Tryd.prog) 92 3 (.int .i64 0) 8 Tryd.underlying92 Tryd.tinfo3 rfl .i64 .i64 m (by omega) (by omega)
  have hmm : 2 * (n : Int) + 1 = (m : Int) := by omega
  have hm0 : 0 < m := by omega
  have HM := hide hm
  clear hr hn hw hm
  go_enter Tryd.func26, Tryd.ntmps26
  go_wp2
  go_step3
  go_wp2
  go_step3
  go_wp2
  go_loopg [4] n (fun gk i wr => OutRel w ws m w.heap.size gk i wr)
  case atStart => exact ⟨0, List.replicate m 0, by rw [HN.out]; omega, rfl, tab_zero ws m, row_made w .i64 3 m, below_alloc w _⟩
  case round =>
    obtain ⟨k, S, hk, rfl, HT, HS, HB⟩ := hrel
    have hkn : k + gk = n := by rw [← HN.out]; exact hk
    have HK := hide hk
    clear hk
    cases gk with
    | zero =>
      have hlt : ¬ ((k : Int) < (n : Int)) := by omega
      go_wp2
      go_ret
      refine ⟨k, rfl, ?_, HB.out⟩
      have e : k = ws.length := by have := HN.out; omega
      have T := HT.out
      rw [e] at T ⊢
      exact again_all T
    | succ g1 =>
      have hlt : (k : Int) < (n : Int) := by omega
      obtain ⟨wo, rfl⟩ : ∃ wo : World, wo = wr := ⟨_, rfl⟩
      have cx := (HR.out.carry HB.out HR.out.lt).cell k (by have := HN.out; omega)
      have hx := HW.out k
      obtain ⟨x, ex⟩ : ∃ x, ws.getD k 0 = x := ⟨_, rfl⟩
      have HX := hide ex
      rw [ex] at cx hx
      clear ex
      go_wp2_with fail
      refine (home_any x m _ hx hm0 (by have := HM.out; omega)).mono ?_; rintro e w1 ⟨rfl, q, rfl⟩
      obtain ⟨f, hf, hz⟩ := tab_free HT.out (by have := HM.out; omega) (homeF x m) (homeF_lt x m hm0)
      have HZ := hide hz
      have HF := hide hf
      clear hf hz
      go_wp2_with fail
      go_loopg [5] f (fun g2 i wr => InRel w ws m w.heap.size S x f g2 i wr)
      case atStart => exact ⟨0, by omega, by rw [Nat.add_zero, Nat.mod_eq_of_lt (homeF_lt x m hm0)], fun i hi => by omega, HS.out.drewN q, below_drewN HB.out q⟩
      case round =>
        obtain ⟨d, hd, rfl, HP, HS2, HB2⟩ := hrel
        obtain ⟨wi, rfl⟩ : ∃ wi : World, wi = wr := ⟨_, rfl⟩
        have hpm := Nat.mod_lt (homeF x m + d) hm0
        obtain ⟨p, ep⟩ : ∃ p, (homeF x m + d) % m = p := ⟨_, rfl⟩
        have HPP := hide ep
        rw [ep] at hpm ⊢
        clear ep
        have hpl : p < S.length := by rw [HT.out.len]; exact hpm
        have cs := HS2.out.cell p hpl
        by_cases hz : S.getD p 0 = 0
        · rw [hz] at cs
          have zs := HS2.out.frozen p
          go_wp2
          go_roundg g1
          case measure => omega
          case rel =>
            have hd2 : d < m := by have := HF.out; omega
            have e1 := HPP.out
            have P := HP.out
            have T := HT.out
            have ex := HX.out
            subst ex
            refine ⟨k + 1, S.set p (k + 1), by have := HN.out; omega, by go_num, ?_, ?_, HB2.out.setCell (Nat.le_refl _) _⟩
            · rw [← e1]; exact tab_step T hm0 hd2 P (by rw [e1]; exact hz)
            · exact HS2.out.set p (k + 1)
        · obtain ⟨s, es⟩ : ∃ s, S.getD p 0 = s + 1 := ⟨S.getD p 0 - 1, by omega⟩
          have hs : s < k := by have := HT.out.le p; omega
          rw [es] at cs
          have hq : d < f := by
            rcases Nat.lt_or_ge d f with h | h
            · exact h
            · have e : d = f := by omega
              have := HZ.out; rw [← e, HPP.out] at this; exact absurd this hz
          have hmod : ((p : Int) + 1) % (m : Int) = (((homeF x m + (d + 1)) % m : Nat) : Int) := by
            rw [← next_at, HPP.out]; exact (Int.natCast_emod (p + 1) m).symm
          have hyk : s < ws.length := by have := HN.out; omega
          have cs0 := fun j => (HS2.out.drewN j).cell p hpl
          rw [es] at cs0
          have cy0 := fun j => ((HR.out.carry HB2.out HR.out.lt).drewN j).cell s hyk
          have cx0 := fun j => ((HR.out.carry HB2.out HR.out.lt).drewN j).cell k (by have := HN.out; omega)
          rw [HX.out] at cx0
          obtain ⟨y, ey⟩ : ∃ y, ws.getD s 0 = y := ⟨_, rfl⟩
          have HY := hide ey
          rw [ey] at cy0
          clear ey
          have HM2 := hide hmod
          clear hmod
          by_cases hxy : y = x
          · subst hxy
            go_wp2
            go_quiet (fail)
            go_wp2
            rw [Exit.noGoto_ret]
            go_ret
            refine ⟨k, rfl, ?_, below_drewN HB2.out _⟩
            refine again_at HT.out (by have := HN.out; omega) p hz ?_
            rw [es, HX.out]; exact HY.out
          · have hne : ((y : Int) == (x : Int)) = false := beq_eq_false_iff_ne.2 (by omega)
            go_wp2
            go_quiet (fail)
            go_wp2
            go_roundg (gk - 1)
            case measure => omega
            case rel =>
              refine ⟨d + 1, by omega, by rw [HM2.out], probe_step HP.out (by rw [HPP.out]; exact hz) (by rw [HPP.out, es]; show ws.getD s 0 ≠ x; rw [HY.out]; exact hxy), HS2.out.drewN _, below_drewN HB2.out _⟩
end Go.Proofs.YtgcmompldcnhlaaDoor
