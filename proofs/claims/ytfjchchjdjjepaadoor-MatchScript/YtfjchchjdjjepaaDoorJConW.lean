/-
  slices.Grow of none, slices.Concat of threads that wait, as contracts: one new row that holds all parts, one behind the other.
-/
import Derived.Test.YtfjchchjdjjepaaDoorJRow
namespace Go.Proofs.YtfjchchjdjjepaaDoor
open Go.RowKit
theorem Tryd.infoW : (Tryd.prog.info? 58).map (fun i => (i.zero, i.size, i.bytes)) = some (some (.agg #[.int .u64 0, .int .i64 0]), 2, 16) := by kernel_rfl
theorem Tryd.sizeOfW (w : World) : (sizeOf 58).run Tryd.prog w = .ok 2 w := by kernel_rfl
theorem grow_stepW (w : World) (m : Nat) (h0 : 0 < m) (hm : m ≤ 1000000) : ∃ v w', (Builtin.append_ #[25, 3] 25 #[.slice none 0 0, .int .i64 (m : Int)]).run Tryd.prog w = .ok v w' ∧ Below w.heap.size w w' ∧ ∃ c, v = .slice (some ⟨w.heap.size, 0, none⟩) m c ∧ m ≤ c ∧ w'.ownsRow w.heap.size 58 2 (.slice (some ⟨w.heap.size, 0, none⟩) 0 c) 0 [] := by
  obtain ⟨i0, hi0, hz0, hz1, hz2⟩ := info_parts Tryd.infoW
  have hr := zeros_nil (ty := 25) w Tryd.underlying25 Tryd.underlying3 hi0 hz0 (by omega) m h0 (by rw [hz2]; omega) (by omega)
  have hge := grownCap_ge w m 0 58
  have hcm : grownCap w m 0 58 ≤ maxLen := grownCap_le_maxLen w m 0 58 (by unfold maxLen; omega)
  refine ⟨_, _, hr, ?_, _, rfl, hge, by simp, .inr ⟨w.heap.size, _, _, rfl, Nat.le_refl _, heap_alloc_new w.drew _, Nat.zero_le _, hcm, ?_, ?_⟩⟩
  · exact ⟨rfl, rfl, rfl, (below_alloc w.drew _).size, fun k hk => Below.heap_alloc w.drew _ k hk⟩
  · simp only [Array.size_append, size_zeroCells]
    have e : (.agg #[.int .u64 0, .int .i64 0] : Value).cells.size = 2 := rfl
    rw [e]; omega
  · simp
set_option maxRecDepth 20000 in
set_option maxHeartbeats 800000 in
theorem grow_anyW (m : Nat) (hm : m ≤ 1000000) (w : World) :
    Calls Tryd.prog 30 #[.slice none 0 0, .int .i64 (m : Int)] w fun e w' => ∃ v, e = .returned v ∧ GrowEnd 58 2 w v w' := by
  have hn : ¬ ((m : Int) < 0) := by omega
  by_cases h0 : m = 0
  · subst h0
    go_enter Tryd.func30, Tryd.ntmps30
    go_wp2
    go_ret
    exact ⟨_, rfl, ⟨by simp, .inl ⟨rfl, rfl⟩⟩, Below.refl _ _⟩
  · have hp : (0 : Int) < (m : Int) := by omega
    have hcut : ∀ W : World, (Instr.slice 25 (.slice none 0 0) none (some (.int .i64 0)) none).run Tryd.prog W = .ok (.slice none 0 0) W := fun W => cutG_head Tryd.underlying25 Tryd.sizeOfW W none 0 0 0 (Nat.le_refl _)
    obtain ⟨v, w1, hr, b1, c, hv, hc, hown⟩ := grow_stepW w m (by omega) hm
    have hcut2 : ∀ W : World, (Instr.slice 25 (.slice (some ⟨w.heap.size, 0, none⟩) m c) none (some (.int .i64 0)) none).run Tryd.prog W = .ok (.slice (some ⟨w.heap.size, 0, none⟩) 0 c) W := fun W => cutG_head Tryd.underlying25 Tryd.sizeOfW W (some ⟨w.heap.size, 0, none⟩) m c 0 (by omega)
    subst hv
    obtain ⟨G, hG⟩ : ∃ G, w.heap.size = G := ⟨_, rfl⟩
    rw [hG] at hr hcut2 hown
    have HG := hide hG
    have HO := hide hown
    have HB := hide b1
    have HR := hide hr
    clear hown b1 hc hG hr
    go_enter Tryd.func30, Tryd.ntmps30
    go_wp2_with (at_builtin; refine wpList_append_run rfl _ _ _ rfl _ _ _ _ rfl rfl HR.out ?_)
    go_wp2
    go_ret
    exact ⟨_, rfl, HG.out ▸ HO.out, HB.out⟩
set_option maxRecDepth 20000 in
set_option maxHeartbeats 1600000 in
theorem concat_anyW (pa : Addr) (k : Nat) (ps : List Prt) (w : World) (hk : ps.length = k) (hkk : k ≤ 1000) (hP : Parts 2 w pa ps) (hs : sumN ps k ≤ 1000000) :
    Calls Tryd.prog 22 #[.slice (some pa) k k] w fun e w' => ∃ v, e = .returned v ∧ CatEnd 2 w (sumN ps k) (flatV ps k) v w' := by
  have HP := hide hP
  have HS := hide hs
  have HK := hide hk
  have HM : Hid (∀ i, i ≤ k → sumN ps i ≤ 1000000) := fun i hi => by
    have := sumN_mono ps i (k - i) (by omega)
    rw [show i + (k - i) = k by omega] at this; omega
  clear hP hs hk
  go_enter Tryd.func22, Tryd.ntmps22
  go_wp2
  go_loopg [3, 11] k (fun gk vs vi wr => CatRel1 w ps k gk vs vi wr)
  case atStart => exact ⟨0, by omega, rfl, rfl, rfl⟩
  case round =>
    obtain ⟨i, hi, rfl, rfl, rfl⟩ := hrel
    cases gk with
    | succ g1 =>
      have hlt : (i : Int) < (k : Int) := by omega
      obtain ⟨c0, _⟩ := HP.out i (by rw [HK.out]; omega)
      obtain ⟨y, hy⟩ : ∃ y, ps.getD i Prt.zero = y := ⟨_, rfl⟩
      have e1 := sumN_succ ps i (by rw [HK.out]; omega)
      have e2 := HM.out (i + 1) (by omega)
      rw [hy] at c0 e1
      obtain ⟨s, hs⟩ : ∃ s, sumN ps i = s := ⟨_, rfl⟩
      rw [hs] at e1 ⊢
      rw [e1] at e2
      have HE1 := hide e1
      obtain ⟨n, hn⟩ : ∃ n, y.n = n := ⟨_, rfl⟩
      have HN := hide hn
      rw [hn] at c0 e2
      have hneg : ¬ ((s : Int) + (n : Int) < 0) := by omega
      clear hy hs hn e1
      go_wp2
      go_roundg g1
      case measure => omega
      case rel => exact ⟨i + 1, by omega, by go_num, by rw [HE1.out, HN.out]; go_num, rfl⟩
    | zero =>
      obtain rfl : i = k := by omega
      have hlt : ¬ ((i : Int) < (i : Int)) := by omega
      obtain ⟨s, hs⟩ : ∃ s, sumN ps i = s := ⟨_, rfl⟩
      have hsm := HM.out i (Nat.le_refl _)
      rw [hs] at hsm ⊢
      have HSE := hide hs
      clear hs
      go_wp2_with fail
      refine (grow_anyW s hsm wr).mono ?_; rintro e w1 ⟨v, rfl, hown, b1⟩
      have HO := hide hown
      have HB := hide b1
      clear hown b1
      go_wp2
      go_loopg [6, 27] i (fun gk vs vi wq => CatRel2 58 2 wr ps i gk vs vi wq)
      case atStart => exact ⟨0, by omega, rfl, HO.out, HB.out⟩
      case round =>
        rename World => wq
        clear HO HB
        obtain ⟨j, hj, rfl, hown, b2⟩ := hrel
        have HO := hide hown
        have HB := hide b2
        obtain ⟨ao, cap, rfl, hl⟩ := owns_lies hown
        have HLI := hide hl
        obtain ⟨t, ht⟩ : ∃ t, sumN ps j = t := ⟨_, rfl⟩
        rw [ht] at HO HLI ⊢
        have HT := hide ht
        clear hown b2 hl ht
        cases gk with
        | zero =>
          obtain rfl : j = i := by omega
          have hlt : ¬ ((j : Int) < (j : Int)) := by omega
          go_wp2
          go_ret
          exact ⟨_, rfl, ao, cap, congrArg (fun m => Value.slice ao m cap) HT.out.symm, by rw [HT.out]; exact HLI.out, HB.out, owns_new HO.out⟩
        | succ g1 =>
          have hlt : (j : Int) < (i : Int) := by omega
          obtain ⟨c0, hA, hO⟩ := (HP.out.carry HB.out) j (by rw [HK.out]; omega)
          obtain ⟨y, hy⟩ : ∃ y, ps.getD j Prt.zero = y := ⟨_, rfl⟩
          have e1 := sumN_succ ps j (by rw [HK.out]; omega)
          have e2 := HM.out (j + 1) (by omega)
          have e3 := flatV_succ ps j (by rw [HK.out]; omega)
          rw [hy] at c0 e1 hA e3 hO
          rw [e1, HT.out] at e2
          rw [HT.out] at e1
          have HE1 := hide e1
          have HE3 := hide e3
          obtain ⟨ya, n, yc, yL⟩ := y
          simp only at c0 hA e2 HE1 HE3 hO
          have HAR := hide hA
          have HOC := hide hO
          have hmx : t + n ≤ maxLen := by unfold maxLen; omega
          clear hy e1 e3 hO
          cases ya with
          | none =>
            have hc := HAR.out.2.2.2.1 rfl
            have hn := HAR.out.2.1
            obtain rfl : yc = 0 := hc
            obtain rfl : n = 0 := by omega
            obtain ⟨i0, hi0, _, _, _⟩ := info_parts Tryd.infoW
            have hr := app_none (ty := 25) wq Tryd.underlying25 hi0 ao t cap HLI.out.2.1 HLI.out.2.2.2.1
            have HR := hide hr
            clear hr hn hA hmx e2 hi0
            go_wp2_with (at_builtin; refine wpList_append_run rfl _ _ _ rfl _ _ _ _ rfl rfl HR.out ?_)
            go_wp2
            go_roundg g1
            case measure => omega
            case rel =>
              refine ⟨j + 1, by omega, by go_num, ?_, HB.out⟩
              obtain rfl : yL = [] := List.eq_nil_of_length_eq_zero (by simpa using HAR.out.1)
              rw [HE1.out, HE3.out, List.append_nil]
              exact HO.out
          | some ad =>
            obtain ⟨i0, hi0, hz0, hz1, hz2⟩ := info_parts Tryd.infoW
            obtain ⟨v', w3, hr, hown3, hgr3, _, _⟩ := run_append_own_at (P := Tryd.prog) wq wr.heap.size 25 25 58 i0 _ 2 16 Tryd.underlying25 hi0 hz0 hz1 hz2 rfl (by omega) (.slice ao t cap) t _ HO.out ad n yc yL HAR.out.1 (HAR.out.2.2.2.2 ad rfl) HOC.out hmx (by omega) HB.out.size
            have HR := hide hr
            have HO3 := hide hown3
            have HB3 := hide (below_grown HB.out HB.out.size HO.out hgr3)
            clear hr hown3 hgr3 hA hmx e2 hi0 hz0 hz1 hz2
            go_wp2_with (at_builtin; refine wpList_append_run rfl _ _ _ rfl _ _ _ _ rfl rfl HR.out ?_)
            go_wp2
            go_roundg g1
            case measure => omega
            case rel =>
              refine ⟨j + 1, by omega, by go_num, ?_, HB3.out⟩
              rw [HE1.out, HE3.out]
              exact HO3.out
end Go.Proofs.YtfjchchjdjjepaaDoor
