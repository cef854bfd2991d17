/-
  The walk of PortmapMost.
-/
import Derived.Test.YtlpjaklhmnbpeaaVSeq
import Derived.Test.YtlpjaklhmnbpeaaVRead
namespace Go.Proofs.Ytlpjaklhmnbpeaa
open Go.RowKit
def f5 (j : Nat) : Int := (j : Int) + 5
def MoRel1 (w : World) (g k gk : Nat) (vi : Value) (wr : World) : Prop := ∃ (i s m : Nat) (v : Value), i + gk = k ∧ vi = .int .i64 (i : Int) ∧ s + m = i ∧ m ≤ 16 ∧ (m < 16 → s = 0) ∧ Pm wr g g 1000 v (seqV f5 s m) ∧ Below w.heap.size w wr
def MoRel2 (w : World) (g : Nat) (v : Value) (D : List Pl) (N gk : Nat) (vi : Value) (wr : World) : Prop := ∃ k : Nat, k + gk = N ∧ vi = .int .i64 (k : Int) ∧ Pm wr g g 1000 v D ∧ Below w.heap.size w wr
set_option maxRecDepth 20000 in
set_option maxHeartbeats 3200000 in
theorem walk_most (k : Nat) (w : World) (hk : k ≤ 255) :
    Calls Try.prog 7 #[.int .u8 (k : Int)] w fun e w' => e = .returned (.bool true) ∧ Below w.heap.size w w' := by
  have HKK := hide hk
  have hwk : IntKind.i64.wrap (k : Int) = (k : Int) := by rw [IntKind.wrap_i64]; omega
  clear hk
  go_enter Try.func7, Try.ntmps7
  go_wp2_with fail
  refine (awake_any _).mono ?_; rintro e w0 ⟨rfl, b0⟩
  have HB0 := hide b0
  clear b0
  go_wp2_with fail
  refine (of_made 1000 1000 rfl _).mono ?_; rintro e w1 ⟨g, rfl, t1, b1, hg⟩
  have HT := hide t1
  have HB := hide (below_one HB0.out b1)
  have HG := hide (Nat.le_trans HB0.out.size hg)
  clear t1 b1 hg
  go_wp2
  go_loopg [5] k (fun gk vi wr => MoRel1 w g k gk vi wr)
  case atStart => exact ⟨0, 0, 0, _, by omega, rfl, rfl, by omega, fun _ => rfl, HT.out, HB.out⟩
  case round =>
    clear HT HB HB0
    obtain ⟨i, s, m, v, hi, rfl, hsm, hm, hs, t1, b1⟩ := hrel
    have HT := hide t1
    have HB := hide b1
    have HI := hide hi
    have HSM := hide hsm
    have HM := hide hm
    have HS := hide hs
    clear t1 b1 hsm hm hs
    cases gk with
    | succ g1 =>
      have hlt : (i : Int) < (k : Int) := by omega
      have hib : (i : Int) ≤ 1000 := by have := HKK.out; omega
      have hwi : IntKind.u64.wrap (i : Int) = (i : Int) := by rw [IntKind.wrap_u64]; omega
      clear hi
      go_wp2_with fail
      refine (learn_any (i : Int) ((i : Int) + 5) (i : Int) _ HT.out (by have := HM.out; rw [seqV_len]; omega)).mono ?_; rintro e w2 ⟨rfl, h2⟩
      obtain ⟨v2, t2, b2⟩ := h2.below HB.out HG.out
      have HB2 := hide b2
      have HE : Hid (∃ s' m', s' + m' = i + 1 ∧ m' ≤ 16 ∧ (m' < 16 → s' = 0) ∧ learnL (seqV f5 s m) i (i + 5) i = seqV f5 s' m') := by
        have e1 := HSM.out
        have e2 := HM.out
        have e3 := HS.out
        have e4 : (i : Int) + 5 = f5 (s + m) := by rw [e1]; rfl
        have e5 : (i : Int) = ((s + m : Nat) : Int) := by rw [e1]
        by_cases h : m < 16
        · exact ⟨s, m + 1, by omega, by omega, fun _ => e3 h, learn_few f5 s m h _ e4 _ _ e5 e5⟩
        · obtain rfl : m = 16 := by omega
          exact ⟨s + 1, 16, by omega, by omega, (fun h => by omega), learn_many f5 s _ e4 _ _ e5 e5⟩
      obtain ⟨s', m', h1, h2', h3, h4⟩ := HE.out
      rw [h4] at t2
      have HT2 := hide t2
      have HR := hide (And.intro h1 (And.intro h2' h3))
      clear h2 t2 b2 h1 h2' h3 h4 HE
      go_wp2
      go_roundg g1
      case measure => omega
      case rel => exact ⟨i + 1, s', m', v2, by have := HI.out; omega, by go_num, HR.out.1, HR.out.2.1, HR.out.2.2, HT2.out, HB2.out⟩
    | zero =>
      obtain rfl : i = k := by omega
      have hlt : ¬ ((i : Int) < (i : Int)) := by omega
      have HFI := hide (fun j => find_seq f5 (fun _ => false) j m s)
      have HA : Hid (∀ y ∈ seqV f5 s m, I64 y.a) := fun y hy => by
        obtain ⟨j, h1, h2, rfl⟩ := seqV_mem hy
        exact i64_small (by show -1000000000 ≤ ((j : Nat) : Int) ∧ ((j : Nat) : Int) ≤ 1000000000; have := HKK.out; have := HSM.out; omega)
      have HNOW : Hid (I64 (i : Int)) := i64_small (by have := HKK.out; omega)
      have HLEN : Hid (((seqV f5 s m).length : Int) = (m : Int)) := by show _ = _; rw [seqV_len]
      obtain ⟨D, hD⟩ : ∃ D, seqV f5 s m = D := ⟨_, rfl⟩
      rw [drop_none, hD] at HFI
      rw [hD] at HT HA HLEN
      have hmin : min (i : Int) 16 = (m : Int) := by have := HSM.out; have := HM.out; have := HS.out; omega
      have hib : (i : Int) ≤ 255 := by have := HKK.out; omega
      have hwz : IntKind.i64.wrap ((i : Int) - 16) = (i : Int) - 16 := by rw [IntKind.wrap_i64]; omega
      clear hi hD
      go_wp2
      go_loopg [6] i (fun gk vi wr => MoRel2 w g v D i gk vi wr)
      case atStart => exact ⟨0, by omega, rfl, HT.out, HB.out⟩
      case round =>
        rename World => wq
        clear HT HB
        obtain ⟨j, hj, rfl, t1, b1⟩ := hrel
        have HT := hide t1
        have HB := hide b1
        have HJ := hide hj
        clear t1 b1
        cases gk with
        | zero =>
          obtain rfl : j = i := by omega
          have hlt : ¬ ((j : Int) < (j : Int)) := by omega
          clear hj
          go_wp2_with fail
          refine (len_any _ HT.out).mono ?_; rintro e w3 ⟨rfl, rfl⟩
          rw [HLEN.out]
          go_wp2
          go_ret
          exact ⟨rfl, HB.out⟩
        | succ g1 =>
          have hlj : (j : Int) < (i : Int) := by omega
          have hjb : (j : Int) ≤ 1000 := by omega
          have HJI : Hid (j < i) := by show _ < _; omega
          have hwj : IntKind.u64.wrap (j : Int) = (j : Int) := by rw [IntKind.wrap_u64]; omega
          clear hj
          go_wp2_with fail
          refine (find_any (j : Int) (i : Int) _ HT.out (by decide) HNOW.out HA.out).mono ?_; rintro e w3 ⟨rfl, b3⟩
          have HB3 := hide (below_one HB.out b3)
          have HT3 := hide (HT.out.grow b3)
          clear b3
          by_cases hsj : s ≤ j
          · have HX := hide (find_yes (age := 1000) (now := (i : Int)) ((HFI.out j).trans (if_pos ⟨hsj, by have := HJI.out; have := HSM.out; omega, trivial⟩)) (by
              show (decide (((j : Nat) : Int) ≤ (i : Int)) && decide ((i : Int) - ((j : Nat) : Int) < 1000)) = true
              rw [decide_eq_true (by have := HJI.out; omega), decide_eq_true (by have := HJI.out; omega)]; rfl))
            have hge : (i : Int) - 16 ≤ (j : Int) := by have := HSM.out; have := HM.out; omega
            rw [HX.out.1, HX.out.2, show (mk f5 j).n = (j : Int) + 5 from rfl]
            clear HX hsj
            go_wp2
            go_roundg g1
            case measure => omega
            case rel => exact ⟨j + 1, by have := HJ.out; omega, by go_num, HT3.out, HB3.out⟩
          · have HX := hide (find_no (age := 1000) (now := (i : Int)) ((HFI.out j).trans (if_neg (fun h => hsj h.1))))
            have hge : ¬ ((i : Int) - 16 ≤ (j : Int)) := by
              have := HSM.out
              have := HM.out
              have h3 := HS.out
              have : m = 16 := by
                by_cases h : m < 16
                · have := h3 h; omega
                · omega
              omega
            rw [HX.out.1, HX.out.2]
            clear HX hsj
            go_wp2
            go_roundg g1
            case measure => omega
            case rel => exact ⟨j + 1, by have := HJ.out; omega, by go_num, HT3.out, HB3.out⟩
end Go.Proofs.Ytlpjaklhmnbpeaa
