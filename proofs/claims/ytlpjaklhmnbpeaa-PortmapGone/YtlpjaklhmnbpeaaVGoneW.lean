/-
  The walk of PortmapGone.
-/
import Derived.Test.YtlpjaklhmnbpeaaVSeq
import Derived.Test.YtlpjaklhmnbpeaaVRead
namespace Go.Proofs.Ytlpjaklhmnbpeaa
open Go.RowKit
def GoRel1 (w : World) (g : Nat) (f : Nat → Int) (N gk : Nat) (vi : Value) (wr : World) : Prop := ∃ (k : Nat) (v : Value), k + gk = N ∧ vi = .int .i64 (k : Int) ∧ Pm wr g g 50 v (seqV f 0 k) ∧ Below w.heap.size w wr
def GoRel2 (w : World) (g : Nat) (v : Value) (D : List Pl) (N gk : Nat) (vi : Value) (wr : World) : Prop := ∃ k : Nat, k + gk = N ∧ vi = .int .i64 (k : Int) ∧ Pm wr g g 50 v D ∧ Below w.heap.size w wr
set_option maxRecDepth 20000 in
set_option maxHeartbeats 3200000 in
theorem walk_gone (ao : Option Addr) (n cap : Nat) (zs : List Int) (q : Nat) (w : World) (h : RowOf .u8 w ao n cap zs) :
    Calls Try.prog 6 #[.slice ao n cap, .int .u8 (q : Int)] w fun e w' => e = .returned (.bool true) ∧ Below w.heap.size w w' := by
  have HI := hide h.its
  have hnc := h.its.1
  have hcap : cap ≤ 9223372036854775807 := h.its.2.1
  obtain ⟨N, hN⟩ : ∃ N : Nat, min n 16 = N := ⟨_, rfl⟩
  have hmin : min (n : Int) 16 = (N : Int) := by omega
  have HN : Hid (N ≤ n ∧ N ≤ 16) := ⟨by omega, by omega⟩
  obtain ⟨f, hf⟩ : ∃ f : Nat → Int, (fun j => zs.getD j 0 % 4) = f := ⟨_, rfl⟩
  have HF := hide hf
  obtain ⟨c, hc⟩ : ∃ c : Int, (q : Int) % 4 = c := ⟨_, rfl⟩
  have HC : Hid (0 ≤ c ∧ c ≤ 3) := ⟨by omega, by omega⟩
  have hwc : IntKind.i64.wrap c = c := by rw [IntKind.wrap_i64]; omega
  clear h hN hf
  go_enter Try.func6, Try.ntmps6
  go_wp2_with fail
  refine (awake_any _).mono ?_; rintro e w0 ⟨rfl, b0⟩
  have HB0 := hide b0
  clear b0
  go_wp2_with fail
  refine (of_made 50 50 rfl _).mono ?_; rintro e w1 ⟨g, rfl, t1, b1, hg⟩
  have HT := hide t1
  have HB := hide (below_one HB0.out b1)
  have HG := hide (Nat.le_trans HB0.out.size hg)
  clear t1 b1 hg
  go_wp2
  go_loopg [7] N (fun gk vi wr => GoRel1 w g f N gk vi wr)
  case atStart => exact ⟨0, _, by omega, rfl, HT.out, HB.out⟩
  case round =>
    clear HT HB HB0
    obtain ⟨k, v, hk, rfl, t1, b1⟩ := hrel
    have HT := hide t1
    have HB := hide b1
    have HK := hide hk
    clear t1 b1
    cases gk with
    | succ g1 =>
      have hlt : (k : Int) < (N : Int) := by omega
      have hkn : k < n := by have := HN.out; omega
      have hk16 : (k : Int) ≤ 16 := by have := HN.out; omega
      have hkn2 : (k : Int) < (n : Int) := by omega
      have HK16 : Hid (k < 16) := by have := HN.out; show _ < _; omega
      obtain ⟨ad, rfl⟩ := HI.out.there hkn
      obtain ⟨c0, wf⟩ := (HI.out.carry HB.out (Nat.le_refl _)).2.2.2 ad rfl k hkn
      obtain ⟨y, hy⟩ : ∃ y, zs.getD k 0 = y := ⟨_, rfl⟩
      obtain ⟨r, hr⟩ : ∃ r : Int, y % 4 = r := ⟨_, rfl⟩
      have HR : Hid (r = f (0 + k)) := by show r = _; rw [Nat.zero_add, ← HF.out, ← hr, ← hy]
      rw [hy] at c0 wf
      have hb := bounds_u8 wf
      have hr2 : y.tmod 4 = r := by rw [Int.tmod_eq_emod_of_nonneg (by omega)]; exact hr
      have hwr : IntKind.i64.wrap r = r := by rw [IntKind.wrap_i64]; omega
      have hwk : IntKind.u64.wrap (k : Int) = (k : Int) := by rw [IntKind.wrap_u64]; omega
      clear hk hkn hy wf hb
      go_wp2_with fail
      refine (learn_any (k : Int) r (k : Int) _ HT.out (by have := HK16.out; rw [seqV_len]; omega)).mono ?_; rintro e w2 ⟨rfl, h2⟩
      obtain ⟨v2, t2, b2⟩ := h2.below HB.out HG.out
      rw [learn_few f 0 k HK16.out r HR.out k k (by rw [Nat.zero_add]) (by rw [Nat.zero_add])] at t2
      have HT2 := hide t2
      have HB2 := hide b2
      clear h2 t2 b2
      go_wp2
      go_roundg g1
      case measure => omega
      case rel => exact ⟨k + 1, v2, by have := HK.out; omega, by go_num, HT2.out, HB2.out⟩
    | zero =>
      obtain rfl : k = N := by omega
      have hlt : ¬ ((k : Int) < (k : Int)) := by omega
      clear hk
      go_wp2_with fail
      refine (gone_any c _ HT.out (by have := HN.out; rw [seqV_len]; omega)).mono ?_; rintro e w2 ⟨rfl, h2⟩
      obtain ⟨v2, t2, b2⟩ := h2.below HB.out HG.out
      have HT2 := hide t2
      have HB2 := hide b2
      have HFI := hide (fun j => find_seq f (isN c) j k 0)
      have HA : Hid (∀ y ∈ dropQ (isN c) (seqV f 0 k), I64 y.a) := fun y hy => by
        obtain ⟨j, h1, h2, rfl⟩ := seqV_mem (List.mem_filter.1 hy).1
        exact i64_small (by show -1000000000 ≤ ((j : Nat) : Int) ∧ ((j : Nat) : Int) ≤ 1000000000; have := HN.out; omega)
      have HNOW : Hid (I64 (k : Int)) := i64_small (by have := HN.out; omega)
      obtain ⟨D, hD⟩ : ∃ D, dropQ (isN c) (seqV f 0 k) = D := ⟨_, rfl⟩
      rw [hD] at HT2 HFI HA
      clear h2 t2 b2 hD HT HB
      go_wp2
      go_loopg [8] k (fun gk vi wr => GoRel2 w g v2 D k gk vi wr)
      case atStart => exact ⟨0, by omega, rfl, HT2.out, HB2.out⟩
      case round =>
        rename World => wq
        clear HT2 HB2
        obtain ⟨i, hi, rfl, t1, b1⟩ := hrel
        have HT := hide t1
        have HB := hide b1
        have HK2 := hide hi
        clear t1 b1
        cases gk with
        | zero =>
          obtain rfl : i = k := by omega
          have hlt : ¬ ((i : Int) < (i : Int)) := by omega
          clear hi
          go_wp2
          go_ret
          exact ⟨rfl, HB.out⟩
        | succ g1 =>
          have hli : (i : Int) < (k : Int) := by omega
          have hin : i < n := by have := HN.out; omega
          have hi16 : (i : Int) ≤ 16 := by have := HN.out; omega
          have hin2 : (i : Int) < (n : Int) := by omega
          have HIK : Hid (i < k ∧ k ≤ 16) := ⟨by omega, by have := HN.out; omega⟩
          obtain ⟨ad, rfl⟩ := HI.out.there hin
          have HI2 := hide (fun W (b : Below w.heap.size w W) => (HI.out.carry b (Nat.le_refl _)).2.2.2 ad rfl i hin)
          obtain ⟨c0, wf⟩ := HI2.out _ HB.out
          obtain ⟨y, hy⟩ : ∃ y, zs.getD i 0 = y := ⟨_, rfl⟩
          obtain ⟨r, hr⟩ : ∃ r : Int, y % 4 = r := ⟨_, rfl⟩
          have HR : Hid (f i = r) := by show _ = r; rw [← HF.out, ← hr, ← hy]
          rw [hy] at c0 wf HI2
          have hb := bounds_u8 wf
          have hr2 : y.tmod 4 = r := by rw [Int.tmod_eq_emod_of_nonneg (by omega)]; exact hr
          have hwr : IntKind.i64.wrap r = r := by rw [IntKind.wrap_i64]; omega
          have hwk : IntKind.u64.wrap (i : Int) = (i : Int) := by rw [IntKind.wrap_u64]; omega
          clear hi hin hy wf hb c0
          go_wp2_with fail
          refine (find_any (i : Int) (k : Int) _ HT.out (by decide) HNOW.out HA.out).mono ?_; rintro e w3 ⟨rfl, b3⟩
          have hb3 := below_one HB.out b3
          have c0 := (HI2.out _ hb3).1
          have HB3 := hide hb3
          have HT3 := hide (HT.out.grow b3)
          clear b3 hb3
          by_cases hrc : r = c
          · subst hrc
            have HX := hide (find_no (age := 50) (now := (k : Int)) ((HFI.out i).trans (if_neg (fun h => by
              have h3 := h.2.2
              have : isN r (mk f i) = true := by show (f i == r) = true; rw [HR.out]; simp
              rw [this] at h3; cases h3))))
            rw [HX.out.1, HX.out.2]
            clear HX
            go_wp2
            go_roundg g1
            case measure => omega
            case rel => exact ⟨i + 1, by have := HK2.out; omega, by go_num, HT3.out, HB3.out⟩
          · have HX := hide (find_yes (age := 50) (now := (k : Int)) ((HFI.out i).trans (if_pos ⟨by omega, by have := HIK.out; omega, by show (f i == c) = false; rw [HR.out]; simpa using hrc⟩)) (by
              show (decide (((i : Nat) : Int) ≤ (k : Int)) && decide ((k : Int) - ((i : Nat) : Int) < 50)) = true
              rw [decide_eq_true (by have := HIK.out; omega), decide_eq_true (by have := HIK.out; omega)]; rfl))
            have hne : (r != c) = true := by simpa using hrc
            rw [HX.out.1, HX.out.2, show (mk f i).n = r from HR.out]
            clear HX hrc
            go_wp2
            go_roundg g1
            case measure => omega
            case rel => exact ⟨i + 1, by have := HK2.out; omega, by go_num, HT3.out, HB3.out⟩
end Go.Proofs.Ytlpjaklhmnbpeaa
