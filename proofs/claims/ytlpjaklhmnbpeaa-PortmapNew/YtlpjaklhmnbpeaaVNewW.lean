/-
  The walk of PortmapNew.
-/
import Derived.Test.YtlpjaklhmnbpeaaVAgeW
import Derived.Test.YtlpjaklhmnbpeaaVRead
namespace Go.Proofs.Ytlpjaklhmnbpeaa
open Go.RowKit
def NewRel (w : World) (g : Nat) (p : Int) (n gk : Nat) (vi : Value) (wr : World) : Prop := ∃ (k : Nat) (v : Value) (L : List Pl), k + gk = n ∧ vi = .int .i64 (k : Int) ∧ Pm wr g g 100 v L ∧ dropQ (isP p) L = [] ∧ L.length ≤ 1 ∧ Below w.heap.size w wr
theorem drop_one (p n a : Int) : dropQ (isP p) [⟨p, n, a⟩] = [] := by unfold dropQ isP; simp
set_option maxRecDepth 20000 in
set_option maxHeartbeats 3200000 in
theorem walk_new (p : Int) (ao : Option Addr) (n cap : Nat) (zs : List Int) (w : World) (h : RowOf .i64 w ao n cap zs) :
    Calls Try.prog 5 #[.int .u64 p, .slice ao n cap] w fun e w' => e = .returned (.bool true) ∧ Below w.heap.size w w' := by
  have HI := hide h.its
  have hnc := h.its.1
  have hcap : cap ≤ 9223372036854775807 := h.its.2.1
  clear h
  go_enter Try.func5, Try.ntmps5
  go_wp2_with fail
  refine (awake_any _).mono ?_; rintro e w0 ⟨rfl, b0⟩
  have HB0 := hide b0
  clear b0
  go_wp2_with fail
  refine (of_made 100 100 rfl _).mono ?_; rintro e w1 ⟨g, rfl, t1, b1, hg⟩
  have HT := hide t1
  have HB := hide (below_one HB0.out b1)
  have HG := hide (Nat.le_trans HB0.out.size hg)
  clear t1 b1 hg
  go_wp2
  go_loopg [15] n (fun gk vi wr => NewRel w g p n gk vi wr)
  case atStart => exact ⟨0, _, [], by omega, rfl, HT.out, rfl, by decide, HB.out⟩
  case round =>
    clear HT HB HB0
    obtain ⟨k, v, L, hk, rfl, t1, hd, hl, b1⟩ := hrel
    have HT := hide t1
    have HB := hide b1
    have HD := hide hd
    have HL := hide hl
    have HK := hide hk
    clear t1 b1 hd hl
    cases gk with
    | zero =>
      obtain rfl : k = n := by omega
      have hlt : ¬ ((k : Int) < (k : Int)) := by omega
      clear hk
      go_wp2_with fail
      refine (forget_any p _ HT.out (by have := HL.out; omega)).mono ?_; rintro e w2 ⟨rfl, h2⟩
      obtain ⟨v2, t2, b2⟩ := h2.below HB.out HG.out
      rw [HD.out] at t2
      have HT2 := hide t2
      have HB2 := hide b2
      clear h2 t2 b2
      go_wp2_with fail
      refine (len_any _ HT2.out).mono ?_; rintro e w3 ⟨rfl, rfl⟩
      rw [show ((([] : List Pl).length : Nat) : Int) = 0 from rfl]
      go_wp2
      go_ret
      exact ⟨rfl, HB2.out⟩
    | succ g1 =>
      have hlt : (k : Int) < (n : Int) := by omega
      have hkn : k < n := by omega
      obtain ⟨ad, rfl⟩ := HI.out.there hkn
      have c0 := ((HI.out.carry HB.out (Nat.le_refl _)).2.2.2 ad rfl k hkn).1
      obtain ⟨y, hy⟩ : ∃ y, zs.getD k 0 = y := ⟨_, rfl⟩
      obtain ⟨t, ht⟩ : ∃ t, k % 50 = t := ⟨_, rfl⟩
      have ht1 : (k : Int) % 50 = (t : Int) := by omega
      have ht2 : (k : Int).tmod 50 = (t : Int) := by rw [Int.tmod_eq_emod_of_nonneg (by omega)]; exact ht1
      have HTT : Hid (I64 (t : Int)) := i64_small (by omega)
      rw [hy] at c0
      clear hk hkn hy ht
      go_wp2_with fail
      refine (learn_any p y (t : Int) _ HT.out (by have := HL.out; omega)).mono ?_; rintro e w2 ⟨rfl, h2⟩
      obtain ⟨v2, t2, b2⟩ := h2.below HB.out HG.out
      rw [show learnL L p y t = [⟨p, y, t⟩] from by unfold learnL; rw [HD.out]; rfl] at t2
      have HT2 := hide t2
      have HB2 := hide b2
      have HA : Hid (∀ x ∈ ([⟨p, y, t⟩] : List Pl), I64 x.a) := fun x hx => by
        rw [List.mem_singleton.1 hx]; exact HTT.out
      clear h2 t2 b2
      go_wp2_with fail
      refine (find_any p (t : Int) _ HT2.out (by decide) HTT.out HA.out).mono ?_; rintro e w3 ⟨rfl, b3⟩
      have HF := hide (find_one (age := 100) (p := p) (n := y) (a := (t : Int)) (now := (t : Int)) (by show (decide ((t : Int) ≤ t) && decide ((t : Int) - t < 100)) = true; rw [decide_eq_true (by omega), decide_eq_true (by omega)]; rfl))
      rw [HF.out.1, HF.out.2]
      have HB3 := hide (below_one HB2.out b3)
      have HT3 := hide (HT2.out.grow b3)
      clear b3 HF
      go_wp2_with fail
      refine (len_any _ HT3.out).mono ?_; rintro e w4 ⟨rfl, rfl⟩
      rw [show (([⟨p, y, t⟩] : List Pl).length : Int) = 1 from rfl]
      go_wp2
      go_roundg g1
      case measure => omega
      case rel => exact ⟨k + 1, v2, [⟨p, y, t⟩], by have := HK.out; omega, by go_num, HT3.out, drop_one _ _ _, Nat.le_refl _, HB3.out⟩
end Go.Proofs.Ytlpjaklhmnbpeaa
