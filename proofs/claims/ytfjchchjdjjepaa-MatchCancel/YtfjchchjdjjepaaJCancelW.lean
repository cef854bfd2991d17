/-
  The walk of MatchCancel.
-/
import Derived.Test.YtfjchchjdjjepaaJSeq
namespace Go.Proofs.Ytfjchchjdjjepaa
open Go.RowKit
theorem thR_get (port o : Int) (a n j : Nat) (h : j < n) : (thR port o a n).getD j Wt.zero = ⟨port, o + ((a + j : Nat) : Int)⟩ := by
  unfold thR
  rw [List.getD_eq_getElem?_getD, List.getElem?_map, List.getElem?_range' (by omega), Nat.one_mul]; rfl
/- those from a on, but for one -/
def outR (port : Int) (a n c : Nat) : List Wt := (thR port 0 a n).filter fun y => !(isT (c : Int) y)
theorem isT_num (port : Int) (a c : Nat) : isT (c : Int) ⟨port, 0 + (a : Int)⟩ = decide (a = c) := by
  unfold isT
  by_cases e : a = c
  · subst e; simp
  · rw [decide_eq_false e]; simp only [beq_eq_false_iff_ne, ne_eq]; omega
theorem outR_skip (port : Int) (n c : Nat) : outR port c (n + 1) c = outR port (c + 1) n c := by
  unfold outR
  rw [thR_cons, List.filter_cons_of_neg (by rw [isT_num]; simp)]
theorem outR_head (port : Int) (a n c : Nat) (h : a ≠ c) : outR port a (n + 1) c = ⟨port, 0 + (a : Int)⟩ :: outR port (a + 1) n c := by
  unfold outR
  rw [thR_cons, List.filter_cons_of_pos (by rw [isT_num]; simp [h])]
theorem outR_all (port : Int) (n : Nat) : ∀ a c, c < a → outR port a n c = thR port 0 a n := by
  induction n with
  | zero => intro a c _; rfl
  | succ n ih => intro a c h; rw [outR_head port a n c (by omega), ih (a + 1) c (by omega), thR_cons]
theorem outR_erase (port : Int) (n : Nat) : ∀ a c, a ≤ c → c < a + n → (thR port 0 a n).eraseIdx (c - a) = outR port a n c := by
  induction n with
  | zero => intro a c h1 h2; omega
  | succ n ih =>
    intro a c h1 h2
    by_cases e : a = c
    · subst e
      rw [Nat.sub_self, thR_cons, List.eraseIdx_cons_zero, outR_skip, outR_all port n (a + 1) a (by omega)]
    · rw [thR_cons, show c - a = (c - (a + 1)) + 1 by omega, List.eraseIdx_cons_succ, ih (a + 1) c (by omega) (by omega), outR_head port a n c e]
theorem outR_no (port : Int) (a n c : Nat) : waitsF (outR port a n c) (c : Int) = false := by
  unfold waitsF outR
  rw [List.any_eq_false]
  intro y hy
  have := (List.mem_filter.1 hy).2
  simpa using this
theorem thR_first (port : Int) (n c : Nat) (h : c < n) : First (isT (c : Int)) Wt.zero (thR port 0 0 n) c := by
  refine ⟨by rw [thR_len]; exact h, ?_, fun j hj => ?_⟩
  · rw [thR_get port 0 0 n c h, isT_num]; simp
  · rw [thR_get port 0 0 n j (by omega), isT_num]; simp; omega
def CcRel1 (w : World) (g k : Nat) (port : Int) (gk : Nat) (vi : Value) (wq : World) : Prop :=
  ∃ i : Nat, i + gk = k ∧ vi = .int .i64 (i : Int) ∧ St wq g NoS (thR port 0 0 i) [] ∧ Below w.heap.size w wq
def CcRel2 (w : World) (g k c : Nat) (port : Int) (gk : Nat) (vi : Value) (wq : World) : Prop :=
  ∃ i : Nat, i + gk = k ∧ vi = .int .i64 (i : Int) ∧ St wq g NoS (outR port i gk c) [] ∧ Below w.heap.size w wq
set_option maxRecDepth 20000 in
set_option maxHeartbeats 6400000 in
theorem walk_cancel (port : Int) (n q : Nat) (w : World) (hq : q ≤ 255) :
    Calls Try.prog 4 #[.int .u64 port, .int .u8 (n : Int), .int .u8 (q : Int)] w fun e w' => e = .returned (.bool true) ∧ Below w.heap.size w w' := by
  obtain ⟨m, hm⟩ : ∃ m, n % 20 = m := ⟨_, rfl⟩
  have hr : (n : Int).tmod 20 = (m : Int) := by rw [Int.tmod_eq_emod_of_nonneg (by omega)]; omega
  have hm20 : m < 20 := by omega
  obtain ⟨k, hk⟩ : ∃ k, 2 + m = k := ⟨_, rfl⟩
  have h2 : 2 + (m : Int) = (k : Int) := by omega
  have hk22 : k < 22 := by omega
  have hk0 : 0 < k := by omega
  have hkz : ¬ ((k : Int) = 0) := by omega
  obtain ⟨c, hc⟩ : ∃ c, q % k = c := ⟨_, rfl⟩
  have hcq : (q : Int).tmod (k : Int) = (c : Int) := by rw [Int.tmod_eq_emod_of_nonneg (by omega), ← hc]; omega
  have hck : c < k := hc ▸ Nat.mod_lt q hk0
  clear hm hk hc
  go_enter Try.func4, Try.ntmps4
  go_wp2_with fail
  refine (awake_any _).mono ?_; rintro e W ⟨rfl, b1⟩
  have HB1 := hide b1
  clear b1
  obtain ⟨X, hX⟩ : ∃ X, W.alloc (.cells #[.slice none 0 0, .slice none 0 0] 28) = X := ⟨_, rfl⟩
  have HBX : Hid (Below w.heap.size w X) := below_one HB1.out (hX ▸ below_alloc W _)
  obtain ⟨g, hg⟩ : ∃ g, W.heap.size = g := ⟨_, rfl⟩
  have HST : Hid (St X g NoS (thR port 0 0 0) []) := by
    show St _ _ _ _ _
    rw [← hX, ← hg]; exact st_new W NoS
  have HG : Hid (w.heap.size ≤ g) := by show _ ≤ _; rw [← hg]; exact HB1.out.size
  go_wp2_with fail
  go_loopg [9] k (fun gk vi wq => CcRel1 w g k port gk vi wq)
  case atStart => exact ⟨0, by omega, rfl, HST.out, HBX.out⟩
  case round =>
    obtain ⟨i, hi, rfl, st, b⟩ := hrel
    have HS := hide st
    have HB := hide b
    clear st b hX hg hr h2
    cases gk with
    | zero =>
      obtain rfl : i = k := by omega
      have hlt : ¬ ((i : Int) < (i : Int)) := by omega
      clear hi
      go_wp2_with fail
      refine (cancel_yes (c : Int) c _ HS.out noS (thR_first port i c hck)).mono ?_; rintro e w1 ⟨rfl, E1⟩
      obtain ⟨s1, b1⟩ := E1.below HB.out HG.out
      have e1 := outR_erase port i 0 c (Nat.zero_le _) (by omega)
      rw [Nat.sub_zero] at e1
      rw [e1] at s1
      have HS1 := hide s1
      have HB1 := hide b1
      clear E1 s1 b1 e1
      go_wp2_with fail
      refine (cancel_no (c : Int) _ HS1.out (outR_no _ _ _ _)).mono ?_; rintro e w2 ⟨rfl, b2⟩
      have HS2 := hide (HS1.out.grow b2)
      have HB2 := hide (below_one HB1.out b2)
      clear b2 hcq
      go_wp2_with fail
      go_loopg [11] i (fun gk vi wq => CcRel2 w g i c port gk vi wq)
      case atStart => exact ⟨0, by omega, rfl, HS2.out, HB2.out⟩
      case round =>
        rename World => wq
        clear HS HB HS1 HB1 HS2 HB2
        obtain ⟨j, hj, rfl, st, b⟩ := hrel
        have HS := hide st
        have HB := hide b
        clear st b
        cases gk with
        | zero =>
          obtain rfl : j = i := by omega
          have hlt : ¬ ((j : Int) < (j : Int)) := by omega
          clear hj
          go_wp2_with fail
          refine (offer_wait (msgI port 0) _ HS.out noS (msgI_has _ _ _) (msgI_sn _ _) rfl (by decide)).mono ?_; rintro e w3 ⟨rfl, E3⟩
          obtain ⟨s3, b3⟩ := E3.below HB.out HG.out
          have HB3 := hide b3
          clear E3 s3 b3
          go_wp2
          go_ret
          exact ⟨rfl, HB3.out⟩
        | succ g1 =>
          have hlt : (j : Int) < (i : Int) := by omega
          by_cases hjc : j = c
          · subst hjc
            rw [outR_skip] at HS
            go_wp2
            go_roundg g1
            case measure => omega
            case rel => exact ⟨j + 1, by omega, by go_num, HS.out, HB.out⟩
          · have hne : ¬ ((j : Int) = (c : Int)) := by omega
            rw [outR_head port j g1 c hjc, Int.zero_add] at HS
            go_wp2_with fail
            refine (offer_hit (msgI port 0) 0 _ HS.out noS (first_head _ _ _ _ (isP_self _ _))).mono ?_; rintro e w1 ⟨rfl, E1⟩
            obtain ⟨s1, b1⟩ := E1.below HB.out HG.out
            have HS3 := hide s1
            have HB3 := hide b1
            rw [show ((⟨port, (j : Int)⟩ :: outR port (j + 1) g1 c : List Wt).getD 0 Wt.zero).t = (j : Int) from rfl]
            clear E1 s1 b1
            go_wp2
            go_roundg g1
            case measure => omega
            case rel => exact ⟨j + 1, by omega, by go_num, HS3.out, HB3.out⟩
    | succ g1 =>
      have hlt : (i : Int) < (k : Int) := by omega
      have hik : i < k := by omega
      go_wp2_with fail
      refine (get_wait port (i : Int) _ HS.out noS (thR_no port 0 i _ (by omega)) rfl (by rw [thR_len]; omega)).mono ?_; rintro e w1 ⟨rfl, E1⟩
      obtain ⟨s1, b1⟩ := E1.below HB.out HG.out
      have e1 := thR_snoc port 0 i
      rw [Int.zero_add] at e1
      rw [← e1] at s1
      have HS3 := hide s1
      have HB3 := hide b1
      clear E1 s1 b1 e1 hcq
      go_wp2
      go_roundg g1
      case measure => omega
      case rel => exact ⟨i + 1, by omega, by go_num, HS3.out, HB3.out⟩
end Go.Proofs.Ytfjchchjdjjepaa
