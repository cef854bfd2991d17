/-
  The walk of PortmapAge.
-/
import Derived.Test.YtlpjaklhmnbpeaaVAwake
namespace Go.Proofs.Ytlpjaklhmnbpeaa
open Go.RowKit
theorem learn_nil (p n a : Int) : learnL [] p n a = [⟨p, n, a⟩] := rfl
theorem find_one {age p n a now : Int} (h : trust age ⟨p, n, a⟩ now = true) : findI age [⟨p, n, a⟩] p now = n ∧ findB age [⟨p, n, a⟩] p now = true := by
  have e : findP [⟨p, n, a⟩] p = some ⟨p, n, a⟩ := by unfold findP; rw [List.find?_cons_of_pos (by unfold isP; simp)]
  unfold findI findB
  rw [findV_some e, h]; exact ⟨rfl, rfl⟩
theorem find_old {age p n a now : Int} (h : trust age ⟨p, n, a⟩ now = false) : findI age [⟨p, n, a⟩] p now = 0 ∧ findB age [⟨p, n, a⟩] p now = false := by
  have e : findP [⟨p, n, a⟩] p = some ⟨p, n, a⟩ := by unfold findP; rw [List.find?_cons_of_pos (by unfold isP; simp)]
  unfold findI findB
  rw [findV_some e, h]; exact ⟨rfl, rfl⟩
theorem find_other {age p n a now x : Int} (h : p ≠ x) : findI age [⟨p, n, a⟩] x now = 0 ∧ findB age [⟨p, n, a⟩] x now = false := by
  have e : findP [⟨p, n, a⟩] x = none := by unfold findP; rw [List.find?_cons_of_neg (by unfold isP; simpa using h)]; rfl
  unfold findI findB
  rw [findV_none e]; exact ⟨rfl, rfl⟩
set_option maxRecDepth 20000 in
set_option maxHeartbeats 3200000 in
theorem walk_age (a : Nat) (p n t l : Int) (w : World) (ha : a ≤ 255) (ht : -2147483648 ≤ t ∧ t ≤ 2147483647) (hl : -32768 ≤ l ∧ l ≤ 32767) :
    Calls Try.prog 4 #[.int .u8 (a : Int), .int .u64 p, .int .i64 n, .int .i32 t, .int .i16 l] w fun e w' => e = .returned (.bool true) ∧ Below w.heap.size w w' := by
  obtain ⟨y, hy⟩ : ∃ y, max (a : Int) 1 = y := ⟨_, rfl⟩
  have hy2 : max 1 (a : Int) = y := by rw [Int.max_comm]; exact hy
  have HY : Hid (1 ≤ y ∧ y ≤ 255) := by rw [← hy]; exact ⟨by omega, by omega⟩
  obtain ⟨u, hu⟩ : ∃ u, IntKind.u64.wrap (p + 1) = u := ⟨_, rfl⟩
  have HU : Hid (p ≠ u) := by
    show p ≠ u
    rw [← hu, IntKind.wrap_u64]; omega
  obtain ⟨s, hs⟩ : ∃ s, t + l = s := ⟨_, rfl⟩
  have hws : IntKind.i64.wrap (t + l) = s := by rw [IntKind.wrap_i64]; omega
  have HS : Hid (I64 s) := ⟨by omega, by omega⟩
  have HTT : Hid (I64 t) := ⟨by omega, by omega⟩
  have HA : Hid (∀ x ∈ ([⟨p, n, t⟩] : List Pl), I64 x.a) := fun x hx => by
    rw [List.mem_singleton.1 hx]; exact HTT.out
  have HOT := hide (find_other (age := y) (n := n) (a := t) (now := t) HU.out)
  have HTR : Hid (trust y ⟨p, n, t⟩ s = (decide (0 ≤ l) && decide (l < y))) := by
    show trust _ _ _ = _
    unfold trust
    rw [show decide (t ≤ s) = decide (0 ≤ l) from decide_eq_decide.2 (by omega), show decide (s - t < y) = decide (l < y) from decide_eq_decide.2 (by omega)]
  have hwt : IntKind.i64.wrap t = t := by rw [IntKind.wrap_i64]; omega
  have hwl : IntKind.i64.wrap l = l := by rw [IntKind.wrap_i64]; omega
  have hwa : IntKind.i64.wrap (a : Int) = (a : Int) := by rw [IntKind.wrap_i64]; omega
  clear ht hl hs ha
  go_enter Try.func4, Try.ntmps4
  go_wp2_with fail
  refine (awake_any _).mono ?_; rintro e w0 ⟨rfl, b0⟩
  have HB0 := hide b0
  clear b0
  go_wp2_with fail
  refine (of_made _ y hy _).mono ?_; rintro e w1 ⟨g, rfl, t1, b1, hg⟩
  have HT := hide t1
  have HB := hide (below_one HB0.out b1)
  have HG := hide (Nat.le_trans HB0.out.size hg)
  clear t1 b1 hg
  go_wp2_with fail
  refine (learn_any p n t _ HT.out (by decide)).mono ?_; rintro e w2 ⟨rfl, h2⟩
  obtain ⟨v2, t2, b2⟩ := h2.below HB.out HG.out
  have HT2 := hide (show Pm w2 g g y v2 [⟨p, n, t⟩] from t2)
  have HB2 := hide b2
  clear h2 t2 b2
  go_wp2_with fail
  refine (find_any p s _ HT2.out (by have := HY.out; omega) HS.out HA.out).mono ?_; rintro e w3 ⟨rfl, b3⟩
  have HB3 := hide (below_one HB2.out b3)
  have HT3 := hide (HT2.out.grow b3)
  clear b3 hws
  by_cases h1 : (0 : Int) ≤ l
  · by_cases h2 : l < y
    · have HF := hide (find_one (HTR.out.trans (by rw [decide_eq_true h1, decide_eq_true h2]; rfl)))
      rw [HF.out.1, HF.out.2]
      clear HF
      go_wp2_with fail
      refine (find_any u t _ HT3.out (by have := HY.out; omega) HTT.out HA.out).mono ?_; rintro e w4 ⟨rfl, b4⟩
      have HB4 := hide (below_one HB3.out b4)
      have HT4 := hide (HT3.out.grow b4)
      rw [HOT.out.1, HOT.out.2]
      clear b4
      go_wp2_with fail
      refine (len_any _ HT4.out).mono ?_; rintro e w5 ⟨rfl, rfl⟩
      rw [show (([⟨p, n, t⟩] : List Pl).length : Int) = 1 from rfl]
      go_wp2
      go_ret
      exact ⟨rfl, HB4.out⟩
    · have HF := hide (find_old (HTR.out.trans (by rw [decide_eq_true h1, decide_eq_false h2]; rfl)))
      rw [HF.out.1, HF.out.2]
      clear HF
      go_wp2_with fail
      refine (find_any u t _ HT3.out (by have := HY.out; omega) HTT.out HA.out).mono ?_; rintro e w4 ⟨rfl, b4⟩
      have HB4 := hide (below_one HB3.out b4)
      have HT4 := hide (HT3.out.grow b4)
      rw [HOT.out.1, HOT.out.2]
      clear b4
      go_wp2_with fail
      refine (len_any _ HT4.out).mono ?_; rintro e w5 ⟨rfl, rfl⟩
      rw [show (([⟨p, n, t⟩] : List Pl).length : Int) = 1 from rfl]
      go_wp2
      go_ret
      exact ⟨rfl, HB4.out⟩
  · have HF := hide (find_old (HTR.out.trans (by rw [decide_eq_false h1]; rfl)))
    rw [HF.out.1, HF.out.2]
    clear HF
    go_wp2_with fail
    refine (find_any u t _ HT3.out (by have := HY.out; omega) HTT.out HA.out).mono ?_; rintro e w4 ⟨rfl, b4⟩
    have HB4 := hide (below_one HB3.out b4)
    have HT4 := hide (HT3.out.grow b4)
    rw [HOT.out.1, HOT.out.2]
    clear b4
    go_wp2_with fail
    refine (len_any _ HT4.out).mono ?_; rintro e w5 ⟨rfl, rfl⟩
    rw [show (([⟨p, n, t⟩] : List Pl).length : Int) = 1 from rfl]
    go_wp2
    go_ret
    exact ⟨rfl, HB4.out⟩
end Go.Proofs.Ytlpjaklhmnbpeaa
