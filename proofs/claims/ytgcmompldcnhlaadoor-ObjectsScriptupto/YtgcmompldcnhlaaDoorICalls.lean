/-
  What objects' helpers answer, as contracts: has, oracle, capability, end, Value.
-/
import Derived.Test.YtgcmompldcnhlaaDoorIRow
import Derived.Deep.RegionHeld
namespace Go.Proofs.YtgcmompldcnhlaaDoor
open Go.RowKit
variable {w w' : World} {g p go : Nat} {T : Nat → Ob}
set_option maxHeartbeats 800000 in
theorem has_any (k : Int) (w : World) (x : Tb w g p go T) (hk : -9223372036854775808 ≤ k ∧ k ≤ 9223372036854775807) :
    Calls Tryd.prog 34 #[.pointer (some ⟨g, 0, none⟩), .int .i64 k] w fun e w' => e = .returned (.bool (decide (0 ≤ k) && hasO T k.toNat)) ∧ w' = w := by
  have HX := hide x
  clear x
  by_cases h0 : 0 ≤ k
  · by_cases h1 : k < 64
    · obtain ⟨n, rfl⟩ : ∃ n : Nat, k = (n : Int) := ⟨k.toNat, by omega⟩
      rcases hT : T n with ⟨s, e, v, l⟩
      obtain ⟨k0, k1, k2, k3⟩ := HX.out.at n (by omega) s e v l hT
      have e1 : (decide (0 ≤ (n : Int)) && hasO T ((n : Int)).toNat) = decide (0 < l) := by
        unfold hasO
        rw [Int.toNat_natCast, hT, decide_eq_true h0, decide_eq_true (show n < 64 by omega)]; rfl
      rw [e1]
      have HT := hide hT
      clear hT e1 k0 k1 k2
      by_cases hl : 0 < l
      · have hl1 : (l : Int) > 0 := by omega
        rw [decide_eq_true hl]
        go_enter Tryd.func34, Tryd.ntmps34
        go_wp2
        go_ret
        exact ⟨rfl, rfl⟩
      · obtain rfl : l = 0 := by omega
        rw [decide_eq_false hl]
        go_enter Tryd.func34, Tryd.ntmps34
        go_wp2
        go_ret
        exact ⟨rfl, rfl⟩
    · have e1 : (decide (0 ≤ k) && hasO T k.toNat) = false := by
        unfold hasO
        rw [decide_eq_false (show ¬ k.toNat < 64 by omega)]; simp
      rw [e1]
      clear e1
      go_enter Tryd.func34, Tryd.ntmps34
      go_wp2
      go_ret
      exact ⟨rfl, rfl⟩
  · have e1 : (decide (0 ≤ k) && hasO T k.toNat) = false := by rw [decide_eq_false h0]; rfl
    rw [e1]
    clear e1
    go_enter Tryd.func34, Tryd.ntmps34
    go_wp2
    go_ret
    exact ⟨rfl, rfl⟩
set_option maxHeartbeats 800000 in
theorem oracle_any (w : World) (x : Tb w g p go T) :
    Calls Tryd.prog 37 #[.pointer (some ⟨g, 0, none⟩)] w fun e w' => e = .returned (.pointer (some ⟨go, 0, none⟩)) ∧ w' = w := by
  have k1 := x.c1
  clear x
  go_enter Tryd.func37, Tryd.ntmps37
  go_wp2
  go_ret
  exact ⟨rfl, rfl⟩
set_option maxHeartbeats 800000 in
theorem value_any (k : Int) (w : World) (x : Tb w g p go T) (hk : -9223372036854775808 ≤ k ∧ k ≤ 9223372036854775807) :
    Calls Tryd.prog 13 #[.pointer (some ⟨g, 0, none⟩), .int .i64 k] w fun e w' => e = .returned (.tuple #[.int .i64 (if (decide (0 ≤ k) && hasO T k.toNat) = true then (T k.toNat).v else 0), .bool (decide (0 ≤ k) && hasO T k.toNat)]) ∧ w' = w := by
  have HX := hide x
  clear x
  obtain ⟨b, hb⟩ : ∃ b, (decide (0 ≤ k) && hasO T k.toNat) = b := ⟨_, rfl⟩
  rw [hb]
  have HK := hide hk
  cases b with
  | false =>
    rw [if_neg Bool.false_ne_true]
    go_enter Tryd.func13, Tryd.ntmps13
    go_wp2_with fail
    refine (has_any k _ HX.out HK.out).mono ?_; rintro e w1 ⟨rfl, rfl⟩
    rw [hb]
    clear hb
    go_wp2
    go_ret2
    exact ⟨rfl, rfl⟩
  | true =>
    have hb2 := hb
    rw [Bool.and_eq_true] at hb2
    have h0 : 0 ≤ k := of_decide_eq_true hb2.1
    obtain ⟨n, rfl⟩ : ∃ n : Nat, k = (n : Int) := ⟨k.toNat, by omega⟩
    have h1 : n < 64 := (hasO_yes hb2.2).1
    rw [Int.toNat_natCast, if_pos rfl]
    rcases hT : T n with ⟨s, e, v, l⟩
    go_enter Tryd.func13, Tryd.ntmps13
    go_wp2_with fail
    refine (has_any n _ HX.out HK.out).mono ?_; rintro e1 w1 ⟨rfl, rfl⟩
    rw [hb]
    obtain ⟨k0, k1, k2, k3⟩ := HX.out.at n h1 s e v l hT
    clear hb hb2 hT hk
    have h2 : (n : Int) < 64 := by omega
    go_wp2
    go_ret2
    exact ⟨rfl, rfl⟩
set_option maxHeartbeats 800000 in
theorem end_any (k : Nat) (w : World) (x : Tb w g p go T) (hk : k < 64) :
    Calls Tryd.prog 41 #[.pointer (some ⟨g, 0, none⟩), .int .i64 (k : Int)] w fun e w' => e = .returned (.int .i64 (T k).v) ∧ Tb w' g p go (updO T k Ob.zero) ∧ Foot (fun j => j = g) w w' := by
  have HL := hide (x.lay k hk Ob.zero ⟨by show 0 ≤ _; omega, by show 0 ≤ _; omega⟩)
  have HF := hide (foot_lay4 w g k Ob.zero)
  obtain ⟨V, hV⟩ : ∃ V, lay4 w g k Ob.zero = V := ⟨_, rfl⟩
  rw [hV] at HL HF
  simp only [lay4, Ob.zero, Int.cast_ofNat_Int] at hV
  rcases hT : T k with ⟨s, e, v, l⟩
  obtain ⟨k0, k1, k2, k3⟩ := x.at k hk s e v l hT
  have z := x.z
  have h0 : (0 : Int) ≤ (k : Int) := by omega
  have h2 : (k : Int) < 64 := by omega
  clear x hT
  go_enter Tryd.func41, Tryd.ntmps41
  go_wp2
  go_ret
  exact ⟨rfl, HL.out, HF.out⟩
end Go.Proofs.YtgcmompldcnhlaaDoor
