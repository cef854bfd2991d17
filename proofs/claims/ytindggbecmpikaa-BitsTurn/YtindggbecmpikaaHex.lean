/-
  What Hex, Read and digit answer, as contracts; and that the document's examples stand (awake).
-/
import Derived.Test.YtindggbecmpikaaCalls
namespace Go.Proofs.Ytindggbecmpikaa
open Go.RowKit
def letD (d : Nat) : UInt8 := UInt8.ofNat (if d < 10 then 48 + d else 87 + d)
def hexL (v : Nat) : List UInt8 := (List.range 12).map fun p => letD (v / 16 ^ (11 - p) % 16)
theorem letters_at (d : Nat) (h : d < 16) : (ByteArray.mk #[48, 49, 50, 51, 52, 53, 54, 55, 56, 57, 97, 98, 99, 100, 101, 102])[d]'h = letD d := by
  have key : ∀ d : Fin 16, (ByteArray.mk #[48, 49, 50, 51, 52, 53, 54, 55, 56, 57, 97, 98, 99, 100, 101, 102])[d.val]'d.isLt = letD d.val := by decide
  exact key ⟨d, h⟩
theorem and_15 (y : Nat) (h : y < 18446744073709551616) : bits .and .u64 (y : Int) 15 = ((y % 16 : Nat) : Int) := by
  rw [u64_and _ _ (by omega) (by omega) (by omega) (by omega)]
  show ((((y : Int)).toNat &&& 15 : Nat) : Int) = _
  rw [nat_mask4]; rfl
set_option maxHeartbeats 400000 in
theorem hex_any (a : Int) (w : World) (h0 : 0 ≤ a) (h1 : a < 18446744073709551616) :
    Calls Try.prog 16 #[.int .u64 a] w fun e w' => e = .returned (.string ⟨(hexL (cutF a).toNat).toArray⟩) ∧ Grown w w' := by
  obtain ⟨v, hv⟩ := Int.eq_ofNat_of_zero_le (cutF_lo a)
  have hv1 : v < 281474976710656 := by have := cutF_hi a; omega
  have HV : Hid (cutF a = (v : Int)) := hv
  clear hv
  go_enter Try.func16, Try.ntmps16
  go_wp2_with fail
  refine (cut_any _ _ h0 h1).mono ?_; rintro e w1 ⟨rfl, rfl⟩
  rw [HV.out]
  go_wp2_with fail
  go_loopw [4, 5] (fun x i wr => ∃ k y : Nat, k ≤ 12 ∧ y = v / 16 ^ k ∧ i = .int .i64 (11 - (k : Int)) ∧ x = .int .u64 (y : Int) ∧ ∃ cs : Array Value, cs.size = 12 ∧ (∀ p, 12 - k ≤ p → p < 12 → cs[p]? = some (.int .u8 ((letD (v / 16 ^ (11 - p) % 16)).toNat : Int))) ∧ wr = w.alloc (.cells cs 39)) (fun _ i _ => (1 + intOf i).toNat)
  case atStart => exact ⟨0, v, by omega, by simp, rfl, rfl, _, rfl, fun p h1 h2 => by omega, rfl⟩
  case round =>
    obtain ⟨k, y, hk, hy, rfl, rfl, cs, hcs, hcell, rfl⟩ := hrel
    have HC : Hid _ := hcell
    have HY : Hid _ := hy
    clear hcell hy
    have hy1 : y < 281474976710656 := Nat.lt_of_le_of_lt (by rw [HY.out]; exact Nat.div_le_self _ _) hv1
    by_cases hk3 : k < 12
    · obtain ⟨v0, hv0⟩ : ∃ v0, cs[11 - k]? = some v0 := ⟨_, Array.getElem?_eq_getElem (by omega)⟩
      have hand := and_15 y (by omega)
      have hd := Nat.mod_lt y (show 16 > 0 by omega)
      have HL := letters_at (y % 16) hd
      go_wp2_with fail
      go_roundw
      case rel =>
        refine ⟨k + 1, y / 16, by omega, by rw [HY.out, Nat.pow_succ, Nat.div_div_eq_div_mul], by go_num, by go_num, _, ?_, ?_, rfl⟩
        · simp [hcs]
        · intro p hp1 hp2
          by_cases e : p = 11 - k
          · subst e
            have e1 : 11 - (11 - k) = k := by omega
            rw [e1, ← HY.out]
            rw [Array.getElem?_setIfInBounds, if_pos rfl, if_pos (by omega)]
          · rw [Array.getElem?_setIfInBounds_ne (Ne.symm e)]
            exact HC.out p (by omega) hp2
      case measure => simp [intOf]; omega
    · have hcv : (convert 40 9 (.slice (some ⟨w.heap.size, 0, none⟩) 12 12)).run Try.prog (w.alloc (.cells cs 39)) = .ok (.string ⟨(hexL v).toArray⟩) (w.alloc (.cells cs 39)) := by
        have hl : (hexL v).length = 12 := by simp [hexL]
        have := run_convert_bytes_back (P := Try.prog) (w.alloc (.cells cs 39)) 40 9 5 ⟨w.heap.size, 0, none⟩ 12 (hexL v) Try.underlying40 Try.underlying5 Try.underlying9 (fun j hj => by
          rw [hl] at hj
          have hk0 : k = 12 := by omega
          have hc := HC.out j (by omega) hj
          rw [show (Addr.add ⟨w.heap.size, 0, none⟩ j) = ⟨w.heap.size, j, none⟩ from by simp [Addr.add]; exact fun h => h.symm, World.cell?_alloc_new, hc]
          simp [hexL])
        rw [hl] at this
        exact this
      go_wp2
      go_ret
      have e : (cutF a).toNat = v := by rw [HV.out]; rfl
      exact ⟨by rw [e]; rfl, (Grown.refl _).alloc _ _⟩
def dok (c : Int) : Bool := decide ((48 ≤ c ∧ c ≤ 57) ∨ (97 ≤ c ∧ c ≤ 102))
def dv (c : Int) : Int := if 48 ≤ c ∧ c ≤ 57 then c - 48 else if 97 ≤ c ∧ c ≤ 102 then c - 87 else 0
theorem ret_two {k : IntKind} {a b : Int} {p q : Bool} (h : a = b) (h2 : p = q) : Ending.returned (.tuple #[.int k a, .bool p]) = .returned (.tuple #[.int k b, .bool q]) := by rw [h, h2]
set_option maxHeartbeats 400000 in
theorem digit_any (c : Int) (w : World) (h0 : 0 ≤ c) (h1 : c < 256) :
    Calls Try.prog 18 #[.int .u8 c] w fun e w' => e = .returned (.tuple #[.int .u64 (dv c), .bool (dok c)]) ∧ w' = w := by
  go_enter Try.func18, Try.ntmps18
  go_wp2
  all_goals go_ret2
  all_goals refine ⟨ret_two ?_ ?_, rfl⟩
  all_goals first | exact (decide_eq_true (by omega)).symm | exact (decide_eq_false (by omega)).symm | (unfold dv; repeat (first | rw [if_pos (by omega)] | rw [if_neg (by omega)])) 
  all_goals omega
def byteAt (s : ByteArray) (k : Nat) : Int := if h : k < s.size then (s[k].toNat : Int) else 0
def valF (s : ByteArray) : Nat → Nat
  | 0 => 0
  | k + 1 => valF s k * 16 + (dv (byteAt s k)).toNat
theorem dv_lo (c : Int) : 0 ≤ dv c := by unfold dv; split; omega; split <;> omega
theorem dv_hi (c : Int) : dv c < 16 := by unfold dv; split; omega; split <;> omega
theorem byteAt_lo (s : ByteArray) (k : Nat) : 0 ≤ byteAt s k := by unfold byteAt; split <;> omega
theorem byteAt_hi (s : ByteArray) (k : Nat) : byteAt s k < 256 := by
  unfold byteAt; split
  · have := s[k].toNat_lt; omega
  · omega
theorem byteAt_eq (s : ByteArray) (k : Nat) (h : k < s.size) : byteAt s k = (s[k].toNat : Int) := by unfold byteAt; rw [dif_pos h]
theorem valF_lt (s : ByteArray) (k : Nat) : valF s k < 16 ^ k := by
  induction k with
  | zero => simp [valF]
  | succ k ih => have := dv_hi (byteAt s k); have := dv_lo (byteAt s k); rw [Nat.pow_succ]; simp only [valF]; omega
theorem valF_12 (s : ByteArray) (k : Nat) (h : k < 12) : valF s k < 17592186044416 :=
  Nat.lt_of_lt_of_le (valF_lt s k) (Nat.le_trans (Nat.pow_le_pow_right (by omega) (show k ≤ 11 by omega)) (by decide))
theorem or_digit (x d : Nat) (hx : x < 17592186044416) (hd : d < 16) : bits .or .u64 ((x : Int) * 16) (d : Int) = ((x * 16 + d : Nat) : Int) := by
  rw [show (x : Int) * 16 = ((x * 16 : Nat) : Int) from by omega, u64_or_nat _ _ (by omega) (by omega), nat_join 4 _ _ (by omega) hd]
theorem read_len (s : ByteArray) (w : World) (h : (((s.size : Nat) : Int) == 12) = false) (_hm : s.size ≤ maxLen) :
    Calls Try.prog 17 #[.string s] w fun e w' => e = .returned (.tuple #[.int .u64 0, .bool false]) ∧ w' = w := by
  unfold maxLen at _hm
  go_enter Try.func17, Try.ntmps17
  go_wp2
  go_ret2
  exact ⟨rfl, rfl⟩
theorem read_12 (s : ByteArray) (w : World) (h : s.size = 12) :
    Calls Try.prog 17 #[.string s] w fun e w' => ((∀ k, k < 12 → dok (byteAt s k) = true) ∧ e = .returned (.tuple #[.int .u64 (valF s 12 : Nat), .bool true]) ∧ w' = w) ∨ ((∃ k, k < 12 ∧ dok (byteAt s k) = false) ∧ e = .returned (.tuple #[.int .u64 0, .bool false]) ∧ w' = w) := by
  go_enter Try.func17, Try.ntmps17
  go_wp2
  go_loop [4, 5] (fun x i => ∃ k : Nat, k ≤ 12 ∧ i = .int .i64 k ∧ x = .int .u64 (valF s k : Nat) ∧ ∀ j, j < k → dok (byteAt s j) = true) (fun _ i => 12 - (intOf i).toNat)
  case atStart => exact ⟨0, by omega, rfl, rfl, fun j h => by omega⟩
  case round =>
    obtain ⟨k, hk, rfl, rfl, hall⟩ := hrel
    have HA : Hid _ := hall
    clear hall
    by_cases hk3 : k < 12
    · have hks : k < s.size := by omega
      have hv := valF_12 s k hk3
      have e1 := byteAt_eq s k hks
      have e2 := byteAt_lo s k
      have e3 := byteAt_hi s k
      have d1 := dv_lo (byteAt s k)
      have d2 := dv_hi (byteAt s k)
      obtain ⟨d, hd⟩ := Int.eq_ofNat_of_zero_le d1
      have HO : Hid _ := or_digit (valF s k) d hv (by omega)
      have hd16 : d < 16 := by omega
      have HE : Hid _ := hd
      cases hok : dok (byteAt s k)
      · have hdig : ∀ wx, Calls Try.prog 18 #[.int .u8 (s[k].toNat : Int)] wx fun e w' => e = .returned (.tuple #[.int .u64 (d : Int), .bool false]) ∧ w' = wx := by
          intro wx; have := digit_any (byteAt s k) wx e2 e3; rw [hd, hok, e1] at this; exact this
        have HD : Hid _ := hdig
        have HB : Hid _ := hok
        clear hdig e1 e2 e3 d1 d2 hd hok
        go_wp2_with fail
        refine (HD.out _).mono ?_; rintro e w2 ⟨rfl, rfl⟩
        go_wp2
        go_ret2
        exact Or.inr ⟨⟨k, hk3, HB.out⟩, rfl, rfl⟩
      · have hdig : ∀ wx, Calls Try.prog 18 #[.int .u8 (s[k].toNat : Int)] wx fun e w' => e = .returned (.tuple #[.int .u64 (d : Int), .bool true]) ∧ w' = wx := by
          intro wx; have := digit_any (byteAt s k) wx e2 e3; rw [hd, hok, e1] at this; exact this
        have HD : Hid _ := hdig
        have HB : Hid _ := hok
        clear hdig e1 e2 e3 d1 d2 hd hok
        go_wp2_with fail
        refine (HD.out _).mono ?_; rintro e w2 ⟨rfl, rfl⟩
        go_wp2
        go_round
        case rel =>
          refine ⟨k + 1, by omega, by go_num, ?_, fun j hj => ?_⟩
          · rw [HO.out]; simp only [valF]; rw [HE.out]; rfl
          · by_cases e : j = k
            · subst e; exact HB.out
            · exact HA.out j (by omega)
        case measure => simp [intOf]; omega
    · go_wp2
      go_ret2
      have e : k = 12 := by omega
      subst e
      exact Or.inl ⟨HA.out, rfl, rfl⟩
theorem grown_trans {a b c : World} (h : Grown a b) (k : Grown b c) : Grown a c :=
  ⟨World.keptBut_trans h.1 k.1, fun x => (k.2.1 x).trans (h.2.1 x), Nat.le_trans h.2.2 k.2.2⟩
theorem grown_drewN {a b : World} (h : Grown a b) (n : Nat) : Grown a (b.drewN n) := h
theorem ex_turn1 : turnF 1 (-1) = 140737488355328 := by decide +kernel
theorem ex_turn2 : turnF 1 49 = 2 := by decide +kernel
theorem ex_hex : hexL (cutF 255).toNat = [48, 48, 48, 48, 48, 48, 48, 48, 48, 48, 102, 102] := by decide +kernel
theorem ex_mix : mixF 0 0 = 0 := by decide +kernel
theorem ex_cut : cutF 281474976710661 = 5 := by decide +kernel
set_option maxHeartbeats 400000 in
theorem awake_any (w : World) : Calls Try.prog 9 #[] w fun e w' => e = .returned (.bool true) ∧ Grown w w' := by
  have e1 := ex_turn1
  have e2 := ex_turn2
  have e3 := ex_hex
  have e4 := ex_mix
  have e5 := ex_cut
  go_enter Try.func9, Try.ntmps9
  go_wp2_with fail
  refine (read_len _ _ (by rfl) (by decide)).mono ?_; rintro e w1 ⟨rfl, rfl⟩
  go_wp2_with fail
  refine (turn_any _ _ _ (by omega) (by omega)).mono ?_; rintro e w2 ⟨rfl, j2, rfl⟩
  go_wp2_with fail
  refine (turn_any _ _ _ (by omega) (by omega)).mono ?_; rintro e w3 ⟨rfl, j3, rfl⟩
  go_wp2_with fail
  refine (hex_any _ _ (by omega) (by omega)).mono ?_; rintro e w4 ⟨rfl, hg⟩
  rw [e3]
  go_wp2_with fail
  refine (mix_any _ _ _ (by omega) (by omega) (by omega) (by omega)).mono ?_; rintro e w5 ⟨rfl, j5, rfl⟩
  go_wp2_with fail
  refine (cut_any _ _ (by omega) (by omega)).mono ?_; rintro e w6 ⟨rfl, rfl⟩
  go_wp2
  go_ret
  exact ⟨rfl, grown_drewN (grown_trans (grown_drewN (Grown.refl _) _) hg) _⟩
end Go.Proofs.Ytindggbecmpikaa
