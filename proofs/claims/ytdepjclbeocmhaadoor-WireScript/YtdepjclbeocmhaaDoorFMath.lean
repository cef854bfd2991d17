/-
  How many packets a message has, and which bytes each: plain facts on lists.
-/
import Derived.Test.YtdepjclbeocmhaaDoorRows
namespace Go.Proofs.YtdepjclbeocmhaaDoor
def cntF (n s : Nat) : Nat := max 1 ((n + s - 1) / s)
def pcF (l : List UInt8) (s k : Nat) : List UInt8 := (l.drop (k * s)).take s
theorem cnt_pos (n s : Nat) : 1 ≤ cntF n s := Nat.le_max_left _ _
theorem cnt_le (n s : Nat) (hs : 1 ≤ s) (h : n ≤ s * 256) : cntF n s ≤ 256 := by
  unfold cntF
  refine Nat.max_le.2 ⟨by omega, ?_⟩
  have : (n + s - 1) / s < 257 := (Nat.div_lt_iff_lt_mul (by omega)).2 (by omega)
  omega
theorem cnt_gt (n s : Nat) (hs : 1 ≤ s) (h : s * 256 < n) : 256 < cntF n s := by
  unfold cntF
  refine Nat.lt_of_lt_of_le ?_ (Nat.le_max_right _ _)
  exact (Nat.le_div_iff_mul_le (by omega)).2 (by omega)
/- a packet's place lies within -/
theorem cnt_in (n s k : Nat) (hs : 1 ≤ s) (h : k < cntF n s) : k * s ≤ n := by
  unfold cntF at h
  rcases Nat.eq_zero_or_pos k with rfl | hk
  · omega
  · have h1 : k + 1 ≤ (n + s - 1) / s := by omega
    have h2 := (Nat.le_div_iff_mul_le (by omega)).1 h1
    rw [Nat.add_mul] at h2
    omega
theorem cnt_end (n s : Nat) (hs : 1 ≤ s) : n ≤ cntF n s * s := by
  have h1 : (n + s - 1) / s ≤ cntF n s := Nat.le_max_right _ _
  have h2 := Nat.mul_le_mul_right s h1
  have h3 := Nat.div_add_mod (n + s - 1) s
  have h4 := Nat.mod_lt (n + s - 1) (show 0 < s by omega)
  rw [Nat.mul_comm] at h3
  omega
/- all but the last one are full; the last one has some, if there are several -/
theorem cnt_more (n s k : Nat) (hs : 1 ≤ s) (h : k < cntF n s) (hk : 1 ≤ k) : k * s < n := by
  unfold cntF at h
  have h1 : k + 1 ≤ (n + s - 1) / s := by omega
  have h2 := (Nat.le_div_iff_mul_le (by omega)).1 h1
  rw [Nat.add_mul] at h2
  omega
theorem cnt_one (n s : Nat) (hs : 1 ≤ s) (h : 2 ≤ cntF n s) : s < n := by
  have := cnt_more n s 1 hs (by omega) (Nat.le_refl _); omega
theorem pc_len (l : List UInt8) (s k : Nat) : (pcF l s k).length = min s (l.length - k * s) := by simp [pcF]
theorem pc_part (l : List UInt8) (s k m : Nat) (hm : m = min (k * s + s) l.length) (hk : k * s ≤ l.length) : (l.drop (k * s)).take (m - k * s) = pcF l s k := by
  unfold pcF
  by_cases h : k * s + s ≤ l.length
  · rw [show m - k * s = s by omega]
  · rw [show m - k * s = (l.drop (k * s)).length by rw [List.length_drop]; omega, List.take_length, List.take_of_length_le (by rw [List.length_drop]; omega)]
theorem pcs_take (l : List UInt8) (s m : Nat) : (List.range m).flatMap (pcF l s) = l.take (m * s) := by
  induction m with
  | zero => simp
  | succ m ih =>
    rw [List.range_succ, List.flatMap_append, ih]
    simp only [List.flatMap_cons, List.flatMap_nil, List.append_nil]
    unfold pcF
    rw [Nat.add_mul, Nat.one_mul, List.take_add]
theorem pcs_join (l : List UInt8) (s : Nat) (hs : 1 ≤ s) : (List.range (cntF l.length s)).flatMap (pcF l s) = l := by
  rw [pcs_take, List.take_of_length_le (cnt_end _ _ hs)]
/- as the statement reckons -/
theorem cnt_law1 (n s : Nat) (hs : 1 ≤ s) (h : 0 < n % s ∨ n / s = 0) : n / s + 1 = cntF n s := by
  unfold cntF
  have h1 : (n + s - 1) / s ≤ n / s + 1 := by
    have : (n + s - 1) / s < n / s + 2 := (Nat.div_lt_iff_lt_mul (by omega)).2 (by
      have h3 := Nat.div_add_mod n s
      have h4 := Nat.mod_lt n (show 0 < s by omega)
      rw [Nat.add_mul, Nat.mul_comm (n / s)]; omega)
    omega
  rcases h with h | h
  · have h2 : n / s + 1 ≤ (n + s - 1) / s := (Nat.le_div_iff_mul_le (by omega)).2 (by
      have h3 := Nat.div_add_mod n s
      rw [Nat.add_mul, Nat.mul_comm (n / s)]; omega)
    generalize (n + s - 1) / s = p at *
    generalize n / s = q at *
    omega
  · generalize (n + s - 1) / s = p at *
    generalize n / s = q at *
    omega
theorem cnt_law2 (n s : Nat) (hs : 1 ≤ s) (h : n % s = 0) (h0 : n / s ≠ 0) : n / s = cntF n s := by
  unfold cntF
  have h3 := Nat.div_add_mod n s
  have h1 : (n + s - 1) / s = n / s := by
    apply Nat.div_eq_of_lt_le
    · rw [Nat.mul_comm]; omega
    · rw [Nat.add_mul, Nat.mul_comm (n / s)]; omega
  rw [h1]
  generalize n / s = q at *
  omega
def mayF (x c : Int) (n : Nat) : Bool := decide (1 ≤ c) && (decide (c ≤ 256) && (decide (0 ≤ x) && (decide (x < c) && decide (n ≤ 32768))))
theorem may_iff (x c : Int) (n : Nat) : mayF x c n = true ↔ 1 ≤ c ∧ c ≤ 256 ∧ 0 ≤ x ∧ x < c ∧ n ≤ 32768 := by simp [mayF]
end Go.Proofs.YtdepjclbeocmhaaDoor
