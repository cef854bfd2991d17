/-
  The plain arithmetic of words of 48 bits: what is cut, added, multiplied, turned and mixed, said of integers; nothing of the program is named here.
-/
import Derived.Laws.BitsAllLaws
namespace Go.Proofs.YtgcmompldcnhlaaDoor

def cutF (a : Int) : Int := a % 281474976710656
def addF (a b : Int) : Int := (a + b) % 281474976710656
def mulF (a b : Int) : Int := (a * b) % 281474976710656
def xorF (x y : Int) : Int := ((x.toNat ^^^ y.toNat : Nat) : Int)
/-- one place to the left, round -/
def rot1 (x : Nat) : Nat := x * 2 % 281474976710656 + x / 140737488355328
/-- so many places to the left, one after the other -/
def rotN : Nat → Nat → Nat
  | 0, x => x
  | l + 1, x => rot1 (rotN l x)
def turnF (a n : Int) : Int := (rotN (n % 48).toNat (cutF a).toNat : Nat)
def roundF (k : Int) (x : Int) : Int := xorF (addF (mulF x 173961102589771) (turnF x (7 * k))) (addF (mulF x 173961102589771) (turnF x (7 * k)) / 8388608)
/-- so many rounds, one after the other -/
def roundsF : Nat → Int → Int
  | 0, x => x
  | k + 1, x => roundF ((k : Int) + 1) (roundsF k x)
def mixF (a b : Int) : Int := roundsF 3 (xorF (cutF a) (turnF b 17))

theorem cutF_lo (a : Int) : 0 ≤ cutF a := by unfold cutF; omega
theorem cutF_hi (a : Int) : cutF a < 281474976710656 := by unfold cutF; omega
theorem addF_lo (a b : Int) : 0 ≤ addF a b := by unfold addF; omega
theorem addF_hi (a b : Int) : addF a b < 281474976710656 := by unfold addF; omega
theorem mulF_lo (a b : Int) : 0 ≤ mulF a b := by unfold mulF; exact Int.emod_nonneg _ (by omega)
theorem mulF_hi (a b : Int) : mulF a b < 281474976710656 := by unfold mulF; exact Int.emod_lt_of_pos _ (by omega)

theorem and_word (a : Int) (h0 : 0 ≤ a) (h1 : a < 18446744073709551616) : bits .and .u64 a 281474976710655 = cutF a := by
  rw [u64_and a _ h0 h1 (by omega) (by omega)]
  show ((a.toNat &&& 281474976710655 : Nat) : Int) = _
  rw [show (281474976710655 : Nat) = 2 ^ 48 - 1 from by decide, Nat.and_two_pow_sub_one_eq_mod]
  unfold cutF; omega

theorem rot1_lt {x : Nat} (h : x < 281474976710656) : rot1 x < 281474976710656 := by unfold rot1; omega
theorem rotN_lt {x : Nat} (h : x < 281474976710656) (l : Nat) : rotN l x < 281474976710656 := by
  induction l with
  | zero => exact h
  | succ l ih => exact rot1_lt ih
theorem rotN_add (l m x : Nat) : rotN l (rotN m x) = rotN (l + m) x := by
  induction l with
  | zero => simp [rotN]
  | succ l ih => rw [show l + 1 + m = (l + m) + 1 from by omega]; simp only [rotN]; rw [ih]

/-- one step of the turn, of what was multiplied -/
theorem step_split (P T y : Nat) (hP : 0 < P) (hN : P * (2 * T) = 281474976710656) (hd : P ∣ y) (hq : y / 281474976710656 < P) :
    rot1 (y % 281474976710656 + y / 281474976710656) = (y * 2) % 281474976710656 + (y * 2) / 281474976710656 := by
  obtain ⟨s, hs⟩ : P ∣ y % 281474976710656 := (Nat.dvd_mod_iff ⟨2 * T, hN.symm⟩).mpr hd
  have hr : y % 281474976710656 < 281474976710656 := Nat.mod_lt _ (by omega)
  have h1 : s < 2 * T := by
    rw [hs, ← hN] at hr; exact Nat.lt_of_mul_lt_mul_left hr
  have h2 : P * s + P ≤ 281474976710656 := by
    rw [← hN]; have := Nat.mul_le_mul_left P (show s + 1 ≤ 2 * T by omega); rw [Nat.mul_add] at this; omega
  have h3 : 2 * (P * s) + 2 * P ≤ 281474976710656 ∨ 281474976710656 ≤ 2 * (P * s) := by
    rcases Nat.lt_or_ge s T with h | h
    · left; have := Nat.mul_le_mul_left P (show s + 1 ≤ T by omega); rw [Nat.mul_add] at this
      have e : P * (2 * T) = 2 * (P * T) := by rw [← Nat.mul_assoc, Nat.mul_comm P 2, Nat.mul_assoc]
      omega
    · right; have := Nat.mul_le_mul_left P h
      have e : P * (2 * T) = 2 * (P * T) := by rw [← Nat.mul_assoc, Nat.mul_comm P 2, Nat.mul_assoc]
      omega
  unfold rot1
  generalize P * s = r at *
  omega

theorem rotN_split (x : Nat) (h : x < 281474976710656) (l : Nat) (hl : l ≤ 48) :
    rotN l x = (x * 2 ^ l) % 281474976710656 + (x * 2 ^ l) / 281474976710656 := by
  induction l with
  | zero => simp [rotN]; omega
  | succ l ih =>
    have e48 : (281474976710656 : Nat) = 2 ^ 48 := by decide
    have hp : 0 < 2 ^ l := Nat.two_pow_pos l
    show rot1 (rotN l x) = _
    rw [ih (by omega), Nat.pow_succ, ← Nat.mul_assoc]
    refine step_split (2 ^ l) (2 ^ (47 - l)) _ hp ?_ ⟨x, Nat.mul_comm _ _⟩ ?_
    · rw [show 2 * 2 ^ (47 - l) = 2 ^ (48 - l) from by rw [Nat.mul_comm, ← Nat.pow_succ]; congr 1; omega, ← Nat.pow_add, e48]; congr 1; omega
    · rw [Nat.div_lt_iff_lt_mul (by omega), Nat.mul_comm (2 ^ l)]; exact (Nat.mul_lt_mul_right hp).mpr h

theorem rotN_48 (x : Nat) (h : x < 281474976710656) : rotN 48 x = x := by
  rw [rotN_split x h 48 (by omega)]
  have e48 : (2 ^ 48 : Nat) = 281474976710656 := by decide
  rw [e48]; omega

theorem rotN_mod (x : Nat) (h : x < 281474976710656) (l : Nat) : rotN l x = rotN (l % 48) x := by
  induction l using Nat.strongRecOn with
  | _ l ih =>
    by_cases hl : l < 48
    · rw [Nat.mod_eq_of_lt hl]
    · rw [show l = (l - 48) + 48 from by omega, ← rotN_add, rotN_48 x h, ih (l - 48) (by omega)]
      congr 1; omega

theorem turnF_lo (a n : Int) : 0 ≤ turnF a n := by unfold turnF; omega
theorem turnF_hi (a n : Int) : turnF a n < 281474976710656 := by
  unfold turnF
  have := rotN_lt (x := (cutF a).toNat) (by have := cutF_hi a; have := cutF_lo a; omega) (n % 48).toNat
  omega
theorem cutF_turnF (a n : Int) : cutF (turnF a n) = turnF a n := by
  have := turnF_lo a n; have := turnF_hi a n; unfold cutF; omega
theorem turnF_twice (a m n : Int) : turnF (turnF a m) n = turnF a (m + n) := by
  have hx : (cutF a).toNat < 281474976710656 := by have := cutF_hi a; have := cutF_lo a; omega
  unfold turnF
  have e : (cutF ((rotN (m % 48).toNat (cutF a).toNat : Nat) : Int)).toNat = rotN (m % 48).toNat (cutF a).toNat := by
    have := rotN_lt hx (m % 48).toNat
    unfold cutF at *; omega
  rw [e, rotN_add, rotN_mod _ hx ((n % 48).toNat + (m % 48).toNat)]
  congr 2; omega
theorem turnF_zero (a n : Int) (h : n % 48 = 0) : turnF a n = cutF a := by
  have := cutF_lo a
  unfold turnF; rw [h]; simp [rotN]; omega
theorem turnF_mod (a m n : Int) (h : m % 48 = n % 48) : turnF a m = turnF a n := by unfold turnF; rw [h]
theorem turnF_cut (a n : Int) : turnF (cutF a) n = turnF a n := by
  unfold turnF; congr 3; unfold cutF; omega

/-- what the code reckons: to the left, to the right, joined, cut -/
theorem join_turn (x : Nat) (h : x < 281474976710656) (l : Nat) (hl : l < 48) :
    (((x * 2 ^ l) % 18446744073709551616) ||| (x / 2 ^ (48 - l))) % 281474976710656 = rotN l x := by
  have hp : 0 < 2 ^ l := Nat.two_pow_pos l
  have hq : 0 < 2 ^ (48 - l) := Nat.two_pow_pos _
  have e48 : (281474976710656 : Nat) = 2 ^ l * 2 ^ (48 - l) := by rw [← Nat.pow_add, show l + (48 - l) = 48 from by omega]
  have hb : x / 2 ^ (48 - l) < 2 ^ l := by
    rw [Nat.div_lt_iff_lt_mul hq, ← e48]; exact h
  have hb2 : x / 2 ^ (48 - l) < 281474976710656 := Nat.lt_of_le_of_lt (Nat.div_le_self _ _) h
  have hm : (x * 2 ^ l) % 281474976710656 % 2 ^ l = 0 := by
    rw [Nat.mod_mod_of_dvd _ ⟨2 ^ (48 - l), e48⟩]; exact Nat.mul_mod_left _ _
  have hd : x / 2 ^ (48 - l) = x * 2 ^ l / 281474976710656 := by
    rw [e48, Nat.mul_comm (2 ^ l), Nat.mul_div_mul_right _ _ hp]
  rw [show (281474976710656 : Nat) = 2 ^ 48 from by decide, Nat.or_mod_two_pow, ← show (281474976710656 : Nat) = 2 ^ 48 from by decide]
  rw [Nat.mod_eq_of_lt hb2, Nat.mod_mod_of_dvd _ (by decide : (281474976710656 : Nat) ∣ 18446744073709551616)]
  rw [nat_join l _ _ hm hb, rotN_split x h l (by omega), hd]

theorem mod_cast2 (x L : Nat) : (x : Int) * 2 ^ L % 18446744073709551616 = ((x * 2 ^ L % 18446744073709551616 : Nat) : Int) := by
  have e : ((x * 2 ^ L : Nat) : Int) = (x : Int) * 2 ^ L := by rw [Int.natCast_mul, Int.natCast_pow]; rfl
  rw [← e]; omega
theorem turn_reckoned (a n : Int) (l : Int) (hl : l = n % 48) :
    cutF (bits .or .u64 (IntKind.u64.wrap (cutF a * 2 ^ l.toNat)) (cutF a / 2 ^ (48 - l).toNat)) = turnF a n := by
  subst hl
  obtain ⟨x, hx⟩ := Int.eq_ofNat_of_zero_le (cutF_lo a)
  have h : x < 281474976710656 := by have := cutF_hi a; omega
  have e1 : (48 - n % 48).toNat = 48 - (n % 48).toNat := by omega
  unfold turnF
  rw [hx, e1, IntKind.wrap_u64]
  generalize hL : (n % 48).toNat = L
  have hL' : L < 48 := by omega
  have e2 : (x : Int) * 2 ^ L % 18446744073709551616 = ((x * 2 ^ L % 18446744073709551616 : Nat) : Int) := mod_cast2 x L
  have e3 : (x : Int) / 2 ^ (48 - L) = ((x / 2 ^ (48 - L) : Nat) : Int) := by push_cast; rfl
  have hq : x / 2 ^ (48 - L) < 18446744073709551616 := Nat.lt_of_le_of_lt (Nat.div_le_self _ _) (by omega)
  rw [e2, e3, u64_or_nat _ _ (Nat.mod_lt _ (by omega)) hq]
  have := join_turn x h L hL'
  unfold cutF
  rw [show ((x : Int)).toNat = x from by omega, ← this]
  omega
theorem turn_or_bounds (a l : Int) :
    0 ≤ bits .or .u64 (IntKind.u64.wrap (cutF a * 2 ^ l.toNat)) (cutF a / 2 ^ (48 - l).toNat) ∧ bits .or .u64 (IntKind.u64.wrap (cutF a * 2 ^ l.toNat)) (cutF a / 2 ^ (48 - l).toNat) < 18446744073709551616 := by
  obtain ⟨x, hx⟩ := Int.eq_ofNat_of_zero_le (cutF_lo a)
  have h : x < 281474976710656 := by have := cutF_hi a; omega
  rw [hx, IntKind.wrap_u64]
  have e2 : (x : Int) * 2 ^ l.toNat % 18446744073709551616 = ((x * 2 ^ l.toNat % 18446744073709551616 : Nat) : Int) := mod_cast2 x _
  have e3 : (x : Int) / 2 ^ (48 - l).toNat = ((x / 2 ^ (48 - l).toNat : Nat) : Int) := by push_cast; rfl
  have hq : x / 2 ^ (48 - l).toNat < 18446744073709551616 := Nat.lt_of_le_of_lt (Nat.div_le_self _ _) (by omega)
  have hr : x * 2 ^ l.toNat % 18446744073709551616 < 18446744073709551616 := Nat.mod_lt _ (by omega)
  rw [e2, e3, u64_or_nat _ _ hr hq]
  have := Nat.or_lt_two_pow (n := 64) (show _ < 2 ^ 64 from hr) (show _ < 2 ^ 64 from hq)
  omega

theorem wrap_lo (x : Int) : 0 ≤ IntKind.u64.wrap x := by rw [IntKind.wrap_u64]; exact Int.emod_nonneg _ (by omega)
theorem wrap_hi (x : Int) : IntKind.u64.wrap x < 18446744073709551616 := by rw [IntKind.wrap_u64]; exact Int.emod_lt_of_pos _ (by omega)
theorem cut_wrap (x : Int) : cutF (IntKind.u64.wrap x) = cutF x := by
  rw [IntKind.wrap_u64]; unfold cutF; omega

theorem xor_u64 (x y : Int) (h0 : 0 ≤ x) (h1 : x < 18446744073709551616) (h2 : 0 ≤ y) (h3 : y < 18446744073709551616) : bits .xor .u64 x y = xorF x y := u64_xor x y h0 h1 h2 h3
theorem xorF_lo (x y : Int) : 0 ≤ xorF x y := by unfold xorF; omega
theorem xorF_hi (x y : Int) (h1 : x < 281474976710656) (h3 : y < 281474976710656) : xorF x y < 281474976710656 := by
  unfold xorF
  have := Nat.xor_lt_two_pow (n := 48) (show x.toNat < 2 ^ 48 by omega) (show y.toNat < 2 ^ 48 by omega)
  omega
theorem roundF_lo (k : Int) (x : Int) : 0 ≤ roundF k x := xorF_lo _ _
theorem roundF_hi (k : Int) (x : Int) : roundF k x < 281474976710656 := by
  have h := addF_hi (mulF x 173961102589771) (turnF x (7 * k)); have h2 := addF_lo (mulF x 173961102589771) (turnF x (7 * k))
  exact xorF_hi _ _ h (by omega)
theorem roundsF_lo (k : Nat) (x : Int) (h : 0 ≤ x) : 0 ≤ roundsF k x := by
  cases k with
  | zero => exact h
  | succ k => exact roundF_lo _ _
theorem roundsF_hi (k : Nat) (x : Int) (h : x < 281474976710656) : roundsF k x < 281474976710656 := by
  cases k with
  | zero => exact h
  | succ k => exact roundF_hi _ _
/-- a round, as it is reckoned by the code -/
theorem round_reckoned (k x : Int) : bits .xor .u64 (addF (mulF x 173961102589771) (turnF x (7 * k))) (addF (mulF x 173961102589771) (turnF x (7 * k)) / 8388608) = roundF k x := by
  have h := addF_hi (mulF x 173961102589771) (turnF x (7 * k)); have h2 := addF_lo (mulF x 173961102589771) (turnF x (7 * k))
  exact xor_u64 _ _ h2 (by omega) (by omega) (by omega)
theorem first_reckoned (a b : Int) : bits .xor .u64 (cutF a) (turnF b 17) = xorF (cutF a) (turnF b 17) := by
  have h1 := cutF_lo a; have h2 := cutF_hi a; have h3 := turnF_lo b 17; have h4 := turnF_hi b 17
  exact xor_u64 _ _ h1 (by omega) h3 (by omega)
theorem first_hi (a b : Int) : xorF (cutF a) (turnF b 17) < 281474976710656 := xorF_hi _ _ (cutF_hi a) (turnF_hi b 17)
/-- the sum, as it is reckoned by the statement's own text -/
theorem sum_cut (x t : Int) : cutF (IntKind.u64.wrap (IntKind.u64.wrap (x * 173961102589771) + t)) = addF (mulF x 173961102589771) t := by
  rw [cut_wrap, IntKind.wrap_u64]; unfold cutF addF mulF; omega
theorem mixF_lo (a b : Int) : 0 ≤ mixF a b := roundsF_lo _ _ (xorF_lo _ _)
theorem mixF_hi (a b : Int) : mixF a b < 281474976710656 := roundsF_hi _ _ (first_hi a b)

theorem addF_comm (a b : Int) : addF a b = addF b a := by unfold addF; rw [Int.add_comm]
theorem mulF_comm (a b : Int) : mulF a b = mulF b a := by unfold mulF; rw [Int.mul_comm]
theorem addF_cut (a b : Int) : addF (cutF a) b = addF a b := by unfold addF cutF; omega
theorem mulF_cut (a b : Int) : mulF a (cutF b) = mulF a b := by unfold mulF cutF; rw [Int.mul_emod, Int.emod_emod, ← Int.mul_emod]
theorem mulF_three (a b : Int) : mulF (addF a b) 3 = addF (mulF a 3) (mulF b 3) := by unfold mulF addF; omega
theorem mixF_cut (a b c d : Int) (h : cutF a = cutF b) (k : cutF c = cutF d) : mixF a c = mixF b d := by
  unfold mixF turnF; rw [h, k]

theorem rot1_xor (x y : Nat) (hx : x < 281474976710656) (hy : y < 281474976710656) : rot1 (x ^^^ y) = rot1 x ^^^ rot1 y := by
  have key : ∀ z : Nat, z < 281474976710656 → rot1 z = (z * 2 ^ 1 % 2 ^ 48) ^^^ (z / 2 ^ 47) := by
    intro z hz
    have h1 : z / 2 ^ 47 < 2 ^ 1 := by omega
    have h2 : (z * 2 ^ 1 % 2 ^ 48) % 2 ^ 1 = 0 := by omega
    have e := nat_join 1 _ _ h2 h1
    have e2 : (z * 2 ^ 1 % 2 ^ 48) &&& (z / 2 ^ 47) = 0 := by
      rcases Nat.lt_or_ge (z / 2 ^ 47) 1 with h | h
      · rw [show z / 2 ^ 47 = 0 from by omega, Nat.and_zero]
      · rw [show z / 2 ^ 47 = 1 from by omega, Nat.and_one_is_mod]; omega
    have e3 : ∀ p q : Nat, p &&& q = 0 → p ^^^ q = p ||| q := by
      intro p q hpq
      apply Nat.eq_of_testBit_eq; intro i
      have := congrArg (fun t => t.testBit i) hpq
      simp at this ⊢
      revert this; cases p.testBit i <;> cases q.testBit i <;> simp
    rw [e3 _ _ e2, e]; unfold rot1; rfl
  rw [key _ hx, key _ hy, key _ (by have := Nat.xor_lt_two_pow (n := 48) (x := x) (y := y) hx hy; exact this)]
  rw [← Nat.shiftLeft_eq, ← Nat.shiftLeft_eq, ← Nat.shiftLeft_eq, Nat.shiftLeft_xor_distrib, Nat.xor_mod_two_pow, ← Nat.shiftRight_eq_div_pow, ← Nat.shiftRight_eq_div_pow, ← Nat.shiftRight_eq_div_pow, Nat.shiftRight_xor_distrib]
  ac_rfl
theorem rotN_xor (x y : Nat) (hx : x < 281474976710656) (hy : y < 281474976710656) (l : Nat) : rotN l (x ^^^ y) = rotN l x ^^^ rotN l y := by
  induction l with
  | zero => rfl
  | succ l ih => simp only [rotN]; rw [ih, rot1_xor _ _ (rotN_lt hx l) (rotN_lt hy l)]
theorem turnF_xor (a b n : Int) : turnF (xorF (cutF a) (cutF b)) n = xorF (turnF a n) (turnF b n) := by
  have ha := cutF_lo a; have ha' := cutF_hi a; have hb := cutF_lo b; have hb' := cutF_hi b
  have hc : cutF (xorF (cutF a) (cutF b)) = xorF (cutF a) (cutF b) := by
    have h1 := xorF_lo (cutF a) (cutF b); have h2 := xorF_hi (cutF a) (cutF b) ha' hb'
    rw [cutF]; omega
  unfold turnF
  rw [hc]
  show ((rotN _ (((cutF a).toNat ^^^ (cutF b).toNat : Nat) : Int).toNat : Nat) : Int) = _
  rw [show ∀ n : Nat, ((n : Int)).toNat = n from fun _ => rfl, rotN_xor _ _ (by omega) (by omega)]
  unfold xorF; simp
end Go.Proofs.YtgcmompldcnhlaaDoor
