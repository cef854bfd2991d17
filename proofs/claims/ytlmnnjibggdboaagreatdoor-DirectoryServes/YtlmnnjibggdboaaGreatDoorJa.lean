/-
  The plain arithmetic of words of 48 bits: what is cut, added, multiplied, turned and mixed, said of integers; nothing of the program is named here.
  What each call of package bits answers, as contracts: Cut, Add, Mul, Turn, Mix, and the turn of the statements' own text; what became of the world.
  errors.Is of two errors that are api.Errno, as contracts.
  The plain part of a tape's search: words that are laid into scattered slots, and what is found in them; nothing of the program is named here.
  Rows of numbers in memory of their own, a tape's cells, and what stays of them when other memory turns.
  What Taken, Left, Apart, Draw and home answer, as contracts; what became of the world.
  What firstAgain answers, as a contract: the place of the first word that is like one ahead of it.
  What Of answers, as a contract: a tape of the entries, each cut, none taken.
  The statements' own first step, awake: the document's example; and what a draw leaves as it was.
  What came in gives to the walks: a slice's numbers, a small number.
-/
import Derived.Laws.BitsAllLaws
import Derived.Test.YtlmnnjibggdboaaGreatDoorRows
import Derived.WalkKit
import Derived.WalkSpells
import Derived.WalkLawsBesides
import Derived.Deep.QuietTactic
import Derived.BigQuiet
import Derived.LaidEql
import Derived.Stop.Asserts
import Derived.RowKitTokens
import Derived.Below
import Derived.Deep.OwnRows
import Derived.Handy
import Derived.WalkMore
import Derived.Deep.LoopGhost
import Derived.OpenShut
namespace Go.Proofs.YtlmnnjibggdboaaGreatDoor
section

def cutF (a : Int) : Int := a % 281474976710656
def addF (a b : Int) : Int := (a + b) % 281474976710656
def mulF (a b : Int) : Int := (a * b) % 281474976710656
def xorF (x y : Int) : Int := ((x.toNat ^^^ y.toNat : Nat) : Int)
/-- one place to the left, round -/
def rot1 (x : Nat) : Nat := x * 2 % 281474976710656 + x / 140737488355328
/-- so many places to the left, one after the other -/
def rotN : Nat → Nat → Nat
  | 0, x => x
  | l + 1, x => rot1 (rotN l x)
def turnF (a n : Int) : Int := (rotN (n % 48).toNat (cutF a).toNat : Nat)
def roundF (k : Int) (x : Int) : Int := xorF (addF (mulF x 173961102589771) (turnF x (7 * k))) (addF (mulF x 173961102589771) (turnF x (7 * k)) / 8388608)
/-- so many rounds, one after the other -/
def roundsF : Nat → Int → Int
  | 0, x => x
  | k + 1, x => roundF ((k : Int) + 1) (roundsF k x)
def mixF (a b : Int) : Int := roundsF 3 (xorF (cutF a) (turnF b 17))

theorem cutF_lo (a : Int) : 0 ≤ cutF a := by unfold cutF; omega
theorem cutF_hi (a : Int) : cutF a < 281474976710656 := by unfold cutF; omega
theorem addF_lo (a b : Int) : 0 ≤ addF a b := by unfold addF; omega
theorem addF_hi (a b : Int) : addF a b < 281474976710656 := by unfold addF; omega
theorem mulF_lo (a b : Int) : 0 ≤ mulF a b := by unfold mulF; exact Int.emod_nonneg _ (by omega)
theorem mulF_hi (a b : Int) : mulF a b < 281474976710656 := by unfold mulF; exact Int.emod_lt_of_pos _ (by omega)

theorem and_word (a : Int) (h0 : 0 ≤ a) (h1 : a < 18446744073709551616) : bits .and .u64 a 281474976710655 = cutF a := by
  rw [u64_and a _ h0 h1 (by omega) (by omega)]
  show ((a.toNat &&& 281474976710655 : Nat) : Int) = _
  rw [show (281474976710655 : Nat) = 2 ^ 48 - 1 from by decide, Nat.and_two_pow_sub_one_eq_mod]
  unfold cutF; omega

theorem rot1_lt {x : Nat} (h : x < 281474976710656) : rot1 x < 281474976710656 := by unfold rot1; omega
theorem rotN_lt {x : Nat} (h : x < 281474976710656) (l : Nat) : rotN l x < 281474976710656 := by
  induction l with
  | zero => exact h
  | succ l ih => exact rot1_lt ih
theorem rotN_add (l m x : Nat) : rotN l (rotN m x) = rotN (l + m) x := by
  induction l with
  | zero => simp [rotN]
  | succ l ih => rw [show l + 1 + m = (l + m) + 1 from by omega]; simp only [rotN]; rw [ih]

/-- one step of the turn, of what was multiplied -/
theorem step_split (P T y : Nat) (hP : 0 < P) (hN : P * (2 * T) = 281474976710656) (hd : P ∣ y) (hq : y / 281474976710656 < P) :
    rot1 (y % 281474976710656 + y / 281474976710656) = (y * 2) % 281474976710656 + (y * 2) / 281474976710656 := by
  obtain ⟨s, hs⟩ : P ∣ y % 281474976710656 := (Nat.dvd_mod_iff ⟨2 * T, hN.symm⟩).mpr hd
  have hr : y % 281474976710656 < 281474976710656 := Nat.mod_lt _ (by omega)
  have h1 : s < 2 * T := by
    rw [hs, ← hN] at hr; exact Nat.lt_of_mul_lt_mul_left hr
  have h2 : P * s + P ≤ 281474976710656 := by
    rw [← hN]; have := Nat.mul_le_mul_left P (show s + 1 ≤ 2 * T by omega); rw [Nat.mul_add] at this; omega
  have h3 : 2 * (P * s) + 2 * P ≤ 281474976710656 ∨ 281474976710656 ≤ 2 * (P * s) := by
    rcases Nat.lt_or_ge s T with h | h
    · left; have := Nat.mul_le_mul_left P (show s + 1 ≤ T by omega); rw [Nat.mul_add] at this
      have e : P * (2 * T) = 2 * (P * T) := by rw [← Nat.mul_assoc, Nat.mul_comm P 2, Nat.mul_assoc]
      omega
    · right; have := Nat.mul_le_mul_left P h
      have e : P * (2 * T) = 2 * (P * T) := by rw [← Nat.mul_assoc, Nat.mul_comm P 2, Nat.mul_assoc]
      omega
  unfold rot1
  generalize P * s = r at *
  omega

theorem rotN_split (x : Nat) (h : x < 281474976710656) (l : Nat) (hl : l ≤ 48) :
    rotN l x = (x * 2 ^ l) % 281474976710656 + (x * 2 ^ l) / 281474976710656 := by
  induction l with
  | zero => simp [rotN]; omega
  | succ l ih =>
    have e48 : (281474976710656 : Nat) = 2 ^ 48 := by decide
    have hp : 0 < 2 ^ l := Nat.two_pow_pos l
    show rot1 (rotN l x) = _
    rw [ih (by omega), Nat.pow_succ, ← Nat.mul_assoc]
    refine step_split (2 ^ l) (2 ^ (47 - l)) _ hp ?_ ⟨x, Nat.mul_comm _ _⟩ ?_
    · rw [show 2 * 2 ^ (47 - l) = 2 ^ (48 - l) from by rw [Nat.mul_comm, ← Nat.pow_succ]; congr 1; omega, ← Nat.pow_add, e48]; congr 1; omega
    · rw [Nat.div_lt_iff_lt_mul (by omega), Nat.mul_comm (2 ^ l)]; exact (Nat.mul_lt_mul_right hp).mpr h

theorem rotN_48 (x : Nat) (h : x < 281474976710656) : rotN 48 x = x := by
  rw [rotN_split x h 48 (by omega)]
  have e48 : (2 ^ 48 : Nat) = 281474976710656 := by decide
  rw [e48]; omega

theorem rotN_mod (x : Nat) (h : x < 281474976710656) (l : Nat) : rotN l x = rotN (l % 48) x := by
  induction l using Nat.strongRecOn with
  | _ l ih =>
    by_cases hl : l < 48
    · rw [Nat.mod_eq_of_lt hl]
    · rw [show l = (l - 48) + 48 from by omega, ← rotN_add, rotN_48 x h, ih (l - 48) (by omega)]
      congr 1; omega

theorem turnF_lo (a n : Int) : 0 ≤ turnF a n := by unfold turnF; omega
theorem turnF_hi (a n : Int) : turnF a n < 281474976710656 := by
  unfold turnF
  have := rotN_lt (x := (cutF a).toNat) (by have := cutF_hi a; have := cutF_lo a; omega) (n % 48).toNat
  omega
theorem cutF_turnF (a n : Int) : cutF (turnF a n) = turnF a n := by
  have := turnF_lo a n; have := turnF_hi a n; unfold cutF; omega
theorem turnF_twice (a m n : Int) : turnF (turnF a m) n = turnF a (m + n) := by
  have hx : (cutF a).toNat < 281474976710656 := by have := cutF_hi a; have := cutF_lo a; omega
  unfold turnF
  have e : (cutF ((rotN (m % 48).toNat (cutF a).toNat : Nat) : Int)).toNat = rotN (m % 48).toNat (cutF a).toNat := by
    have := rotN_lt hx (m % 48).toNat
    unfold cutF at *; omega
  rw [e, rotN_add, rotN_mod _ hx ((n % 48).toNat + (m % 48).toNat)]
  congr 2; omega
theorem turnF_zero (a n : Int) (h : n % 48 = 0) : turnF a n = cutF a := by
  have := cutF_lo a
  unfold turnF; rw [h]; simp [rotN]; omega
theorem turnF_mod (a m n : Int) (h : m % 48 = n % 48) : turnF a m = turnF a n := by unfold turnF; rw [h]
theorem turnF_cut (a n : Int) : turnF (cutF a) n = turnF a n := by
  unfold turnF; congr 3; unfold cutF; omega

/-- what the code reckons: to the left, to the right, joined, cut -/
theorem join_turn (x : Nat) (h : x < 281474976710656) (l : Nat) (hl : l < 48) :
    (((x * 2 ^ l) % 18446744073709551616) ||| (x / 2 ^ (48 - l))) % 281474976710656 = rotN l x := by
  have hp : 0 < 2 ^ l := Nat.two_pow_pos l
  have hq : 0 < 2 ^ (48 - l) := Nat.two_pow_pos _
  have e48 : (281474976710656 : Nat) = 2 ^ l * 2 ^ (48 - l) := by rw [← Nat.pow_add, show l + (48 - l) = 48 from by omega]
  have hb : x / 2 ^ (48 - l) < 2 ^ l := by
    rw [Nat.div_lt_iff_lt_mul hq, ← e48]; exact h
  have hb2 : x / 2 ^ (48 - l) < 281474976710656 := Nat.lt_of_le_of_lt (Nat.div_le_self _ _) h
  have hm : (x * 2 ^ l) % 281474976710656 % 2 ^ l = 0 := by
    rw [Nat.mod_mod_of_dvd _ ⟨2 ^ (48 - l), e48⟩]; exact Nat.mul_mod_left _ _
  have hd : x / 2 ^ (48 - l) = x * 2 ^ l / 281474976710656 := by
    rw [e48, Nat.mul_comm (2 ^ l), Nat.mul_div_mul_right _ _ hp]
  rw [show (281474976710656 : Nat) = 2 ^ 48 from by decide, Nat.or_mod_two_pow, ← show (281474976710656 : Nat) = 2 ^ 48 from by decide]
  rw [Nat.mod_eq_of_lt hb2, Nat.mod_mod_of_dvd _ (by decide : (281474976710656 : Nat) ∣ 18446744073709551616)]
  rw [nat_join l _ _ hm hb, rotN_split x h l (by omega), hd]

theorem mod_cast2 (x L : Nat) : (x : Int) * 2 ^ L % 18446744073709551616 = ((x * 2 ^ L % 18446744073709551616 : Nat) : Int) := by
  have e : ((x * 2 ^ L : Nat) : Int) = (x : Int) * 2 ^ L := by rw [Int.natCast_mul, Int.natCast_pow]; rfl
  rw [← e]; omega
theorem turn_reckoned (a n : Int) (l : Int) (hl : l = n % 48) :
    cutF (bits .or .u64 (IntKind.u64.wrap (cutF a * 2 ^ l.toNat)) (cutF a / 2 ^ (48 - l).toNat)) = turnF a n := by
  subst hl
  obtain ⟨x, hx⟩ := Int.eq_ofNat_of_zero_le (cutF_lo a)
  have h : x < 281474976710656 := by have := cutF_hi a; omega
  have e1 : (48 - n % 48).toNat = 48 - (n % 48).toNat := by omega
  unfold turnF
  rw [hx, e1, IntKind.wrap_u64]
  generalize hL : (n % 48).toNat = L
  have hL' : L < 48 := by omega
  have e2 : (x : Int) * 2 ^ L % 18446744073709551616 = ((x * 2 ^ L % 18446744073709551616 : Nat) : Int) := mod_cast2 x L
  have e3 : (x : Int) / 2 ^ (48 - L) = ((x / 2 ^ (48 - L) : Nat) : Int) := by push_cast; rfl
  have hq : x / 2 ^ (48 - L) < 18446744073709551616 := Nat.lt_of_le_of_lt (Nat.div_le_self _ _) (by omega)
  rw [e2, e3, u64_or_nat _ _ (Nat.mod_lt _ (by omega)) hq]
  have := join_turn x h L hL'
  unfold cutF
  rw [show ((x : Int)).toNat = x from by omega, ← this]
  omega
theorem turn_or_bounds (a l : Int) :
    0 ≤ bits .or .u64 (IntKind.u64.wrap (cutF a * 2 ^ l.toNat)) (cutF a / 2 ^ (48 - l).toNat) ∧ bits .or .u64 (IntKind.u64.wrap (cutF a * 2 ^ l.toNat)) (cutF a / 2 ^ (48 - l).toNat) < 18446744073709551616 := by
  obtain ⟨x, hx⟩ := Int.eq_ofNat_of_zero_le (cutF_lo a)
  have h : x < 281474976710656 := by have := cutF_hi a; omega
  rw [hx, IntKind.wrap_u64]
  have e2 : (x : Int) * 2 ^ l.toNat % 18446744073709551616 = ((x * 2 ^ l.toNat % 18446744073709551616 : Nat) : Int) := mod_cast2 x _
  have e3 : (x : Int) / 2 ^ (48 - l).toNat = ((x / 2 ^ (48 - l).toNat : Nat) : Int) := by push_cast; rfl
  have hq : x / 2 ^ (48 - l).toNat < 18446744073709551616 := Nat.lt_of_le_of_lt (Nat.div_le_self _ _) (by omega)
  have hr : x * 2 ^ l.toNat % 18446744073709551616 < 18446744073709551616 := Nat.mod_lt _ (by omega)
  rw [e2, e3, u64_or_nat _ _ hr hq]
  have := Nat.or_lt_two_pow (n := 64) (show _ < 2 ^ 64 from hr) (show _ < 2 ^ 64 from hq)
  omega

theorem wrap_lo (x : Int) : 0 ≤ IntKind.u64.wrap x := by rw [IntKind.wrap_u64]; exact Int.emod_nonneg _ (by omega)
theorem wrap_hi (x : Int) : IntKind.u64.wrap x < 18446744073709551616 := by rw [IntKind.wrap_u64]; exact Int.emod_lt_of_pos _ (by omega)
theorem cut_wrap (x : Int) : cutF (IntKind.u64.wrap x) = cutF x := by
  rw [IntKind.wrap_u64]; unfold cutF; omega

theorem xor_u64 (x y : Int) (h0 : 0 ≤ x) (h1 : x < 18446744073709551616) (h2 : 0 ≤ y) (h3 : y < 18446744073709551616) : bits .xor .u64 x y = xorF x y := u64_xor x y h0 h1 h2 h3
theorem xorF_lo (x y : Int) : 0 ≤ xorF x y := by unfold xorF; omega
theorem xorF_hi (x y : Int) (h1 : x < 281474976710656) (h3 : y < 281474976710656) : xorF x y < 281474976710656 := by
  unfold xorF
  have := Nat.xor_lt_two_pow (n := 48) (show x.toNat < 2 ^ 48 by omega) (show y.toNat < 2 ^ 48 by omega)
  omega
theorem roundF_lo (k : Int) (x : Int) : 0 ≤ roundF k x := xorF_lo _ _
theorem roundF_hi (k : Int) (x : Int) : roundF k x < 281474976710656 := by
  have h := addF_hi (mulF x 173961102589771) (turnF x (7 * k)); have h2 := addF_lo (mulF x 173961102589771) (turnF x (7 * k))
  exact xorF_hi _ _ h (by omega)
theorem roundsF_lo (k : Nat) (x : Int) (h : 0 ≤ x) : 0 ≤ roundsF k x := by
  cases k with
  | zero => exact h
  | succ k => exact roundF_lo _ _
theorem roundsF_hi (k : Nat) (x : Int) (h : x < 281474976710656) : roundsF k x < 281474976710656 := by
  cases k with
  | zero => exact h
  | succ k => exact roundF_hi _ _
/-- a round, as it is reckoned by the code -/
theorem round_reckoned (k x : Int) : bits .xor .u64 (addF (mulF x 173961102589771) (turnF x (7 * k))) (addF (mulF x 173961102589771) (turnF x (7 * k)) / 8388608) = roundF k x := by
  have h := addF_hi (mulF x 173961102589771) (turnF x (7 * k)); have h2 := addF_lo (mulF x 173961102589771) (turnF x (7 * k))
  exact xor_u64 _ _ h2 (by omega) (by omega) (by omega)
theorem first_reckoned (a b : Int) : bits .xor .u64 (cutF a) (turnF b 17) = xorF (cutF a) (turnF b 17) := by
  have h1 := cutF_lo a; have h2 := cutF_hi a; have h3 := turnF_lo b 17; have h4 := turnF_hi b 17
  exact xor_u64 _ _ h1 (by omega) h3 (by omega)
theorem first_hi (a b : Int) : xorF (cutF a) (turnF b 17) < 281474976710656 := xorF_hi _ _ (cutF_hi a) (turnF_hi b 17)
/-- the sum, as it is reckoned by the statement's own text -/
theorem sum_cut (x t : Int) : cutF (IntKind.u64.wrap (IntKind.u64.wrap (x * 173961102589771) + t)) = addF (mulF x 173961102589771) t := by
  rw [cut_wrap, IntKind.wrap_u64]; unfold cutF addF mulF; omega
theorem mixF_lo (a b : Int) : 0 ≤ mixF a b := roundsF_lo _ _ (xorF_lo _ _)
theorem mixF_hi (a b : Int) : mixF a b < 281474976710656 := roundsF_hi _ _ (first_hi a b)

theorem addF_comm (a b : Int) : addF a b = addF b a := by unfold addF; rw [Int.add_comm]
theorem mulF_comm (a b : Int) : mulF a b = mulF b a := by unfold mulF; rw [Int.mul_comm]
theorem addF_cut (a b : Int) : addF (cutF a) b = addF a b := by unfold addF cutF; omega
theorem mulF_cut (a b : Int) : mulF a (cutF b) = mulF a b := by unfold mulF cutF; rw [Int.mul_emod, Int.emod_emod, ← Int.mul_emod]
theorem mulF_three (a b : Int) : mulF (addF a b) 3 = addF (mulF a 3) (mulF b 3) := by unfold mulF addF; omega
theorem mixF_cut (a b c d : Int) (h : cutF a = cutF b) (k : cutF c = cutF d) : mixF a c = mixF b d := by
  unfold mixF turnF; rw [h, k]

theorem rot1_xor (x y : Nat) (hx : x < 281474976710656) (hy : y < 281474976710656) : rot1 (x ^^^ y) = rot1 x ^^^ rot1 y := by
  have key : ∀ z : Nat, z < 281474976710656 → rot1 z = (z * 2 ^ 1 % 2 ^ 48) ^^^ (z / 2 ^ 47) := by
    intro z hz
    have h1 : z / 2 ^ 47 < 2 ^ 1 := by omega
    have h2 : (z * 2 ^ 1 % 2 ^ 48) % 2 ^ 1 = 0 := by omega
    have e := nat_join 1 _ _ h2 h1
    have e2 : (z * 2 ^ 1 % 2 ^ 48) &&& (z / 2 ^ 47) = 0 := by
      rcases Nat.lt_or_ge (z / 2 ^ 47) 1 with h | h
      · rw [show z / 2 ^ 47 = 0 from by omega, Nat.and_zero]
      · rw [show z / 2 ^ 47 = 1 from by omega, Nat.and_one_is_mod]; omega
    have e3 : ∀ p q : Nat, p &&& q = 0 → p ^^^ q = p ||| q := by
      intro p q hpq
      apply Nat.eq_of_testBit_eq; intro i
      have := congrArg (fun t => t.testBit i) hpq
      simp at this ⊢
      revert this; cases p.testBit i <;> cases q.testBit i <;> simp
    rw [e3 _ _ e2, e]; unfold rot1; rfl
  rw [key _ hx, key _ hy, key _ (by have := Nat.xor_lt_two_pow (n := 48) (x := x) (y := y) hx hy; exact this)]
  rw [← Nat.shiftLeft_eq, ← Nat.shiftLeft_eq, ← Nat.shiftLeft_eq, Nat.shiftLeft_xor_distrib, Nat.xor_mod_two_pow, ← Nat.shiftRight_eq_div_pow, ← Nat.shiftRight_eq_div_pow, ← Nat.shiftRight_eq_div_pow, Nat.shiftRight_xor_distrib]
  ac_rfl
theorem rotN_xor (x y : Nat) (hx : x < 281474976710656) (hy : y < 281474976710656) (l : Nat) : rotN l (x ^^^ y) = rotN l x ^^^ rotN l y := by
  induction l with
  | zero => rfl
  | succ l ih => simp only [rotN]; rw [ih, rot1_xor _ _ (rotN_lt hx l) (rotN_lt hy l)]
theorem turnF_xor (a b n : Int) : turnF (xorF (cutF a) (cutF b)) n = xorF (turnF a n) (turnF b n) := by
  have ha := cutF_lo a; have ha' := cutF_hi a; have hb := cutF_lo b; have hb' := cutF_hi b
  have hc : cutF (xorF (cutF a) (cutF b)) = xorF (cutF a) (cutF b) := by
    have h1 := xorF_lo (cutF a) (cutF b); have h2 := xorF_hi (cutF a) (cutF b) ha' hb'
    rw [cutF]; omega
  unfold turnF
  rw [hc]
  show ((rotN _ (((cutF a).toNat ^^^ (cutF b).toNat : Nat) : Int).toNat : Nat) : Int) = _
  rw [show ∀ n : Nat, ((n : Int)).toNat = n from fun _ => rfl, rotN_xor _ _ (by omega) (by omega)]
  unfold xorF; simp
end
end Go.Proofs.YtlmnnjibggdboaaGreatDoor
namespace Go.Proofs.YtlmnnjibggdboaaGreatDoor
section
open Go.RowKit

theorem ret_int {k : IntKind} {a b : Int} (h : a = b) : Ending.returned (.int k a) = .returned (.int k b) := by rw [h]

set_option maxHeartbeats 400000 in
theorem cut_any (a : Int) (w : World) (h0 : 0 ≤ a) (h1 : a < 18446744073709551616) :
    Calls Tryz.prog 25 #[.int .u64 a] w fun e w' => e = .returned (.int .u64 (cutF a)) ∧ w' = w := by
  go_enter Tryz.func25, Tryz.ntmps25
  go_wp2
  go_ret
  exact ⟨ret_int (and_word a h0 h1), rfl⟩

set_option maxHeartbeats 400000 in
theorem add_any (a b : Int) (w : World) :
    Calls Tryz.prog 78 #[.int .u64 a, .int .u64 b] w fun e w' => e = .returned (.int .u64 (addF a b)) ∧ w' = w := by
  have hl := wrap_lo (a + b); have hh := wrap_hi (a + b)
  go_enter Tryz.func78, Tryz.ntmps78
  go_wp2_with fail
  refine (cut_any _ _ hl hh).mono ?_; rintro e w' ⟨rfl, rfl⟩
  go_wp2
  go_ret
  exact ⟨ret_int (cut_wrap _), rfl⟩

set_option maxHeartbeats 400000 in
theorem mul_any (a b : Int) (w : World) :
    Calls Tryz.prog 79 #[.int .u64 a, .int .u64 b] w fun e w' => e = .returned (.int .u64 (mulF a b)) ∧ w' = w := by
  have hl := wrap_lo (a * b); have hh := wrap_hi (a * b)
  go_enter Tryz.func79, Tryz.ntmps79
  go_wp2_with fail
  refine (cut_any _ _ hl hh).mono ?_; rintro e w' ⟨rfl, rfl⟩
  go_wp2
  go_ret
  exact ⟨ret_int (cut_wrap _), rfl⟩

theorem tmod_48 (n : Int) : (0 ≤ n.tmod 48 ∧ n.tmod 48 = n % 48) ∨ (n.tmod 48 < 0 ∧ -48 < n.tmod 48 ∧ n.tmod 48 + 48 = n % 48) := by
  have e : n.tmod 48 = n % 48 - ((if 0 ≤ n ∨ (48 : Int) ∣ n then 0 else Int.natAbs 48 : Nat) : Int) := Int.tmod_eq_emod
  by_cases h : 0 ≤ n ∨ (48 : Int) ∣ n
  · rw [if_pos h] at e; omega
  · rw [if_neg h] at e
    have : ¬ n % 48 = 0 := fun h0 => h (Or.inr (Int.dvd_of_emod_eq_zero h0))
    have : ((Int.natAbs 48 : Nat) : Int) = 48 := rfl
    omega
theorem tmod_lo (n : Int) : -48 < n.tmod 48 := by have := tmod_48 n; omega
theorem tmod_hi (n : Int) : n.tmod 48 < 48 := by have := tmod_48 n; omega
theorem tmod_neg (n : Int) (h : n.tmod 48 < 0) : n.tmod 48 + 48 = n % 48 := by have := tmod_48 n; omega
theorem tmod_pos (n : Int) (h : ¬ n.tmod 48 < 0) : n.tmod 48 = n % 48 := by have := tmod_48 n; omega

set_option maxHeartbeats 400000 in
theorem turn_any (a n : Int) (w : World) (h0 : 0 ≤ a) (h1 : a < 18446744073709551616) :
    Calls Tryz.prog 77 #[.int .u64 a, .int .i64 n] w fun e w' => e = .returned (.int .u64 (turnF a n)) ∧ ∃ k, w' = w.drewN k := by
  have t1 := tmod_lo n
  have t2 := tmod_hi n
  by_cases hn : n.tmod 48 < 0
  · have hb := turn_or_bounds a (n.tmod 48 + 48)
    have hl := hb.1
    have hh := hb.2
    clear hb
    have HE := turn_reckoned a n (n.tmod 48 + 48) (tmod_neg n hn)
    have H : Hid _ := HE
    clear HE
    go_enter Tryz.func77, Tryz.ntmps77
    go_wp2_with fail
    refine (cut_any _ _ h0 h1).mono ?_; rintro e w' ⟨rfl, rfl⟩
    go_wp2
    go_quiet ((go_at_call 25; exact Calls.quiet_of_same (cut_any _ _ hl hh)))
    go_wp2
    go_ret
    exact ⟨ret_int H.out, _, rfl⟩
  · have hb := turn_or_bounds a (n.tmod 48)
    have hl := hb.1
    have hh := hb.2
    clear hb
    have HE := turn_reckoned a n (n.tmod 48) (tmod_pos n hn)
    have H : Hid _ := HE
    clear HE
    go_enter Tryz.func77, Tryz.ntmps77
    go_wp2_with fail
    refine (cut_any _ _ h0 h1).mono ?_; rintro e w' ⟨rfl, rfl⟩
    go_wp2
    go_quiet ((go_at_call 25; exact Calls.quiet_of_same (cut_any _ _ hl hh)))
    go_wp2
    go_ret
    exact ⟨ret_int H.out, _, rfl⟩

theorem spin_step (x : Nat) (hx : x < 281474976710656) : IntKind.u64.wrap (bits .and .u64 ((x : Int) * 2) 281474976710655 + (x : Int) / 140737488355328) = ((rot1 x : Nat) : Int) := by
  rw [and_word _ (by omega) (by omega), IntKind.wrap_u64]; unfold cutF rot1
  rw [show (x : Int) * 2 = ((x * 2 : Nat) : Int) from by omega]; generalize hy : x * 2 = y; omega

set_option maxHeartbeats 400000 in
theorem mix_any (a b : Int) (w : World) (h0 : 0 ≤ a) (h1 : a < 18446744073709551616) (hb0 : 0 ≤ b) (hb1 : b < 18446744073709551616) :
    Calls Tryz.prog 65 #[.int .u64 a, .int .u64 b] w fun e w' => e = .returned (.int .u64 (mixF a b)) ∧ ∃ k, w' = w.drewN k := by
  have H : Hid _ := first_reckoned a b
  go_enter Tryz.func65, Tryz.ntmps65
  go_wp2_with fail
  refine (cut_any _ _ h0 h1).mono ?_; rintro e w' ⟨rfl, rfl⟩
  go_wp2_with fail
  refine (turn_any _ _ _ hb0 hb1).mono ?_; rintro e w1 ⟨rfl, j, rfl⟩
  go_wp2_with fail
  go_loopw [5, 6] (fun x i wr => ∃ k : Nat, k ≤ 3 ∧ i = .int .i64 ((k : Int) + 1) ∧ x = .int .u64 (roundsF k (xorF (cutF a) (turnF b 17))) ∧ ∃ q, wr = w'.drewN q) (fun _ i _ => 4 - (intOf i).toNat)
  case atStart => exact ⟨0, by omega, rfl, by rw [H.out]; rfl, j, rfl⟩
  case round =>
    obtain ⟨k, hk, rfl, rfl, q, rfl⟩ := hrel
    have hx0 := roundsF_lo k (xorF (cutF a) (turnF b 17)) (xorF_lo _ _)
    have hx1 := roundsF_hi k (xorF (cutF a) (turnF b 17)) (first_hi a b)
    have HX : Hid _ := round_reckoned ((k : Int) + 1) (roundsF k (xorF (cutF a) (turnF b 17)))
    by_cases hk3 : k < 3
    · go_wp2_with fail
      refine (mul_any _ _ _).mono ?_; rintro e w2 ⟨rfl, rfl⟩
      go_wp2_with fail
      refine (turn_any _ _ _ hx0 (by omega)).mono ?_; rintro e w3 ⟨rfl, j3, rfl⟩
      go_wp2_with fail
      refine (add_any _ _ _).mono ?_; rintro e w4 ⟨rfl, rfl⟩
      go_wp2
      go_roundw
      case rel => exact ⟨k + 1, by omega, by go_num, by rw [HX.out]; rfl, _, rfl⟩
      case measure => simp [intOf]; omega
    · go_wp2
      go_ret
      have e : k = 3 := by omega
      subst e
      exact ⟨rfl, _, rfl⟩
end
end Go.Proofs.YtlmnnjibggdboaaGreatDoor
namespace Go.Proofs.YtlmnnjibggdboaaGreatDoor
section
open Go.RowKit Go.Extern.Stop Go.Stop Go.Extern
theorem run_equalIn_iface_num {P : Program} (w : World) (d : Nat) {ti tn : TypeId} {ms : Array (String × TypeId)} {i : TypeInfo} {k : IntKind} (a b : Int)
    (hi : P.underlying ti = some (.interface ms)) (hn : P.underlying tn = some (.int k)) (hinfo : P.info? tn = some i) (hcomp : i.comparable = true) :
    (Op.equalIn (d + 2) ti (.iface tn (.int k a)) (.iface tn (.int k b))).run P w = .ok (a == b) w := by
  simp [Op.equalIn, run_underlying hi, run_underlying hn, typeInfo, hinfo, hcomp]
theorem run_eql_iface_num {P : Program} (w : World) {ti tn : TypeId} {ms : Array (String × TypeId)} {i : TypeInfo} {k : IntKind} (a b : Int)
    (hi : P.underlying ti = some (.interface ms)) (hn : P.underlying tn = some (.int k)) (hinfo : P.info? tn = some i) (hcomp : i.comparable = true) :
    (binOp .eql ti (.iface tn (.int k a)) (.iface tn (.int k b))).run P w = .ok (.bool (a == b)) w := by
  simp only [binOp]
  simp [Op.equal, Op.maxDepth, run_equalIn_iface_num w 9998 a b hi hn hinfo hcomp]
theorem Tryz.isTypeOf (v : Value) (w : World) : (Extern.ReflectliteType.typeOf #[.iface 47 v]).run Tryz.prog w = .ok (.iface 156 (.agg #[.pointer (some ⟨1, 47, none⟩)])) w := by kernel_rfl
def compEntry : Array Value → Sem Value := Extern.ReflectliteType.method fun t => do Extern.Rtype.noPackHeld "Comparable" t; pure (.bool (← typeInfo t).comparable)
theorem Tryz.isComparable (w : World) : (compEntry #[.agg #[.pointer (some ⟨1, 47, none⟩)]]).run Tryz.prog w = .ok (.bool true) w := by kernel_rfl
theorem Tryz.isComp : (Tryz.prog.info? 47).map (·.comparable) = some true := by kernel_rfl
theorem Tryz.isMethodComparable (v : Value) (w : World) : (Go.method 325 156 v "Comparable").run Tryz.prog w = .ok (126, v) w := by kernel_rfl
end
end Go.Proofs.YtlmnnjibggdboaaGreatDoor
namespace Go.Proofs.YtlmnnjibggdboaaGreatDoor
section

/- the slot at which the search for a word begins -/
def homeF (x m : Nat) : Nat := (mixF (x : Int) 0).toNat % m
theorem homeF_lt (x m : Nat) (h : 0 < m) : homeF x m < m := Nat.mod_lt _ h

/- the place of the first word that is like one ahead of it; the end, if none is -/
def Again (ws : List Nat) (k : Nat) : Prop :=
  k ≤ ws.length ∧ (∀ i j, i < j → j < k → ws.getD i 0 ≠ ws.getD j 0) ∧ (k < ws.length → ∃ i, i < k ∧ ws.getD i 0 = ws.getD k 0)

/- what the slots hold when k words have been laid: each at the first free slot behind its home -/
structure Tab (ws : List Nat) (m k : Nat) (S : List Nat) : Prop where
  len : S.length = m
  le : ∀ p, S.getD p 0 ≤ k
  free : S.count 0 + k = m
  apart : ∀ i j, i < j → j < k → ws.getD i 0 ≠ ws.getD j 0
  path : ∀ j, j < k → ∃ d, d < m ∧ S.getD ((homeF (ws.getD j 0) m + d) % m) 0 = j + 1 ∧ ∀ i, i < d → S.getD ((homeF (ws.getD j 0) m + i) % m) 0 ≠ 0

/- so many slots from the home on were looked at, and none is free nor holds the word x -/
def Probe (ws : List Nat) (m : Nat) (S : List Nat) (x d : Nat) : Prop :=
  ∀ i, i < d → S.getD ((homeF x m + i) % m) 0 ≠ 0 ∧ ws.getD (S.getD ((homeF x m + i) % m) 0 - 1) 0 ≠ x

theorem tab_zero (ws : List Nat) (m : Nat) : Tab ws m 0 (List.replicate m 0) := by
  refine ⟨by simp, fun p => ?_, by simp, fun i j _ h => by omega, fun j h => by omega⟩
  rw [List.getD_eq_getElem?_getD, List.getElem?_replicate]; split <;> simp

theorem getD_set_same (S : List Nat) (p v : Nat) (h : p < S.length) : (S.set p v).getD p 0 = v := by
  rw [List.getD_eq_getElem?_getD, List.getElem?_set_self h]; rfl
theorem getD_set_far (S : List Nat) (p q v : Nat) (h : p ≠ q) : (S.set p v).getD q 0 = S.getD q 0 := by
  rw [List.getD_eq_getElem?_getD, List.getElem?_set_ne h, List.getD_eq_getElem?_getD]

theorem tab_free {ws : List Nat} {m k : Nat} {S : List Nat} (T : Tab ws m k S) (hk : k < m) (h : Nat) (hh : h < m) : ∃ e, e < m ∧ S.getD ((h + e) % m) 0 = 0 := by
  have hp : 0 < S.count 0 := by have := T.free; omega
  obtain ⟨z, hz, ez⟩ := List.mem_iff_getElem.1 (List.count_pos_iff.1 hp)
  have hzm : z < m := by have := T.len; omega
  have ez' : S.getD z 0 = 0 := by rw [List.getD_eq_getElem?_getD, List.getElem?_eq_getElem hz, ez]; rfl
  by_cases hzh : h ≤ z
  · exact ⟨z - h, by omega, by rw [show h + (z - h) = z from by omega, Nat.mod_eq_of_lt hzm]; exact ez'⟩
  · exact ⟨z + m - h, by omega, by rw [show h + (z + m - h) = z + m from by omega, Nat.add_mod_right, Nat.mod_eq_of_lt hzm]; exact ez'⟩

theorem probe_le {ws : List Nat} {m : Nat} {S : List Nat} {x d e : Nat} (P : Probe ws m S x d) (he : S.getD ((homeF x m + e) % m) 0 = 0) : d ≤ e := by
  rcases Nat.lt_or_ge e d with h | h
  · exact absurd he (P e h).1
  · exact h

theorem probe_step {ws : List Nat} {m : Nat} {S : List Nat} {x d : Nat} (P : Probe ws m S x d) (h0 : S.getD ((homeF x m + d) % m) 0 ≠ 0) (h1 : ws.getD (S.getD ((homeF x m + d) % m) 0 - 1) 0 ≠ x) : Probe ws m S x (d + 1) := by
  intro i hi
  rcases Nat.lt_or_ge i d with h | h
  · exact P i h
  · obtain rfl : i = d := by omega
    exact ⟨h0, h1⟩

/- a free slot behind the home: the word is none of those ahead of it -/
theorem probe_new {ws : List Nat} {m k : Nat} {S : List Nat} {d : Nat} (T : Tab ws m k S) (P : Probe ws m S (ws.getD k 0) d) (h0 : S.getD ((homeF (ws.getD k 0) m + d) % m) 0 = 0) (j : Nat) (hj : j < k) : ws.getD j 0 ≠ ws.getD k 0 := by
  intro e
  obtain ⟨f, hf, h1, h2⟩ := T.path j hj
  rw [e] at h1 h2
  rcases Nat.lt_trichotomy f d with h | h | h
  · have := (P f h).2
    rw [h1] at this
    exact this (by simpa using e)
  · subst h; omega
  · exact h2 d h h0

theorem tab_step {ws : List Nat} {m k : Nat} {S : List Nat} {d : Nat} (T : Tab ws m k S) (hm : 0 < m) (hd : d < m) (P : Probe ws m S (ws.getD k 0) d) (h0 : S.getD ((homeF (ws.getD k 0) m + d) % m) 0 = 0) :
    Tab ws m (k + 1) (S.set ((homeF (ws.getD k 0) m + d) % m) (k + 1)) := by
  have hpm : (homeF (ws.getD k 0) m + d) % m < m := Nat.mod_lt _ hm
  have hnew := probe_new T P h0
  generalize hp : (homeF (ws.getD k 0) m + d) % m = p at hpm h0
  have hpl : p < S.length := by have := T.len; omega
  refine ⟨by simpa using T.len, fun q => ?_, ?_, fun i j hij hj => ?_, fun j hj => ?_⟩
  · by_cases hq : p = q
    · subst hq; rw [getD_set_same _ _ _ hpl]; exact Nat.le_refl _
    · rw [getD_set_far _ _ _ _ hq]; exact Nat.le_succ_of_le (T.le q)
  · have hz : S[p] = 0 := by
      rw [List.getD_eq_getElem?_getD, List.getElem?_eq_getElem hpl] at h0; exact h0
    have hc : (S.set p (k + 1)).count 0 = S.count 0 - 1 := by
      rw [List.count_set hpl, hz]; simp
    have hpos : 0 < S.count 0 := List.count_pos_iff.2 (by rw [← hz]; exact List.getElem_mem hpl)
    have := T.free
    omega
  · by_cases hjk : j < k
    · exact T.apart i j hij hjk
    · obtain rfl : j = k := by omega
      exact hnew i hij
  · by_cases hjk : j < k
    · obtain ⟨f, hf, h1, h2⟩ := T.path j hjk
      refine ⟨f, hf, ?_, fun i hi => ?_⟩
      · rw [getD_set_far]
        · exact h1
        · intro e; rw [← e, h0] at h1; omega
      · by_cases hq : p = (homeF (ws.getD j 0) m + i) % m
        · rw [← hq, getD_set_same _ _ _ hpl]; omega
        · rw [getD_set_far _ _ _ _ hq]; exact h2 i hi
    · obtain rfl : j = k := by omega
      refine ⟨d, hd, ?_, fun i hi => ?_⟩
      · rw [hp, getD_set_same _ _ _ hpl]
      · by_cases hq : p = (homeF (ws.getD j 0) m + i) % m
        · rw [← hq, getD_set_same _ _ _ hpl]; omega
        · rw [getD_set_far _ _ _ _ hq]; exact (P i hi).1

theorem again_all {ws : List Nat} {m : Nat} {S : List Nat} (T : Tab ws m ws.length S) : Again ws ws.length :=
  ⟨Nat.le_refl _, T.apart, fun h => by omega⟩
theorem again_at {ws : List Nat} {m k : Nat} {S : List Nat} (T : Tab ws m k S) (hk : k < ws.length) (p : Nat) (h0 : S.getD p 0 ≠ 0) (h1 : ws.getD (S.getD p 0 - 1) 0 = ws.getD k 0) : Again ws k :=
  ⟨Nat.le_of_lt hk, T.apart, fun _ => ⟨S.getD p 0 - 1, by have := T.le p; omega, h1⟩⟩
theorem next_at (h d m : Nat) : ((h + d) % m + 1) % m = (h + (d + 1)) % m := by
  rw [Nat.mod_add_mod, Nat.add_assoc]
end
end Go.Proofs.YtlmnnjibggdboaaGreatDoor
namespace Go.Proofs.YtlmnnjibggdboaaGreatDoor
section
open Go.RowKit
theorem hide {p : Prop} (h : p) : Hid p := h
theorem lt_of_heap {w : World} {g : Nat} {o : Obj} (h : w.heap[g]? = some o) : g < w.heap.size := (Array.getElem?_eq_some_iff.1 h).1
/- a row of numbers that fills a block -/
def RowN (w : World) (k : IntKind) (e : TypeId) (g : Nat) (l : List Nat) : Prop := w.heap[g]? = some (.cells (l.map fun x : Nat => Value.int k (x : Int)).toArray e (0, 0))
theorem RowN.lt {w : World} {k : IntKind} {e : TypeId} {g : Nat} {l : List Nat} (h : RowN w k e g l) : g < w.heap.size := lt_of_heap h
theorem RowN.cell {w : World} {k : IntKind} {e : TypeId} {g : Nat} {l : List Nat} (h : RowN w k e g l) (j : Nat) (hj : j < l.length) : w.cell? ⟨g, j, none⟩ = some (.int k (l.getD j 0 : Nat)) := by
  rw [cell_of_row w g j _ _ _ h]; simp [List.getElem?_eq_getElem hj, List.getD_eq_getElem?_getD]
theorem RowN.frozen {w : World} {k : IntKind} {e : TypeId} {g : Nat} {l : List Nat} (h : RowN w k e g l) (j : Nat) : w.frozen? ⟨g, j, none⟩ = false := frozen_of_row w g j _ _ h
theorem RowN.set {w : World} {k : IntKind} {e : TypeId} {g : Nat} {l : List Nat} (h : RowN w k e g l) (j v : Nat) : RowN (w.setCell ⟨g, j, none⟩ (.int k (v : Int))) k e g (l.set j v) := by
  have := heap_setCell_same w g j _ e (.int k (v : Int)) h
  rw [RowN, this]
  congr 2
  simp [List.map_set]
theorem RowN.far {w : World} {k : IntKind} {e : TypeId} {g : Nat} {l : List Nat} (h : RowN w k e g l) (p : Addr) (v : Value) (hp : g ≠ p.block) : RowN (w.setCell p v) k e g l := by
  rw [RowN, heap_setCell_other w p g v hp]; exact h
theorem RowN.carry {w w' : World} {B : Nat} {k : IntKind} {e : TypeId} {g : Nat} {l : List Nat} (h : RowN w k e g l) (b : Below B w w') (hg : g < B) : RowN w' k e g l := by
  rw [RowN, b.block g hg]; exact h
theorem RowN.alloc {w : World} {k : IntKind} {e : TypeId} {g : Nat} {l : List Nat} (h : RowN w k e g l) (o : Obj) : RowN (w.alloc o) k e g l := by
  rw [RowN, Below.heap_alloc w o g h.lt]; exact h
theorem RowN.drewN {w : World} {k : IntKind} {e : TypeId} {g : Nat} {l : List Nat} (h : RowN w k e g l) (q : Nat) : RowN (w.drewN q) k e g l := h
theorem row_made (w : World) (k : IntKind) (e : TypeId) (n : Nat) : RowN (w.alloc (.cells (madeCells #[.int k 0] n) e)) k e w.heap.size (List.replicate n 0) := by
  rw [RowN, heap_alloc_new]
  congr 2
  apply Array.ext'
  rw [toList_madeCells_one]; simp
/- numbers of a slice of uint64 that came in -/
def U64s (w : World) (ao : Option Addr) (n cap : Nat) (us : List Nat) : Prop :=
  n = us.length ∧ n ≤ cap ∧ cap ≤ maxLen ∧ (ao = none → cap = 0) ∧ (∀ ad, ao = some ad → ∀ j, j < us.length → w.cell? (ad.add j) = some (.int .u64 (us.getD j 0 : Nat))) ∧ ∀ j, us.getD j 0 ≤ 18446744073709551615
theorem lt_of_cell {w : World} {a : Addr} {v : Value} (h : w.cell? a = some v) : a.block < w.heap.size := World.block_lt_of_cell? w a h
theorem U64s.carry {w w' : World} {ao : Option Addr} {n cap : Nat} {l : List Nat} (h : U64s w ao n cap l) (b : Below w.heap.size w w') : U64s w' ao n cap l := by
  refine ⟨h.1, h.2.1, h.2.2.1, h.2.2.2.1, fun ad e j hj => ?_, h.2.2.2.2.2⟩
  have hc := h.2.2.2.2.1 ad e j hj
  rw [b.cell (lt_of_cell hc), hc]
theorem add0 (g j : Nat) : Addr.add ⟨g, 0, none⟩ j = ⟨g, j, none⟩ := by
  unfold Addr.add
  split
  · subst_vars; rfl
  · rw [Nat.zero_add]
theorem RowN.u64s {w : World} {e : TypeId} {g : Nat} {l : List Nat} (h : RowN w .u64 e g l) (hm : l.length ≤ maxLen) (hv : ∀ j, l.getD j 0 ≤ 18446744073709551615) : U64s w (some ⟨g, 0, none⟩) l.length l.length l := by
  refine ⟨rfl, Nat.le_refl _, hm, fun x => (by cases x), fun ad x j hj => ?_, hv⟩
  obtain rfl := Option.some.inj x
  rw [add0]
  exact h.cell j hj
def cutN (us : List Nat) : List Nat := us.map (· % 281474976710656)
theorem cutN_len (us : List Nat) : (cutN us).length = us.length := by simp [cutN]
theorem cutN_get (us : List Nat) (j : Nat) : (cutN us).getD j 0 = us.getD j 0 % 281474976710656 := by
  simp only [cutN, List.getD_eq_getElem?_getD, List.getElem?_map]
  cases us[j]? <;> simp
theorem cutN_le (us : List Nat) (j : Nat) : (cutN us).getD j 0 ≤ 281474976710655 := by rw [cutN_get]; omega
/- a tape: its three cells, and its words in another block -/
structure TapeAt (w : World) (g h : Nat) (ws : List Nat) (t k : Nat) : Prop where
  box : w.heap[g]? = some (.cells #[.slice (some ⟨h, 0, none⟩) ws.length ws.length, .int .i64 (t : Int), .int .i64 (k : Int)] 83 (0, 0))
  row : RowN w .u64 32 h ws
  ne : g ≠ h
  fits : ws.length ≤ 17592186043904
  word : ∀ j, ws.getD j 0 ≤ 281474976710655
  some : t ≤ ws.length
  end_ : k ≤ ws.length
theorem TapeAt.c0 {w : World} {g h : Nat} {ws : List Nat} {t k : Nat} (x : TapeAt w g h ws t k) : w.cell? ⟨g, 0, none⟩ = .some (.slice (.some ⟨h, 0, none⟩) ws.length ws.length) := by
  rw [cell_of_row w g 0 _ _ _ x.box]; rfl
theorem TapeAt.c1 {w : World} {g h : Nat} {ws : List Nat} {t k : Nat} (x : TapeAt w g h ws t k) : w.cell? ⟨g, 1, none⟩ = .some (.int .i64 (t : Int)) := by
  rw [cell_of_row w g 1 _ _ _ x.box]; rfl
theorem TapeAt.c2 {w : World} {g h : Nat} {ws : List Nat} {t k : Nat} (x : TapeAt w g h ws t k) : w.cell? ⟨g, 2, none⟩ = .some (.int .i64 (k : Int)) := by
  rw [cell_of_row w g 2 _ _ _ x.box]; rfl
theorem TapeAt.z1 {w : World} {g h : Nat} {ws : List Nat} {t k : Nat} (x : TapeAt w g h ws t k) : w.frozen? ⟨g, 1, none⟩ = false := frozen_of_row w g 1 _ _ x.box
theorem TapeAt.drewN {w : World} {g h : Nat} {ws : List Nat} {t k : Nat} (x : TapeAt w g h ws t k) (q : Nat) : TapeAt (w.drewN q) g h ws t k := ⟨x.box, x.row, x.ne, x.fits, x.word, x.some, x.end_⟩
theorem TapeAt.carry {w w' : World} {B : Nat} {g h : Nat} {ws : List Nat} {t k : Nat} (x : TapeAt w g h ws t k) (b : Below B w w') (hg : g < B) (hh : h < B) : TapeAt w' g h ws t k :=
  ⟨by rw [b.block g hg]; exact x.box, x.row.carry b hh, x.ne, x.fits, x.word, x.some, x.end_⟩
theorem TapeAt.far {w : World} {g h : Nat} {ws : List Nat} {t k : Nat} (x : TapeAt w g h ws t k) (p : Addr) (v : Value) (hg : g ≠ p.block) (hh : h ≠ p.block) : TapeAt (w.setCell p v) g h ws t k :=
  ⟨by rw [heap_setCell_other w p g v hg]; exact x.box, x.row.far p v hh, x.ne, x.fits, x.word, x.some, x.end_⟩
theorem TapeAt.took {w : World} {g h : Nat} {ws : List Nat} {t k : Nat} (x : TapeAt w g h ws t k) (ht : t < ws.length) : TapeAt (w.setCell ⟨g, 1, none⟩ (.int .i64 ((t : Int) + 1))) g h ws (t + 1) k :=
  ⟨by rw [heap_setCell_same w g 1 _ _ _ x.box]; rfl, x.row.far _ _ x.ne.symm, x.ne, x.fits, x.word, ht, x.end_⟩
theorem below_drewN {B : Nat} {a w : World} (h : Below B a w) (q : Nat) : Below B a (w.drewN q) := ⟨h.os, h.tape, h.output, h.size, h.block⟩
theorem below_alloc (w : World) (o : Obj) : Below w.heap.size w (w.alloc o) := (Below.refl _ _).alloc (Nat.le_refl _) o
end
end Go.Proofs.YtlmnnjibggdboaaGreatDoor
namespace Go.Proofs.YtlmnnjibggdboaaGreatDoor
section
open Go.RowKit
theorem home_num (x m : Nat) : ((mixF (x : Int) 0) % (m : Int)) = ((homeF x m : Nat) : Int) := by
  have h0 := mixF_lo (x : Int) 0
  unfold homeF
  rw [Int.natCast_emod, Int.toNat_of_nonneg h0]
set_option maxHeartbeats 400000 in
theorem home_any (x m : Nat) (w : World) (hx : x ≤ 281474976710655) (hm : 0 < m) (hm2 : m ≤ 35184372087809) :
    Calls Tryz.prog 44 #[.int .u64 x, .int .i64 m] w fun e w' => e = .returned (.int .i64 (homeF x m : Nat)) ∧ ∃ q, w' = w.drewN q := by
  have HH := hide (home_num x m)
  have hl := hide (homeF_lt x m hm)
  have h0 := mixF_lo (x : Int) 0
  have h1 : mixF (x : Int) 0 ≤ 281474976710655 := by have := mixF_hi (x : Int) 0; omega
  go_enter Tryz.func44, Tryz.ntmps44
  go_wp2_with fail
  refine (mix_any x 0 w (by omega) (by omega) (by omega) (by omega)).mono ?_; rintro e w1 ⟨rfl, q, rfl⟩
  go_wp2
  rw [HH.out]
  have hl2 := hl.out
  go_ret
  exact ⟨ret_int (by go_arith), _, rfl⟩
set_option maxHeartbeats 400000 in
theorem left_any (g h : Nat) (ws : List Nat) (t k : Nat) (w : World) (T : TapeAt w g h ws t k) :
    Calls Tryz.prog 66 #[.pointer (some ⟨g, 0, none⟩)] w fun e w' => e = .returned (.int .i64 ((ws.length : Int) - t)) ∧ ∃ q, w' = w.drewN q := by
  have c0 := fun q => (T.drewN q).c0
  have c1 := fun q => (T.drewN q).c1
  have hn := T.fits
  have ht := T.some
  clear T
  generalize ws.length = n at *
  go_enter Tryz.func66, Tryz.ntmps66
  go_wp2
  go_quiet (fail)
  go_wp2
  go_ret
  exact ⟨rfl, _, rfl⟩
set_option maxHeartbeats 400000 in
theorem draw_no (g h : Nat) (ws : List Nat) (k : Nat) (w : World) (T : TapeAt w g h ws ws.length k) :
    Calls Tryz.prog 45 #[.pointer (some ⟨g, 0, none⟩)] w fun e w' => e = .returned (.tuple #[.int .u64 0, .iface 47 (.int .i64 7)]) ∧ ∃ q, w' = w.drewN q := by
  have HT := hide T
  clear T
  go_enter Tryz.func45, Tryz.ntmps45
  go_wp2_with fail
  refine (left_any g h ws _ k _ HT.out).mono ?_; rintro e w1 ⟨rfl, q, rfl⟩
  go_wp2
  go_ret2
  exact ⟨rfl, _, rfl⟩
set_option maxHeartbeats 800000 in
theorem draw_yes (g h : Nat) (ws : List Nat) (t k : Nat) (w : World) (T : TapeAt w g h ws t k) (ht : t < ws.length) :
    Calls Tryz.prog 45 #[.pointer (some ⟨g, 0, none⟩)] w fun e w' => e = .returned (.tuple #[.int .u64 (ws.getD t 0 : Nat), .nilIface]) ∧ ∃ q, w' = (w.drewN q).setCell ⟨g, 1, none⟩ (.int .i64 ((t : Int) + 1)) := by
  have HT := hide T
  have hn := T.fits
  have hz := ht
  clear T
  go_enter Tryz.func45, Tryz.ntmps45
  go_wp2_with fail
  refine (left_any g h ws _ k _ HT.out).mono ?_; rintro e w1 ⟨rfl, q, rfl⟩
  have c0 := fun j => (HT.out.drewN j).c0
  have c1 := fun j => (HT.out.drewN j).c1
  have z1 := fun j => (HT.out.drewN j).z1
  have cc := fun j => (HT.out.drewN j).row.cell t ht
  have d1 := (HT.out.drewN q).c1
  generalize ws.length = n at *
  obtain ⟨x, hx⟩ : ∃ x, ws.getD t 0 = x := ⟨_, rfl⟩
  have HX := hide hx
  rw [hx] at cc
  clear hx
  go_wp2
  go_quiet (fail)
  go_wp2
  go_ret2
  exact ⟨by rw [HX.out]; rfl, _, rfl⟩
end
end Go.Proofs.YtlmnnjibggdboaaGreatDoor
namespace Go.Proofs.YtlmnnjibggdboaaGreatDoor
section
open Go.RowKit
theorem Tryz.tinfo3 : (Tryz.prog.info? 3).map (fun i => (i.zero, i.size, i.bytes)) = some (some (.int .i64 0), 1, 8) := by kernel_rfl
/- at each round of the outer search -/
def OutRel (w : World) (ws : List Nat) (m S0 : Nat) (gk : Nat) (i : Value) (wr : World) : Prop :=
  ∃ (k : Nat) (S : List Nat), k + gk = ws.length ∧ i = .int .i64 k ∧ Hid (Tab ws m k S) ∧ Hid (RowN wr .i64 3 S0 S) ∧ Hid (Below w.heap.size w wr)
/- at each round of the inner one -/
def InRel (w : World) (ws : List Nat) (m S0 : Nat) (S : List Nat) (x e : Nat) (gk : Nat) (i : Value) (wr : World) : Prop :=
  ∃ d : Nat, d + gk = e ∧ i = .int .i64 ((homeF x m + d) % m : Nat) ∧ Hid (Probe ws m S x d) ∧ Hid (RowN wr .i64 3 S0 S) ∧ Hid (Below w.heap.size w wr)
set_option maxHeartbeats 1600000 in
theorem again_any (g : Nat) (ws : List Nat) (n m : Nat) (w : World) (hr : RowN w .u64 32 g ws) (hn : ws.length = n) (hb : n ≤ 17592186043904) (hm : m = 2 * n + 1) (hw : ∀ j, ws.getD j 0 ≤ 281474976710655) :
    Calls Tryz.prog 26 #[.slice (some ⟨g, 0, none⟩) n n] w fun e w' => ∃ k : Nat, e = .returned (.int .i64 k) ∧ Again ws k ∧ Below w.heap.size w w' := by
  have HR := hide hr
  have HN := hide hn
  have HW := hide hw
  have hmk := run_make_row' (P := Tryz.prog) 116 3 (.int .i64 0) 8 Tryz.underlying116 Tryz.tinfo3 rfl .i64 .i64 m (by omega) (by omega)
  have hmm : 2 * (n : Int) + 1 = (m : Int) := by omega
  have hm0 : 0 < m := by omega
  have HM := hide hm
  clear hr hn hw hm
  go_enter Tryz.func26, Tryz.ntmps26
  go_wp2
  go_step3
  go_wp2
  go_step3
  go_wp2
  go_loopg [4] n (fun gk i wr => OutRel w ws m w.heap.size gk i wr)
  case atStart => exact ⟨0, List.replicate m 0, by rw [HN.out]; omega, rfl, tab_zero ws m, row_made w .i64 3 m, below_alloc w _⟩
  case round =>
    obtain ⟨k, S, hk, rfl, HT, HS, HB⟩ := hrel
    have hkn : k + gk = n := by rw [← HN.out]; exact hk
    have HK := hide hk
    clear hk
    cases gk with
    | zero =>
      have hlt : ¬ ((k : Int) < (n : Int)) := by omega
      go_wp2
      go_ret
      refine ⟨k, rfl, ?_, HB.out⟩
      have e : k = ws.length := by have := HN.out; omega
      have T := HT.out
      rw [e] at T ⊢
      exact again_all T
    | succ g1 =>
      have hlt : (k : Int) < (n : Int) := by omega
      obtain ⟨wo, rfl⟩ : ∃ wo : World, wo = wr := ⟨_, rfl⟩
      have cx := (HR.out.carry HB.out HR.out.lt).cell k (by have := HN.out; omega)
      have hx := HW.out k
      obtain ⟨x, ex⟩ : ∃ x, ws.getD k 0 = x := ⟨_, rfl⟩
      have HX := hide ex
      rw [ex] at cx hx
      clear ex
      go_wp2_with fail
      refine (home_any x m _ hx hm0 (by have := HM.out; omega)).mono ?_; rintro e w1 ⟨rfl, q, rfl⟩
      obtain ⟨f, hf, hz⟩ := tab_free HT.out (by have := HM.out; omega) (homeF x m) (homeF_lt x m hm0)
      have HZ := hide hz
      have HF := hide hf
      clear hf hz
      go_wp2_with fail
      go_loopg [5] f (fun g2 i wr => InRel w ws m w.heap.size S x f g2 i wr)
      case atStart => exact ⟨0, by omega, by rw [Nat.add_zero, Nat.mod_eq_of_lt (homeF_lt x m hm0)], fun i hi => by omega, HS.out.drewN q, below_drewN HB.out q⟩
      case round =>
        obtain ⟨d, hd, rfl, HP, HS2, HB2⟩ := hrel
        obtain ⟨wi, rfl⟩ : ∃ wi : World, wi = wr := ⟨_, rfl⟩
        have hpm := Nat.mod_lt (homeF x m + d) hm0
        obtain ⟨p, ep⟩ : ∃ p, (homeF x m + d) % m = p := ⟨_, rfl⟩
        have HPP := hide ep
        rw [ep] at hpm ⊢
        clear ep
        have hpl : p < S.length := by rw [HT.out.len]; exact hpm
        have cs := HS2.out.cell p hpl
        by_cases hz : S.getD p 0 = 0
        · rw [hz] at cs
          have zs := HS2.out.frozen p
          go_wp2
          go_roundg g1
          case measure => omega
          case rel =>
            have hd2 : d < m := by have := HF.out; omega
            have e1 := HPP.out
            have P := HP.out
            have T := HT.out
            have ex := HX.out
            subst ex
            refine ⟨k + 1, S.set p (k + 1), by have := HN.out; omega, by go_num, ?_, ?_, HB2.out.setCell (Nat.le_refl _) _⟩
            · rw [← e1]; exact tab_step T hm0 hd2 P (by rw [e1]; exact hz)
            · exact HS2.out.set p (k + 1)
        · obtain ⟨s, es⟩ : ∃ s, S.getD p 0 = s + 1 := ⟨S.getD p 0 - 1, by omega⟩
          have hs : s < k := by have := HT.out.le p; omega
          rw [es] at cs
          have hq : d < f := by
            rcases Nat.lt_or_ge d f with h | h
            · exact h
            · have e : d = f := by omega
              have := HZ.out; rw [← e, HPP.out] at this; exact absurd this hz
          have hmod : ((p : Int) + 1) % (m : Int) = (((homeF x m + (d + 1)) % m : Nat) : Int) := by
            rw [← next_at, HPP.out]; exact (Int.natCast_emod (p + 1) m).symm
          have hyk : s < ws.length := by have := HN.out; omega
          have cs0 := fun j => (HS2.out.drewN j).cell p hpl
          rw [es] at cs0
          have cy0 := fun j => ((HR.out.carry HB2.out HR.out.lt).drewN j).cell s hyk
          have cx0 := fun j => ((HR.out.carry HB2.out HR.out.lt).drewN j).cell k (by have := HN.out; omega)
          rw [HX.out] at cx0
          obtain ⟨y, ey⟩ : ∃ y, ws.getD s 0 = y := ⟨_, rfl⟩
          have HY := hide ey
          rw [ey] at cy0
          clear ey
          have HM2 := hide hmod
          clear hmod
          by_cases hxy : y = x
          · subst hxy
            go_wp2
            go_quiet (fail)
            go_wp2
            rw [Exit.noGoto_ret]
            go_ret
            refine ⟨k, rfl, ?_, below_drewN HB2.out _⟩
            refine again_at HT.out (by have := HN.out; omega) p hz ?_
            rw [es, HX.out]; exact HY.out
          · have hne : ((y : Int) == (x : Int)) = false := beq_eq_false_iff_ne.2 (by omega)
            go_wp2
            go_quiet (fail)
            go_wp2
            go_roundg (gk - 1)
            case measure => omega
            case rel =>
              refine ⟨d + 1, by omega, by rw [HM2.out], probe_step HP.out (by rw [HPP.out]; exact hz) (by rw [HPP.out, es]; show ws.getD s 0 ≠ x; rw [HY.out]; exact hxy), HS2.out.drewN _, below_drewN HB2.out _⟩
end
end Go.Proofs.YtlmnnjibggdboaaGreatDoor
namespace Go.Proofs.YtlmnnjibggdboaaGreatDoor
section
open Go.RowKit
theorem Tryz.tinfo32 : (Tryz.prog.info? 32).map (fun i => (i.zero, i.size, i.bytes)) = some (some (.int .u64 0), 1, 8) := by kernel_rfl
/- the words when k of them are laid -/
def fillW (us : List Nat) (k : Nat) : List Nat := (cutN us).take k ++ List.replicate (us.length - k) 0
theorem fillW_len (us : List Nat) (k : Nat) (h : k ≤ us.length) : (fillW us k).length = us.length := by
  simp [fillW, cutN_len]; omega
theorem fillW_zero (us : List Nat) : fillW us 0 = List.replicate us.length 0 := by simp [fillW]
theorem fillW_all (us : List Nat) : fillW us us.length = cutN us := by
  simp only [fillW, Nat.sub_self, List.replicate_zero, List.append_nil]
  exact List.take_of_length_le (by rw [cutN_len]; exact Nat.le_refl _)
theorem fillW_set (us : List Nat) (k : Nat) (h : k < us.length) : (fillW us k).set k (us.getD k 0 % 281474976710656) = fillW us (k + 1) := by
  have hl : ((cutN us).take k).length = k := by rw [List.length_take, cutN_len]; omega
  have hk : k < (cutN us).length := by rw [cutN_len]; exact h
  have hg : (cutN us)[k] = us.getD k 0 % 281474976710656 := by
    rw [← cutN_get, List.getD_eq_getElem?_getD, List.getElem?_eq_getElem hk]; rfl
  unfold fillW
  rw [List.set_append_right _ _ (by omega), hl, Nat.sub_self, show us.length - k = (us.length - (k + 1)) + 1 from by omega, List.replicate_succ, List.set_cons_zero, List.take_succ_eq_append_getElem hk, hg, List.append_assoc]; rfl
def OfRel (w : World) (us : List Nat) (gk : Nat) (i : Value) (wr : World) : Prop :=
  ∃ k : Nat, k + gk = us.length ∧ i = .int .i64 k ∧ Hid (RowN wr .u64 32 w.heap.size (fillW us k)) ∧ Hid (Below w.heap.size w wr)
theorem cutF_nat (u : Nat) : cutF (u : Int) = ((u % 281474976710656 : Nat) : Int) := by unfold cutF; omega
set_option maxHeartbeats 800000 in
theorem of_any (ao : Option Addr) (n cap : Nat) (us : List Nat) (w : World) (hu : U64s w ao n cap us) (hb : n ≤ 17592186043904) :
    Calls Tryz.prog 10 #[.slice ao n cap] w fun e w' => ∃ g h k : Nat, e = .returned (.pointer (some ⟨g, 0, none⟩)) ∧ TapeAt w' g h (cutN us) 0 k ∧ Again (cutN us) k ∧ w.heap.size ≤ g ∧ w.heap.size ≤ h ∧ Below w.heap.size w w' := by
  have HU := hide hu
  have hun := hu.1
  have HUN := hide hun
  have hcm : cap ≤ 9223372036854775807 := hu.2.2.1
  have hmk := run_make_row' (P := Tryz.prog) 22 32 (.int .u64 0) 8 Tryz.underlying22 Tryz.tinfo32 rfl .i64 .i64 n (by omega) (by omega)
  clear hu hun
  go_enter Tryz.func10, Tryz.ntmps10
  go_wp2
  go_loopg [11] n (fun gk i wr => OfRel w us gk i wr)
  case atStart => exact ⟨0, by have := HUN.out; omega, rfl, by rw [fillW_zero, ← HUN.out]; exact row_made w .u64 32 n, below_alloc w _⟩
  case round =>
    obtain ⟨k, hk, rfl, HR, HB⟩ := hrel
    have hkn : k + gk = n := by have := HUN.out; omega
    have HK := hide hk
    clear hk
    cases gk with
    | zero =>
      have hlt : ¬ ((k : Int) < (n : Int)) := by omega
      have hkl : k = us.length := by have := HUN.out; omega
      have hr : RowN wr .u64 32 w.heap.size (cutN us) := by have := HR.out; rw [hkl, fillW_all] at this; exact this
      clear hkl
      have HR2 := hide hr
      clear hr
      go_wp2_with fail
      refine (again_any w.heap.size (cutN us) n (2 * n + 1) _ HR2.out (by rw [cutN_len]; exact HUN.out.symm) hb rfl (cutN_le us)).mono ?_; rintro e w1 ⟨j, rfl, hj, bel⟩
      have HJ := hide hj
      have BL := hide bel
      clear hj bel
      go_wp2
      go_ret
      have r1 := HR2.out.carry BL.out HR2.out.lt
      have b0 : Below w.heap.size w w1 := HB.out.trans (BL.out.mono HB.out.size)
      have hlen : (cutN us).length = n := by rw [cutN_len]; exact HUN.out.symm
      refine ⟨w1.heap.size, w.heap.size, j, rfl, ⟨?_, r1.alloc _, ?_, by omega, cutN_le us, by omega, HJ.out.1⟩, HJ.out, b0.size, Nat.le_refl _, b0.alloc b0.size _⟩
      · rw [hlen]; exact heap_alloc_new _ _
      · have := r1.lt; omega
    | succ g1 =>
      have hlt : (k : Int) < (n : Int) := by omega
      have hkl : k < us.length := by have := HUN.out; omega
      have hu1 := HU.out.2.2.2.2.2 k
      cases ao with
      | none => have := HU.out.2.2.2.1 rfl; have := HU.out.2.1; omega
      | some ad =>
        have hce := (HU.out.carry HB.out).2.2.2.2.1 ad rfl k hkl
        have zs := HR.out.frozen k
        have HS := hide (HR.out.set k (us.getD k 0 % 281474976710656))
        rw [fillW_set us k hkl] at HS
        have cw := HR.out.cell k (by rw [fillW_len us k (by omega)]; exact hkl)
        generalize (fillW us k).getD k 0 = z at cw
        generalize us.getD k 0 = u at hu1 hce HS
        obtain ⟨v, ev⟩ : ∃ v, u % 281474976710656 = v := ⟨_, rfl⟩
        rw [ev] at HS
        have HV := hide ev
        clear ev
        go_wp2_with fail
        refine (cut_any _ _ (by omega) (by omega)).mono ?_; rintro e w1 ⟨rfl, rfl⟩
        rw [cutF_nat, HV.out]
        go_wp2
        go_roundg g1
        case measure => omega
        case rel => exact ⟨k + 1, by have := HUN.out; omega, by go_num, HS, HB.out.setCell (Nat.le_refl _) _⟩
end
end Go.Proofs.YtlmnnjibggdboaaGreatDoor
namespace Go.Proofs.YtlmnnjibggdboaaGreatDoor
section
open Go.RowKit
/- no block but one has turned, and none is new -/
structure Touch (g : Nat) (w w' : World) : Prop where
  os : w'.os = w.os
  tape : w'.tape = w.tape
  output : w'.output = w.output
  size : w'.heap.size = w.heap.size
  block : ∀ k, k ≠ g → w'.heap[k]? = w.heap[k]?
theorem Touch.below {g B : Nat} {w w' : World} (h : Touch g w w') (hB : B ≤ g) : Below B w w' := ⟨h.os, h.tape, h.output, Nat.le_of_eq h.size.symm, fun k hk => h.block k (by omega)⟩
theorem touch_draw (w : World) (g q : Nat) (v : Value) : Touch g w ((w.drewN q).setCell ⟨g, 1, none⟩ v) :=
  ⟨rfl, rfl, rfl, by simp [World.setCell, World.drewN], fun k hk => heap_setCell_other _ _ _ _ hk⟩
theorem TapeAt.touch {w w' : World} {g h : Nat} {ws : List Nat} {t k p : Nat} (x : TapeAt w g h ws t k) (b : Touch p w w') (hg : g ≠ p) (hh : h ≠ p) : TapeAt w' g h ws t k :=
  ⟨by rw [b.block g hg]; exact x.box, by rw [RowN, b.block h hh]; exact x.row, x.ne, x.fits, x.word, x.some, x.end_⟩
theorem draw_at (g h : Nat) (ws : List Nat) (t k x : Nat) (w : World) (T : TapeAt w g h ws t k) (ht : t < ws.length) (hx : ws.getD t 0 = x) :
    Calls Tryz.prog 45 #[.pointer (some ⟨g, 0, none⟩)] w fun e w' => e = .returned (.tuple #[.int .u64 (x : Nat), .nilIface]) ∧ TapeAt w' g h ws (t + 1) k ∧ Touch g w w' := by
  refine (draw_yes g h ws t k w T ht).mono ?_
  rintro e w' ⟨rfl, q, rfl⟩
  exact ⟨by rw [hx], (T.drewN q).took ht, touch_draw _ _ _ _⟩
theorem cutN_121 : cutN [1, 2, 1] = [1, 2, 1] := by decide
theorem again_121 {k : Nat} (h : Again [1, 2, 1] k) : k = 2 := by
  obtain ⟨h1, h2, h3⟩ := h
  have h1' : k ≤ 3 := h1
  rcases Nat.lt_or_ge k 3 with h | h
  · rcases Nat.lt_or_ge k 2 with h' | h'
    · obtain ⟨i, hi, e⟩ := h3 (show k < 3 by omega)
      obtain rfl : k = 1 := by omega
      obtain rfl : i = 0 := by omega
      exact absurd e (by decide)
    · omega
  · exact absurd rfl (h2 0 2 (by omega) (by omega))
theorem row_121 (w : World) : RowN (w.alloc (.cells #[.int .u64 1, .int .u64 2, .int .u64 1] 32)) .u64 32 w.heap.size [1, 2, 1] := heap_alloc_new _ _
theorem u64s_121 (w : World) : U64s (w.alloc (.cells #[.int .u64 1, .int .u64 2, .int .u64 1] 32)) (some ⟨w.heap.size, 0, none⟩) 3 3 [1, 2, 1] :=
  (row_121 w).u64s (by decide) (fun j => by
    rcases j with _ | _ | _ | j <;> simp)
end
end Go.Proofs.YtlmnnjibggdboaaGreatDoor
namespace Go.Proofs.YtlmnnjibggdboaaGreatDoor
section
open Go.RowKit
/- a slice of integers that came in: nil, or a row of so many cells, each fitting its kind -/
def RowOf (k : IntKind) (w : World) (a : Option Addr) (len cap : Nat) (zs : List Int) : Prop :=
  (a = none ∧ len = 0 ∧ cap = 0 ∧ zs = []) ∨
  ∃ x, a = some x ∧ len ≤ cap ∧ cap ≤ maxLen ∧ zs.length = cap ∧ (∀ i, i < zs.length → w.cell? (x.add i) = some (.int k (zs.getD i 0))) ∧ ∀ n ∈ zs, (Lit.int k n).wf = true
theorem u8_nat {n : Int} (h : (Lit.int .u8 n).wf = true) : ∃ v : Nat, n = (v : Int) ∧ v ≤ 255 := by
  have := bounds_u8 h; exact ⟨n.toNat, by omega, by omega⟩
theorem bytesOf32 : Tryz.prog.bytesOf 32 = 8 := by kernel_rfl
theorem RowOf.u64s {w : World} {a : Option Addr} {len cap : Nat} {zs : List Int} (h : RowOf .u64 w a len cap zs) : ∃ us, U64s w a len cap us := by
  rcases h with ⟨rfl, rfl, rfl, rfl⟩ | ⟨x, rfl, h1, h2, h3, h4, h5⟩
  · exact ⟨[], rfl, Nat.le_refl _, by decide, fun _ => rfl, (fun ad e => by cases e), fun j => by simp⟩
  · have hlen : ((zs.take len).map Int.toNat).length = len := by simp; omega
    have hget : ∀ j, j < len → ∃ z, zs[j]? = some z ∧ zs.getD j 0 = z ∧ ((zs.take len).map Int.toNat).getD j 0 = z.toNat ∧ 0 ≤ z ∧ z ≤ 18446744073709551615 := by
      intro j hj
      have hjz : j < zs.length := by omega
      have e2 := bounds_u64 (h5 zs[j] (List.getElem_mem hjz))
      refine ⟨zs[j], List.getElem?_eq_getElem hjz, ?_, ?_, e2.1, e2.2⟩
      · rw [List.getD_eq_getElem?_getD, List.getElem?_eq_getElem hjz]; rfl
      · rw [List.getD_eq_getElem?_getD, List.getElem?_map, List.getElem?_take, if_pos hj, List.getElem?_eq_getElem hjz]; rfl
    refine ⟨(zs.take len).map Int.toNat, hlen.symm, h1, h2, (fun e => by cases e), fun ad e j hj => ?_, fun j => ?_⟩
    · obtain rfl := Option.some.inj e
      rw [hlen] at hj
      obtain ⟨z, _, e1, e2, e3, _⟩ := hget j hj
      rw [h4 j (by omega), e1, e2]
      congr 2; omega
    · by_cases hj : j < len
      · obtain ⟨z, _, e1, e2, e3, e4⟩ := hget j hj
        rw [e2]; omega
      · rw [List.getD_eq_getElem?_getD, List.getElem?_eq_none (by rw [hlen]; omega)]; simp
end
end Go.Proofs.YtlmnnjibggdboaaGreatDoor
