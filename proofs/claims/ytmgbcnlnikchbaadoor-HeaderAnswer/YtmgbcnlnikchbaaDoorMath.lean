/-
  Plain arithmetic on lists of bytes: the number that bytes are, the high ones first; the last n bytes of a number; that each is the other's inverse; the places behind fields.
-/
import Derived.Test.YtmgbcnlnikchbaaDoorRows
import Derived.WalkKit
import Derived.WalkSpells
import Derived.WalkLawsBesides
import Derived.Laws.BitsAllLaws
namespace Go.Proofs.YtmgbcnlnikchbaaDoor
def bt (l : List UInt8) (j : Nat) : Int := ((l.getD j 0).toNat : Int)
theorem bt_lo (l : List UInt8) (j : Nat) : 0 ≤ bt l j := by unfold bt; omega
theorem bt_hi (l : List UInt8) (j : Nat) : bt l j ≤ 255 := by unfold bt; have := (l.getD j 0).toNat_lt; omega
theorem bt_get (l : List UInt8) (j : Nat) (h : j < l.length) : bt l j = (l[j].toNat : Int) := by unfold bt; rw [List.getD_eq_getElem?_getD, List.getElem?_eq_getElem h]; rfl
/- the number that bytes are -/
def numF (l : List UInt8) : Nat := l.foldl (fun v c => v * 256 + c.toNat) 0
theorem numF_nil : numF [] = 0 := rfl
theorem numF_snoc (l : List UInt8) (c : UInt8) : numF (l ++ [c]) = numF l * 256 + c.toNat := by unfold numF; rw [List.foldl_append]; rfl
theorem numF_take (l : List UInt8) (k : Nat) (h : k < l.length) : numF (l.take (k + 1)) = numF (l.take k) * 256 + (l.getD k 0).toNat := by
  rw [List.take_add_one, List.getElem?_eq_getElem h, List.getD_eq_getElem?_getD, List.getElem?_eq_getElem h]; exact numF_snoc _ _
theorem numF_lt (l : List UInt8) : numF l < 256 ^ l.length := by
  induction hn : l.length generalizing l with
  | zero => rw [List.eq_nil_of_length_eq_zero hn]; decide
  | succ n ih =>
    have hne : l ≠ [] := by intro e; subst e; simp at hn
    obtain ⟨m, c, rfl⟩ : ∃ m c, l = m ++ [c] := ⟨l.dropLast, l.getLast hne, (List.dropLast_concat_getLast hne).symm⟩
    have := ih m (by simp at hn; omega)
    have := c.toNat_lt
    rw [numF_snoc, Nat.pow_succ]; omega
theorem numF_le8 (l : List UInt8) (h : l.length ≤ 8) : numF l ≤ 18446744073709551615 := by
  have := numF_lt l
  have h2 : 256 ^ l.length ≤ 256 ^ 8 := Nat.pow_le_pow_right (by omega) h
  have h3 : (256 : Nat) ^ 8 = 18446744073709551616 := by decide
  omega
theorem numF_le7 (l : List UInt8) (h : l.length ≤ 7) : numF l ≤ 72057594037927935 := by
  have := numF_lt l
  have h2 : 256 ^ l.length ≤ 256 ^ 7 := Nat.pow_le_pow_right (by omega) h
  have h3 : (256 : Nat) ^ 7 = 72057594037927936 := by decide
  omega
theorem numF_take7 (l : List UInt8) (k : Nat) (h : l.length ≤ 8) (hk : k < l.length) : numF (l.take k) ≤ 72057594037927935 := numF_le7 _ (by rw [List.length_take]; omega)
/- the first k of the last n bytes of v -/
def putP (v n k : Nat) : List UInt8 := (List.range k).map fun j => UInt8.ofNat (v / 256 ^ (n - 1 - j))
def putF (v n : Nat) : List UInt8 := putP v n n
theorem putP_len (v n k : Nat) : (putP v n k).length = k := by simp [putP]
theorem putF_len (v n : Nat) : (putF v n).length = n := putP_len v n n
theorem putP_succ (v n k : Nat) : putP v n (k + 1) = putP v n k ++ [UInt8.ofNat (v / 256 ^ (n - 1 - k))] := by simp [putP, List.range_succ]
theorem ofNat_toNat (x : Nat) : (UInt8.ofNat x).toNat = x % 256 := by simp
theorem numF_putP (v n k : Nat) (h : k ≤ n) : numF (putP v n k) = v / 256 ^ (n - k) % 256 ^ k := by
  induction k with
  | zero => simp only [putP]; rw [show (256 : Nat) ^ 0 = 1 from rfl, Nat.mod_one]; rfl
  | succ k ih =>
    rw [putP_succ, numF_snoc, ih (by omega), ofNat_toNat, show n - k = (n - (k + 1)) + 1 from by omega, show n - 1 - k = n - (k + 1) from by omega]
    generalize hx : v / 256 ^ (n - (k + 1)) = x
    rw [Nat.pow_succ, ← Nat.div_div_eq_div_mul, hx, Nat.pow_succ, Nat.mul_comm (256 ^ k) 256, Nat.mod_mul]
    omega
theorem numF_putF (v n : Nat) : numF (putF v n) = v % 256 ^ n := by
  unfold putF; rw [numF_putP v n n (Nat.le_refl _), Nat.sub_self]; simp
theorem putP_mod (v n k : Nat) (h : k ≤ n) : putP (v % 256 ^ n) n k = putP v n k := by
  unfold putP; apply List.map_congr_left; intro j hj
  have hj' := List.mem_range.1 hj
  apply UInt8.toNat_inj.mp
  rw [ofNat_toNat, ofNat_toNat]
  have e : (256 : Nat) ^ n = 256 ^ (n - 1 - j) * (256 * 256 ^ j) := by
    rw [← Nat.pow_succ', ← Nat.pow_add]; congr 1; omega
  rw [e, Nat.mod_mul_right_div_self, Nat.mod_mul_right_mod]
theorem putF_mod (v n : Nat) : putF (v % 256 ^ n) n = putF v n := putP_mod v n n (Nat.le_refl _)
theorem putF_inj (v w n : Nat) (hv : v < 256 ^ n) (hw : w < 256 ^ n) (h : putF v n = putF w n) : v = w := by
  have e := congrArg numF h; rw [numF_putF, numF_putF, Nat.mod_eq_of_lt hv, Nat.mod_eq_of_lt hw] at e; exact e
theorem pow_le8 (n : Nat) (h : n ≤ 8) : 256 ^ n ≤ 18446744073709551616 := by
  have h2 : 256 ^ n ≤ 256 ^ 8 := Nat.pow_le_pow_right (by omega) h
  have h3 : (256 : Nat) ^ 8 = 18446744073709551616 := by decide
  omega
/- the place behind fields of these sizes, from p on, of n bytes; none: not all there -/
def skipF (n : Nat) : Nat → List Int → Option Nat
  | p, [] => some p
  | p, z :: r => if 0 ≤ z ∧ z ≤ (n : Int) - p then skipF n (p + z.toNat) r else none
end Go.Proofs.YtmgbcnlnikchbaaDoor
