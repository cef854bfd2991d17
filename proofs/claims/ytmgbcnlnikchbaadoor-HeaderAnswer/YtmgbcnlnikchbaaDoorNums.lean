/-
  Plain facts on a capability's bytes: what is read of them is what they were made of, and the other way round.
-/
import Derived.Test.YtmgbcnlnikchbaaDoorMore
namespace Go.Proofs.YtmgbcnlnikchbaaDoor
open Go.RowKit
theorem numF_inj (n : Nat) : ∀ (l m : List UInt8), l.length = n → m.length = n → numF l = numF m → l = m := by
  induction n with
  | zero => intro l m hl hm _; rw [List.eq_nil_of_length_eq_zero hl, List.eq_nil_of_length_eq_zero hm]
  | succ n ih =>
    intro l m hl hm h
    have nl : l ≠ [] := by intro e; subst e; simp at hl
    have nm : m ≠ [] := by intro e; subst e; simp at hm
    obtain ⟨l', c, rfl⟩ : ∃ x c, l = x ++ [c] := ⟨l.dropLast, l.getLast nl, (List.dropLast_concat_getLast nl).symm⟩
    obtain ⟨m', d, rfl⟩ : ∃ x c, m = x ++ [c] := ⟨m.dropLast, m.getLast nm, (List.dropLast_concat_getLast nm).symm⟩
    rw [numF_snoc, numF_snoc] at h
    have h1 := c.toNat_lt
    have h2 := d.toNat_lt
    have e1 : numF l' = numF m' := by omega
    have e2 : c = d := UInt8.toNat_inj.mp (by omega)
    rw [ih l' m' (by simp at hl; omega) (by simp at hm; omega) e1, e2]
theorem putF_numF (l : List UInt8) (n : Nat) (h : l.length = n) : putF (numF l) n = l := by
  apply numF_inj n _ _ (putF_len _ _) h
  rw [numF_putF, Nat.mod_eq_of_lt]
  have := numF_lt l; rw [h] at this; exact this
theorem pow6 : (256 : Nat) ^ 6 = 281474976710656 := by decide
theorem pow3 : (256 : Nat) ^ 3 = 16777216 := by decide
theorem pow1 : (256 : Nat) ^ 1 = 256 := by decide
theorem cap_port (p o r c : Nat) (h : p ≤ 281474976710655) : numF (((capF p o r c).drop 0).take 6) = p := by
  rw [List.drop_zero, capF, List.append_assoc, List.append_assoc, List.take_append_of_le_length (by rw [putF_len]; omega), List.take_of_length_le (by rw [putF_len]; omega), numF_putF, pow6]; omega
theorem cap_object (p o r c : Nat) (h : o ≤ 16777215) : numF (((capF p o r c).drop 6).take 3) = o := by
  rw [capF, List.append_assoc, List.append_assoc, List.drop_left' (putF_len _ _), List.take_append_of_le_length (by rw [putF_len]; omega), List.take_of_length_le (by rw [putF_len]; omega), numF_putF, pow3]; omega
theorem cap_rights (p o r c : Nat) (h : r ≤ 255) : numF (((capF p o r c).drop 9).take 1) = r := by
  rw [capF, List.append_assoc, List.drop_left' (by rw [List.length_append, putF_len, putF_len]), List.take_append_of_le_length (by rw [putF_len]; omega), List.take_of_length_le (by rw [putF_len]; omega), numF_putF, pow1]; omega
theorem cap_check (p o r c : Nat) (h : c ≤ 281474976710655) : numF (((capF p o r c).drop 10).take 6) = c := by
  rw [capF, List.drop_left' (by simp [putF_len]), List.take_of_length_le (by rw [putF_len]; omega), numF_putF, pow6]; omega
theorem cap_back (l : List UInt8) (h : l.length = 16) : capF (numF ((l.drop 0).take 6)) (numF ((l.drop 6).take 3)) (numF ((l.drop 9).take 1)) (numF ((l.drop 10).take 6)) = l := by
  rw [capF, putF_numF _ 6 (by simp; omega), putF_numF _ 3 (by simp; omega), putF_numF _ 1 (by simp; omega), putF_numF _ 6 (by simp; omega)]
  have e1 : (l.drop 0).take 6 = l.take 6 := by rw [List.drop_zero]
  rw [e1, show (l.take 6 ++ (l.drop 6).take 3) = l.take 9 from (List.take_add (i := 6) (j := 3)).symm, show (l.take 9 ++ (l.drop 9).take 1) = l.take 10 from (List.take_add (i := 9) (j := 1)).symm, show (l.take 10 ++ (l.drop 10).take 6) = l.take 16 from (List.take_add (i := 10) (j := 6)).symm, List.take_of_length_le (by omega)]
end Go.Proofs.YtmgbcnlnikchbaaDoor
