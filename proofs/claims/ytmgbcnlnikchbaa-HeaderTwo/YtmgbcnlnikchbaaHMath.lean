/-
  Plain facts on a message's bytes: what is read of them is what they were made of, and the other way round.
-/
import Derived.Test.YtmgbcnlnikchbaaHDec
namespace Go.Proofs.Ytmgbcnlnikchbaa
open Go.RowKit
theorem mid (p q r : List UInt8) (a b : Nat) (ha : p.length = a) (hb : q.length = b) : ((p ++ (q ++ r)).drop a).take b = q := by
  subst ha; subst hb; rw [List.drop_left, List.take_left]
theorem pow2 : (256 : Nat) ^ 2 = 65536 := by decide
theorem pow4 : (256 : Nat) ^ 4 = 4294967296 := by decide
theorem pow8 : (256 : Nat) ^ 8 = 18446744073709551616 := by decide
theorem msg_ta (m : Msg) (l : List UInt8) : ((msgF m l).drop 0).take 6 = putF m.ta 6 := by
  rw [show msgF m l = [] ++ (putF m.ta 6 ++ (putF m.rp 6 ++ (putF m.id 4 ++ (putF m.op 2 ++ (putF m.st 2 ++ (capF m.p m.o m.r m.c ++ (putF m.ar 8 ++ (putF l.length 2 ++ l)))))))) from by simp only [msgF, List.append_assoc]]
  exact mid _ _ _ _ _ rfl (putF_len _ _)
theorem msg_rp (m : Msg) (l : List UInt8) : ((msgF m l).drop 6).take 6 = putF m.rp 6 := by
  rw [show msgF m l = putF m.ta 6 ++ (putF m.rp 6 ++ (putF m.id 4 ++ (putF m.op 2 ++ (putF m.st 2 ++ (capF m.p m.o m.r m.c ++ (putF m.ar 8 ++ (putF l.length 2 ++ l))))))) from by simp only [msgF, List.append_assoc, List.nil_append]]
  exact mid _ _ _ _ _ (putF_len _ _) (putF_len _ _)
theorem msg_id (m : Msg) (l : List UInt8) : ((msgF m l).drop 12).take 4 = putF m.id 4 := by
  rw [show msgF m l = (putF m.ta 6 ++ putF m.rp 6) ++ (putF m.id 4 ++ (putF m.op 2 ++ (putF m.st 2 ++ (capF m.p m.o m.r m.c ++ (putF m.ar 8 ++ (putF l.length 2 ++ l)))))) from by simp only [msgF, List.append_assoc, List.nil_append]]
  exact mid _ _ _ _ _ (by simp [putF_len]) (putF_len _ _)
theorem msg_op (m : Msg) (l : List UInt8) : ((msgF m l).drop 16).take 2 = putF m.op 2 := by
  rw [show msgF m l = (putF m.ta 6 ++ (putF m.rp 6 ++ putF m.id 4)) ++ (putF m.op 2 ++ (putF m.st 2 ++ (capF m.p m.o m.r m.c ++ (putF m.ar 8 ++ (putF l.length 2 ++ l))))) from by simp only [msgF, List.append_assoc, List.nil_append]]
  exact mid _ _ _ _ _ (by simp [putF_len]) (putF_len _ _)
theorem msg_st (m : Msg) (l : List UInt8) : ((msgF m l).drop 18).take 2 = putF m.st 2 := by
  rw [show msgF m l = (putF m.ta 6 ++ (putF m.rp 6 ++ (putF m.id 4 ++ putF m.op 2))) ++ (putF m.st 2 ++ (capF m.p m.o m.r m.c ++ (putF m.ar 8 ++ (putF l.length 2 ++ l)))) from by simp only [msgF, List.append_assoc, List.nil_append]]
  exact mid _ _ _ _ _ (by simp [putF_len]) (putF_len _ _)
theorem msg_cap (m : Msg) (l : List UInt8) : ((msgF m l).drop 20).take 16 = capF m.p m.o m.r m.c := by
  rw [show msgF m l = (putF m.ta 6 ++ (putF m.rp 6 ++ (putF m.id 4 ++ (putF m.op 2 ++ putF m.st 2)))) ++ (capF m.p m.o m.r m.c ++ (putF m.ar 8 ++ (putF l.length 2 ++ l))) from by simp only [msgF, List.append_assoc, List.nil_append]]
  exact mid _ _ _ _ _ (by simp [putF_len]) (capF_len _ _ _ _)
theorem msg_ar (m : Msg) (l : List UInt8) : ((msgF m l).drop 36).take 8 = putF m.ar 8 := by
  rw [show msgF m l = (putF m.ta 6 ++ (putF m.rp 6 ++ (putF m.id 4 ++ (putF m.op 2 ++ (putF m.st 2 ++ capF m.p m.o m.r m.c))))) ++ (putF m.ar 8 ++ (putF l.length 2 ++ l)) from by simp only [msgF, List.append_assoc, List.nil_append]]
  exact mid _ _ _ _ _ (by simp [putF_len, capF_len]) (putF_len _ _)
theorem msg_len (m : Msg) (l : List UInt8) : ((msgF m l).drop 44).take 2 = putF l.length 2 := by
  rw [show msgF m l = (putF m.ta 6 ++ (putF m.rp 6 ++ (putF m.id 4 ++ (putF m.op 2 ++ (putF m.st 2 ++ (capF m.p m.o m.r m.c ++ putF m.ar 8)))))) ++ (putF l.length 2 ++ l) from by simp only [msgF, List.append_assoc, List.nil_append]]
  exact mid _ _ _ _ _ (by simp [putF_len, capF_len]) (putF_len _ _)
theorem msg_data (m : Msg) (l : List UInt8) : (msgF m l).drop 46 = l := by
  rw [show msgF m l = (putF m.ta 6 ++ (putF m.rp 6 ++ (putF m.id 4 ++ (putF m.op 2 ++ (putF m.st 2 ++ (capF m.p m.o m.r m.c ++ (putF m.ar 8 ++ putF l.length 2))))))) ++ l from by simp only [msgF, List.append_assoc, List.nil_append]]
  exact List.drop_left' (by simp [putF_len, capF_len])
theorem msg_num (m : Msg) (l : List UInt8) (h : l.length ≤ 65535) : numF (((msgF m l).drop 44).take 2) = l.length := by
  rw [msg_len, numF_putF, pow2]; omega
theorem msg_parts (m : Msg) (l : List UInt8) (h : m.good) : partsF (msgF m l) = m := by
  obtain ⟨o0, o1, o2, o3, o4, o5, o6, o7, o8, o9⟩ := h
  unfold partsF
  rw [msg_ta, msg_rp, msg_id, msg_op, msg_st, msg_cap, msg_ar, cap_port _ _ _ _ o5, cap_object _ _ _ _ o6, cap_rights _ _ _ _ o7, cap_check _ _ _ _ o8, numF_putF, numF_putF, numF_putF, numF_putF, numF_putF, numF_putF, pow6, pow4, pow2, pow8]
  rw [Nat.mod_eq_of_lt (by omega), Nat.mod_eq_of_lt (by omega), Nat.mod_eq_of_lt (by omega), Nat.mod_eq_of_lt (by omega), Nat.mod_eq_of_lt (by omega), Nat.mod_eq_of_lt (by omega)]
theorem msg_inj (m k : Msg) (l r : List UInt8) (hm : m.good) (hk : k.good) (h : msgF m l = msgF k r) : m = k ∧ l = r := by
  constructor
  · rw [← msg_parts m l hm, h, msg_parts k r hk]
  · rw [← msg_data m l, h, msg_data]
theorem msg_read (m : Msg) (l : List UInt8) (h : l.length ≤ 4096) : readD (msgF m l) = true := by
  apply decide_eq_true
  rw [msg_num m l (by omega), msgF_len]
  omega
theorem msg_back (l : List UInt8) (x : Nat) (hx : numF ((l.drop 44).take 2) = x) (hl : l.length = 46 + x) : msgF (partsF l) (l.drop 46) = l := by
  unfold msgF partsF
  rw [putF_numF _ 6 (by simp; omega), putF_numF _ 6 (by simp; omega), putF_numF _ 4 (by simp; omega), putF_numF _ 2 (by simp; omega), putF_numF _ 2 (by simp; omega), putF_numF _ 8 (by simp; omega), cap_back ((l.drop 20).take 16) (by simp; omega)]
  rw [show (l.drop 46).length = numF ((l.drop 44).take 2) from by rw [List.length_drop, hx]; omega, putF_numF _ 2 (by simp; omega)]
  rw [List.nil_append, List.drop_zero, show (l.take 6 ++ (l.drop 6).take 6) = l.take 12 from (List.take_add (i := 6) (j := 6)).symm, show (l.take 12 ++ (l.drop 12).take 4) = l.take 16 from (List.take_add (i := 12) (j := 4)).symm, show (l.take 16 ++ (l.drop 16).take 2) = l.take 18 from (List.take_add (i := 16) (j := 2)).symm, show (l.take 18 ++ (l.drop 18).take 2) = l.take 20 from (List.take_add (i := 18) (j := 2)).symm, show (l.take 20 ++ (l.drop 20).take 16) = l.take 36 from (List.take_add (i := 20) (j := 16)).symm, show (l.take 36 ++ (l.drop 36).take 8) = l.take 44 from (List.take_add (i := 36) (j := 8)).symm, show (l.take 44 ++ (l.drop 44).take 2) = l.take 46 from (List.take_add (i := 44) (j := 2)).symm, List.take_append_drop]
end Go.Proofs.Ytmgbcnlnikchbaa
