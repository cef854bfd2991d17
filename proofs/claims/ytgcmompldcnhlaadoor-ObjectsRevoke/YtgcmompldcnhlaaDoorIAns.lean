/-
  What deeds answer of capabilities that are good, plain facts.
-/
import Derived.Test.YtgcmompldcnhlaaDoorIHas
namespace Go.Proofs.YtgcmompldcnhlaaDoor
open Go.RowKit
variable {ws : List Nat} {t t1 p : Nat} {es : List Ent} {T : Nat → Ob} {s r x : Nat}
theorem of_word (h : Outs ws t es) (hw : ∀ j, ws.getD j 0 ≤ 281474976710655) (s r : Nat) : (ofF ws t es s r).x ≤ 281474976710655 := by
  rcases of_cases ws t es s r with ⟨x, hx, e⟩ | ⟨_, _, ht, e⟩ | ⟨_, e⟩ <;> rw [e]
  · unfold HasA at hx
    split at hx
    · show x ≤ _; omega
    · obtain ⟨j, h1, h2⟩ := hx
      obtain ⟨i, _, h3⟩ := h.drawn j (findE_some h1).1
      show x ≤ _
      rw [← h2, h3]; exact hw i
  · exact hw t
  · exact Nat.zero_le _
theorem cp_ok {p o r c : Nat} (hp : p ≤ 18446744073709551615) (ho : o ≤ 4294967295) (hr : r ≤ 255) (hc : c ≤ 281474976710655) : (Cp.mk p o r c).ok := ⟨hp, ho, hr, (Nat.le_trans hc (by decide) : c ≤ 18446744073709551615)⟩
theorem and_owner {m : Nat} (h : m ≤ 255) : 255 &&& m = m := by
  rw [Nat.and_comm, show (255 : Nat) = 2 ^ 8 - 1 from rfl, Nat.and_two_pow_sub_one_eq_mod]; omega
theorem and_le {a b : Nat} (h : a ≤ 255) : a &&& b ≤ 255 := Nat.le_trans Nat.and_le_left h
theorem and_none (a : Nat) : a &&& 0 = 0 := Nat.and_zero a
theorem cre_at {k : Nat} (v : Int) (hk : freeO T = k) (h : k < 64) (ht : t < ws.length) : creF ws t es p T v = ⟨⟨p, k, 255, ws.getD t 0⟩, 0, t + 1, es, updO T k ⟨ws.getD t 0, 0, v, 24⟩⟩ := by
  unfold creF; rw [hk, if_pos h, if_pos ht]
theorem res_good {c : Cp} {mask : Nat} (hp : c.p = p) (hh : hasO T c.o = true) (hx : HasA es (T c.o).s c.r c.c) (ho : (ofF ws t es (T c.o).s (c.r &&& mask)).ok = true) :
    resF ws t es p T c mask = ⟨⟨p, c.o, c.r &&& mask, (ofF ws t es (T c.o).s (c.r &&& mask)).x⟩, 0, (ofF ws t es (T c.o).s (c.r &&& mask)).t, (ofF ws t es (T c.o).s (c.r &&& mask)).es, T⟩ := by
  have e : chkF ws t es p T c 0 = ⟨c.o, 0, t, es⟩ := by rw [chk_good hp hh hx, if_pos (and_none _)]
  unfold resF
  rw [e]
  simp only [if_true, ho]
  unfold cabF
  rw [ho]; rfl
theorem rev_good {c : Cp} (hp : c.p = p) (hr : c.r = 255) (hh : hasO T c.o = true) (hx : HasA es (T c.o).s c.r c.c) (ht : t < ws.length) :
    revF ws t es p T c = ⟨⟨p, c.o, 255, ws.getD t 0⟩, 0, t + 1, es, updO T c.o (revO (T c.o) (ws.getD t 0))⟩ := by
  have e : chkF ws t es p T c 255 = ⟨c.o, 0, t, es⟩ := by rw [chk_good hp hh hx, if_pos (by rw [hr]; rfl)]
  unfold revF
  rw [e]
  simp only [if_true]
  rw [if_pos ht]
theorem free_none : freeO noneO = 0 := freeO_eq (by omega) rfl (fun j hj => by omega)
theorem has_upd {k : Nat} {y : Ob} (hk : k < 64) (hl : 0 < y.l) : hasO (updO T k y) k = true := hasO_of hk (by rw [updO_same]; exact hl)
variable {w0 w w1 w2 : World} {g : Nat}
end Go.Proofs.YtgcmompldcnhlaaDoor
