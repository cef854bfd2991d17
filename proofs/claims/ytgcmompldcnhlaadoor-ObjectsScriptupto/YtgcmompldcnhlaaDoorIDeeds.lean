/-
  What objects' Create, Restrict, Revoke, Destroy, Touch and Info answer, as functions; a draw by the oracle; facts of a table that is there.
-/
import Derived.Test.YtgcmompldcnhlaaDoorIIdx
namespace Go.Proofs.YtgcmompldcnhlaaDoor
open Go.RowKit
variable {w0 w w1 w2 : World} {B g go m a h k p : Nat} {v v1 : Value} {ws : List Nat} {t t1 : Nat} {es es1 : List Ent} {T T1 : Nat → Ob}
/- a draw -/
def drwF (ws : List Nat) (t : Nat) (es : List Ent) : Ans := if t < ws.length then ⟨ws.getD t 0, true, t + 1, es⟩ else ⟨0, false, t, es⟩
theorem draw_ans (w : World) (S : Tk w0 w B go m a h k v ws t es) :
    Calls Tryd.prog 30 #[.pointer (some ⟨go, 0, none⟩)] w fun e w' => e = .returned (.tuple #[.int .u64 ((drwF ws t es).x : Nat), erV (drwF ws t es).ok]) ∧ Left w0 w B go m a h k v ws w' (drwF ws t es) := by
  rcases Nat.lt_or_ge t ws.length with ht | ht
  · have e : drwF ws t es = ⟨ws.getD t 0, true, t + 1, es⟩ := if_pos ht
    rw [e]
    refine (odraw_yes go m B a h t k _ v es ws w S.orc S.tape ht rfl).mono ?_
    rintro e w' ⟨rfl, T1, t1⟩
    have F : Foot (AskS go m a v) w w' := t1.foot.mono (fun j e => .inr (.inr (.inl e)))
    obtain ⟨o1, o2⟩ := S.tape.off S.orc
    exact ⟨rfl, v, ⟨S.orc.foot t1.foot (fun e => o1.1 e.symm) (fun e => o1.2.1 e.symm) (fun r hr e => o1.2.2 (e ▸ hr)), T1, S.new.step S.orc F⟩, F, fun _ h => .inl h⟩
  · have e : drwF ws t es = ⟨0, false, t, es⟩ := if_neg (by omega)
    rw [e]
    have e2 : t = ws.length := by have := S.tape.some; omega
    subst e2
    refine (odraw_end go m B a h k v es ws w S.orc S.tape).mono ?_
    rintro e w' ⟨rfl, r, rfl⟩
    exact ⟨rfl, v, S.drewN r, foot_drewN _ _ _, fun _ h => .inl h⟩
/- what Create answers: the capability, the error, what is there behind it -/
structure Cre where
  c : Cp
  e : Nat
  t : Nat
  es : List Ent
  T : Nat → Ob
def creF (ws : List Nat) (t : Nat) (es : List Ent) (p : Nat) (T : Nat → Ob) (v : Int) : Cre :=
  if freeO T < 64 then
    if t < ws.length then ⟨⟨p, freeO T, 255, ws.getD t 0⟩, 0, t + 1, es, updO T (freeO T) ⟨ws.getD t 0, 0, v, 24⟩⟩
    else ⟨Cp.zero, 7, t, es, T⟩
  else ⟨Cp.zero, 5, t, es, T⟩
/- what Restrict answers -/
def resF (ws : List Nat) (t : Nat) (es : List Ent) (p : Nat) (T : Nat → Ob) (c : Cp) (mask : Nat) : Cre :=
  if (chkF ws t es p T c 0).e = 0 then
    ⟨cabF p (chkF ws t es p T c 0).k (c.r &&& mask) (ofF ws (chkF ws t es p T c 0).t (chkF ws t es p T c 0).es (T (chkF ws t es p T c 0).k).s (c.r &&& mask)),
      if (ofF ws (chkF ws t es p T c 0).t (chkF ws t es p T c 0).es (T (chkF ws t es p T c 0).k).s (c.r &&& mask)).ok then 0 else 7,
      (ofF ws (chkF ws t es p T c 0).t (chkF ws t es p T c 0).es (T (chkF ws t es p T c 0).k).s (c.r &&& mask)).t,
      (ofF ws (chkF ws t es p T c 0).t (chkF ws t es p T c 0).es (T (chkF ws t es p T c 0).k).s (c.r &&& mask)).es, T⟩
  else ⟨Cp.zero, (chkF ws t es p T c 0).e, (chkF ws t es p T c 0).t, (chkF ws t es p T c 0).es, T⟩
/- what Revoke answers -/
def revO (x : Ob) (s : Nat) : Ob := ⟨s, x.e + 1, x.v, x.l⟩
def revF (ws : List Nat) (t : Nat) (es : List Ent) (p : Nat) (T : Nat → Ob) (c : Cp) : Cre :=
  if (chkF ws t es p T c 255).e = 0 then
    if (chkF ws t es p T c 255).t < ws.length then
      ⟨⟨p, (chkF ws t es p T c 255).k, 255, ws.getD (chkF ws t es p T c 255).t 0⟩, 0, (chkF ws t es p T c 255).t + 1, (chkF ws t es p T c 255).es,
        updO T (chkF ws t es p T c 255).k (revO (T (chkF ws t es p T c 255).k) (ws.getD (chkF ws t es p T c 255).t 0))⟩
    else ⟨Cp.zero, 7, (chkF ws t es p T c 255).t, (chkF ws t es p T c 255).es, T⟩
  else ⟨Cp.zero, (chkF ws t es p T c 255).e, (chkF ws t es p T c 255).t, (chkF ws t es p T c 255).es, T⟩
theorem chk_has {c : Cp} {need : Nat} (h0 : (chkF ws t es p T c need).e = 0) : hasO T c.o = true ∧ c.p = p ∧ (chkF ws t es p T c need).k = c.o := by
  unfold chkF at h0 ⊢
  split at h0
  · cases h0
  · rename_i hn
    rw [if_neg hn]
    have hp : c.p = p := Classical.byContradiction fun e => hn (.inl e)
    have hh : hasO T c.o = true := by
      cases e : hasO T c.o with
      | true => rfl
      | false => exact absurd (.inr e) hn
    split at h0
    · cases h0
    · rename_i h1
      rw [if_neg h1]
      split at h0
      · cases h0
      · rename_i h2
        rw [if_neg h2]
        split at h0
        · cases h0
        · rename_i h3
          rw [if_neg h3]
          exact ⟨hh, hp, rfl⟩
theorem chk_lt {c : Cp} {need : Nat} (h0 : (chkF ws t es p T c need).e = 0) : (chkF ws t es p T c need).k < 64 := by
  obtain ⟨h1, _, h2⟩ := chk_has h0
  rw [h2]; exact (hasO_yes h1).1
theorem chk_len (ws : List Nat) (t : Nat) (es : List Ent) (p : Nat) (T : Nat → Ob) (c : Cp) (need : Nat) : (chkF ws t es p T c need).es.length ≤ es.length + 1 := by
  unfold chkF
  have := of_len ws t es (T c.o).s c.r
  split
  · show es.length ≤ _; omega
  · split
    · exact this
    · split
      · exact this
      · split <;> exact this
theorem chk_not {c : Cp} {need : Nat} (h0 : (chkF ws t es p T c need).e ≠ 0) : (chkF ws t es p T c need).k = 0 := by
  unfold chkF at h0 ⊢
  split
  · rfl
  · rename_i hn
    rw [if_neg hn] at h0
    split
    · rfl
    · rename_i h1
      rw [if_neg h1] at h0
      split
      · rfl
      · rename_i h2
        rw [if_neg h2] at h0
        split
        · rfl
        · rename_i h3
          rw [if_neg h3] at h0
          exact absurd rfl h0
theorem tapeWord (S : Tk w0 w B go m a h k v ws t es) (j : Nat) : ws.getD j 0 ≤ 281474976710655 := S.tape.word j
end Go.Proofs.YtgcmompldcnhlaaDoor
