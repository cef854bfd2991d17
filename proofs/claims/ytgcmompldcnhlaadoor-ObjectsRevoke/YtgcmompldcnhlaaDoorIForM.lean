/-
  What Check answers of any capability whatever, over draws that are unlike: plain facts; capabilities that were written out.
-/
import Derived.Test.YtgcmompldcnhlaaDoorIChg
namespace Go.Proofs.YtgcmompldcnhlaaDoor
open Go.RowKit
variable {ws : List Nat} {t t1 p : Nat} {es : List Ent} {T : Nat → Ob} {s r x : Nat}
/- what an oracle answers is a draw -/
theorem of_draw (h : Outs ws t es) (hs : ∃ j, j < ws.length ∧ s % 281474976710656 = ws.getD j 0) (ho : (ofF ws t es s r).ok = true) : ∃ j, j < ws.length ∧ (ofF ws t es s r).x = ws.getD j 0 := by
  rcases of_cases ws t es s r with ⟨x, hx, e⟩ | ⟨_, _, ht, e⟩ | ⟨_, e⟩
  · rw [e]
    unfold HasA at hx
    split at hx
    · obtain ⟨j, h1, h2⟩ := hs
      exact ⟨j, h1, hx.trans h2⟩
    · obtain ⟨j, h1, h2⟩ := hx
      obtain ⟨i, h3, h4⟩ := h.drawn j (findE_some h1).1
      exact ⟨i, by have := h.le; omega, h2.symm.trans h4⟩
  · rw [e]; exact ⟨t, ht, rfl⟩
  · rw [e] at ho; cases ho
/- a capability is refused as bad, or its check is one of the draws, or it is good -/
theorem chk_three {c : Cp} {need : Nat} (h : Outs ws t es) (ht : t < ws.length) (hT : ∀ k, hasO T k = true → ∃ j, j < ws.length ∧ (T k).s % 281474976710656 = ws.getD j 0) :
    (chkF ws t es p T c need).e = 1 ∨ ∃ j, j < ws.length ∧ c.c = ws.getD j 0 := by
  by_cases hp : c.p = p
  · cases hh : hasO T c.o with
    | false => left; rw [chk_none (.inr hh)]
    | true =>
      have ok := of_ok ht es (T c.o).s c.r
      by_cases hx : c.c = (ofF ws t es (T c.o).s c.r).x
      · right
        obtain ⟨j, h1, h2⟩ := of_draw h (hT _ hh) ok
        exact ⟨j, h1, hx.trans h2⟩
      · left
        rw [chk_bad hp hh ok hx]
  · left; rw [chk_none (.inl hp)]
theorem chk_len3 (ws : List Nat) (t : Nat) (es : List Ent) (p : Nat) (T : Nat → Ob) (c : Cp) (need : Nat) : (chkF ws t es p T c need).es.length ≤ es.length + 1 := chk_len ws t es p T c need
/- capabilities that were written out -/
def Told (w : World) (b : Nat) (L : List Cp) : Prop := w.heap[b]? = some (.cells (cellsC L).toArray 49 (0, 0))
theorem Told.at {w : World} {b : Nat} {L : List Cp} (h : Told w b L) (k : Nat) (hk : k < L.length) (p o r c : Nat) (hc : L.getD k Cp.zero = ⟨p, o, r, c⟩) :
    w.cell? ⟨b, k * 4, none⟩ = some (.int .u64 (p : Int)) ∧ w.cell? ⟨b, k * 4 + 1, none⟩ = some (.int .u32 (o : Int)) ∧ w.cell? ⟨b, k * 4 + 2, none⟩ = some (.int .u8 (r : Int)) ∧ w.cell? ⟨b, k * 4 + 3, none⟩ = some (.int .u64 (c : Int)) := by
  have get := fun f hf => cellsC_get L k f hk hf
  rw [hc] at get
  refine ⟨?_, ?_, ?_, ?_⟩ <;> rw [cell_of_row w b _ _ _ _ h, List.getElem?_toArray]
  · exact get 0 (by omega)
  · exact get 1 (by omega)
  · exact get 2 (by omega)
  · exact get 3 (by omega)
theorem Told.lt {w : World} {b : Nat} {L : List Cp} (h : Told w b L) : b < w.heap.size := lt_of_heap h
theorem Told.kp {w w' : World} {b : Nat} {L : List Cp} (h : Told w b L) (k : Kp w w') : Told w' b L := (k.block _ _ _ h cap_odd).trans h
theorem Told.grow {w w' : World} {b : Nat} {L : List Cp} (h : Told w b L) (x : Below w.heap.size w w') : Told w' b L := (x.block b h.lt).trans h
theorem Told.foot {w w' : World} {b : Nat} {L : List Cp} {S : Nat → Prop} (h : Told w b L) (x : Foot S w w') (hb : ¬ S b) : Told w' b L := (x.block b h.lt hb).trans h
theorem told_box {w : World} {b : Nat} {p o r c : Nat} (h : CBox w b p o r c) : Told w b [⟨p, o, r, c⟩] := h
end Go.Proofs.YtgcmompldcnhlaaDoor
