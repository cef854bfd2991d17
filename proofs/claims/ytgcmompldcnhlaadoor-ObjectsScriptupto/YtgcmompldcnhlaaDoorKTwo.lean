/-
  Two oracles of two tapes in one memory: what is asked of the one leaves the other as it was.
-/
import Derived.Test.YtgcmompldcnhlaaDoorKRes
namespace Go.Proofs.YtgcmompldcnhlaaDoor
open Go.RowKit
def Two (g m a : Nat) (v : Value) (g2 m2 a2 : Nat) (v2 : Value) : Prop := g ≠ g2 ∧ m ≠ m2 ∧ a ≠ a2 ∧ ∀ r, v.ownBlock = some r → v2.ownBlock ≠ some r
theorem Two.symm {g m a g2 m2 a2 : Nat} {v v2 : Value} (D : Two g m a v g2 m2 a2 v2) : Two g2 m2 a2 v2 g m a v := ⟨D.1.symm, D.2.1.symm, D.2.2.1.symm, fun r h1 h2 => D.2.2.2 r h2 h1⟩
theorem tape_cross {w : World} {a h c d : Nat} {ws us : List Nat} {t k t' k' : Nat} (T : TapeAt w a h ws t k) (T' : TapeAt w c d us t' k') : a ≠ d := by
  intro e
  have hr : w.heap[d]? = Option.some _ := T'.row
  rw [← e, T.box] at hr; simp at hr
theorem orc_cross {w : World} {B g m B2 g2 m2 : Nat} {tp v tp2 v2 : Value} {es es2 : List Ent} (O : Orc w B g m tp v es) (O2 : Orc w B2 g2 m2 tp2 v2 es2) : g2 ≠ m ∧ v.ownBlock ≠ some g2 ∧ m2 ≠ g ∧ v.ownBlock ≠ some m2 := by
  obtain ⟨y, z, hm⟩ := O.map.isMap
  obtain ⟨y2, z2, hm2⟩ := O2.map.isMap
  refine ⟨fun e => ?_, fun e => ?_, fun e => ?_, fun e => ?_⟩
  · rw [← e, O2.box] at hm; cases hm
  · obtain ⟨cur, h1, _⟩ := owns_block O.row e; rw [O2.box] at h1; cases h1
  · rw [e, O.box] at hm2; cases hm2
  · obtain ⟨cur, h1, _⟩ := owns_block O.row e; rw [hm2] at h1; cases h1
section
variable {w0 w w' : World} {B g m a h k B2 g2 m2 a2 h2 k2 t t2 : Nat} {v v' v2 : Value} {ws ws2 : List Nat} {es es2 : List Ent} {X : Ans}
theorem Tk.other (S : Tk w0 w B g m a h k v ws t es) (S2 : Tk w0 w B2 g2 m2 a2 h2 k2 v2 ws2 t2 es2) (D : Two g m a v g2 m2 a2 v2) (F : Foot (AskS g m a v) w w') : Tk w0 w' B2 g2 m2 a2 h2 k2 v2 ws2 t2 es2 := by
  have c1 := orc_cross S.orc S2.orc
  have c2 := orc_cross S2.orc S.orc
  have o1 := S.tape.off S2.orc
  have o2 := S2.tape.off S.orc
  have x1 := tape_cross S.tape S2.tape
  refine ⟨S2.orc.foot F (fun e => ?_) (fun e => ?_) (fun r hr e => ?_), S2.tape.foot F (fun e => ?_) (fun e => ?_), ⟨S2.new.b0, S2.new.a0, S2.new.h0, (S.new.step S.orc F).bel, Nat.le_trans S2.new.bs F.size⟩⟩
  · rcases e with e | e | e | e
    · exact D.1 e.symm
    · exact c1.1 e
    · exact o1.1.1 e.symm
    · exact c1.2.1 e
  · rcases e with e | e | e | e
    · exact c1.2.2.1 e
    · exact D.2.1 e.symm
    · exact o1.1.2.1 e.symm
    · exact c1.2.2.2 e
  · rcases e with e | e | e | e
    · exact c2.2.1 (e ▸ hr)
    · exact c2.2.2.2 (e ▸ hr)
    · exact o1.1.2.2 (e ▸ hr)
    · exact D.2.2.2 r e hr
  · rcases e with e | e | e | e
    · exact o2.1.1 e
    · exact o2.1.2.1 e
    · exact D.2.2.1 e.symm
    · exact o2.1.2.2 e
  · rcases e with e | e | e | e
    · exact o2.2.1 e
    · exact o2.2.2.1 e
    · exact x1 e.symm
    · exact o2.2.2.2 e
theorem Left.pair (L : Left w0 w B g m a h k v ws w' X) (S : Tk w0 w B g m a h k v ws t es) (S2 : Tk w0 w B2 g2 m2 a2 h2 k2 v2 ws2 t2 es2) (D : Two g m a v g2 m2 a2 v2) :
    ∃ v', Tk w0 w' B g m a h k v' ws X.t X.es ∧ Tk w0 w' B2 g2 m2 a2 h2 k2 v2 ws2 t2 es2 ∧ Two g m a v' g2 m2 a2 v2 ∧ Foot (AskS g m a v) w w' := by
  obtain ⟨v', T, F, hv⟩ := L
  refine ⟨v', T, S.other S2 D F, ⟨D.1, D.2.1, D.2.2.1, fun r hr e => ?_⟩, F⟩
  rcases hv r hr with h1 | h1
  · exact D.2.2.2 r h1 e
  · obtain ⟨cur, hx, _⟩ := owns_block S2.orc.row e
    have := lt_of_heap hx
    omega
end
/- a second one, made behind the first -/
theorem Tk.second {w0 w3 w4 w5 : World} {B g m a h k c d k2 g2 m2 : Nat} {ws us : List Nat} (S : Tk w0 w3 B g m a h k (.slice none 0 0) ws 0 []) (T : TapeAt w4 c d us 0 k2) (hc : w3.heap.size ≤ c) (hd : w3.heap.size ≤ d) (b4 : Below w3.heap.size w3 w4) (O : Orc w5 w4.heap.size g2 m2 (.pointer (some ⟨c, 0, none⟩)) (.slice none 0 0) []) (b5 : Below w4.heap.size w4 w5) :
    Tk w0 w5 B g m a h k (.slice none 0 0) ws 0 [] ∧ Tk w0 w5 w4.heap.size g2 m2 c d k2 (.slice none 0 0) us 0 [] ∧ Two g m a (.slice none 0 0) g2 m2 c (.slice none 0 0) := by
  refine ⟨(S.grow b4).grow b5, Tk.made S.new.bel T hc hd b4 O b5, ?_, ?_, ?_, fun r h => by cases h⟩
  · have h1 := lt_of_heap S.orc.box
    have h2 := O.bg
    have h3 := b4.size
    omega
  · have h1 := S.orc.map.lt
    have h2 := O.bm
    have h3 := b4.size
    omega
  · have h1 := lt_of_heap S.tape.box
    omega
end Go.Proofs.YtgcmompldcnhlaaDoor
