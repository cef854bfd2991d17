/-
  What token.Restrict and token.Port answer, as contracts; the statements' own first step.
-/
import Derived.Test.YtgcmompldcnhlaaDoorKTok
namespace Go.Proofs.YtgcmompldcnhlaaDoor
open Go.RowKit
/- a block that is a capability's; a store into one leaves the oracle as it is -/
def CapB (w : World) (b : Nat) : Prop := ∃ cs, w.heap[b]? = some (.cells cs 49 (0, 0))
theorem CBox.capB {w : World} {b p o r c : Nat} (h : CBox w b p o r c) : CapB w b := ⟨_, h⟩
theorem CapB.set {w : World} {b : Nat} (h : CapB w b) (d j : Nat) (x : Value) : CapB (w.setCell ⟨d, j, none⟩ x) b := by
  obtain ⟨cs, h⟩ := h
  by_cases e : b = d
  · subst e
    exact ⟨_, heap_setCell_same w b j _ _ x h⟩
  · exact ⟨cs, (heap_setCell_other _ _ _ _ e).trans h⟩
theorem Tk.put {w0 w1 : World} {B g m a h k : Nat} {v : Value} {ws : List Nat} {t : Nat} {es : List Ent} (T : Tk w0 w1 B g m a h k v ws t es) {b : Nat} (C : CapB w1 b) (hb : w0.heap.size ≤ b) (j : Nat) (x : Value) : Tk w0 (w1.setCell ⟨b, j, none⟩ x) B g m a h k v ws t es := by
  obtain ⟨cs, hc⟩ := C
  obtain ⟨y, z, hm⟩ := T.orc.map.isMap
  have hr : w1.heap[h]? = some _ := T.tape.row
  have f := foot_set w1 ⟨b, j, none⟩ x
  refine ⟨T.orc.foot f (fun e => ?_) (fun e => ?_) (fun r hr e => ?_), T.tape.foot f (fun e => ?_) (fun e => ?_), ⟨T.new.b0, T.new.a0, T.new.h0, T.new.bel.trans (f.below T.new.bel.size fun k e => ?_), Nat.le_trans T.new.bs f.size⟩⟩
  · obtain rfl : g = b := e
    rw [T.orc.box] at hc; cases hc
  · obtain rfl : m = b := e
    rw [hm] at hc; cases hc
  · obtain rfl : r = b := e
    obtain ⟨cur, h1, _⟩ := owns_block T.orc.row hr; rw [h1] at hc; cases hc
  · obtain rfl : a = b := e
    rw [T.tape.box] at hc; cases hc
  · obtain rfl : h = b := e
    rw [hr] at hc; simp at hc
  · obtain rfl : k = b := e
    omega
theorem Left.put {w0 w w1 : World} {B g m a h k : Nat} {v : Value} {ws : List Nat} {X : Ans} (L : Left w0 w B g m a h k v ws w1 X) {b : Nat} (C : CapB w1 b) (hw : w0.heap.size ≤ w.heap.size) (hb : w.heap.size ≤ b) (j : Nat) (x : Value) : Left w0 w B g m a h k v ws (w1.setCell ⟨b, j, none⟩ x) X := by
  obtain ⟨v', T, F, hv⟩ := L
  refine ⟨v', T.put C (Nat.le_trans hw hb) j x, F.trans (foot_set w1 ⟨b, j, none⟩ x) (fun k e => ?_), hv⟩
  obtain rfl : k = b := e
  exact .inr hb
theorem CBox.set3 {w : World} {b p o r c : Nat} (h : CBox w b p o r c) (y : Nat) : CBox (w.setCell ⟨b, 3, none⟩ (.int .u64 (y : Int))) b p o r y := by
  have := heap_setCell_same w b 3 _ _ (.int .u64 (y : Int)) h
  exact this
def resV (X : Ans) (p o mask : Nat) : Value := match X.ok with | true => .agg #[.int .u64 (p : Int), .int .u32 (o : Int), .int .u8 (mask : Int), .int .u64 (X.x : Int)] | false => .agg #[.int .u64 0, .int .u32 0, .int .u8 0, .int .u64 0]
/- what came in: two of an oracle of a new tape -/
theorem Tk.made {w0 w1 w2 w3 : World} {a h k g m : Nat} {ws : List Nat} (b1 : Below w0.heap.size w0 w1) (T : TapeAt w2 a h ws 0 k) (ha : w1.heap.size ≤ a) (hh : w1.heap.size ≤ h) (b2 : Below w1.heap.size w1 w2) (O : Orc w3 w2.heap.size g m (.pointer (some ⟨a, 0, none⟩)) (.slice none 0 0) []) (b3 : Below w2.heap.size w2 w3) :
    Tk w0 w3 w2.heap.size g m a h k (.slice none 0 0) ws 0 [] := by
  have hB := b1.trans (b2.mono b1.size)
  exact ⟨O, T.grow b3, ⟨hB.size, Nat.le_trans b1.size ha, Nat.le_trans b1.size hh, hB.trans (b3.mono hB.size), b3.size⟩⟩
end Go.Proofs.YtgcmompldcnhlaaDoor
