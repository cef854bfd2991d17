/-
  What CapsTwo asks besides: a byte of a row that is written, a bit that is turned, and that other bytes are another capability's.
-/
import Derived.Test.YtmbjgndajlomnaaNums
namespace Go.Proofs.Ytmbjgndajlomnaa
open Go.RowKit
theorem below_one {w w1 : World} (h : Below w.heap.size w w1) {w2 : World} (k : Below w1.heap.size w1 w2) : Below w.heap.size w w2 := h.trans (k.mono h.size)
theorem owns_free {w : World} {base g n cap : Nat} {xs : List Value} (h : w.ownsRow base 5 1 (.slice (some ⟨g, 0, none⟩) n cap) n xs) (i : Nat) : w.frozen? ⟨g, i, none⟩ = false := by
  rcases h.2 with ⟨hv, _⟩ | ⟨g', cap', cur, hv, _, hg, _⟩
  · cases hv
  · cases hv
    unfold World.frozen?; rw [hg]; simp
theorem Box.set {w : World} {g g' i p o r c : Nat} (v : Value) (h : Box w g' p o r c) (hne : g ≠ g') : Box (w.setCell ⟨g, i, none⟩ v) g' p o r c := by
  obtain ⟨h0, h1, h2, h3⟩ := h
  exact ⟨by rw [World.cell?_setCell_far _ _ _ _ hne, h0], by rw [World.cell?_setCell_far _ _ _ _ hne, h1], by rw [World.cell?_setCell_far _ _ _ _ hne, h2], by rw [World.cell?_setCell_far _ _ _ _ hne, h3]⟩
theorem bts_set {w : World} {g n cap i v : Nat} {l : List UInt8} (h : Bts w (some ⟨g, 0, none⟩) n cap l) (hv : v ≤ 255) : Bts (w.setCell ⟨g, i, none⟩ (.int .u8 v)) (some ⟨g, 0, none⟩) n cap (l.set i (UInt8.ofNat v)) := by
  obtain ⟨h1, h2, h3, h4, h5⟩ := h
  refine ⟨by rw [List.length_set]; exact h1, h2, h3, h4, fun ad e j hj => ?_⟩
  have hc := fun j hj => h5 ad e j hj
  obtain rfl := Option.some.inj e
  rw [List.length_set] at hj
  have hcj := hc j hj
  rw [addr0] at hcj ⊢
  by_cases hij : i = j
  · subst hij
    rw [World.cell?_setCell_same _ _ _ hcj]
    unfold bt
    rw [List.getD_eq_getElem?_getD, List.getElem?_set_self hj, Option.getD_some, ofNat_toNat, Nat.mod_eq_of_lt (by omega)]
  · rw [World.cell?_setCell_other _ _ _ _ (by intro e; exact hij (Addr.mk.inj e).2.1), hcj]
    unfold bt
    rw [List.getD_eq_getElem?_getD, List.getD_eq_getElem?_getD, List.getElem?_set_ne hij]
theorem set_ne (l : List UInt8) (i v : Nat) (hi : i < l.length) (hv : v ≤ 255) (hne : (v : Int) ≠ bt l i) : l.set i (UInt8.ofNat v) ≠ l := by
  intro e
  have := congrArg (fun x => bt x i) e
  simp only [bt] at this
  rw [List.getD_eq_getElem?_getD, List.getElem?_set_self hi, Option.getD_some, ofNat_toNat, Nat.mod_eq_of_lt (by omega)] at this
  exact hne this
theorem flip_ne (a k : Nat) (ha : a ≤ 255) (hk : k < 8) : a ^^^ 2 ^ k ≤ 255 ∧ a ^^^ 2 ^ k ≠ a := by
  have h1 : 2 ^ k < 2 ^ 8 := Nat.pow_lt_pow_right (by omega) hk
  have h2 : a ^^^ 2 ^ k < 2 ^ 8 := Nat.xor_lt_two_pow (by omega) h1
  refine ⟨by omega, fun e => ?_⟩
  have := congrArg (fun x => x.testBit k) e
  simp only [Nat.testBit_xor, Nat.testBit_two_pow_self] at this
  cases h : a.testBit k <;> simp [h] at this
theorem bt_nat (l : List UInt8) (i : Nat) : ∃ a : Nat, bt l i = (a : Int) ∧ a ≤ 255 := ⟨(l.getD i 0).toNat, rfl, by have := (l.getD i 0).toNat_lt; omega⟩
def FlipRel (w : World) (g i : Nat) (b : Int) (x : Value) (wx : World) : Prop := x = .slice (some ⟨g, 0, none⟩) 16 16 ∧ ∃ v : Nat, v ≤ 255 ∧ Hid ((v : Int) ≠ b) ∧ wx = w.setCell ⟨g, i, none⟩ (.int .u8 v)
theorem capF_inj (p o r c p2 o2 r2 c2 : Nat) (hp : p ≤ 281474976710655) (ho : o ≤ 16777215) (hr : r ≤ 255) (hc : c ≤ 281474976710655) (hp2 : p2 ≤ 281474976710655) (ho2 : o2 ≤ 16777215) (hr2 : r2 ≤ 255) (hc2 : c2 ≤ 281474976710655)
    (h : capF p o r c = capF p2 o2 r2 c2) : p = p2 ∧ o = o2 ∧ r = r2 ∧ c = c2 := by
  refine ⟨?_, ?_, ?_, ?_⟩
  · have := cap_port p o r c hp; rw [h, cap_port p2 o2 r2 c2 hp2] at this; exact this.symm
  · have := cap_object p o r c ho; rw [h, cap_object p2 o2 r2 c2 ho2] at this; exact this.symm
  · have := cap_rights p o r c hr; rw [h, cap_rights p2 o2 r2 c2 hr2] at this; exact this.symm
  · have := cap_check p o r c hc; rw [h, cap_check p2 o2 r2 c2 hc2] at this; exact this.symm
theorem str_list (l : List UInt8) : (str l).toList = l := by
  unfold str; exact ByteArray.toList_eq _
end Go.Proofs.Ytmbjgndajlomnaa
