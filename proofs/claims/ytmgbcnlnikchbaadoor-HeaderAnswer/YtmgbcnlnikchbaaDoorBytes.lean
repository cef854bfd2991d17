/-
  What Encode answers of a capability, as a contract; what became of the world.
-/
import Derived.Test.YtmgbcnlnikchbaaDoorRows
import Derived.Test.YtmgbcnlnikchbaaDoorPut
import Derived.Test.YtmgbcnlnikchbaaDoorCaps
import Derived.WalkKit
import Derived.WalkSpells
import Derived.WalkLawsBesides
import Derived.Handy
import Derived.Deep.OwnRows
namespace Go.Proofs.YtmgbcnlnikchbaaDoor
open Go.RowKit
/- a capability's bytes -/
def capF (p o r c : Nat) : List UInt8 := putF p 6 ++ putF o 3 ++ putF r 1 ++ putF c 6
theorem capF_len (p o r c : Nat) : (capF p o r c).length = 16 := by simp [capF, putF_len]
theorem own_new (w : World) (l : List UInt8) (n base : Nat) (hn : n = l.length) (hm : n ≤ maxLen) (hb : base ≤ w.heap.size) : (w.alloc (.cells (cellsB l).toArray 5)).ownsRow base 5 1 (.slice (some ⟨w.heap.size, 0, none⟩) n n) n (cellsB l) :=
  ⟨by rw [cellsB_len, hn, Nat.mul_one], Or.inr ⟨w.heap.size, n, (cellsB l).toArray, rfl, hb, heap_alloc_new _ _, Nat.le_refl _, hm, by rw [List.size_toArray, cellsB_len, hn, Nat.mul_one], by rw [List.take_of_length_le (by rw [cellsB_len, hn]; simp)]⟩⟩
/- where a capability's four cells lie -/
def Box (w : World) (g : Nat) (p o r c : Nat) : Prop :=
  w.cell? ⟨g, 0, none⟩ = some (.int .u64 p) ∧ w.cell? ⟨g, 1, none⟩ = some (.int .u32 o) ∧ w.cell? ⟨g, 2, none⟩ = some (.int .u8 r) ∧ w.cell? ⟨g, 3, none⟩ = some (.int .u64 c)
theorem box_new (w : World) (p o r c : Nat) : Box (w.alloc (.cells #[.int .u64 p, .int .u32 o, .int .u8 r, .int .u64 c] 26)) w.heap.size p o r c := by
  refine ⟨?_, ?_, ?_, ?_⟩ <;> simp
theorem Box.carry {w w' : World} {g p o r c : Nat} (h : Box w g p o r c) (b : Below w.heap.size w w') : Box w' g p o r c := by
  obtain ⟨h0, h1, h2, h3⟩ := h
  exact ⟨by rw [b.cell (lt_of_cell h0), h0], by rw [b.cell (lt_of_cell h1), h1], by rw [b.cell (lt_of_cell h2), h2], by rw [b.cell (lt_of_cell h3), h3]⟩
theorem put_to (ao : Option Addr) (n cap v m N : Nat) (l : List UInt8) (w : World) (hb : Bts w ao n cap l) (hN : n + m = N) (hr : n ≤ 140737488421888) (h1 : 1 ≤ m) (h8 : m ≤ 8) (hv : v ≤ 18446744073709551615) :
    Calls Tryd.prog 15 #[.slice ao n cap, .int .u64 v, .int .i64 m] w fun e w' => e = .returned (.slice (some ⟨w.heap.size, 0, none⟩) N N) ∧
      w'.ownsRow w.heap.size 5 1 (.slice (some ⟨w.heap.size, 0, none⟩) N N) N (cellsB (l ++ putF v m)) ∧ Below w.heap.size w w' := by
  subst hN; exact put_yes ao n cap v m l w hb hr h1 h8 hv
theorem owns_at {w : World} {base g n cap : Nat} {l : List UInt8} (h : w.ownsRow base 5 1 (.slice (some ⟨g, 0, none⟩) n cap) n (cellsB l)) : Bts w (some ⟨g, 0, none⟩) n cap l := by
  obtain ⟨ao, c, e, hb⟩ := owns_bts h
  obtain ⟨rfl, _, rfl⟩ := Value.slice.inj e
  exact hb
theorem bts_nil (w : World) : Bts w none 0 0 [] := ⟨rfl, Nat.le_refl _, by decide, fun _ => rfl, fun ad e => by cases e⟩
theorem owns_le {w : World} {base base' size n : Nat} {e : TypeId} {v : Value} {xs : List Value} (h : w.ownsRow base e size v n xs) (hb : base' ≤ base) : w.ownsRow base' e size v n xs := by
  refine ⟨h.1, ?_⟩
  rcases h.2 with h0 | ⟨g, cap, cur, hv, hg, h2⟩
  · exact .inl h0
  · exact .inr ⟨g, cap, cur, hv, Nat.le_trans hb hg, h2⟩
set_option maxHeartbeats 800000 in
theorem encode_yes (p o r c : Nat) (w : World) (hp : p ≤ 281474976710655) (ho : o ≤ 16777215) (hr : r ≤ 255) (hc : c ≤ 281474976710655) :
    Calls Tryd.prog 16 #[.agg #[.int .u64 p, .int .u32 o, .int .u8 r, .int .u64 c]] w fun e w' => ∃ g, e = .returned (.slice (some ⟨g, 0, none⟩) 16 16) ∧ w.heap.size ≤ g ∧
      w'.ownsRow w.heap.size 5 1 (.slice (some ⟨g, 0, none⟩) 16 16) 16 (cellsB (capF p o r c)) ∧ Below w.heap.size w w' := by
  have HD : Hid (decide (p ≤ 281474976710655 ∧ o ≤ 16777215 ∧ c ≤ 281474976710655) = true) := decide_eq_true ⟨hp, ho, hc⟩
  go_enter Tryd.func16, Tryd.ntmps16
  go_wp2_with fail
  refine (may_any p o r c _ (by omega) (by omega) hr (by omega)).mono ?_; rintro e w1 ⟨rfl, hw1⟩
  have bel1 : Below w.heap.size w w1 := by rw [hw1]; go_grown
  have hx1 : Box w1 w.heap.size p o r c := by rw [hw1]; exact (box_new w p o r c).carry (below_alloc _ _)
  have HX1 : Hid (Box w1 w.heap.size p o r c) := hx1
  rw [HD.out]
  obtain ⟨k0, k1, k2, k3⟩ := hx1
  clear hw1
  go_wp2_with fail
  refine (put_to none 0 0 p 6 6 [] _ (bts_nil _) rfl (by omega) (by omega) (by omega) (by omega)).mono ?_; rintro e w2 ⟨rfl, hown2, bel2⟩
  have b2 : Below w.heap.size w w2 := bel1.trans (bel2.mono bel1.size)
  have HB2 : Hid (Bts w2 (some ⟨w1.heap.size, 0, none⟩) 6 6 ([] ++ putF p 6)) := owns_at hown2
  have HX2 : Hid (Box w2 w.heap.size p o r c) := HX1.out.carry bel2
  clear hown2 bel2 k0 k1 k2 k3 bel1 HX1
  obtain ⟨k0, k1, k2, k3⟩ := HX2.out
  go_wp2_with fail
  refine (put_to _ 6 6 o 3 9 _ _ HB2.out rfl (by omega) (by omega) (by omega) (by omega)).mono ?_; rintro e w3 ⟨rfl, hown3, bel3⟩
  have b3 : Below w.heap.size w w3 := b2.trans (bel3.mono b2.size)
  have HB3 : Hid (Bts w3 (some ⟨w2.heap.size, 0, none⟩) 9 9 ([] ++ putF p 6 ++ putF o 3)) := owns_at hown3
  have HX3 : Hid (Box w3 w.heap.size p o r c) := HX2.out.carry bel3
  clear hown3 bel3 k0 k1 k2 k3 b2 HX2
  obtain ⟨k0, k1, k2, k3⟩ := HX3.out
  go_wp2_with fail
  refine (put_to _ 9 9 r 1 10 _ _ HB3.out rfl (by omega) (by omega) (by omega) (by omega)).mono ?_; rintro e w4 ⟨rfl, hown4, bel4⟩
  have b4 : Below w.heap.size w w4 := b3.trans (bel4.mono b3.size)
  have HB4 : Hid (Bts w4 (some ⟨w3.heap.size, 0, none⟩) 10 10 ([] ++ putF p 6 ++ putF o 3 ++ putF r 1)) := owns_at hown4
  have HX4 : Hid (Box w4 w.heap.size p o r c) := HX3.out.carry bel4
  clear hown4 bel4 k0 k1 k2 k3 b3 HX3
  obtain ⟨k0, k1, k2, k3⟩ := HX4.out
  go_wp2_with fail
  refine (put_to _ 10 10 c 6 16 _ _ HB4.out rfl (by omega) (by omega) (by omega) (by omega)).mono ?_; rintro e w5 ⟨rfl, hown5, bel5⟩
  have b5 : Below w.heap.size w w5 := b4.trans (bel5.mono b4.size)
  have HO : Hid (w5.ownsRow w4.heap.size 5 1 (.slice (some ⟨w4.heap.size, 0, none⟩) 16 16) 16 (cellsB (capF p o r c))) := hown5
  clear hown5 bel5 k0 k1 k2 k3 HX4
  go_wp2
  go_ret
  exact ⟨_, rfl, b4.size, owns_le HO.out b4.size, b5⟩
set_option maxHeartbeats 800000 in
theorem encode_no (p o r c : Nat) (w : World) (hp : p ≤ 18446744073709551615) (ho : o ≤ 4294967295) (hr : r ≤ 255) (hc : c ≤ 18446744073709551615) (hno : ¬ (p ≤ 281474976710655 ∧ o ≤ 16777215 ∧ c ≤ 281474976710655)) :
    Calls Tryd.prog 16 #[.agg #[.int .u64 p, .int .u32 o, .int .u8 r, .int .u64 c]] w fun e w' => e = .returned (.slice none 0 0) ∧ Below w.heap.size w w' := by
  have HD : Hid (decide (p ≤ 281474976710655 ∧ o ≤ 16777215 ∧ c ≤ 281474976710655) = false) := decide_eq_false hno
  clear hno
  go_enter Tryd.func16, Tryd.ntmps16
  go_wp2_with fail
  refine (may_any p o r c _ (by omega) (by omega) hr (by omega)).mono ?_; rintro e w1 ⟨rfl, hw1⟩
  have bel1 : Below w.heap.size w w1 := by rw [hw1]; go_grown
  rw [HD.out]
  clear hw1
  go_wp2
  go_ret
  exact ⟨rfl, bel1⟩
end Go.Proofs.YtmgbcnlnikchbaaDoor
