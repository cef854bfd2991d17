/-
  What Decode answers, as a contract; what string(b) answers of bytes that can be read.
-/
import Derived.Test.YtmgbcnlnikchbaaDoorOwn
import Derived.Laws.IdiomStrings
namespace Go.Proofs.YtmgbcnlnikchbaaDoor
open Go.RowKit
def str (l : List UInt8) : ByteArray := ⟨l.toArray⟩
theorem str_inj {a b : List UInt8} (h : str a = str b) : a = b := by
  have := congrArg ByteArray.data h; simpa [str] using this
theorem conv_bts {w : World} {ao : Option Addr} {n cap : Nat} {l : List UInt8} (h : Bts w ao n cap l) : (convert 27 9 (.slice ao n cap)).run Tryd.prog w = .ok (.string (str l)) w := by
  cases ao with
  | none =>
    obtain ⟨rfl, rfl⟩ := h.none rfl
    obtain rfl : l = [] := List.eq_nil_of_length_eq_zero h.1.symm
    rw [run_convert_bytes_string w 27 9 5 none 0 0 Tryd.underlying27 Tryd.underlying5 Tryd.underlying9]
    simp [Conv.bytesToString]; rfl
  | some ad =>
    have e := h.1
    subst e
    exact run_convert_bytes_back (P := Tryd.prog) w 27 9 5 ad cap l Tryd.underlying27 Tryd.underlying5 Tryd.underlying9 (fun j hj => by
      rw [h.2.2.2.2 ad rfl j hj, bt_get l j hj])
theorem num6 (l : List UInt8) (k : Nat) : numF ((l.drop k).take 6) ≤ 281474976710655 := by
  have := numF_lt ((l.drop k).take 6)
  have h2 : 256 ^ ((l.drop k).take 6).length ≤ 256 ^ 6 := Nat.pow_le_pow_right (by omega) (by rw [List.length_take]; omega)
  have h3 : (256 : Nat) ^ 6 = 281474976710656 := by decide
  omega
theorem num3 (l : List UInt8) (k : Nat) : numF ((l.drop k).take 3) ≤ 16777215 := by
  have := numF_lt ((l.drop k).take 3)
  have h2 : 256 ^ ((l.drop k).take 3).length ≤ 256 ^ 3 := Nat.pow_le_pow_right (by omega) (by rw [List.length_take]; omega)
  have h3 : (256 : Nat) ^ 3 = 16777216 := by decide
  omega
theorem num1 (l : List UInt8) (k : Nat) : numF ((l.drop k).take 1) ≤ 255 := by
  have := numF_lt ((l.drop k).take 1)
  have h2 : 256 ^ ((l.drop k).take 1).length ≤ 256 ^ 1 := Nat.pow_le_pow_right (by omega) (by rw [List.length_take]; omega)
  have h3 : (256 : Nat) ^ 1 = 256 := by decide
  omega
def Free (w : World) (g : Nat) : Prop := w.frozen? ⟨g, 0, none⟩ = false ∧ w.frozen? ⟨g, 1, none⟩ = false ∧ w.frozen? ⟨g, 2, none⟩ = false ∧ w.frozen? ⟨g, 3, none⟩ = false
theorem free_new (w : World) (cs : Array Value) : Free (w.alloc (.cells cs 26)) w.heap.size := by
  refine ⟨?_, ?_, ?_, ?_⟩ <;> simp
theorem Free.carry {w w' : World} {g p o r c : Nat} (h : Free w g) (hx : Box w g p o r c) (b : Below w.heap.size w w') : Free w' g := by
  obtain ⟨h0, h1, h2, h3⟩ := h
  have hlt := lt_of_cell hx.1
  exact ⟨by rw [b.frozen (p := ⟨g, 0, none⟩) hlt, h0], by rw [b.frozen (p := ⟨g, 1, none⟩) hlt, h1], by rw [b.frozen (p := ⟨g, 2, none⟩) hlt, h2], by rw [b.frozen (p := ⟨g, 3, none⟩) hlt, h3]⟩
set_option maxHeartbeats 800000 in
theorem decode_yes (ao : Option Addr) (cap : Nat) (l : List UInt8) (w : World) (hb : Bts w ao 16 cap l) (p o r c : Nat) (hp : numF ((l.drop 0).take 6) = p) (ho : numF ((l.drop 6).take 3) = o) (hr : numF ((l.drop 9).take 1) = r) (hc : numF ((l.drop 10).take 6) = c) :
    Calls Tryd.prog 27 #[.slice ao 16 cap] w fun e w' => e = .returned (.tuple #[.agg #[.int .u64 p, .int .u32 o, .int .u8 r, .int .u64 c], .bool true]) ∧ Below w.heap.size w w' := by
  have HB : Hid (Bts w ao 16 cap l) := hb
  have p1 := num6 l 0
  have o1 := num3 l 6
  have r1 := num1 l 9
  have c1 := num6 l 10
  rw [hp] at p1
  rw [ho] at o1
  rw [hr] at r1
  rw [hc] at c1
  have HP : Hid _ := hp
  have HO : Hid _ := ho
  have HR : Hid _ := hr
  have HC : Hid _ := hc
  have HT : Hid (Below w.heap.size w (w.alloc (.cells #[.int .u64 0, .int .u32 0, .int .u8 0, .int .u64 0] 26))) := below_alloc _ _
  have HX : Hid (Box (w.alloc (.cells #[.int .u64 0, .int .u32 0, .int .u8 0, .int .u64 0] 26)) w.heap.size 0 0 0 0) := box_new w 0 0 0 0
  have HZ : Hid (Free (w.alloc (.cells #[.int .u64 0, .int .u32 0, .int .u8 0, .int .u64 0] 26)) w.heap.size) := free_new w _
  clear hp ho hr hc hb
  go_enter Tryd.func27, Tryd.ntmps27
  go_wp2_with fail
  refine (get_yes ao 16 cap 0 6 l _ (HB.out.carry HT.out) (by omega) (by omega) (by omega)).mono ?_; rintro e w1 ⟨rfl, bel1⟩
  rw [HP.out]
  have b1 : Below w.heap.size w w1 := HT.out.trans (bel1.mono HT.out.size)
  have HB1 : Hid (Bts w1 ao 16 cap l) := (HB.out.carry HT.out).carry bel1
  have HX1 : Hid (Box w1 w.heap.size 0 0 0 0) := HX.out.carry bel1
  have HZ1 : Hid (Free w1 w.heap.size) := HZ.out.carry HX.out bel1
  clear bel1 HX HZ HT
  go_wp2_with fail
  refine (get_yes ao 16 cap 6 3 l _ HB1.out (by omega) (by omega) (by omega)).mono ?_; rintro e w2 ⟨rfl, bel2⟩
  rw [HO.out]
  have b2 : Below w.heap.size w w2 := b1.trans (bel2.mono b1.size)
  have HB2 : Hid (Bts w2 ao 16 cap l) := HB1.out.carry bel2
  have HX2 : Hid (Box w2 w.heap.size 0 0 0 0) := HX1.out.carry bel2
  have HZ2 : Hid (Free w2 w.heap.size) := HZ1.out.carry HX1.out bel2
  clear bel2 HX1 HZ1 HB1 b1
  go_wp2_with fail
  refine (get_yes ao 16 cap 9 1 l _ HB2.out (by omega) (by omega) (by omega)).mono ?_; rintro e w3 ⟨rfl, bel3⟩
  rw [HR.out]
  have b3 : Below w.heap.size w w3 := b2.trans (bel3.mono b2.size)
  have HB3 : Hid (Bts w3 ao 16 cap l) := HB2.out.carry bel3
  have HX3 : Hid (Box w3 w.heap.size 0 0 0 0) := HX2.out.carry bel3
  have HZ3 : Hid (Free w3 w.heap.size) := HZ2.out.carry HX2.out bel3
  clear bel3 HX2 HZ2 HB2 b2
  go_wp2_with fail
  refine (get_yes ao 16 cap 10 6 l _ HB3.out (by omega) (by omega) (by omega)).mono ?_; rintro e w4 ⟨rfl, bel4⟩
  rw [HC.out]
  have b4 : Below w.heap.size w w4 := b3.trans (bel4.mono b3.size)
  have HX4 : Hid (Box w4 w.heap.size 0 0 0 0) := HX3.out.carry bel4
  have HZ4 : Hid (Free w4 w.heap.size) := HZ3.out.carry HX3.out bel4
  clear bel4 HX3 HZ3 HB3 b3
  obtain ⟨k0, k1, k2, k3⟩ := HX4.out
  obtain ⟨z0, z1, z2, z3⟩ := HZ4.out
  go_wp2
  refine bodyPost_ret (by simp [results, Tryd.results27, go_sem, k0, k1, k2, k3]; rfl) rfl ?_
  exact ⟨rfl, (((b4.setCell (Nat.le_refl _) _).setCell (Nat.le_refl _) _).setCell (Nat.le_refl _) _).setCell (Nat.le_refl _) _⟩
set_option maxHeartbeats 800000 in
theorem decode_no (ao : Option Addr) (n cap : Nat) (w : World) (_hn : n ≤ 9223372036854775807) (hne : n ≠ 16) :
    Calls Tryd.prog 27 #[.slice ao n cap] w fun e w' => e = .returned (.tuple #[.agg #[.int .u64 0, .int .u32 0, .int .u8 0, .int .u64 0], .bool false]) ∧ Below w.heap.size w w' := by
  have hne' : ¬ (n : Int) = 16 := by omega
  go_enter Tryd.func27, Tryd.ntmps27
  go_wp2
  go_returns
  exact ⟨rfl, below_alloc _ _⟩
end Go.Proofs.YtmgbcnlnikchbaaDoor
