/-
  Messages: their parts, where their cells lie, their bytes; what May answers of one.
-/
import Derived.Test.YtmgbcnlnikchbaaDoorNums
import Derived.Test.YtmgbcnlnikchbaaDoorCMore
import Derived.Test.YtmgbcnlnikchbaaDoorErrIs
namespace Go.Proofs.YtmgbcnlnikchbaaDoor
open Go.RowKit
structure Msg where
  ta : Nat
  rp : Nat
  id : Nat
  op : Nat
  st : Nat
  p : Nat
  o : Nat
  r : Nat
  c : Nat
  ar : Nat
/- its parts fit their kinds -/
def Msg.ok (m : Msg) : Prop := m.ta ≤ 18446744073709551615 ∧ m.rp ≤ 18446744073709551615 ∧ m.id ≤ 4294967295 ∧ m.op ≤ 65535 ∧ m.st ≤ 65535 ∧ m.p ≤ 18446744073709551615 ∧ m.o ≤ 4294967295 ∧ m.r ≤ 255 ∧ m.c ≤ 18446744073709551615 ∧ m.ar ≤ 18446744073709551615
/- its parts fit their bytes -/
def Msg.good (m : Msg) : Prop := m.ta ≤ 281474976710655 ∧ m.rp ≤ 281474976710655 ∧ m.id ≤ 4294967295 ∧ m.op ≤ 65535 ∧ m.st ≤ 65535 ∧ m.p ≤ 281474976710655 ∧ m.o ≤ 16777215 ∧ m.r ≤ 255 ∧ m.c ≤ 281474976710655 ∧ m.ar ≤ 18446744073709551615
theorem Msg.good_ok {m : Msg} (h : m.good) : m.ok := by unfold Msg.good at h; unfold Msg.ok; omega
def Msg.zero : Msg := ⟨0, 0, 0, 0, 0, 0, 0, 0, 0, 0⟩
/- may the message be? -/
def hmayD (m : Msg) (n : Nat) : Bool := decide (m.ta ≤ 281474976710655 ∧ m.rp ≤ 281474976710655 ∧ (m.p ≤ 281474976710655 ∧ m.o ≤ 16777215 ∧ m.c ≤ 281474976710655) ∧ n ≤ 4096)
def MBox (w : World) (g : Nat) (m : Msg) (D : Value) : Prop := (w.cell? ⟨g, 0, none⟩ = some (.int .u64 m.ta) ∧ w.cell? ⟨g, 1, none⟩ = some (.int .u64 m.rp) ∧ w.cell? ⟨g, 2, none⟩ = some (.int .u32 m.id) ∧ w.cell? ⟨g, 3, none⟩ = some (.int .u16 m.op) ∧ w.cell? ⟨g, 4, none⟩ = some (.int .u16 m.st) ∧ w.cell? ⟨g, 5, none⟩ = some (.int .u64 m.p) ∧ w.cell? ⟨g, 6, none⟩ = some (.int .u32 m.o) ∧ w.cell? ⟨g, 7, none⟩ = some (.int .u8 m.r) ∧ w.cell? ⟨g, 8, none⟩ = some (.int .u64 m.c) ∧ w.cell? ⟨g, 9, none⟩ = some (.int .u64 m.ar) ∧ w.cell? ⟨g, 10, none⟩ = some (D))
def MFree (w : World) (g : Nat) : Prop := (w.frozen? ⟨g, 0, none⟩ = false ∧ w.frozen? ⟨g, 1, none⟩ = false ∧ w.frozen? ⟨g, 2, none⟩ = false ∧ w.frozen? ⟨g, 3, none⟩ = false ∧ w.frozen? ⟨g, 4, none⟩ = false ∧ w.frozen? ⟨g, 5, none⟩ = false ∧ w.frozen? ⟨g, 6, none⟩ = false ∧ w.frozen? ⟨g, 7, none⟩ = false ∧ w.frozen? ⟨g, 8, none⟩ = false ∧ w.frozen? ⟨g, 9, none⟩ = false ∧ w.frozen? ⟨g, 10, none⟩ = false)
theorem mbox_new (w : World) (m : Msg) (D : Value) : MBox (w.alloc (.cells #[.int .u64 m.ta, .int .u64 m.rp, .int .u32 m.id, .int .u16 m.op, .int .u16 m.st, .int .u64 m.p, .int .u32 m.o, .int .u8 m.r, .int .u64 m.c, .int .u64 m.ar, D] 29)) w.heap.size m D := by
  refine ⟨?_, ?_, ?_, ?_, ?_, ?_, ?_, ?_, ?_, ?_, ?_⟩ <;> simp
theorem mfree_new (w : World) (cs : Array Value) : MFree (w.alloc (.cells cs 29)) w.heap.size := by
  refine ⟨?_, ?_, ?_, ?_, ?_, ?_, ?_, ?_, ?_, ?_, ?_⟩ <;> simp
theorem MBox.lt {w : World} {g : Nat} {m : Msg} {D : Value} (h : MBox w g m D) : g < w.heap.size := lt_of_cell h.1
theorem MBox.carry {w w' : World} {g : Nat} {m : Msg} {D : Value} (h : MBox w g m D) (b : Below w.heap.size w w') : MBox w' g m D := by
  have hl := h.lt
  obtain ⟨k0, k1, k2, k3, k4, k5, k6, k7, k8, k9, k10⟩ := h
  refine ⟨?_, ?_, ?_, ?_, ?_, ?_, ?_, ?_, ?_, ?_, ?_⟩ <;> (rw [b.cell (by exact hl)]; assumption)
theorem MFree.carry {w w' : World} {g : Nat} (h : MFree w g) (hl : g < w.heap.size) (b : Below w.heap.size w w') : MFree w' g := by
  obtain ⟨z0, z1, z2, z3, z4, z5, z6, z7, z8, z9, z10⟩ := h
  refine ⟨?_, ?_, ?_, ?_, ?_, ?_, ?_, ?_, ?_, ?_, ?_⟩ <;> (rw [b.frozen (by exact hl)]; assumption)
theorem below_one {w w1 : World} (h : Below w.heap.size w w1) {w2 : World} (k : Below w1.heap.size w1 w2) : Below w.heap.size w w2 := h.trans (k.mono h.size)
set_option maxHeartbeats 800000 in
theorem hmay_any (m : Msg) (ao : Option Addr) (n cap : Nat) (w : World) (hm : m.ok) (hn : n ≤ 9223372036854775807) :
    Calls Tryd.prog 14 #[.agg #[.int .u64 m.ta, .int .u64 m.rp, .int .u32 m.id, .int .u16 m.op, .int .u16 m.st, .int .u64 m.p, .int .u32 m.o, .int .u8 m.r, .int .u64 m.c, .int .u64 m.ar, .slice ao n cap]] w fun e w' => e = .returned (.bool (hmayD m n)) ∧ Below w.heap.size w w' := by
  obtain ⟨o0, o1, o2, o3, o4, o5, o6, o7, o8, o9⟩ := hm
  have HT : Hid (Below w.heap.size w (w.alloc (.cells #[.int .u64 m.ta, .int .u64 m.rp, .int .u32 m.id, .int .u16 m.op, .int .u16 m.st, .int .u64 m.p, .int .u32 m.o, .int .u8 m.r, .int .u64 m.c, .int .u64 m.ar, .slice ao n cap] 29))) := below_alloc _ _
  have HX : Hid (MBox (w.alloc (.cells #[.int .u64 m.ta, .int .u64 m.rp, .int .u32 m.id, .int .u16 m.op, .int .u16 m.st, .int .u64 m.p, .int .u32 m.o, .int .u8 m.r, .int .u64 m.c, .int .u64 m.ar, .slice ao n cap] 29)) w.heap.size m (.slice ao n cap)) := mbox_new w m _
  by_cases h1 : m.ta ≤ 281474976710655
  · by_cases h2 : m.rp ≤ 281474976710655
    · obtain ⟨q, hq⟩ : ∃ q, mayD m.p m.o m.c = q := ⟨_, rfl⟩
      have HQ : Hid _ := hq
      clear hq
      cases q with
      | true =>
        have HR : Hid (hmayD m n = decide ((n : Int) ≤ 4096)) := by
          have := of_decide_eq_true HQ.out
          show hmayD m n = _
          unfold hmayD; apply decide_eq_decide.2; omega
        rw [HR.out]
        go_enter Tryd.func14, Tryd.ntmps14
        go_wp2_with fail
        refine (may_at m.p m.o m.r m.c _ o5 o6 o7 o8).mono ?_; rintro e w1 ⟨rfl, bel1⟩
        rw [HQ.out]
        obtain ⟨k0, k1, k2, k3, k4, k5, k6, k7, k8, k9, k10⟩ := HX.out.carry bel1
        go_wp2
        go_ret
        exact ⟨rfl, below_one HT.out bel1⟩
      | false =>
        have HR : Hid (hmayD m n = false) := by
          have := of_decide_eq_false HQ.out
          show hmayD m n = _
          unfold hmayD; apply decide_eq_false; omega
        rw [HR.out]
        go_enter Tryd.func14, Tryd.ntmps14
        go_wp2_with fail
        refine (may_at m.p m.o m.r m.c _ o5 o6 o7 o8).mono ?_; rintro e w1 ⟨rfl, bel1⟩
        rw [HQ.out]
        go_wp2
        go_ret
        exact ⟨rfl, below_one HT.out bel1⟩
    · rw [show hmayD m n = false from by unfold hmayD; apply decide_eq_false; omega]
      go_enter Tryd.func14, Tryd.ntmps14
      go_wp2
      go_ret
      exact ⟨rfl, HT.out⟩
  · rw [show hmayD m n = false from by unfold hmayD; apply decide_eq_false; omega]
    go_enter Tryd.func14, Tryd.ntmps14
    go_wp2
    go_ret
    exact ⟨rfl, HT.out⟩
end Go.Proofs.YtmgbcnlnikchbaaDoor
