/-
  What the statements' own want answers of a message that may be, as a contract.
-/
import Derived.Test.YtmgbcnlnikchbaaDoorHEnc
import Derived.Deep.RegionHeld
import Derived.Deep.DrawnRows
namespace Go.Proofs.YtmgbcnlnikchbaaDoor
open Go.RowKit
theorem hide {p : Prop} (h : p) : Hid p := h
theorem MBox.drew {w : World} {g : Nat} {m : Msg} {D : Value} (h : MBox w g m D) : MBox w.drew g m D := h
theorem Bts.drew {w : World} {ao : Option Addr} {n cap : Nat} {l : List UInt8} (h : Bts w ao n cap l) : Bts w.drew ao n cap l := h
theorem wrap_nat (v : Nat) (h : v ≤ 18446744073709551615) : IntKind.u64.wrap (v : Int) = (v : Int) := by
  have h2 : (v : Int) < 18446744073709551616 := by omega
  show ((v : Int) % 18446744073709551616) = v
  exact Int.emod_eq_of_lt (by omega) h2
theorem put_ex (ao : Option Addr) (n cap v m N : Nat) (l : List UInt8) (w : World) (hb : Bts w ao n cap l) (hN : n + m = N) (hr : n ≤ 140737488421888) (h1 : 1 ≤ m) (h8 : m ≤ 8) (hv : v ≤ 18446744073709551615) :
    Calls Tryd.prog 15 #[.slice ao n cap, .int .u64 v, .int .i64 m] w fun e w' => ∃ g, e = .returned (.slice (some ⟨g, 0, none⟩) N N) ∧ w.heap.size ≤ g ∧
      w'.ownsRow g 5 1 (.slice (some ⟨g, 0, none⟩) N N) N (cellsB (l ++ putF v m)) ∧ Below w.heap.size w w' :=
  (put_to ao n cap v m N l w hb hN hr h1 h8 hv).mono fun _ _ h => ⟨w.heap.size, h.1, Nat.le_refl _, h.2.1, h.2.2⟩
end Go.Proofs.YtmgbcnlnikchbaaDoor
