/-
  Contracts said of worlds that are letters, for regions that hold several calls; what two capabilities' cells are behind them.
-/
import Derived.Test.YtmgbcnlnikchbaaDoorDecode
namespace Go.Proofs.YtmgbcnlnikchbaaDoor
open Go.RowKit
theorem mayD_true {p o c : Nat} (hp : p ≤ 281474976710655) (ho : o ≤ 16777215) (hc : c ≤ 281474976710655) : mayD p o c = true := decide_eq_true ⟨hp, ho, hc⟩
theorem mayD_false {p o c : Nat} (h : ¬ (p ≤ 281474976710655 ∧ o ≤ 16777215 ∧ c ≤ 281474976710655)) : mayD p o c = false := decide_eq_false h
theorem may_at (p o r c : Nat) (w : World) (hp : p ≤ 18446744073709551615) (ho : o ≤ 4294967295) (hr : r ≤ 255) (hc : c ≤ 18446744073709551615) :
    Calls Tryd.prog 23 #[.agg #[.int .u64 p, .int .u32 o, .int .u8 r, .int .u64 c]] w fun e w' => e = .returned (.bool (mayD p o c)) ∧ Below w.heap.size w w' :=
  (may_any p o r c w hp ho hr hc).mono fun _ _ h => ⟨h.1, by rw [h.2]; exact below_alloc _ _⟩
end Go.Proofs.YtmgbcnlnikchbaaDoor
