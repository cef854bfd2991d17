/-
  A deed of a script on segments, whatever it is.
-/
import Derived.Test.YtppdammgmnihgaaDoorSStepA
import Derived.Test.YtppdammgmnihgaaDoorSStepB
import Derived.Test.YtppdammgmnihgaaDoorSStepC
import Derived.Test.YtppdammgmnihgaaDoorSStepE
namespace Go.Proofs.YtppdammgmnihgaaDoor
open Go.RowKit
variable {B st mo n : Nat} {L : Nat → Option (List UInt8)} {sl : Nat → Value} {id x y : Int} {so : Option Addr} {sn sc : Nat} {l : List UInt8}
theorem step_any (o : Nat) (w : World) (p : In w B st mo n L sl so sn sc l) (hN : Nums id x y) :
    Calls Tryd.prog 9 #[.pointer (some ⟨mo, 0, none⟩), .pointer (some ⟨st, 0, none⟩), actV (o : Int) id x y so sn sc] w fun e w' => e = .returned (.bool true) ∧ Both w B st mo n w' := by
  by_cases h0 : o % 7 = 0
  · exact step_create o w p hN h0
  · cases hp : pickF L id with
    | none => exact step_none o (o % 7) w p hN rfl h0 hp
    | some l' =>
      obtain ⟨i, rfl, hi, hl⟩ := pickF_some hp
      have h7 : o % 7 < 7 := Nat.mod_lt _ (by omega)
      obtain h | h | h | h | h | h : o % 7 = 1 ∨ o % 7 = 2 ∨ o % 7 = 3 ∨ o % 7 = 4 ∨ o % 7 = 5 ∨ o % 7 = 6 := by omega
      · exact step_delete o i l' w p hN h hi hl
      · exact step_grow o i l' w p hN h hi hl
      · exact step_write3 o i l' w p hN h hi hl
      · exact step_write4 o i l' w p hN h hi hl
      · exact step_read o i l' w p hN h hi hl
      · exact step_size o i l' w p hN h hi hl
end Go.Proofs.YtppdammgmnihgaaDoor
