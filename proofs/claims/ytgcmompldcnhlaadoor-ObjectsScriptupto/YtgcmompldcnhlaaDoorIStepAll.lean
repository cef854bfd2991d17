/-
  The statements' own step, of any deed: a contract.
-/
import Derived.Test.YtgcmompldcnhlaaDoorIStepCheck
import Derived.Test.YtgcmompldcnhlaaDoorIStepTouch
import Derived.Test.YtgcmompldcnhlaaDoorIStepDestroy
import Derived.Test.YtgcmompldcnhlaaDoorIStepCreate0
import Derived.Test.YtgcmompldcnhlaaDoorIStepCreate1
import Derived.Test.YtgcmompldcnhlaaDoorIStepInfo
import Derived.Test.YtgcmompldcnhlaaDoorIStepRestrict
import Derived.Test.YtgcmompldcnhlaaDoorIStepRevoke
import Derived.Test.YtgcmompldcnhlaaDoorIStepAge
namespace Go.Proofs.YtgcmompldcnhlaaDoor
open Go.RowKit
variable {w0 w w1 w2 w' : World} {g mg p N : Nat} {ws : List Nat} {t : Nat} {es : List Ent} {T : Nat → Ob} {v : Value} {L : List Cp}
theorem step_any (o wh ch wi : Nat) (w : World) (S : St N w0 w g mg p ws t es T v L) (hN : N < 2000000) (ho : o ≤ 255) (hwh : wh ≤ 255) (hch : ch ≤ 255) (hwi : wi ≤ 255) :
    Calls Tryd.prog 12 #[.pointer (some ⟨mg, 0, none⟩), .pointer (some ⟨g, 0, none⟩), .agg #[.int .u8 (o : Int), .int .u8 (wh : Int), .int .u8 (ch : Int), .int .u8 (wi : Int)], v] w fun e w' => StepEnd N w0 g mg p ws e w' := by
  rcases (by omega : o % 9 = 0 ∨ o % 9 = 1 ∨ o % 9 = 2 ∨ o % 9 = 3 ∨ o % 9 = 4 ∨ o % 9 = 5 ∨ o % 9 = 6 ∨ o % 9 = 7 ∨ o % 9 = 8) with h | h | h | h | h | h | h | h | h
  · exact step_create0 o wh ch wi w S hN ho hwh hch hwi h
  · exact step_create1 o wh ch wi w S hN ho hwh hch hwi h
  · exact step_check o wh ch wi w S hN ho hwh hch hwi h
  · exact step_restrict o wh ch wi w S hN ho hwh hch hwi h
  · exact step_revoke o wh ch wi w S hN ho hwh hch hwi h
  · exact step_destroy o wh ch wi w S hN ho hwh hch hwi h
  · exact step_touch o wh ch wi w S hN ho hwh hch hwi h
  · exact step_info o wh ch wi w S hN ho hwh hch hwi h
  · exact step_age o wh ch wi w S hN ho hwh hch hwi h
end Go.Proofs.YtgcmompldcnhlaaDoor
