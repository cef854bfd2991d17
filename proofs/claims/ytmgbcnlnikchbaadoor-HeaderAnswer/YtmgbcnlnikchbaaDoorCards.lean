/-
  DERIVED. GIVEN WITH THE SEED: THE CARDS: each row of YtmgbcnlnikchbaaDoorRows.lean that lists a variable, with what it lists TIED to the program's text (the seventh form; the later family's looks); each row that meets fmt, with fmt's text TOLD by the authors' own Lean function (tested against real Go, not proved from fmt's source: count such statements apart). THE CARD IS WHAT COUNTS. Prove the row's statement (the work); the ties are given (YtmgbcnlnikchbaaDoorTie.lean); close each card by the builder's one call (the guide's Derived/Test/ToyasCard.lean, 'card_holds'). Laid BY PROGRAM, IN A SANDBOX (cutbox-door.mjs). By AI agents, Wed Nov 11 2026. No macro, syntax, notation, axiom, sorry.
-/
import Derived.Test.YtmgbcnlnikchbaaDoorRows
import GoSem.ClaimSeven
namespace Go.Proofs.YtmgbcnlnikchbaaDoor
namespace Rows

/-- THE TIED CARD OF 'sigillumlaw04.HeaderAnswer'. -/
def headerAnswerCard : Claim7 := { stood := { row := headerAnswerRow, standIns := [], harness := (true, "2c10f393c5bcc50c07deff01fe59daa7eeed3866abbafd1854773d773d9b8203"), looks := true }, kinds := [], alts := [], laidByText := true, laidKinds := [.handle], laidTests := true, laidLooks := .later }
def HeaderAnswerCardSaid : Prop := Claim7.holds Tryd.pinned (.plain (OpenSpec.ofChange headerAnswerSpec)) headerAnswerCard

/-- THE SECOND FORM's CARD OF 'sigillumlaw04.HeaderAnswer'. -/
def headerAnswerUptoCard : Claim7 := { stood := { row := headerAnswerUptoRow, standIns := [], harness := (true, "2c10f393c5bcc50c07deff01fe59daa7eeed3866abbafd1854773d773d9b8203"), looks := true }, kinds := [], alts := [], laidByText := true, laidKinds := [.handle], laidTests := true, laidLooks := .later }
def HeaderAnswerUptoCardSaid : Prop := Claim7.holds Tryd.pinned (.plain (OpenSpec.upto headerAnswerSpec)) headerAnswerUptoCard
end Rows
end Go.Proofs.YtmgbcnlnikchbaaDoor
