/-
  DERIVED. GIVEN WITH THE SEED: THE CARDS: each row of YtdpdbiciagplkaaDoorRows.lean that lists a variable, with what it lists TIED to the program's text (the seventh form; the later family's looks); each row that meets fmt, with fmt's text TOLD by the authors' own Lean function (tested against real Go, not proved from fmt's source: count such statements apart). THE CARD IS WHAT COUNTS. Prove the row's statement (the work); the ties are given (YtdpdbiciagplkaaDoorTie.lean); close each card by the builder's one call (the guide's Derived/Test/ToyasCard.lean, 'card_holds'). Laid BY PROGRAM, IN A SANDBOX (cutbox-door.mjs). By AI agents, Wed Nov 11 2026. No macro, syntax, notation, axiom, sorry.
-/
import Derived.Test.YtdpdbiciagplkaaDoorRows
import GoSem.ClaimSeven
namespace Go.Proofs.YtdpdbiciagplkaaDoor
namespace Rows

/-- THE TIED CARD OF 'sigillumlaw07.TokenOf'. -/
def tokenOfCard : Claim7 := { stood := { row := tokenOfRow, standIns := [], harness := (true, "4888cb95141db8963bd8ba5269a551e66354b63a8ebd1116a313decf8c60b007"), looks := true }, kinds := [], alts := [], laidByText := true, laidKinds := [.handle], laidTests := true, laidLooks := .later }
def TokenOfCardSaid : Prop := Claim7.holds Tryd.pinned (.plain (OpenSpec.ofChange tokenOfSpec)) tokenOfCard

/-- THE TIED CARD OF 'sigillumlaw07.TokenGood'. -/
def tokenGoodCard : Claim7 := { stood := { row := tokenGoodRow, standIns := [], harness := (true, "4888cb95141db8963bd8ba5269a551e66354b63a8ebd1116a313decf8c60b007"), looks := true }, kinds := [], alts := [], laidByText := true, laidKinds := [.handle], laidTests := true, laidLooks := .later }
def TokenGoodCardSaid : Prop := Claim7.holds Tryd.pinned (.plain (OpenSpec.ofChange tokenGoodSpec)) tokenGoodCard

/-- THE TIED CARD OF 'sigillumlaw07.TokenDraws'. -/
def tokenDrawsCard : Claim7 := { stood := { row := tokenDrawsRow, standIns := [], harness := (true, "4888cb95141db8963bd8ba5269a551e66354b63a8ebd1116a313decf8c60b007"), looks := true }, kinds := [], alts := [], laidByText := true, laidKinds := [.handle], laidTests := true, laidLooks := .later }
def TokenDrawsCardSaid : Prop := Claim7.holds Tryd.pinned (.plain (OpenSpec.ofChange tokenDrawsSpec)) tokenDrawsCard

/-- THE SECOND FORM's CARD OF 'sigillumlaw07.TokenOf'. -/
def tokenOfUptoCard : Claim7 := { stood := { row := tokenOfUptoRow, standIns := [], harness := (true, "4888cb95141db8963bd8ba5269a551e66354b63a8ebd1116a313decf8c60b007"), looks := true }, kinds := [], alts := [], laidByText := true, laidKinds := [.handle], laidTests := true, laidLooks := .later }
def TokenOfUptoCardSaid : Prop := Claim7.holds Tryd.pinned (.plain (OpenSpec.upto tokenOfSpec)) tokenOfUptoCard

/-- THE SECOND FORM's CARD OF 'sigillumlaw07.TokenGood'. -/
def tokenGoodUptoCard : Claim7 := { stood := { row := tokenGoodUptoRow, standIns := [], harness := (true, "4888cb95141db8963bd8ba5269a551e66354b63a8ebd1116a313decf8c60b007"), looks := true }, kinds := [], alts := [], laidByText := true, laidKinds := [.handle], laidTests := true, laidLooks := .later }
def TokenGoodUptoCardSaid : Prop := Claim7.holds Tryd.pinned (.plain (OpenSpec.upto tokenGoodSpec)) tokenGoodUptoCard

/-- THE SECOND FORM's CARD OF 'sigillumlaw07.TokenDraws'. -/
def tokenDrawsUptoCard : Claim7 := { stood := { row := tokenDrawsUptoRow, standIns := [], harness := (true, "4888cb95141db8963bd8ba5269a551e66354b63a8ebd1116a313decf8c60b007"), looks := true }, kinds := [], alts := [], laidByText := true, laidKinds := [.handle], laidTests := true, laidLooks := .later }
def TokenDrawsUptoCardSaid : Prop := Claim7.holds Tryd.pinned (.plain (OpenSpec.upto tokenDrawsSpec)) tokenDrawsUptoCard
end Rows
end Go.Proofs.YtdpdbiciagplkaaDoor
