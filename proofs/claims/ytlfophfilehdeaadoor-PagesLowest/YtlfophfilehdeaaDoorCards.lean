/-
  DERIVED. GIVEN WITH THE SEED: THE CARDS: each row of YtlfophfilehdeaaDoorRows.lean that lists a variable, with what it lists TIED to the program's text (the seventh form; the later family's looks); each row that meets fmt, with fmt's text TOLD by the authors' own Lean function (tested against real Go, not proved from fmt's source: count such statements apart). THE CARD IS WHAT COUNTS. Prove the row's statement (the work); the ties are given (YtlfophfilehdeaaDoorTie.lean); close each card by the builder's one call (the guide's Derived/Test/ToyasCard.lean, 'card_holds'). Laid BY PROGRAM, IN A SANDBOX (cutbox-door.mjs). By AI agents, Wed Nov 11 2026. No macro, syntax, notation, axiom, sorry.
-/
import Derived.Test.YtlfophfilehdeaaDoorRows
import GoSem.ClaimSeven
namespace Go.Proofs.YtlfophfilehdeaaDoor
namespace Rows

/-- THE TIED CARD OF 'sigillumlaw08.PagesLowest'. -/
def pagesLowestCard : Claim7 := { stood := { row := pagesLowestRow, standIns := [], harness := (true, "fd5a4715d0b382b65fa68081ae2c608498c49b7d077d1d329c4f27cbbd91f714"), looks := true }, kinds := [], alts := [], laidByText := true, laidKinds := [.handle], laidTests := true, laidLooks := .later }
def PagesLowestCardSaid : Prop := Claim7.holds Tryd.pinned (.plain (OpenSpec.ofChange pagesLowestSpec)) pagesLowestCard

/-- THE SECOND FORM's CARD OF 'sigillumlaw08.PagesLowest'. -/
def pagesLowestUptoCard : Claim7 := { stood := { row := pagesLowestUptoRow, standIns := [], harness := (true, "fd5a4715d0b382b65fa68081ae2c608498c49b7d077d1d329c4f27cbbd91f714"), looks := true }, kinds := [], alts := [], laidByText := true, laidKinds := [.handle], laidTests := true, laidLooks := .later }
def PagesLowestUptoCardSaid : Prop := Claim7.holds Tryd.pinned (.plain (OpenSpec.upto pagesLowestSpec)) pagesLowestUptoCard
end Rows
end Go.Proofs.YtlfophfilehdeaaDoor
