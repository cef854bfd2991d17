/-
  DERIVED. GIVEN WITH THE SEED: THE CARDS: each row of YtppdammgmnihgaaDoorRows.lean that lists a variable, with what it lists TIED to the program's text (the seventh form; the later family's looks); each row that meets fmt, with fmt's text TOLD by the authors' own Lean function (tested against real Go, not proved from fmt's source: count such statements apart). THE CARD IS WHAT COUNTS. Prove the row's statement (the work); the ties are given (YtppdammgmnihgaaDoorTie.lean); close each card by the builder's one call (the guide's Derived/Test/ToyasCard.lean, 'card_holds'). Laid BY PROGRAM, IN A SANDBOX (cutbox-door.mjs). By AI agents, Wed Nov 11 2026. No macro, syntax, notation, axiom, sorry.
-/
import Derived.Test.YtppdammgmnihgaaDoorRows
import GoSem.ClaimSeven
namespace Go.Proofs.YtppdammgmnihgaaDoor
namespace Rows

/-- THE TIED CARD OF 'sigillumlaw09.SegmentScript'. -/
def segmentScriptCard : Claim7 := { stood := { row := segmentScriptRow, standIns := [], harness := (true, "0b79d3553afd2474fdabe50e35a88b6dbc32c1fb1cd47b1ddcef30c9eb9fbc16"), looks := true }, kinds := [], alts := [], laidByText := true, laidKinds := [.handle], laidTests := true, laidLooks := .later }
def SegmentScriptCardSaid : Prop := Claim7.holds Tryd.pinned (.plain (OpenSpec.ofChange segmentScriptSpec)) segmentScriptCard

/-- THE TIED CARD OF 'sigillumlaw09.SegmentApart'. -/
def segmentApartCard : Claim7 := { stood := { row := segmentApartRow, standIns := [], harness := (true, "0b79d3553afd2474fdabe50e35a88b6dbc32c1fb1cd47b1ddcef30c9eb9fbc16"), looks := true }, kinds := [], alts := [], laidByText := true, laidKinds := [.handle], laidTests := true, laidLooks := .later }
def SegmentApartCardSaid : Prop := Claim7.holds Tryd.pinned (.plain (OpenSpec.ofChange segmentApartSpec)) segmentApartCard

/-- THE TIED CARD OF 'sigillumlaw09.SegmentGrow'. -/
def segmentGrowCard : Claim7 := { stood := { row := segmentGrowRow, standIns := [], harness := (true, "0b79d3553afd2474fdabe50e35a88b6dbc32c1fb1cd47b1ddcef30c9eb9fbc16"), looks := true }, kinds := [], alts := [], laidByText := true, laidKinds := [.handle], laidTests := true, laidLooks := .later }
def SegmentGrowCardSaid : Prop := Claim7.holds Tryd.pinned (.plain (OpenSpec.ofChange segmentGrowSpec)) segmentGrowCard

/-- THE TIED CARD OF 'sigillumlaw09.SegmentCount'. -/
def segmentCountCard : Claim7 := { stood := { row := segmentCountRow, standIns := [], harness := (true, "0b79d3553afd2474fdabe50e35a88b6dbc32c1fb1cd47b1ddcef30c9eb9fbc16"), looks := true }, kinds := [], alts := [], laidByText := true, laidKinds := [.handle], laidTests := true, laidLooks := .later }
def SegmentCountCardSaid : Prop := Claim7.holds Tryd.pinned (.plain (OpenSpec.ofChange segmentCountSpec)) segmentCountCard

/-- THE SECOND FORM's CARD OF 'sigillumlaw09.SegmentScript'. -/
def segmentScriptUptoCard : Claim7 := { stood := { row := segmentScriptUptoRow, standIns := [], harness := (true, "0b79d3553afd2474fdabe50e35a88b6dbc32c1fb1cd47b1ddcef30c9eb9fbc16"), looks := true }, kinds := [], alts := [], laidByText := true, laidKinds := [.handle], laidTests := true, laidLooks := .later }
def SegmentScriptUptoCardSaid : Prop := Claim7.holds Tryd.pinned (.plain (OpenSpec.upto segmentScriptSpec)) segmentScriptUptoCard

/-- THE SECOND FORM's CARD OF 'sigillumlaw09.SegmentApart'. -/
def segmentApartUptoCard : Claim7 := { stood := { row := segmentApartUptoRow, standIns := [], harness := (true, "0b79d3553afd2474fdabe50e35a88b6dbc32c1fb1cd47b1ddcef30c9eb9fbc16"), looks := true }, kinds := [], alts := [], laidByText := true, laidKinds := [.handle], laidTests := true, laidLooks := .later }
def SegmentApartUptoCardSaid : Prop := Claim7.holds Tryd.pinned (.plain (OpenSpec.upto segmentApartSpec)) segmentApartUptoCard

/-- THE SECOND FORM's CARD OF 'sigillumlaw09.SegmentGrow'. -/
def segmentGrowUptoCard : Claim7 := { stood := { row := segmentGrowUptoRow, standIns := [], harness := (true, "0b79d3553afd2474fdabe50e35a88b6dbc32c1fb1cd47b1ddcef30c9eb9fbc16"), looks := true }, kinds := [], alts := [], laidByText := true, laidKinds := [.handle], laidTests := true, laidLooks := .later }
def SegmentGrowUptoCardSaid : Prop := Claim7.holds Tryd.pinned (.plain (OpenSpec.upto segmentGrowSpec)) segmentGrowUptoCard

/-- THE SECOND FORM's CARD OF 'sigillumlaw09.SegmentCount'. -/
def segmentCountUptoCard : Claim7 := { stood := { row := segmentCountUptoRow, standIns := [], harness := (true, "0b79d3553afd2474fdabe50e35a88b6dbc32c1fb1cd47b1ddcef30c9eb9fbc16"), looks := true }, kinds := [], alts := [], laidByText := true, laidKinds := [.handle], laidTests := true, laidLooks := .later }
def SegmentCountUptoCardSaid : Prop := Claim7.holds Tryd.pinned (.plain (OpenSpec.upto segmentCountSpec)) segmentCountUptoCard
end Rows
end Go.Proofs.YtppdammgmnihgaaDoor
