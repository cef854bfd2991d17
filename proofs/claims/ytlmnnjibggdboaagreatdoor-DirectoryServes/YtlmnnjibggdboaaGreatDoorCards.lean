/-
  DERIVED. GIVEN WITH THE SEED: THE CARDS: each row of YtlmnnjibggdboaaGreatDoorRows.lean that lists a variable, with what it lists TIED to the program's text (the seventh form; the later family's looks); each row that meets fmt, with fmt's text TOLD by the authors' own Lean function (tested against real Go, not proved from fmt's source: count such statements apart). THE CARD IS WHAT COUNTS. Prove the row's statement (the work); the ties are given (YtlmnnjibggdboaaGreatDoorTie.lean); close each card by the builder's one call (the guide's Derived/Test/ToyasCard.lean, 'card_holds'). Laid BY PROGRAM, IN A SANDBOX (cutbox-door.mjs). By AI agents, Wed Nov 11 2026. No macro, syntax, notation, axiom, sorry.
-/
import Derived.Test.YtlmnnjibggdboaaGreatDoorRows
import GoSem.ClaimSeven
namespace Go.Proofs.YtlmnnjibggdboaaGreatDoor
namespace Rows

/-- THE TIED CARD OF 'sigillumlaw26.DirectoryServes'. -/
def directoryServesCard : Claim7 := { stood := { row := directoryServesRow, standIns := [], harness := (true, "79c238cb85c8febabf551f047584596c92a389df60ca711169a7792d42548d16"), looks := true }, kinds := [], alts := [], laidByText := true, laidKinds := [.handle], laidTests := true, laidLooks := .later }
def DirectoryServesCardSaid : Prop := Claim7.holds Tryz.pinned (.plain (OpenSpec.ofChange directoryServesSpec)) directoryServesCard

/-- THE TIED CARD OF 'sigillumlaw26.DirectoryNeeds'. -/
def directoryNeedsCard : Claim7 := { stood := { row := directoryNeedsRow, standIns := [], harness := (true, "79c238cb85c8febabf551f047584596c92a389df60ca711169a7792d42548d16"), looks := true }, kinds := [], alts := [], laidByText := true, laidKinds := [.handle], laidTests := true, laidLooks := .later }
def DirectoryNeedsCardSaid : Prop := Claim7.holds Tryz.pinned (.plain (OpenSpec.ofChange directoryNeedsSpec)) directoryNeedsCard

/-- THE TIED CARD OF 'sigillumlaw26.DirectoryMask'. -/
def directoryMaskCard : Claim7 := { stood := { row := directoryMaskRow, standIns := [], harness := (true, "79c238cb85c8febabf551f047584596c92a389df60ca711169a7792d42548d16"), looks := true }, kinds := [], alts := [], laidByText := true, laidKinds := [.handle], laidTests := true, laidLooks := .later }
def DirectoryMaskCardSaid : Prop := Claim7.holds Tryz.pinned (.plain (OpenSpec.ofChange directoryMaskSpec)) directoryMaskCard

/-- THE TIED CARD OF 'sigillumlaw26.DirectoryNames'. -/
def directoryNamesCard : Claim7 := { stood := { row := directoryNamesRow, standIns := [], harness := (true, "79c238cb85c8febabf551f047584596c92a389df60ca711169a7792d42548d16"), looks := true }, kinds := [], alts := [], laidByText := true, laidKinds := [.handle], laidTests := true, laidLooks := .later }
def DirectoryNamesCardSaid : Prop := Claim7.holds Tryz.pinned (.plain (OpenSpec.ofChange directoryNamesSpec)) directoryNamesCard

/-- THE TIED CARD OF 'sigillumlaw26.DirectoryReplaced'. -/
def directoryReplacedCard : Claim7 := { stood := { row := directoryReplacedRow, standIns := [], harness := (true, "79c238cb85c8febabf551f047584596c92a389df60ca711169a7792d42548d16"), looks := true }, kinds := [], alts := [], laidByText := true, laidKinds := [.handle], laidTests := true, laidLooks := .later }
def DirectoryReplacedCardSaid : Prop := Claim7.holds Tryz.pinned (.plain (OpenSpec.ofChange directoryReplacedSpec)) directoryReplacedCard

/-- THE SECOND FORM's CARD OF 'sigillumlaw26.DirectoryServes'. -/
def directoryServesUptoCard : Claim7 := { stood := { row := directoryServesUptoRow, standIns := [], harness := (true, "79c238cb85c8febabf551f047584596c92a389df60ca711169a7792d42548d16"), looks := true }, kinds := [], alts := [], laidByText := true, laidKinds := [.handle], laidTests := true, laidLooks := .later }
def DirectoryServesUptoCardSaid : Prop := Claim7.holds Tryz.pinned (.plain (OpenSpec.upto directoryServesSpec)) directoryServesUptoCard

/-- THE SECOND FORM's CARD OF 'sigillumlaw26.DirectoryNeeds'. -/
def directoryNeedsUptoCard : Claim7 := { stood := { row := directoryNeedsUptoRow, standIns := [], harness := (true, "79c238cb85c8febabf551f047584596c92a389df60ca711169a7792d42548d16"), looks := true }, kinds := [], alts := [], laidByText := true, laidKinds := [.handle], laidTests := true, laidLooks := .later }
def DirectoryNeedsUptoCardSaid : Prop := Claim7.holds Tryz.pinned (.plain (OpenSpec.upto directoryNeedsSpec)) directoryNeedsUptoCard

/-- THE SECOND FORM's CARD OF 'sigillumlaw26.DirectoryMask'. -/
def directoryMaskUptoCard : Claim7 := { stood := { row := directoryMaskUptoRow, standIns := [], harness := (true, "79c238cb85c8febabf551f047584596c92a389df60ca711169a7792d42548d16"), looks := true }, kinds := [], alts := [], laidByText := true, laidKinds := [.handle], laidTests := true, laidLooks := .later }
def DirectoryMaskUptoCardSaid : Prop := Claim7.holds Tryz.pinned (.plain (OpenSpec.upto directoryMaskSpec)) directoryMaskUptoCard

/-- THE SECOND FORM's CARD OF 'sigillumlaw26.DirectoryNames'. -/
def directoryNamesUptoCard : Claim7 := { stood := { row := directoryNamesUptoRow, standIns := [], harness := (true, "79c238cb85c8febabf551f047584596c92a389df60ca711169a7792d42548d16"), looks := true }, kinds := [], alts := [], laidByText := true, laidKinds := [.handle], laidTests := true, laidLooks := .later }
def DirectoryNamesUptoCardSaid : Prop := Claim7.holds Tryz.pinned (.plain (OpenSpec.upto directoryNamesSpec)) directoryNamesUptoCard

/-- THE SECOND FORM's CARD OF 'sigillumlaw26.DirectoryReplaced'. -/
def directoryReplacedUptoCard : Claim7 := { stood := { row := directoryReplacedUptoRow, standIns := [], harness := (true, "79c238cb85c8febabf551f047584596c92a389df60ca711169a7792d42548d16"), looks := true }, kinds := [], alts := [], laidByText := true, laidKinds := [.handle], laidTests := true, laidLooks := .later }
def DirectoryReplacedUptoCardSaid : Prop := Claim7.holds Tryz.pinned (.plain (OpenSpec.upto directoryReplacedSpec)) directoryReplacedUptoCard
end Rows
end Go.Proofs.YtlmnnjibggdboaaGreatDoor
