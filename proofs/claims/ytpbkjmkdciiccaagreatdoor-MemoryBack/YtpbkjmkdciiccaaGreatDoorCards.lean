/-
  DERIVED. GIVEN WITH THE SEED: THE CARDS: each row of YtpbkjmkdciiccaaGreatDoorRows.lean that lists a variable, with what it lists TIED to the program's text (the seventh form; the later family's looks); each row that meets fmt, with fmt's text TOLD by the authors' own Lean function (tested against real Go, not proved from fmt's source: count such statements apart). THE CARD IS WHAT COUNTS. Prove the row's statement (the work); the ties are given (YtpbkjmkdciiccaaGreatDoorTie.lean); close each card by the builder's one call (the guide's Derived/Test/ToyasCard.lean, 'card_holds'). Laid BY PROGRAM, IN A SANDBOX (cutbox-door.mjs). By AI agents, Wed Nov 11 2026. No macro, syntax, notation, axiom, sorry.
-/
import Derived.Test.YtpbkjmkdciiccaaGreatDoorRows
import GoSem.ClaimSeven
namespace Go.Proofs.YtpbkjmkdciiccaaGreatDoor
namespace Rows

/-- THE TIED CARD OF 'sigillumlaw25.MemoryServes'. -/
def memoryServesCard : Claim7 := { stood := { row := memoryServesRow, standIns := [], harness := (true, "038534a4ecc1070e2a1632cb521fa007126e6082d254e837aaf92fb92023794c"), looks := true }, kinds := [], alts := [], laidByText := true, laidKinds := [.handle], laidTests := true, laidLooks := .later }
def MemoryServesCardSaid : Prop := Claim7.holds Tryz.pinned (.plain (OpenSpec.ofChange memoryServesSpec)) memoryServesCard

/-- THE TIED CARD OF 'sigillumlaw25.MemoryNeeds'. -/
def memoryNeedsCard : Claim7 := { stood := { row := memoryNeedsRow, standIns := [], harness := (true, "038534a4ecc1070e2a1632cb521fa007126e6082d254e837aaf92fb92023794c"), looks := true }, kinds := [], alts := [], laidByText := true, laidKinds := [.handle], laidTests := true, laidLooks := .later }
def MemoryNeedsCardSaid : Prop := Claim7.holds Tryz.pinned (.plain (OpenSpec.ofChange memoryNeedsSpec)) memoryNeedsCard

/-- THE TIED CARD OF 'sigillumlaw25.MemoryBack'. -/
def memoryBackCard : Claim7 := { stood := { row := memoryBackRow, standIns := [], harness := (true, "038534a4ecc1070e2a1632cb521fa007126e6082d254e837aaf92fb92023794c"), looks := true }, kinds := [], alts := [], laidByText := true, laidKinds := [.handle], laidTests := true, laidLooks := .later }
def MemoryBackCardSaid : Prop := Claim7.holds Tryz.pinned (.plain (OpenSpec.ofChange memoryBackSpec)) memoryBackCard

/-- THE TIED CARD OF 'sigillumlaw25.MemoryRights'. -/
def memoryRightsCard : Claim7 := { stood := { row := memoryRightsRow, standIns := [], harness := (true, "038534a4ecc1070e2a1632cb521fa007126e6082d254e837aaf92fb92023794c"), looks := true }, kinds := [], alts := [], laidByText := true, laidKinds := [.handle], laidTests := true, laidLooks := .later }
def MemoryRightsCardSaid : Prop := Claim7.holds Tryz.pinned (.plain (OpenSpec.ofChange memoryRightsSpec)) memoryRightsCard

/-- THE SECOND FORM's CARD OF 'sigillumlaw25.MemoryServes'. -/
def memoryServesUptoCard : Claim7 := { stood := { row := memoryServesUptoRow, standIns := [], harness := (true, "038534a4ecc1070e2a1632cb521fa007126e6082d254e837aaf92fb92023794c"), looks := true }, kinds := [], alts := [], laidByText := true, laidKinds := [.handle], laidTests := true, laidLooks := .later }
def MemoryServesUptoCardSaid : Prop := Claim7.holds Tryz.pinned (.plain (OpenSpec.upto memoryServesSpec)) memoryServesUptoCard

/-- THE SECOND FORM's CARD OF 'sigillumlaw25.MemoryNeeds'. -/
def memoryNeedsUptoCard : Claim7 := { stood := { row := memoryNeedsUptoRow, standIns := [], harness := (true, "038534a4ecc1070e2a1632cb521fa007126e6082d254e837aaf92fb92023794c"), looks := true }, kinds := [], alts := [], laidByText := true, laidKinds := [.handle], laidTests := true, laidLooks := .later }
def MemoryNeedsUptoCardSaid : Prop := Claim7.holds Tryz.pinned (.plain (OpenSpec.upto memoryNeedsSpec)) memoryNeedsUptoCard

/-- THE SECOND FORM's CARD OF 'sigillumlaw25.MemoryBack'. -/
def memoryBackUptoCard : Claim7 := { stood := { row := memoryBackUptoRow, standIns := [], harness := (true, "038534a4ecc1070e2a1632cb521fa007126e6082d254e837aaf92fb92023794c"), looks := true }, kinds := [], alts := [], laidByText := true, laidKinds := [.handle], laidTests := true, laidLooks := .later }
def MemoryBackUptoCardSaid : Prop := Claim7.holds Tryz.pinned (.plain (OpenSpec.upto memoryBackSpec)) memoryBackUptoCard

/-- THE SECOND FORM's CARD OF 'sigillumlaw25.MemoryRights'. -/
def memoryRightsUptoCard : Claim7 := { stood := { row := memoryRightsUptoRow, standIns := [], harness := (true, "038534a4ecc1070e2a1632cb521fa007126e6082d254e837aaf92fb92023794c"), looks := true }, kinds := [], alts := [], laidByText := true, laidKinds := [.handle], laidTests := true, laidLooks := .later }
def MemoryRightsUptoCardSaid : Prop := Claim7.holds Tryz.pinned (.plain (OpenSpec.upto memoryRightsSpec)) memoryRightsUptoCard
end Rows
end Go.Proofs.YtpbkjmkdciiccaaGreatDoor
