/-
  DERIVED. GIVEN WITH THE SEED: THE CARDS: each row of YtgcmompldcnhlaaDoorRows.lean that lists a variable, with what it lists TIED to the program's text (the seventh form; the later family's looks); each row that meets fmt, with fmt's text TOLD by the authors' own Lean function (tested against real Go, not proved from fmt's source: count such statements apart). THE CARD IS WHAT COUNTS. Prove the row's statement (the work); the ties are given (YtgcmompldcnhlaaDoorTie.lean); close each card by the builder's one call (the guide's Derived/Test/ToyasCard.lean, 'card_holds'). Laid BY PROGRAM, IN A SANDBOX (cutbox-door.mjs). By AI agents, Wed Nov 11 2026. No macro, syntax, notation, axiom, sorry.
-/
import Derived.Test.YtgcmompldcnhlaaDoorRows
import GoSem.ClaimSeven
namespace Go.Proofs.YtgcmompldcnhlaaDoor
namespace Rows

/-- THE TIED CARD OF 'sigillumlaw23.ObjectsScript'. -/
def objectsScriptCard : Claim7 := { stood := { row := objectsScriptRow, standIns := [], harness := (true, "2283a81e52ce258eb7e908aa710ebd4d47ea125f7f4b075220eea7be1bdbc6c1"), looks := true }, kinds := [], alts := [], laidByText := true, laidKinds := [.handle], laidTests := true, laidLooks := .later }
def ObjectsScriptCardSaid : Prop := Claim7.holds Tryd.pinned (.plain (OpenSpec.ofChange objectsScriptSpec)) objectsScriptCard

/-- THE TIED CARD OF 'sigillumlaw23.ObjectsForged'. -/
def objectsForgedCard : Claim7 := { stood := { row := objectsForgedRow, standIns := [], harness := (true, "2283a81e52ce258eb7e908aa710ebd4d47ea125f7f4b075220eea7be1bdbc6c1"), looks := true }, kinds := [], alts := [], laidByText := true, laidKinds := [.handle], laidTests := true, laidLooks := .later }
def ObjectsForgedCardSaid : Prop := Claim7.holds Tryd.pinned (.plain (OpenSpec.ofChange objectsForgedSpec)) objectsForgedCard

/-- THE TIED CARD OF 'sigillumlaw23.ObjectsRevoke'. -/
def objectsRevokeCard : Claim7 := { stood := { row := objectsRevokeRow, standIns := [], harness := (true, "2283a81e52ce258eb7e908aa710ebd4d47ea125f7f4b075220eea7be1bdbc6c1"), looks := true }, kinds := [], alts := [], laidByText := true, laidKinds := [.handle], laidTests := true, laidLooks := .later }
def ObjectsRevokeCardSaid : Prop := Claim7.holds Tryd.pinned (.plain (OpenSpec.ofChange objectsRevokeSpec)) objectsRevokeCard

/-- THE TIED CARD OF 'sigillumlaw23.ObjectsNarrow'. -/
def objectsNarrowCard : Claim7 := { stood := { row := objectsNarrowRow, standIns := [], harness := (true, "2283a81e52ce258eb7e908aa710ebd4d47ea125f7f4b075220eea7be1bdbc6c1"), looks := true }, kinds := [], alts := [], laidByText := true, laidKinds := [.handle], laidTests := true, laidLooks := .later }
def ObjectsNarrowCardSaid : Prop := Claim7.holds Tryd.pinned (.plain (OpenSpec.ofChange objectsNarrowSpec)) objectsNarrowCard

/-- THE TIED CARD OF 'sigillumlaw23.ObjectsGone'. -/
def objectsGoneCard : Claim7 := { stood := { row := objectsGoneRow, standIns := [], harness := (true, "2283a81e52ce258eb7e908aa710ebd4d47ea125f7f4b075220eea7be1bdbc6c1"), looks := true }, kinds := [], alts := [], laidByText := true, laidKinds := [.handle], laidTests := true, laidLooks := .later }
def ObjectsGoneCardSaid : Prop := Claim7.holds Tryd.pinned (.plain (OpenSpec.ofChange objectsGoneSpec)) objectsGoneCard

/-- THE SECOND FORM's CARD OF 'sigillumlaw23.ObjectsScript'. -/
def objectsScriptUptoCard : Claim7 := { stood := { row := objectsScriptUptoRow, standIns := [], harness := (true, "2283a81e52ce258eb7e908aa710ebd4d47ea125f7f4b075220eea7be1bdbc6c1"), looks := true }, kinds := [], alts := [], laidByText := true, laidKinds := [.handle], laidTests := true, laidLooks := .later }
def ObjectsScriptUptoCardSaid : Prop := Claim7.holds Tryd.pinned (.plain (OpenSpec.upto objectsScriptSpec)) objectsScriptUptoCard

/-- THE SECOND FORM's CARD OF 'sigillumlaw23.ObjectsForged'. -/
def objectsForgedUptoCard : Claim7 := { stood := { row := objectsForgedUptoRow, standIns := [], harness := (true, "2283a81e52ce258eb7e908aa710ebd4d47ea125f7f4b075220eea7be1bdbc6c1"), looks := true }, kinds := [], alts := [], laidByText := true, laidKinds := [.handle], laidTests := true, laidLooks := .later }
def ObjectsForgedUptoCardSaid : Prop := Claim7.holds Tryd.pinned (.plain (OpenSpec.upto objectsForgedSpec)) objectsForgedUptoCard

/-- THE SECOND FORM's CARD OF 'sigillumlaw23.ObjectsRevoke'. -/
def objectsRevokeUptoCard : Claim7 := { stood := { row := objectsRevokeUptoRow, standIns := [], harness := (true, "2283a81e52ce258eb7e908aa710ebd4d47ea125f7f4b075220eea7be1bdbc6c1"), looks := true }, kinds := [], alts := [], laidByText := true, laidKinds := [.handle], laidTests := true, laidLooks := .later }
def ObjectsRevokeUptoCardSaid : Prop := Claim7.holds Tryd.pinned (.plain (OpenSpec.upto objectsRevokeSpec)) objectsRevokeUptoCard

/-- THE SECOND FORM's CARD OF 'sigillumlaw23.ObjectsNarrow'. -/
def objectsNarrowUptoCard : Claim7 := { stood := { row := objectsNarrowUptoRow, standIns := [], harness := (true, "2283a81e52ce258eb7e908aa710ebd4d47ea125f7f4b075220eea7be1bdbc6c1"), looks := true }, kinds := [], alts := [], laidByText := true, laidKinds := [.handle], laidTests := true, laidLooks := .later }
def ObjectsNarrowUptoCardSaid : Prop := Claim7.holds Tryd.pinned (.plain (OpenSpec.upto objectsNarrowSpec)) objectsNarrowUptoCard

/-- THE SECOND FORM's CARD OF 'sigillumlaw23.ObjectsGone'. -/
def objectsGoneUptoCard : Claim7 := { stood := { row := objectsGoneUptoRow, standIns := [], harness := (true, "2283a81e52ce258eb7e908aa710ebd4d47ea125f7f4b075220eea7be1bdbc6c1"), looks := true }, kinds := [], alts := [], laidByText := true, laidKinds := [.handle], laidTests := true, laidLooks := .later }
def ObjectsGoneUptoCardSaid : Prop := Claim7.holds Tryd.pinned (.plain (OpenSpec.upto objectsGoneSpec)) objectsGoneUptoCard
end Rows
end Go.Proofs.YtgcmompldcnhlaaDoor
