/-
  DERIVED. GIVEN WITH THE SEED: THE CARDS: each row of YtjpgfldppepmiaaDoorRows.lean that lists a variable, with what it lists TIED to the program's text (the seventh form; the later family's looks); each row that meets fmt, with fmt's text TOLD by the authors' own Lean function (tested against real Go, not proved from fmt's source: count such statements apart). THE CARD IS WHAT COUNTS. Prove the row's statement (the work); the ties are given (YtjpgfldppepmiaaDoorTie.lean); close each card by the builder's one call (the guide's Derived/Test/ToyasCard.lean, 'card_holds'). Laid BY PROGRAM, IN A SANDBOX (cutbox-door.mjs). By AI agents, Wed Nov 11 2026. No macro, syntax, notation, axiom, sorry.
-/
import Derived.Test.YtjpgfldppepmiaaDoorRows
import GoSem.ClaimSeven
namespace Go.Proofs.YtjpgfldppepmiaaDoor
namespace Rows

/-- THE TIED CARD OF 'sigillumlaw24.SkeletonServes'. -/
def skeletonServesCard : Claim7 := { stood := { row := skeletonServesRow, standIns := [], harness := (true, "ac1ca9e2ca591cba71de3f84401935822cc6590ab75ac76f8067a8d4d79122e2"), looks := true }, kinds := [], alts := [], laidByText := true, laidKinds := [.handle], laidTests := true, laidLooks := .later }
def SkeletonServesCardSaid : Prop := Claim7.holds Tryd.pinned (.plain (OpenSpec.ofChange skeletonServesSpec)) skeletonServesCard

/-- THE TIED CARD OF 'sigillumlaw24.SkeletonAge'. -/
def skeletonAgeCard : Claim7 := { stood := { row := skeletonAgeRow, standIns := [], harness := (true, "ac1ca9e2ca591cba71de3f84401935822cc6590ab75ac76f8067a8d4d79122e2"), looks := true }, kinds := [], alts := [], laidByText := true, laidKinds := [.handle], laidTests := true, laidLooks := .later }
def SkeletonAgeCardSaid : Prop := Claim7.holds Tryd.pinned (.plain (OpenSpec.ofChange skeletonAgeSpec)) skeletonAgeCard

/-- THE TIED CARD OF 'sigillumlaw24.SkeletonNone'. -/
def skeletonNoneCard : Claim7 := { stood := { row := skeletonNoneRow, standIns := [], harness := (true, "ac1ca9e2ca591cba71de3f84401935822cc6590ab75ac76f8067a8d4d79122e2"), looks := true }, kinds := [], alts := [], laidByText := true, laidKinds := [.handle], laidTests := true, laidLooks := .later }
def SkeletonNoneCardSaid : Prop := Claim7.holds Tryd.pinned (.plain (OpenSpec.ofChange skeletonNoneSpec)) skeletonNoneCard

/-- THE TIED CARD OF 'sigillumlaw24.SkeletonRights'. -/
def skeletonRightsCard : Claim7 := { stood := { row := skeletonRightsRow, standIns := [], harness := (true, "ac1ca9e2ca591cba71de3f84401935822cc6590ab75ac76f8067a8d4d79122e2"), looks := true }, kinds := [], alts := [], laidByText := true, laidKinds := [.handle], laidTests := true, laidLooks := .later }
def SkeletonRightsCardSaid : Prop := Claim7.holds Tryd.pinned (.plain (OpenSpec.ofChange skeletonRightsSpec)) skeletonRightsCard

/-- THE SECOND FORM's CARD OF 'sigillumlaw24.SkeletonServes'. -/
def skeletonServesUptoCard : Claim7 := { stood := { row := skeletonServesUptoRow, standIns := [], harness := (true, "ac1ca9e2ca591cba71de3f84401935822cc6590ab75ac76f8067a8d4d79122e2"), looks := true }, kinds := [], alts := [], laidByText := true, laidKinds := [.handle], laidTests := true, laidLooks := .later }
def SkeletonServesUptoCardSaid : Prop := Claim7.holds Tryd.pinned (.plain (OpenSpec.upto skeletonServesSpec)) skeletonServesUptoCard

/-- THE SECOND FORM's CARD OF 'sigillumlaw24.SkeletonAge'. -/
def skeletonAgeUptoCard : Claim7 := { stood := { row := skeletonAgeUptoRow, standIns := [], harness := (true, "ac1ca9e2ca591cba71de3f84401935822cc6590ab75ac76f8067a8d4d79122e2"), looks := true }, kinds := [], alts := [], laidByText := true, laidKinds := [.handle], laidTests := true, laidLooks := .later }
def SkeletonAgeUptoCardSaid : Prop := Claim7.holds Tryd.pinned (.plain (OpenSpec.upto skeletonAgeSpec)) skeletonAgeUptoCard

/-- THE SECOND FORM's CARD OF 'sigillumlaw24.SkeletonNone'. -/
def skeletonNoneUptoCard : Claim7 := { stood := { row := skeletonNoneUptoRow, standIns := [], harness := (true, "ac1ca9e2ca591cba71de3f84401935822cc6590ab75ac76f8067a8d4d79122e2"), looks := true }, kinds := [], alts := [], laidByText := true, laidKinds := [.handle], laidTests := true, laidLooks := .later }
def SkeletonNoneUptoCardSaid : Prop := Claim7.holds Tryd.pinned (.plain (OpenSpec.upto skeletonNoneSpec)) skeletonNoneUptoCard

/-- THE SECOND FORM's CARD OF 'sigillumlaw24.SkeletonRights'. -/
def skeletonRightsUptoCard : Claim7 := { stood := { row := skeletonRightsUptoRow, standIns := [], harness := (true, "ac1ca9e2ca591cba71de3f84401935822cc6590ab75ac76f8067a8d4d79122e2"), looks := true }, kinds := [], alts := [], laidByText := true, laidKinds := [.handle], laidTests := true, laidLooks := .later }
def SkeletonRightsUptoCardSaid : Prop := Claim7.holds Tryd.pinned (.plain (OpenSpec.upto skeletonRightsSpec)) skeletonRightsUptoCard
end Rows
end Go.Proofs.YtjpgfldppepmiaaDoor
