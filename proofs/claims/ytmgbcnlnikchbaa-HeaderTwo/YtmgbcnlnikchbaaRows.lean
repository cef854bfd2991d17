/-
  No cell of these rows narrows 'for every input' (looked for: loops, veiled, ifaces, maps, wideKeys, modest, calm, conditions, laid).
  DERIVED. THE GIVEN ROWS OF THIS SEAT. 4 by the template 'for every input the law returns true; each argument reads behind the call as it read before'; 0 by the template 'total and deterministic' (their statements: YtmgbcnlnikchbaaTotals.lean).
  GIVEN WITH THE SEED: the statements are not yours to turn. If you find one false, say at which input.
  Laid BY PROGRAM, IN A SANDBOX (cutbox-rows.mjs): the forced cells as the released guide's own fill.sh prints them over the translation 4af0337f47170898… (all of the seat's roots in one cut). By AI agents, Wed Nov 11 2026. No macro, syntax, notation, axiom, sorry.
-/
import Derived.Test.YtmgbcnlnikchbaaChecked
import GoSem.Claim
import GoSem.ClaimJoined
import GoSem.ClaimMapViews
import Derived.JoinedTies
import Derived.KernelRfl
namespace Go.Proofs.Ytmgbcnlnikchbaa
/- THE CELL 'sum', in the pinned program and in every row, IS THE sha256 OF THE DUMP (.gsa) THAT YtmgbcnlnikchbaaProg.lean LOADS. Nothing in Lean hashes anything: it is a label: what it is worth is what the hold of that sum in a sandbox is worth. -/
noncomputable def Try.pinned : Pinned := { name := "ytmgbcnlnikchbaa", sum := "4af0337f471708985750b32d1995da1a4f2886344847f909db37b2f412d93aa6", checked := Try.checked }
namespace Rows
def none {H : Type} : Left H := { results := [], args := [] }

/-- 'sigillumlaw04.HeaderEncode': WHATEVER THE INPUT: true; the input reads as it did. -/
def headerEncodeSpec : ChangeSpec := { name := "headerEncode", fn := fun _ => fun
  | [d] => { results := [.lit (.bool true)], args := [d] }
  | _ => none }
def headerEncodeRow : OpenClaim := { program := "ytmgbcnlnikchbaa", sum := "4af0337f471708985750b32d1995da1a4f2886344847f909db37b2f412d93aa6", func := "sigillum/sigillumlaw04.HeaderEncode", spec := "headerEncode", inPlace := ["internal/reflectlite.TypeOf"], unfollowed := true, recurses := true, apart := false }
def HeaderEncodeSaid : Prop := headerEncodeRow.holds Try.pinned (OpenSpec.ofChange headerEncodeSpec)

/-- ITS FALSE NEIGHBOUR: 'it returns false'. Refute it at one input. -/
def headerEncodeWrong : ChangeSpec := { name := "headerEncode", fn := fun _ => fun
  | [d] => { results := [.lit (.bool false)], args := [d] }
  | _ => none }
def HeaderEncodeWrongFalsely : Prop := headerEncodeRow.holds Try.pinned (OpenSpec.ofChange headerEncodeWrong)

/-- 'sigillumlaw04.HeaderBack': WHATEVER THE INPUT: true; the input reads as it did. -/
def headerBackSpec : ChangeSpec := { name := "headerBack", fn := fun _ => fun
  | [d1, d2] => { results := [.lit (.bool true)], args := [d1, d2] }
  | _ => none }
def headerBackRow : OpenClaim := { program := "ytmgbcnlnikchbaa", sum := "4af0337f471708985750b32d1995da1a4f2886344847f909db37b2f412d93aa6", func := "sigillum/sigillumlaw04.HeaderBack", spec := "headerBack", inPlace := ["internal/reflectlite.TypeOf"], unfollowed := true, recurses := true, apart := false }
def HeaderBackSaid : Prop := headerBackRow.holds Try.pinned (OpenSpec.ofChange headerBackSpec)

/-- ITS FALSE NEIGHBOUR: 'it returns false'. Refute it at one input. -/
def headerBackWrong : ChangeSpec := { name := "headerBack", fn := fun _ => fun
  | [d1, d2] => { results := [.lit (.bool false)], args := [d1, d2] }
  | _ => none }
def HeaderBackWrongFalsely : Prop := headerBackRow.holds Try.pinned (OpenSpec.ofChange headerBackWrong)

/-- 'sigillumlaw04.HeaderTwo': WHATEVER THE INPUT: true; the input reads as it did. -/
def headerTwoSpec : ChangeSpec := { name := "headerTwo", fn := fun _ => fun
  | [d1, d2] => { results := [.lit (.bool true)], args := [d1, d2] }
  | _ => none }
def headerTwoRow : OpenClaim := { program := "ytmgbcnlnikchbaa", sum := "4af0337f471708985750b32d1995da1a4f2886344847f909db37b2f412d93aa6", func := "sigillum/sigillumlaw04.HeaderTwo", spec := "headerTwo", inPlace := ["internal/reflectlite.TypeOf"], unfollowed := true, recurses := true, apart := false }
def HeaderTwoSaid : Prop := headerTwoRow.holds Try.pinned (OpenSpec.ofChange headerTwoSpec)

/-- ITS FALSE NEIGHBOUR: 'it returns false'. Refute it at one input. -/
def headerTwoWrong : ChangeSpec := { name := "headerTwo", fn := fun _ => fun
  | [d1, d2] => { results := [.lit (.bool false)], args := [d1, d2] }
  | _ => none }
def HeaderTwoWrongFalsely : Prop := headerTwoRow.holds Try.pinned (OpenSpec.ofChange headerTwoWrong)

/-- 'sigillumlaw04.HeaderPlaces': WHATEVER THE INPUT: true; the input reads as it did. -/
def headerPlacesSpec : ChangeSpec := { name := "headerPlaces", fn := fun _ => fun
  | [d] => { results := [.lit (.bool true)], args := [d] }
  | _ => none }
def headerPlacesRow : OpenClaim := { program := "ytmgbcnlnikchbaa", sum := "4af0337f471708985750b32d1995da1a4f2886344847f909db37b2f412d93aa6", func := "sigillum/sigillumlaw04.HeaderPlaces", spec := "headerPlaces", inPlace := ["internal/reflectlite.TypeOf"], unfollowed := true, recurses := true, apart := false }
def HeaderPlacesSaid : Prop := headerPlacesRow.holds Try.pinned (OpenSpec.ofChange headerPlacesSpec)

/-- ITS FALSE NEIGHBOUR: 'it returns false'. Refute it at one input. -/
def headerPlacesWrong : ChangeSpec := { name := "headerPlaces", fn := fun _ => fun
  | [d] => { results := [.lit (.bool false)], args := [d] }
  | _ => none }
def HeaderPlacesWrongFalsely : Prop := headerPlacesRow.holds Try.pinned (OpenSpec.ofChange headerPlacesWrong)

/- THE SECOND FORM. 'bulk': how many values and letters a reading holds, each counted each time it is reached (what is shared counts as often as it is met; a slice's spare places count too). A statement '..UptoSaid' is the law's where the arguments, and the package variables that the reading takes, are together of bulk at most 1048576: NARROWER than '..Said'. Prove '..Said' where nothing that the law and all that it calls make is longer than what came in: it says more and counts as full. Else prove '..UptoSaid'. A law counts once. -/
mutual
def uptoBulk {H : Type} : DataW H → Nat
  | .lit (.string bytes) => bytes.length + 1
  | .lit _ => 1
  | .nil => 1
  | .ptr d => uptoBulk d + 1
  | .slice elems spare => uptoBulkAll elems + uptoBulkAll spare + 1
  | .agg parts => uptoBulkAll parts + 1
  | .iface _ d => uptoBulk d + 1
  | .map entries => uptoBulkEntries entries + 1
  | .held _ => 1
def uptoBulkAll {H : Type} : List (DataW H) → Nat
  | [] => 0
  | d :: r => uptoBulk d + uptoBulkAll r
def uptoBulkEntries {H : Type} : List (Lit × DataW H) → Nat
  | [] => 0
  | x :: r => uptoBulkEntry x + uptoBulkEntries r
def uptoBulkEntry {H : Type} : Lit × DataW H → Nat
  | (.string bytes, d) => bytes.length + uptoBulk d + 1
  | (_, d) => uptoBulk d + 1
 end
def uptoSmall : (H : Type) → List (DataW H) → Bool := fun _ ds => decide (uptoBulkAll ds ≤ 1048576)
def OpenSpec.upto (s : _root_.Go.ChangeSpec) : _root_.Go.OpenSpec := { _root_.Go.OpenSpec.ofChange s with cond := some uptoSmall }

/-- 'sigillumlaw04.HeaderEncode', WHERE WHAT IT READS IS OF BULK AT MOST 1048576: true; the input reads as it did. -/
def headerEncodeUptoRow : OpenClaim := { program := "ytmgbcnlnikchbaa", sum := "4af0337f471708985750b32d1995da1a4f2886344847f909db37b2f412d93aa6", func := "sigillum/sigillumlaw04.HeaderEncode", spec := "headerEncode", inPlace := ["internal/reflectlite.TypeOf"], unfollowed := true, recurses := true, apart := false, narrowed := true }
def HeaderEncodeUptoSaid : Prop := headerEncodeUptoRow.holds Try.pinned (OpenSpec.upto headerEncodeSpec)

/-- 'sigillumlaw04.HeaderBack', WHERE WHAT IT READS IS OF BULK AT MOST 1048576: true; the input reads as it did. -/
def headerBackUptoRow : OpenClaim := { program := "ytmgbcnlnikchbaa", sum := "4af0337f471708985750b32d1995da1a4f2886344847f909db37b2f412d93aa6", func := "sigillum/sigillumlaw04.HeaderBack", spec := "headerBack", inPlace := ["internal/reflectlite.TypeOf"], unfollowed := true, recurses := true, apart := false, narrowed := true }
def HeaderBackUptoSaid : Prop := headerBackUptoRow.holds Try.pinned (OpenSpec.upto headerBackSpec)

/-- 'sigillumlaw04.HeaderTwo', WHERE WHAT IT READS IS OF BULK AT MOST 1048576: true; the input reads as it did. -/
def headerTwoUptoRow : OpenClaim := { program := "ytmgbcnlnikchbaa", sum := "4af0337f471708985750b32d1995da1a4f2886344847f909db37b2f412d93aa6", func := "sigillum/sigillumlaw04.HeaderTwo", spec := "headerTwo", inPlace := ["internal/reflectlite.TypeOf"], unfollowed := true, recurses := true, apart := false, narrowed := true }
def HeaderTwoUptoSaid : Prop := headerTwoUptoRow.holds Try.pinned (OpenSpec.upto headerTwoSpec)

/-- 'sigillumlaw04.HeaderPlaces', WHERE WHAT IT READS IS OF BULK AT MOST 1048576: true; the input reads as it did. -/
def headerPlacesUptoRow : OpenClaim := { program := "ytmgbcnlnikchbaa", sum := "4af0337f471708985750b32d1995da1a4f2886344847f909db37b2f412d93aa6", func := "sigillum/sigillumlaw04.HeaderPlaces", spec := "headerPlaces", inPlace := ["internal/reflectlite.TypeOf"], unfollowed := true, recurses := true, apart := false, narrowed := true }
def HeaderPlacesUptoSaid : Prop := headerPlacesUptoRow.holds Try.pinned (OpenSpec.upto headerPlacesSpec)

end Rows
end Go.Proofs.Ytmgbcnlnikchbaa
