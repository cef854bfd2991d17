/-
  NARROWER THAN 'FOR EVERY INPUT', by the rows' own cells (each row's printed sentence says how): MemoryServes: laid · MemoryNeeds: laid · MemoryBack: laid · MemoryRights: laid.
  DERIVED. THE GIVEN ROWS OF THIS SEAT. 4 by the template 'for every input the law returns true; each argument reads behind the call as it read before'; 0 by the template 'total and deterministic' (their statements: YtpbkjmkdciiccaaGreatDoorTotals.lean).
  GIVEN WITH THE SEED: the statements are not yours to turn. If you find one false, say at which input.
  Laid BY PROGRAM, IN A SANDBOX (cutbox-rows.mjs): the forced cells as the released guide's own fill.sh prints them over the translation 0e8d7947dc304fe1… (all of the seat's roots in one cut). By AI agents, Wed Nov 11 2026. No macro, syntax, notation, axiom, sorry.
-/
import Derived.Test.YtpbkjmkdciiccaaGreatDoorChecked
import GoSem.Claim
import GoSem.ClaimJoined
import GoSem.ClaimMapViews
import Derived.JoinedTies
import Derived.KernelRfl
namespace Go.Proofs.YtpbkjmkdciiccaaGreatDoor
/- THE CELL 'sum', in the pinned program and in every row, IS THE sha256 OF THE DUMP (.gsa) THAT YtpbkjmkdciiccaaGreatDoorProg.lean LOADS. Nothing in Lean hashes anything: it is a label: what it is worth is what the hold of that sum in a sandbox is worth. -/
noncomputable def Tryz.pinned : Pinned := { name := "ytpbkjmkdciiccaagreatdoor", sum := "0e8d7947dc304fe136cf9c969e61897d8b02e983bcb4321d0783594f6bf53870", checked := Tryz.checked }
namespace Rows
def none {H : Type} : Left H := { results := [], args := [] }

/- WHAT THE LISTED PACKAGE-LEVEL VARIABLES READ AS WHEN THE CALL BEGINS. Each datum BY PROGRAM (the guide's laid-datum.mjs) off the statement by which the dump's own 'gosem.cut.vars' lays the variable. In a bare row this is a premise. The card (YtpbkjmkdciiccaaGreatDoorCards.lean) ties it to the program's text. -/
def laid_errors_errorType {H : Type} : DataW H := .iface "internal/reflectlite.rtype" (.agg [.ptr (.lit (.string [101, 114, 114, 111, 114]))])

/-- 'sigillumlaw25.MemoryServes': WHATEVER THE INPUT: true; the input reads as it did. -/
def memoryServesSpec : ChangeSpec := { name := "memoryServes", fn := fun _ => fun
  | [d1, d2, d3, d4] => { results := [.lit (.bool true)], args := [d1, d2, d3, d4] }
  | _ => none }
def memoryServesRow : OpenClaim := { program := "ytpbkjmkdciiccaagreatdoor", sum := "0e8d7947dc304fe136cf9c969e61897d8b02e983bcb4321d0783594f6bf53870", func := "sigillum/sigillumlaw25.MemoryServes", spec := "memoryServes", inPlace := ["internal/reflectlite.ValueOf", "(internal/reflectlite.Value).Type", "(internal/reflectlite.Value).IsNil", "internal/reflectlite.TypeOf", "(internal/reflectlite.Value).Elem", "(internal/reflectlite.Value).Set"], unfollowed := true, recurses := true, named := ["errors.errorType"], plainKeys := false, apart := false, laid := [("errors.errorType", laid_errors_errorType)] }
def MemoryServesSaid : Prop := memoryServesRow.holds Tryz.pinned (OpenSpec.ofChange memoryServesSpec)

/-- ITS FALSE NEIGHBOUR: 'it returns false'. Refute it at one input. -/
def memoryServesWrong : ChangeSpec := { name := "memoryServes", fn := fun _ => fun
  | [d1, d2, d3, d4] => { results := [.lit (.bool false)], args := [d1, d2, d3, d4] }
  | _ => none }
def MemoryServesWrongFalsely : Prop := memoryServesRow.holds Tryz.pinned (OpenSpec.ofChange memoryServesWrong)

/-- 'sigillumlaw25.MemoryNeeds': WHATEVER THE INPUT: true; the input reads as it did. -/
def memoryNeedsSpec : ChangeSpec := { name := "memoryNeeds", fn := fun _ => fun
  | [d] => { results := [.lit (.bool true)], args := [d] }
  | _ => none }
def memoryNeedsRow : OpenClaim := { program := "ytpbkjmkdciiccaagreatdoor", sum := "0e8d7947dc304fe136cf9c969e61897d8b02e983bcb4321d0783594f6bf53870", func := "sigillum/sigillumlaw25.MemoryNeeds", spec := "memoryNeeds", inPlace := ["internal/reflectlite.ValueOf", "(internal/reflectlite.Value).Type", "(internal/reflectlite.Value).IsNil", "internal/reflectlite.TypeOf", "(internal/reflectlite.Value).Elem", "(internal/reflectlite.Value).Set"], unfollowed := true, recurses := true, named := ["errors.errorType"], plainKeys := false, apart := false, laid := [("errors.errorType", laid_errors_errorType)] }
def MemoryNeedsSaid : Prop := memoryNeedsRow.holds Tryz.pinned (OpenSpec.ofChange memoryNeedsSpec)

/-- ITS FALSE NEIGHBOUR: 'it returns false'. Refute it at one input. -/
def memoryNeedsWrong : ChangeSpec := { name := "memoryNeeds", fn := fun _ => fun
  | [d] => { results := [.lit (.bool false)], args := [d] }
  | _ => none }
def MemoryNeedsWrongFalsely : Prop := memoryNeedsRow.holds Tryz.pinned (OpenSpec.ofChange memoryNeedsWrong)

/-- 'sigillumlaw25.MemoryBack': WHATEVER THE INPUT: true; the input reads as it did. -/
def memoryBackSpec : ChangeSpec := { name := "memoryBack", fn := fun _ => fun
  | [d1, d2, d3] => { results := [.lit (.bool true)], args := [d1, d2, d3] }
  | _ => none }
def memoryBackRow : OpenClaim := { program := "ytpbkjmkdciiccaagreatdoor", sum := "0e8d7947dc304fe136cf9c969e61897d8b02e983bcb4321d0783594f6bf53870", func := "sigillum/sigillumlaw25.MemoryBack", spec := "memoryBack", inPlace := ["internal/reflectlite.ValueOf", "(internal/reflectlite.Value).Type", "(internal/reflectlite.Value).IsNil", "internal/reflectlite.TypeOf", "(internal/reflectlite.Value).Elem", "(internal/reflectlite.Value).Set"], unfollowed := true, recurses := true, named := ["errors.errorType"], plainKeys := false, apart := false, laid := [("errors.errorType", laid_errors_errorType)] }
def MemoryBackSaid : Prop := memoryBackRow.holds Tryz.pinned (OpenSpec.ofChange memoryBackSpec)

/-- ITS FALSE NEIGHBOUR: 'it returns false'. Refute it at one input. -/
def memoryBackWrong : ChangeSpec := { name := "memoryBack", fn := fun _ => fun
  | [d1, d2, d3] => { results := [.lit (.bool false)], args := [d1, d2, d3] }
  | _ => none }
def MemoryBackWrongFalsely : Prop := memoryBackRow.holds Tryz.pinned (OpenSpec.ofChange memoryBackWrong)

/-- 'sigillumlaw25.MemoryRights': WHATEVER THE INPUT: true; the input reads as it did. -/
def memoryRightsSpec : ChangeSpec := { name := "memoryRights", fn := fun _ => fun
  | [d1, d2] => { results := [.lit (.bool true)], args := [d1, d2] }
  | _ => none }
def memoryRightsRow : OpenClaim := { program := "ytpbkjmkdciiccaagreatdoor", sum := "0e8d7947dc304fe136cf9c969e61897d8b02e983bcb4321d0783594f6bf53870", func := "sigillum/sigillumlaw25.MemoryRights", spec := "memoryRights", inPlace := ["internal/reflectlite.ValueOf", "(internal/reflectlite.Value).Type", "(internal/reflectlite.Value).IsNil", "internal/reflectlite.TypeOf", "(internal/reflectlite.Value).Elem", "(internal/reflectlite.Value).Set"], unfollowed := true, recurses := true, named := ["errors.errorType"], plainKeys := false, apart := false, laid := [("errors.errorType", laid_errors_errorType)] }
def MemoryRightsSaid : Prop := memoryRightsRow.holds Tryz.pinned (OpenSpec.ofChange memoryRightsSpec)

/-- ITS FALSE NEIGHBOUR: 'it returns false'. Refute it at one input. -/
def memoryRightsWrong : ChangeSpec := { name := "memoryRights", fn := fun _ => fun
  | [d1, d2] => { results := [.lit (.bool false)], args := [d1, d2] }
  | _ => none }
def MemoryRightsWrongFalsely : Prop := memoryRightsRow.holds Tryz.pinned (OpenSpec.ofChange memoryRightsWrong)

/- THE SECOND FORM. 'bulk': how many values and letters a reading holds, each counted each time it is reached (what is shared counts as often as it is met; a slice's spare places count too). A statement '..UptoSaid' is the law's where the arguments, and the package variables that the reading takes, are together of bulk at most 1048576: NARROWER than '..Said'. Prove '..Said' where nothing that the law and all that it calls make is longer than what came in: it says more and counts as full. Else prove '..UptoSaid'. A law counts once. -/
mutual
def uptoBulk {H : Type} : DataW H → Nat
  | .lit (.string bytes) => bytes.length + 1
  | .lit _ => 1
  | .nil => 1
  | .ptr d => uptoBulk d + 1
  | .slice elems spare => uptoBulkAll elems + uptoBulkAll spare + 1
  | .agg parts => uptoBulkAll parts + 1
  | .iface _ d => uptoBulk d + 1
  | .map entries => uptoBulkEntries entries + 1
  | .held _ => 1
def uptoBulkAll {H : Type} : List (DataW H) → Nat
  | [] => 0
  | d :: r => uptoBulk d + uptoBulkAll r
def uptoBulkEntries {H : Type} : List (Lit × DataW H) → Nat
  | [] => 0
  | x :: r => uptoBulkEntry x + uptoBulkEntries r
def uptoBulkEntry {H : Type} : Lit × DataW H → Nat
  | (.string bytes, d) => bytes.length + uptoBulk d + 1
  | (_, d) => uptoBulk d + 1
 end
def uptoSmall : (H : Type) → List (DataW H) → Bool := fun _ ds => decide (uptoBulkAll ds ≤ 1048576)
def OpenSpec.upto (s : _root_.Go.ChangeSpec) : _root_.Go.OpenSpec := { _root_.Go.OpenSpec.ofChange s with cond := some uptoSmall }

/-- 'sigillumlaw25.MemoryServes', WHERE WHAT IT READS IS OF BULK AT MOST 1048576: true; the input reads as it did. -/
def memoryServesUptoRow : OpenClaim := { program := "ytpbkjmkdciiccaagreatdoor", sum := "0e8d7947dc304fe136cf9c969e61897d8b02e983bcb4321d0783594f6bf53870", func := "sigillum/sigillumlaw25.MemoryServes", spec := "memoryServes", inPlace := ["internal/reflectlite.ValueOf", "(internal/reflectlite.Value).Type", "(internal/reflectlite.Value).IsNil", "internal/reflectlite.TypeOf", "(internal/reflectlite.Value).Elem", "(internal/reflectlite.Value).Set"], unfollowed := true, recurses := true, named := ["errors.errorType"], plainKeys := false, apart := false, laid := [("errors.errorType", laid_errors_errorType)], narrowed := true }
def MemoryServesUptoSaid : Prop := memoryServesUptoRow.holds Tryz.pinned (OpenSpec.upto memoryServesSpec)

/-- 'sigillumlaw25.MemoryNeeds', WHERE WHAT IT READS IS OF BULK AT MOST 1048576: true; the input reads as it did. -/
def memoryNeedsUptoRow : OpenClaim := { program := "ytpbkjmkdciiccaagreatdoor", sum := "0e8d7947dc304fe136cf9c969e61897d8b02e983bcb4321d0783594f6bf53870", func := "sigillum/sigillumlaw25.MemoryNeeds", spec := "memoryNeeds", inPlace := ["internal/reflectlite.ValueOf", "(internal/reflectlite.Value).Type", "(internal/reflectlite.Value).IsNil", "internal/reflectlite.TypeOf", "(internal/reflectlite.Value).Elem", "(internal/reflectlite.Value).Set"], unfollowed := true, recurses := true, named := ["errors.errorType"], plainKeys := false, apart := false, laid := [("errors.errorType", laid_errors_errorType)], narrowed := true }
def MemoryNeedsUptoSaid : Prop := memoryNeedsUptoRow.holds Tryz.pinned (OpenSpec.upto memoryNeedsSpec)

/-- 'sigillumlaw25.MemoryBack', WHERE WHAT IT READS IS OF BULK AT MOST 1048576: true; the input reads as it did. -/
def memoryBackUptoRow : OpenClaim := { program := "ytpbkjmkdciiccaagreatdoor", sum := "0e8d7947dc304fe136cf9c969e61897d8b02e983bcb4321d0783594f6bf53870", func := "sigillum/sigillumlaw25.MemoryBack", spec := "memoryBack", inPlace := ["internal/reflectlite.ValueOf", "(internal/reflectlite.Value).Type", "(internal/reflectlite.Value).IsNil", "internal/reflectlite.TypeOf", "(internal/reflectlite.Value).Elem", "(internal/reflectlite.Value).Set"], unfollowed := true, recurses := true, named := ["errors.errorType"], plainKeys := false, apart := false, laid := [("errors.errorType", laid_errors_errorType)], narrowed := true }
def MemoryBackUptoSaid : Prop := memoryBackUptoRow.holds Tryz.pinned (OpenSpec.upto memoryBackSpec)

/-- 'sigillumlaw25.MemoryRights', WHERE WHAT IT READS IS OF BULK AT MOST 1048576: true; the input reads as it did. -/
def memoryRightsUptoRow : OpenClaim := { program := "ytpbkjmkdciiccaagreatdoor", sum := "0e8d7947dc304fe136cf9c969e61897d8b02e983bcb4321d0783594f6bf53870", func := "sigillum/sigillumlaw25.MemoryRights", spec := "memoryRights", inPlace := ["internal/reflectlite.ValueOf", "(internal/reflectlite.Value).Type", "(internal/reflectlite.Value).IsNil", "internal/reflectlite.TypeOf", "(internal/reflectlite.Value).Elem", "(internal/reflectlite.Value).Set"], unfollowed := true, recurses := true, named := ["errors.errorType"], plainKeys := false, apart := false, laid := [("errors.errorType", laid_errors_errorType)], narrowed := true }
def MemoryRightsUptoSaid : Prop := memoryRightsUptoRow.holds Tryz.pinned (OpenSpec.upto memoryRightsSpec)

end Rows
end Go.Proofs.YtpbkjmkdciiccaaGreatDoor
