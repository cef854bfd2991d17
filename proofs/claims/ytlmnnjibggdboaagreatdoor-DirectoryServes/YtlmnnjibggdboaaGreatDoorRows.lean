/-
  NARROWER THAN 'FOR EVERY INPUT', by the rows' own cells (each row's printed sentence says how): DirectoryServes: laid · DirectoryNeeds: laid · DirectoryMask: laid · DirectoryNames: laid · DirectoryReplaced: laid.
  DERIVED. THE GIVEN ROWS OF THIS SEAT. 5 by the template 'for every input the law returns true; each argument reads behind the call as it read before'; 0 by the template 'total and deterministic' (their statements: YtlmnnjibggdboaaGreatDoorTotals.lean).
  GIVEN WITH THE SEED: the statements are not yours to turn. If you find one false, say at which input.
  Laid BY PROGRAM, IN A SANDBOX (cutbox-rows.mjs): the forced cells as the released guide's own fill.sh prints them over the translation 8255eae7b46f9b44… (all of the seat's roots in one cut). By AI agents, Wed Nov 11 2026. No macro, syntax, notation, axiom, sorry.
-/
import Derived.Test.YtlmnnjibggdboaaGreatDoorChecked
import GoSem.Claim
import GoSem.ClaimJoined
import GoSem.ClaimMapViews
import Derived.JoinedTies
import Derived.KernelRfl
namespace Go.Proofs.YtlmnnjibggdboaaGreatDoor
/- THE CELL 'sum', in the pinned program and in every row, IS THE sha256 OF THE DUMP (.gsa) THAT YtlmnnjibggdboaaGreatDoorProg.lean LOADS. Nothing in Lean hashes anything: it is a label: what it is worth is what the hold of that sum in a sandbox is worth. -/
noncomputable def Tryz.pinned : Pinned := { name := "ytlmnnjibggdboaagreatdoor", sum := "8255eae7b46f9b443f7372bfacb9a41eb1b51464fb024d178304d64de2389cf1", checked := Tryz.checked }
namespace Rows
def none {H : Type} : Left H := { results := [], args := [] }

/- WHAT THE LISTED PACKAGE-LEVEL VARIABLES READ AS WHEN THE CALL BEGINS. Each datum BY PROGRAM (the guide's laid-datum.mjs) off the statement by which the dump's own 'gosem.cut.vars' lays the variable. In a bare row this is a premise. The card (YtlmnnjibggdboaaGreatDoorCards.lean) ties it to the program's text. -/
def laid_errors_errorType {H : Type} : DataW H := .iface "internal/reflectlite.rtype" (.agg [.ptr (.lit (.string [101, 114, 114, 111, 114]))])

/-- 'sigillumlaw26.DirectoryServes': WHATEVER THE INPUT: true; the input reads as it did. -/
def directoryServesSpec : ChangeSpec := { name := "directoryServes", fn := fun _ => fun
  | [d1, d2, d3] => { results := [.lit (.bool true)], args := [d1, d2, d3] }
  | _ => none }
def directoryServesRow : OpenClaim := { program := "ytlmnnjibggdboaagreatdoor", sum := "8255eae7b46f9b443f7372bfacb9a41eb1b51464fb024d178304d64de2389cf1", func := "sigillum/sigillumlaw26.DirectoryServes", spec := "directoryServes", inPlace := ["internal/reflectlite.ValueOf", "(internal/reflectlite.Value).Type", "(internal/reflectlite.Value).IsNil", "internal/reflectlite.TypeOf", "(internal/reflectlite.Value).Elem", "(internal/reflectlite.Value).Set"], unfollowed := true, recurses := true, named := ["errors.errorType"], plainKeys := false, apart := false, laid := [("errors.errorType", laid_errors_errorType)] }
def DirectoryServesSaid : Prop := directoryServesRow.holds Tryz.pinned (OpenSpec.ofChange directoryServesSpec)

/-- ITS FALSE NEIGHBOUR: 'it returns false'. Refute it at one input. -/
def directoryServesWrong : ChangeSpec := { name := "directoryServes", fn := fun _ => fun
  | [d1, d2, d3] => { results := [.lit (.bool false)], args := [d1, d2, d3] }
  | _ => none }
def DirectoryServesWrongFalsely : Prop := directoryServesRow.holds Tryz.pinned (OpenSpec.ofChange directoryServesWrong)

/-- 'sigillumlaw26.DirectoryNeeds': WHATEVER THE INPUT: true; the input reads as it did. -/
def directoryNeedsSpec : ChangeSpec := { name := "directoryNeeds", fn := fun _ => fun
  | [d] => { results := [.lit (.bool true)], args := [d] }
  | _ => none }
def directoryNeedsRow : OpenClaim := { program := "ytlmnnjibggdboaagreatdoor", sum := "8255eae7b46f9b443f7372bfacb9a41eb1b51464fb024d178304d64de2389cf1", func := "sigillum/sigillumlaw26.DirectoryNeeds", spec := "directoryNeeds", inPlace := ["internal/reflectlite.ValueOf", "(internal/reflectlite.Value).Type", "(internal/reflectlite.Value).IsNil", "internal/reflectlite.TypeOf", "(internal/reflectlite.Value).Elem", "(internal/reflectlite.Value).Set"], unfollowed := true, recurses := true, named := ["errors.errorType"], plainKeys := false, apart := false, laid := [("errors.errorType", laid_errors_errorType)] }
def DirectoryNeedsSaid : Prop := directoryNeedsRow.holds Tryz.pinned (OpenSpec.ofChange directoryNeedsSpec)

/-- ITS FALSE NEIGHBOUR: 'it returns false'. Refute it at one input. -/
def directoryNeedsWrong : ChangeSpec := { name := "directoryNeeds", fn := fun _ => fun
  | [d] => { results := [.lit (.bool false)], args := [d] }
  | _ => none }
def DirectoryNeedsWrongFalsely : Prop := directoryNeedsRow.holds Tryz.pinned (OpenSpec.ofChange directoryNeedsWrong)

/-- 'sigillumlaw26.DirectoryMask': WHATEVER THE INPUT: true; the input reads as it did. -/
def directoryMaskSpec : ChangeSpec := { name := "directoryMask", fn := fun _ => fun
  | [d1, d2, d3] => { results := [.lit (.bool true)], args := [d1, d2, d3] }
  | _ => none }
def directoryMaskRow : OpenClaim := { program := "ytlmnnjibggdboaagreatdoor", sum := "8255eae7b46f9b443f7372bfacb9a41eb1b51464fb024d178304d64de2389cf1", func := "sigillum/sigillumlaw26.DirectoryMask", spec := "directoryMask", inPlace := ["internal/reflectlite.ValueOf", "(internal/reflectlite.Value).Type", "(internal/reflectlite.Value).IsNil", "internal/reflectlite.TypeOf", "(internal/reflectlite.Value).Elem", "(internal/reflectlite.Value).Set"], unfollowed := true, recurses := true, named := ["errors.errorType"], plainKeys := false, apart := false, laid := [("errors.errorType", laid_errors_errorType)] }
def DirectoryMaskSaid : Prop := directoryMaskRow.holds Tryz.pinned (OpenSpec.ofChange directoryMaskSpec)

/-- ITS FALSE NEIGHBOUR: 'it returns false'. Refute it at one input. -/
def directoryMaskWrong : ChangeSpec := { name := "directoryMask", fn := fun _ => fun
  | [d1, d2, d3] => { results := [.lit (.bool false)], args := [d1, d2, d3] }
  | _ => none }
def DirectoryMaskWrongFalsely : Prop := directoryMaskRow.holds Tryz.pinned (OpenSpec.ofChange directoryMaskWrong)

/-- 'sigillumlaw26.DirectoryNames': WHATEVER THE INPUT: true; the input reads as it did. -/
def directoryNamesSpec : ChangeSpec := { name := "directoryNames", fn := fun _ => fun
  | [d] => { results := [.lit (.bool true)], args := [d] }
  | _ => none }
def directoryNamesRow : OpenClaim := { program := "ytlmnnjibggdboaagreatdoor", sum := "8255eae7b46f9b443f7372bfacb9a41eb1b51464fb024d178304d64de2389cf1", func := "sigillum/sigillumlaw26.DirectoryNames", spec := "directoryNames", inPlace := ["internal/reflectlite.ValueOf", "(internal/reflectlite.Value).Type", "(internal/reflectlite.Value).IsNil", "internal/reflectlite.TypeOf", "(internal/reflectlite.Value).Elem", "(internal/reflectlite.Value).Set"], unfollowed := true, recurses := true, named := ["errors.errorType"], plainKeys := false, apart := false, laid := [("errors.errorType", laid_errors_errorType)] }
def DirectoryNamesSaid : Prop := directoryNamesRow.holds Tryz.pinned (OpenSpec.ofChange directoryNamesSpec)

/-- ITS FALSE NEIGHBOUR: 'it returns false'. Refute it at one input. -/
def directoryNamesWrong : ChangeSpec := { name := "directoryNames", fn := fun _ => fun
  | [d] => { results := [.lit (.bool false)], args := [d] }
  | _ => none }
def DirectoryNamesWrongFalsely : Prop := directoryNamesRow.holds Tryz.pinned (OpenSpec.ofChange directoryNamesWrong)

/-- 'sigillumlaw26.DirectoryReplaced': WHATEVER THE INPUT: true; the input reads as it did. -/
def directoryReplacedSpec : ChangeSpec := { name := "directoryReplaced", fn := fun _ => fun
  | [d1, d2, d3] => { results := [.lit (.bool true)], args := [d1, d2, d3] }
  | _ => none }
def directoryReplacedRow : OpenClaim := { program := "ytlmnnjibggdboaagreatdoor", sum := "8255eae7b46f9b443f7372bfacb9a41eb1b51464fb024d178304d64de2389cf1", func := "sigillum/sigillumlaw26.DirectoryReplaced", spec := "directoryReplaced", inPlace := ["internal/reflectlite.ValueOf", "(internal/reflectlite.Value).Type", "(internal/reflectlite.Value).IsNil", "internal/reflectlite.TypeOf", "(internal/reflectlite.Value).Elem", "(internal/reflectlite.Value).Set"], unfollowed := true, recurses := true, named := ["errors.errorType"], plainKeys := false, apart := false, laid := [("errors.errorType", laid_errors_errorType)] }
def DirectoryReplacedSaid : Prop := directoryReplacedRow.holds Tryz.pinned (OpenSpec.ofChange directoryReplacedSpec)

/-- ITS FALSE NEIGHBOUR: 'it returns false'. Refute it at one input. -/
def directoryReplacedWrong : ChangeSpec := { name := "directoryReplaced", fn := fun _ => fun
  | [d1, d2, d3] => { results := [.lit (.bool false)], args := [d1, d2, d3] }
  | _ => none }
def DirectoryReplacedWrongFalsely : Prop := directoryReplacedRow.holds Tryz.pinned (OpenSpec.ofChange directoryReplacedWrong)

/- THE SECOND FORM. 'bulk': how many values and letters a reading holds, each counted each time it is reached (what is shared counts as often as it is met; a slice's spare places count too). A statement '..UptoSaid' is the law's where the arguments, and the package variables that the reading takes, are together of bulk at most 1048576: NARROWER than '..Said'. Prove '..Said' where nothing that the law and all that it calls make is longer than what came in: it says more and counts as full. Else prove '..UptoSaid'. A law counts once. -/
mutual
def uptoBulk {H : Type} : DataW H → Nat
  | .lit (.string bytes) => bytes.length + 1
  | .lit _ => 1
  | .nil => 1
  | .ptr d => uptoBulk d + 1
  | .slice elems spare => uptoBulkAll elems + uptoBulkAll spare + 1
  | .agg parts => uptoBulkAll parts + 1
  | .iface _ d => uptoBulk d + 1
  | .map entries => uptoBulkEntries entries + 1
  | .held _ => 1
def uptoBulkAll {H : Type} : List (DataW H) → Nat
  | [] => 0
  | d :: r => uptoBulk d + uptoBulkAll r
def uptoBulkEntries {H : Type} : List (Lit × DataW H) → Nat
  | [] => 0
  | x :: r => uptoBulkEntry x + uptoBulkEntries r
def uptoBulkEntry {H : Type} : Lit × DataW H → Nat
  | (.string bytes, d) => bytes.length + uptoBulk d + 1
  | (_, d) => uptoBulk d + 1
 end
def uptoSmall : (H : Type) → List (DataW H) → Bool := fun _ ds => decide (uptoBulkAll ds ≤ 1048576)
def OpenSpec.upto (s : _root_.Go.ChangeSpec) : _root_.Go.OpenSpec := { _root_.Go.OpenSpec.ofChange s with cond := some uptoSmall }

/-- 'sigillumlaw26.DirectoryServes', WHERE WHAT IT READS IS OF BULK AT MOST 1048576: true; the input reads as it did. -/
def directoryServesUptoRow : OpenClaim := { program := "ytlmnnjibggdboaagreatdoor", sum := "8255eae7b46f9b443f7372bfacb9a41eb1b51464fb024d178304d64de2389cf1", func := "sigillum/sigillumlaw26.DirectoryServes", spec := "directoryServes", inPlace := ["internal/reflectlite.ValueOf", "(internal/reflectlite.Value).Type", "(internal/reflectlite.Value).IsNil", "internal/reflectlite.TypeOf", "(internal/reflectlite.Value).Elem", "(internal/reflectlite.Value).Set"], unfollowed := true, recurses := true, named := ["errors.errorType"], plainKeys := false, apart := false, laid := [("errors.errorType", laid_errors_errorType)], narrowed := true }
def DirectoryServesUptoSaid : Prop := directoryServesUptoRow.holds Tryz.pinned (OpenSpec.upto directoryServesSpec)

/-- 'sigillumlaw26.DirectoryNeeds', WHERE WHAT IT READS IS OF BULK AT MOST 1048576: true; the input reads as it did. -/
def directoryNeedsUptoRow : OpenClaim := { program := "ytlmnnjibggdboaagreatdoor", sum := "8255eae7b46f9b443f7372bfacb9a41eb1b51464fb024d178304d64de2389cf1", func := "sigillum/sigillumlaw26.DirectoryNeeds", spec := "directoryNeeds", inPlace := ["internal/reflectlite.ValueOf", "(internal/reflectlite.Value).Type", "(internal/reflectlite.Value).IsNil", "internal/reflectlite.TypeOf", "(internal/reflectlite.Value).Elem", "(internal/reflectlite.Value).Set"], unfollowed := true, recurses := true, named := ["errors.errorType"], plainKeys := false, apart := false, laid := [("errors.errorType", laid_errors_errorType)], narrowed := true }
def DirectoryNeedsUptoSaid : Prop := directoryNeedsUptoRow.holds Tryz.pinned (OpenSpec.upto directoryNeedsSpec)

/-- 'sigillumlaw26.DirectoryMask', WHERE WHAT IT READS IS OF BULK AT MOST 1048576: true; the input reads as it did. -/
def directoryMaskUptoRow : OpenClaim := { program := "ytlmnnjibggdboaagreatdoor", sum := "8255eae7b46f9b443f7372bfacb9a41eb1b51464fb024d178304d64de2389cf1", func := "sigillum/sigillumlaw26.DirectoryMask", spec := "directoryMask", inPlace := ["internal/reflectlite.ValueOf", "(internal/reflectlite.Value).Type", "(internal/reflectlite.Value).IsNil", "internal/reflectlite.TypeOf", "(internal/reflectlite.Value).Elem", "(internal/reflectlite.Value).Set"], unfollowed := true, recurses := true, named := ["errors.errorType"], plainKeys := false, apart := false, laid := [("errors.errorType", laid_errors_errorType)], narrowed := true }
def DirectoryMaskUptoSaid : Prop := directoryMaskUptoRow.holds Tryz.pinned (OpenSpec.upto directoryMaskSpec)

/-- 'sigillumlaw26.DirectoryNames', WHERE WHAT IT READS IS OF BULK AT MOST 1048576: true; the input reads as it did. -/
def directoryNamesUptoRow : OpenClaim := { program := "ytlmnnjibggdboaagreatdoor", sum := "8255eae7b46f9b443f7372bfacb9a41eb1b51464fb024d178304d64de2389cf1", func := "sigillum/sigillumlaw26.DirectoryNames", spec := "directoryNames", inPlace := ["internal/reflectlite.ValueOf", "(internal/reflectlite.Value).Type", "(internal/reflectlite.Value).IsNil", "internal/reflectlite.TypeOf", "(internal/reflectlite.Value).Elem", "(internal/reflectlite.Value).Set"], unfollowed := true, recurses := true, named := ["errors.errorType"], plainKeys := false, apart := false, laid := [("errors.errorType", laid_errors_errorType)], narrowed := true }
def DirectoryNamesUptoSaid : Prop := directoryNamesUptoRow.holds Tryz.pinned (OpenSpec.upto directoryNamesSpec)

/-- 'sigillumlaw26.DirectoryReplaced', WHERE WHAT IT READS IS OF BULK AT MOST 1048576: true; the input reads as it did. -/
def directoryReplacedUptoRow : OpenClaim := { program := "ytlmnnjibggdboaagreatdoor", sum := "8255eae7b46f9b443f7372bfacb9a41eb1b51464fb024d178304d64de2389cf1", func := "sigillum/sigillumlaw26.DirectoryReplaced", spec := "directoryReplaced", inPlace := ["internal/reflectlite.ValueOf", "(internal/reflectlite.Value).Type", "(internal/reflectlite.Value).IsNil", "internal/reflectlite.TypeOf", "(internal/reflectlite.Value).Elem", "(internal/reflectlite.Value).Set"], unfollowed := true, recurses := true, named := ["errors.errorType"], plainKeys := false, apart := false, laid := [("errors.errorType", laid_errors_errorType)], narrowed := true }
def DirectoryReplacedUptoSaid : Prop := directoryReplacedUptoRow.holds Tryz.pinned (OpenSpec.upto directoryReplacedSpec)

end Rows
end Go.Proofs.YtlmnnjibggdboaaGreatDoor
