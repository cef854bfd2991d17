/-
  NARROWER THAN 'FOR EVERY INPUT', by the rows' own cells (each row's printed sentence says how): ObjectsScript: laid · ObjectsForged: laid · ObjectsRevoke: laid · ObjectsNarrow: laid · ObjectsGone: laid.
  DERIVED. THE GIVEN ROWS OF THIS SEAT. 5 by the template 'for every input the law returns true; each argument reads behind the call as it read before'; 0 by the template 'total and deterministic' (their statements: YtgcmompldcnhlaaDoorTotals.lean).
  GIVEN WITH THE SEED: the statements are not yours to turn. If you find one false, say at which input.
  Laid BY PROGRAM, IN A SANDBOX (cutbox-rows.mjs): the forced cells as the released guide's own fill.sh prints them over the translation 978eebc4f07d5994… (all of the seat's roots in one cut). By AI agents, Wed Nov 11 2026. No macro, syntax, notation, axiom, sorry.
-/
import Derived.Test.YtgcmompldcnhlaaDoorChecked
import GoSem.Claim
import GoSem.ClaimJoined
import GoSem.ClaimMapViews
import Derived.JoinedTies
import Derived.KernelRfl
namespace Go.Proofs.YtgcmompldcnhlaaDoor
/- THE CELL 'sum', in the pinned program and in every row, IS THE sha256 OF THE DUMP (.gsa) THAT YtgcmompldcnhlaaDoorProg.lean LOADS. Nothing in Lean hashes anything: it is a label: what it is worth is what the hold of that sum in a sandbox is worth. -/
noncomputable def Tryd.pinned : Pinned := { name := "ytgcmompldcnhlaadoor", sum := "978eebc4f07d5994d4849a2448a01a2d0c86a91a949102014ce5b8659f5d75c8", checked := Tryd.checked }
namespace Rows
def none {H : Type} : Left H := { results := [], args := [] }

/- WHAT THE LISTED PACKAGE-LEVEL VARIABLES READ AS WHEN THE CALL BEGINS. Each datum BY PROGRAM (the guide's laid-datum.mjs) off the statement by which the dump's own 'gosem.cut.vars' lays the variable. In a bare row this is a premise. The card (YtgcmompldcnhlaaDoorCards.lean) ties it to the program's text. -/
def laid_errors_errorType {H : Type} : DataW H := .iface "internal/reflectlite.rtype" (.agg [.ptr (.lit (.string [101, 114, 114, 111, 114]))])

/-- 'sigillumlaw23.ObjectsScript': WHATEVER THE INPUT: true; the input reads as it did. -/
def objectsScriptSpec : ChangeSpec := { name := "objectsScript", fn := fun _ => fun
  | [d1, d2, d3] => { results := [.lit (.bool true)], args := [d1, d2, d3] }
  | _ => none }
def objectsScriptRow : OpenClaim := { program := "ytgcmompldcnhlaadoor", sum := "978eebc4f07d5994d4849a2448a01a2d0c86a91a949102014ce5b8659f5d75c8", func := "sigillum/sigillumlaw23.ObjectsScript", spec := "objectsScript", inPlace := ["internal/reflectlite.ValueOf", "(internal/reflectlite.Value).Type", "(internal/reflectlite.Value).IsNil", "internal/reflectlite.TypeOf", "(internal/reflectlite.Value).Elem", "(internal/reflectlite.Value).Set"], unfollowed := true, recurses := true, named := ["errors.errorType"], plainKeys := false, apart := false, laid := [("errors.errorType", laid_errors_errorType)] }
def ObjectsScriptSaid : Prop := objectsScriptRow.holds Tryd.pinned (OpenSpec.ofChange objectsScriptSpec)

/-- ITS FALSE NEIGHBOUR: 'it returns false'. Refute it at one input. -/
def objectsScriptWrong : ChangeSpec := { name := "objectsScript", fn := fun _ => fun
  | [d1, d2, d3] => { results := [.lit (.bool false)], args := [d1, d2, d3] }
  | _ => none }
def ObjectsScriptWrongFalsely : Prop := objectsScriptRow.holds Tryd.pinned (OpenSpec.ofChange objectsScriptWrong)

/-- 'sigillumlaw23.ObjectsForged': WHATEVER THE INPUT: true; the input reads as it did. -/
def objectsForgedSpec : ChangeSpec := { name := "objectsForged", fn := fun _ => fun
  | [d1, d2, d3, d4] => { results := [.lit (.bool true)], args := [d1, d2, d3, d4] }
  | _ => none }
def objectsForgedRow : OpenClaim := { program := "ytgcmompldcnhlaadoor", sum := "978eebc4f07d5994d4849a2448a01a2d0c86a91a949102014ce5b8659f5d75c8", func := "sigillum/sigillumlaw23.ObjectsForged", spec := "objectsForged", inPlace := ["internal/reflectlite.ValueOf", "(internal/reflectlite.Value).Type", "(internal/reflectlite.Value).IsNil", "internal/reflectlite.TypeOf", "(internal/reflectlite.Value).Elem", "(internal/reflectlite.Value).Set"], unfollowed := true, recurses := true, named := ["errors.errorType"], plainKeys := false, apart := false, laid := [("errors.errorType", laid_errors_errorType)] }
def ObjectsForgedSaid : Prop := objectsForgedRow.holds Tryd.pinned (OpenSpec.ofChange objectsForgedSpec)

/-- ITS FALSE NEIGHBOUR: 'it returns false'. Refute it at one input. -/
def objectsForgedWrong : ChangeSpec := { name := "objectsForged", fn := fun _ => fun
  | [d1, d2, d3, d4] => { results := [.lit (.bool false)], args := [d1, d2, d3, d4] }
  | _ => none }
def ObjectsForgedWrongFalsely : Prop := objectsForgedRow.holds Tryd.pinned (OpenSpec.ofChange objectsForgedWrong)

/-- 'sigillumlaw23.ObjectsRevoke': WHATEVER THE INPUT: true; the input reads as it did. -/
def objectsRevokeSpec : ChangeSpec := { name := "objectsRevoke", fn := fun _ => fun
  | [d1, d2] => { results := [.lit (.bool true)], args := [d1, d2] }
  | _ => none }
def objectsRevokeRow : OpenClaim := { program := "ytgcmompldcnhlaadoor", sum := "978eebc4f07d5994d4849a2448a01a2d0c86a91a949102014ce5b8659f5d75c8", func := "sigillum/sigillumlaw23.ObjectsRevoke", spec := "objectsRevoke", inPlace := ["internal/reflectlite.ValueOf", "(internal/reflectlite.Value).Type", "(internal/reflectlite.Value).IsNil", "internal/reflectlite.TypeOf", "(internal/reflectlite.Value).Elem", "(internal/reflectlite.Value).Set"], unfollowed := true, recurses := true, named := ["errors.errorType"], plainKeys := false, apart := false, laid := [("errors.errorType", laid_errors_errorType)] }
def ObjectsRevokeSaid : Prop := objectsRevokeRow.holds Tryd.pinned (OpenSpec.ofChange objectsRevokeSpec)

/-- ITS FALSE NEIGHBOUR: 'it returns false'. Refute it at one input. -/
def objectsRevokeWrong : ChangeSpec := { name := "objectsRevoke", fn := fun _ => fun
  | [d1, d2] => { results := [.lit (.bool false)], args := [d1, d2] }
  | _ => none }
def ObjectsRevokeWrongFalsely : Prop := objectsRevokeRow.holds Tryd.pinned (OpenSpec.ofChange objectsRevokeWrong)

/-- 'sigillumlaw23.ObjectsNarrow': WHATEVER THE INPUT: true; the input reads as it did. -/
def objectsNarrowSpec : ChangeSpec := { name := "objectsNarrow", fn := fun _ => fun
  | [d1, d2, d3] => { results := [.lit (.bool true)], args := [d1, d2, d3] }
  | _ => none }
def objectsNarrowRow : OpenClaim := { program := "ytgcmompldcnhlaadoor", sum := "978eebc4f07d5994d4849a2448a01a2d0c86a91a949102014ce5b8659f5d75c8", func := "sigillum/sigillumlaw23.ObjectsNarrow", spec := "objectsNarrow", inPlace := ["internal/reflectlite.ValueOf", "(internal/reflectlite.Value).Type", "(internal/reflectlite.Value).IsNil", "internal/reflectlite.TypeOf", "(internal/reflectlite.Value).Elem", "(internal/reflectlite.Value).Set"], unfollowed := true, recurses := true, named := ["errors.errorType"], plainKeys := false, apart := false, laid := [("errors.errorType", laid_errors_errorType)] }
def ObjectsNarrowSaid : Prop := objectsNarrowRow.holds Tryd.pinned (OpenSpec.ofChange objectsNarrowSpec)

/-- ITS FALSE NEIGHBOUR: 'it returns false'. Refute it at one input. -/
def objectsNarrowWrong : ChangeSpec := { name := "objectsNarrow", fn := fun _ => fun
  | [d1, d2, d3] => { results := [.lit (.bool false)], args := [d1, d2, d3] }
  | _ => none }
def ObjectsNarrowWrongFalsely : Prop := objectsNarrowRow.holds Tryd.pinned (OpenSpec.ofChange objectsNarrowWrong)

/-- 'sigillumlaw23.ObjectsGone': WHATEVER THE INPUT: true; the input reads as it did. -/
def objectsGoneSpec : ChangeSpec := { name := "objectsGone", fn := fun _ => fun
  | [d1, d2] => { results := [.lit (.bool true)], args := [d1, d2] }
  | _ => none }
def objectsGoneRow : OpenClaim := { program := "ytgcmompldcnhlaadoor", sum := "978eebc4f07d5994d4849a2448a01a2d0c86a91a949102014ce5b8659f5d75c8", func := "sigillum/sigillumlaw23.ObjectsGone", spec := "objectsGone", inPlace := ["internal/reflectlite.ValueOf", "(internal/reflectlite.Value).Type", "(internal/reflectlite.Value).IsNil", "internal/reflectlite.TypeOf", "(internal/reflectlite.Value).Elem", "(internal/reflectlite.Value).Set"], unfollowed := true, recurses := true, named := ["errors.errorType"], plainKeys := false, apart := false, laid := [("errors.errorType", laid_errors_errorType)] }
def ObjectsGoneSaid : Prop := objectsGoneRow.holds Tryd.pinned (OpenSpec.ofChange objectsGoneSpec)

/-- ITS FALSE NEIGHBOUR: 'it returns false'. Refute it at one input. -/
def objectsGoneWrong : ChangeSpec := { name := "objectsGone", fn := fun _ => fun
  | [d1, d2] => { results := [.lit (.bool false)], args := [d1, d2] }
  | _ => none }
def ObjectsGoneWrongFalsely : Prop := objectsGoneRow.holds Tryd.pinned (OpenSpec.ofChange objectsGoneWrong)

/- THE SECOND FORM. 'bulk': how many values and letters a reading holds, each counted each time it is reached (what is shared counts as often as it is met; a slice's spare places count too). A statement '..UptoSaid' is the law's where the arguments, and the package variables that the reading takes, are together of bulk at most 1048576: NARROWER than '..Said'. Prove '..Said' where nothing that the law and all that it calls make is longer than what came in: it says more and counts as full. Else prove '..UptoSaid'. A law counts once. -/
mutual
def uptoBulk {H : Type} : DataW H → Nat
  | .lit (.string bytes) => bytes.length + 1
  | .lit _ => 1
  | .nil => 1
  | .ptr d => uptoBulk d + 1
  | .slice elems spare => uptoBulkAll elems + uptoBulkAll spare + 1
  | .agg parts => uptoBulkAll parts + 1
  | .iface _ d => uptoBulk d + 1
  | .map entries => uptoBulkEntries entries + 1
  | .held _ => 1
def uptoBulkAll {H : Type} : List (DataW H) → Nat
  | [] => 0
  | d :: r => uptoBulk d + uptoBulkAll r
def uptoBulkEntries {H : Type} : List (Lit × DataW H) → Nat
  | [] => 0
  | x :: r => uptoBulkEntry x + uptoBulkEntries r
def uptoBulkEntry {H : Type} : Lit × DataW H → Nat
  | (.string bytes, d) => bytes.length + uptoBulk d + 1
  | (_, d) => uptoBulk d + 1
 end
def uptoSmall : (H : Type) → List (DataW H) → Bool := fun _ ds => decide (uptoBulkAll ds ≤ 1048576)
def OpenSpec.upto (s : _root_.Go.ChangeSpec) : _root_.Go.OpenSpec := { _root_.Go.OpenSpec.ofChange s with cond := some uptoSmall }

/-- 'sigillumlaw23.ObjectsScript', WHERE WHAT IT READS IS OF BULK AT MOST 1048576: true; the input reads as it did. -/
def objectsScriptUptoRow : OpenClaim := { program := "ytgcmompldcnhlaadoor", sum := "978eebc4f07d5994d4849a2448a01a2d0c86a91a949102014ce5b8659f5d75c8", func := "sigillum/sigillumlaw23.ObjectsScript", spec := "objectsScript", inPlace := ["internal/reflectlite.ValueOf", "(internal/reflectlite.Value).Type", "(internal/reflectlite.Value).IsNil", "internal/reflectlite.TypeOf", "(internal/reflectlite.Value).Elem", "(internal/reflectlite.Value).Set"], unfollowed := true, recurses := true, named := ["errors.errorType"], plainKeys := false, apart := false, laid := [("errors.errorType", laid_errors_errorType)], narrowed := true }
def ObjectsScriptUptoSaid : Prop := objectsScriptUptoRow.holds Tryd.pinned (OpenSpec.upto objectsScriptSpec)

/-- 'sigillumlaw23.ObjectsForged', WHERE WHAT IT READS IS OF BULK AT MOST 1048576: true; the input reads as it did. -/
def objectsForgedUptoRow : OpenClaim := { program := "ytgcmompldcnhlaadoor", sum := "978eebc4f07d5994d4849a2448a01a2d0c86a91a949102014ce5b8659f5d75c8", func := "sigillum/sigillumlaw23.ObjectsForged", spec := "objectsForged", inPlace := ["internal/reflectlite.ValueOf", "(internal/reflectlite.Value).Type", "(internal/reflectlite.Value).IsNil", "internal/reflectlite.TypeOf", "(internal/reflectlite.Value).Elem", "(internal/reflectlite.Value).Set"], unfollowed := true, recurses := true, named := ["errors.errorType"], plainKeys := false, apart := false, laid := [("errors.errorType", laid_errors_errorType)], narrowed := true }
def ObjectsForgedUptoSaid : Prop := objectsForgedUptoRow.holds Tryd.pinned (OpenSpec.upto objectsForgedSpec)

/-- 'sigillumlaw23.ObjectsRevoke', WHERE WHAT IT READS IS OF BULK AT MOST 1048576: true; the input reads as it did. -/
def objectsRevokeUptoRow : OpenClaim := { program := "ytgcmompldcnhlaadoor", sum := "978eebc4f07d5994d4849a2448a01a2d0c86a91a949102014ce5b8659f5d75c8", func := "sigillum/sigillumlaw23.ObjectsRevoke", spec := "objectsRevoke", inPlace := ["internal/reflectlite.ValueOf", "(internal/reflectlite.Value).Type", "(internal/reflectlite.Value).IsNil", "internal/reflectlite.TypeOf", "(internal/reflectlite.Value).Elem", "(internal/reflectlite.Value).Set"], unfollowed := true, recurses := true, named := ["errors.errorType"], plainKeys := false, apart := false, laid := [("errors.errorType", laid_errors_errorType)], narrowed := true }
def ObjectsRevokeUptoSaid : Prop := objectsRevokeUptoRow.holds Tryd.pinned (OpenSpec.upto objectsRevokeSpec)

/-- 'sigillumlaw23.ObjectsNarrow', WHERE WHAT IT READS IS OF BULK AT MOST 1048576: true; the input reads as it did. -/
def objectsNarrowUptoRow : OpenClaim := { program := "ytgcmompldcnhlaadoor", sum := "978eebc4f07d5994d4849a2448a01a2d0c86a91a949102014ce5b8659f5d75c8", func := "sigillum/sigillumlaw23.ObjectsNarrow", spec := "objectsNarrow", inPlace := ["internal/reflectlite.ValueOf", "(internal/reflectlite.Value).Type", "(internal/reflectlite.Value).IsNil", "internal/reflectlite.TypeOf", "(internal/reflectlite.Value).Elem", "(internal/reflectlite.Value).Set"], unfollowed := true, recurses := true, named := ["errors.errorType"], plainKeys := false, apart := false, laid := [("errors.errorType", laid_errors_errorType)], narrowed := true }
def ObjectsNarrowUptoSaid : Prop := objectsNarrowUptoRow.holds Tryd.pinned (OpenSpec.upto objectsNarrowSpec)

/-- 'sigillumlaw23.ObjectsGone', WHERE WHAT IT READS IS OF BULK AT MOST 1048576: true; the input reads as it did. -/
def objectsGoneUptoRow : OpenClaim := { program := "ytgcmompldcnhlaadoor", sum := "978eebc4f07d5994d4849a2448a01a2d0c86a91a949102014ce5b8659f5d75c8", func := "sigillum/sigillumlaw23.ObjectsGone", spec := "objectsGone", inPlace := ["internal/reflectlite.ValueOf", "(internal/reflectlite.Value).Type", "(internal/reflectlite.Value).IsNil", "internal/reflectlite.TypeOf", "(internal/reflectlite.Value).Elem", "(internal/reflectlite.Value).Set"], unfollowed := true, recurses := true, named := ["errors.errorType"], plainKeys := false, apart := false, laid := [("errors.errorType", laid_errors_errorType)], narrowed := true }
def ObjectsGoneUptoSaid : Prop := objectsGoneUptoRow.holds Tryd.pinned (OpenSpec.upto objectsGoneSpec)

end Rows
end Go.Proofs.YtgcmompldcnhlaaDoor
