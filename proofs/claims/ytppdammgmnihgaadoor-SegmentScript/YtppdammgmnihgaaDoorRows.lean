/-
  NARROWER THAN 'FOR EVERY INPUT', by the rows' own cells (each row's printed sentence says how): SegmentScript: laid · SegmentApart: laid · SegmentGrow: laid · SegmentCount: laid.
  DERIVED. THE GIVEN ROWS OF THIS SEAT. 4 by the template 'for every input the law returns true; each argument reads behind the call as it read before'; 0 by the template 'total and deterministic' (their statements: YtppdammgmnihgaaDoorTotals.lean).
  GIVEN WITH THE SEED: the statements are not yours to turn. If you find one false, say at which input.
  Laid BY PROGRAM, IN A SANDBOX (cutbox-rows.mjs): the forced cells as the released guide's own fill.sh prints them over the translation 741aefa65fec047b… (all of the seat's roots in one cut). By AI agents, Wed Nov 11 2026. No macro, syntax, notation, axiom, sorry.
-/
import Derived.Test.YtppdammgmnihgaaDoorChecked
import GoSem.Claim
import GoSem.ClaimJoined
import GoSem.ClaimMapViews
import Derived.JoinedTies
import Derived.KernelRfl
namespace Go.Proofs.YtppdammgmnihgaaDoor
/- THE CELL 'sum', in the pinned program and in every row, IS THE sha256 OF THE DUMP (.gsa) THAT YtppdammgmnihgaaDoorProg.lean LOADS. Nothing in Lean hashes anything: it is a label: what it is worth is what the hold of that sum in a sandbox is worth. -/
noncomputable def Tryd.pinned : Pinned := { name := "ytppdammgmnihgaadoor", sum := "741aefa65fec047b703dfc2a5817b8901f34bb6ce104cf0d03902aed60909ee7", checked := Tryd.checked }
namespace Rows
def none {H : Type} : Left H := { results := [], args := [] }

/- WHAT THE LISTED PACKAGE-LEVEL VARIABLES READ AS WHEN THE CALL BEGINS. Each datum BY PROGRAM (the guide's laid-datum.mjs) off the statement by which the dump's own 'gosem.cut.vars' lays the variable. In a bare row this is a premise. The card (YtppdammgmnihgaaDoorCards.lean) ties it to the program's text. -/
def laid_errors_errorType {H : Type} : DataW H := .iface "internal/reflectlite.rtype" (.agg [.ptr (.lit (.string [101, 114, 114, 111, 114]))])

/-- 'sigillumlaw09.SegmentScript': WHATEVER THE INPUT: true; the input reads as it did. -/
def segmentScriptSpec : ChangeSpec := { name := "segmentScript", fn := fun _ => fun
  | [d1, d2] => { results := [.lit (.bool true)], args := [d1, d2] }
  | _ => none }
def segmentScriptRow : OpenClaim := { program := "ytppdammgmnihgaadoor", sum := "741aefa65fec047b703dfc2a5817b8901f34bb6ce104cf0d03902aed60909ee7", func := "sigillum/sigillumlaw09.SegmentScript", spec := "segmentScript", inPlace := ["internal/reflectlite.ValueOf", "(internal/reflectlite.Value).Type", "(internal/reflectlite.Value).IsNil", "internal/reflectlite.TypeOf", "(internal/reflectlite.Value).Elem", "(internal/reflectlite.Value).Set"], unfollowed := true, recurses := true, named := ["errors.errorType"], apart := false, laid := [("errors.errorType", laid_errors_errorType)] }
def SegmentScriptSaid : Prop := segmentScriptRow.holds Tryd.pinned (OpenSpec.ofChange segmentScriptSpec)

/-- ITS FALSE NEIGHBOUR: 'it returns false'. Refute it at one input. -/
def segmentScriptWrong : ChangeSpec := { name := "segmentScript", fn := fun _ => fun
  | [d1, d2] => { results := [.lit (.bool false)], args := [d1, d2] }
  | _ => none }
def SegmentScriptWrongFalsely : Prop := segmentScriptRow.holds Tryd.pinned (OpenSpec.ofChange segmentScriptWrong)

/-- 'sigillumlaw09.SegmentApart': WHATEVER THE INPUT: true; the input reads as it did. -/
def segmentApartSpec : ChangeSpec := { name := "segmentApart", fn := fun _ => fun
  | [d1, d2, d3] => { results := [.lit (.bool true)], args := [d1, d2, d3] }
  | _ => none }
def segmentApartRow : OpenClaim := { program := "ytppdammgmnihgaadoor", sum := "741aefa65fec047b703dfc2a5817b8901f34bb6ce104cf0d03902aed60909ee7", func := "sigillum/sigillumlaw09.SegmentApart", spec := "segmentApart", inPlace := ["internal/reflectlite.ValueOf", "(internal/reflectlite.Value).Type", "(internal/reflectlite.Value).IsNil", "internal/reflectlite.TypeOf", "(internal/reflectlite.Value).Elem", "(internal/reflectlite.Value).Set"], unfollowed := true, recurses := true, named := ["errors.errorType"], apart := false, laid := [("errors.errorType", laid_errors_errorType)] }
def SegmentApartSaid : Prop := segmentApartRow.holds Tryd.pinned (OpenSpec.ofChange segmentApartSpec)

/-- ITS FALSE NEIGHBOUR: 'it returns false'. Refute it at one input. -/
def segmentApartWrong : ChangeSpec := { name := "segmentApart", fn := fun _ => fun
  | [d1, d2, d3] => { results := [.lit (.bool false)], args := [d1, d2, d3] }
  | _ => none }
def SegmentApartWrongFalsely : Prop := segmentApartRow.holds Tryd.pinned (OpenSpec.ofChange segmentApartWrong)

/-- 'sigillumlaw09.SegmentGrow': WHATEVER THE INPUT: true; the input reads as it did. -/
def segmentGrowSpec : ChangeSpec := { name := "segmentGrow", fn := fun _ => fun
  | [d1, d2] => { results := [.lit (.bool true)], args := [d1, d2] }
  | _ => none }
def segmentGrowRow : OpenClaim := { program := "ytppdammgmnihgaadoor", sum := "741aefa65fec047b703dfc2a5817b8901f34bb6ce104cf0d03902aed60909ee7", func := "sigillum/sigillumlaw09.SegmentGrow", spec := "segmentGrow", inPlace := ["internal/reflectlite.ValueOf", "(internal/reflectlite.Value).Type", "(internal/reflectlite.Value).IsNil", "internal/reflectlite.TypeOf", "(internal/reflectlite.Value).Elem", "(internal/reflectlite.Value).Set"], unfollowed := true, recurses := true, named := ["errors.errorType"], apart := false, laid := [("errors.errorType", laid_errors_errorType)] }
def SegmentGrowSaid : Prop := segmentGrowRow.holds Tryd.pinned (OpenSpec.ofChange segmentGrowSpec)

/-- ITS FALSE NEIGHBOUR: 'it returns false'. Refute it at one input. -/
def segmentGrowWrong : ChangeSpec := { name := "segmentGrow", fn := fun _ => fun
  | [d1, d2] => { results := [.lit (.bool false)], args := [d1, d2] }
  | _ => none }
def SegmentGrowWrongFalsely : Prop := segmentGrowRow.holds Tryd.pinned (OpenSpec.ofChange segmentGrowWrong)

/-- 'sigillumlaw09.SegmentCount': WHATEVER THE INPUT: true; the input reads as it did. -/
def segmentCountSpec : ChangeSpec := { name := "segmentCount", fn := fun _ => fun
  | [d1, d2] => { results := [.lit (.bool true)], args := [d1, d2] }
  | _ => none }
def segmentCountRow : OpenClaim := { program := "ytppdammgmnihgaadoor", sum := "741aefa65fec047b703dfc2a5817b8901f34bb6ce104cf0d03902aed60909ee7", func := "sigillum/sigillumlaw09.SegmentCount", spec := "segmentCount", inPlace := ["internal/reflectlite.ValueOf", "(internal/reflectlite.Value).Type", "(internal/reflectlite.Value).IsNil", "internal/reflectlite.TypeOf", "(internal/reflectlite.Value).Elem", "(internal/reflectlite.Value).Set"], unfollowed := true, recurses := true, named := ["errors.errorType"], apart := false, laid := [("errors.errorType", laid_errors_errorType)] }
def SegmentCountSaid : Prop := segmentCountRow.holds Tryd.pinned (OpenSpec.ofChange segmentCountSpec)

/-- ITS FALSE NEIGHBOUR: 'it returns false'. Refute it at one input. -/
def segmentCountWrong : ChangeSpec := { name := "segmentCount", fn := fun _ => fun
  | [d1, d2] => { results := [.lit (.bool false)], args := [d1, d2] }
  | _ => none }
def SegmentCountWrongFalsely : Prop := segmentCountRow.holds Tryd.pinned (OpenSpec.ofChange segmentCountWrong)

/- THE SECOND FORM. 'bulk': how many values and letters a reading holds, each counted each time it is reached (what is shared counts as often as it is met; a slice's spare places count too). A statement '..UptoSaid' is the law's where the arguments, and the package variables that the reading takes, are together of bulk at most 1048576: NARROWER than '..Said'. Prove '..Said' where nothing that the law and all that it calls make is longer than what came in: it says more and counts as full. Else prove '..UptoSaid'. A law counts once. -/
mutual
def uptoBulk {H : Type} : DataW H → Nat
  | .lit (.string bytes) => bytes.length + 1
  | .lit _ => 1
  | .nil => 1
  | .ptr d => uptoBulk d + 1
  | .slice elems spare => uptoBulkAll elems + uptoBulkAll spare + 1
  | .agg parts => uptoBulkAll parts + 1
  | .iface _ d => uptoBulk d + 1
  | .map entries => uptoBulkEntries entries + 1
  | .held _ => 1
def uptoBulkAll {H : Type} : List (DataW H) → Nat
  | [] => 0
  | d :: r => uptoBulk d + uptoBulkAll r
def uptoBulkEntries {H : Type} : List (Lit × DataW H) → Nat
  | [] => 0
  | x :: r => uptoBulkEntry x + uptoBulkEntries r
def uptoBulkEntry {H : Type} : Lit × DataW H → Nat
  | (.string bytes, d) => bytes.length + uptoBulk d + 1
  | (_, d) => uptoBulk d + 1
 end
def uptoSmall : (H : Type) → List (DataW H) → Bool := fun _ ds => decide (uptoBulkAll ds ≤ 1048576)
def OpenSpec.upto (s : _root_.Go.ChangeSpec) : _root_.Go.OpenSpec := { _root_.Go.OpenSpec.ofChange s with cond := some uptoSmall }

/-- 'sigillumlaw09.SegmentScript', WHERE WHAT IT READS IS OF BULK AT MOST 1048576: true; the input reads as it did. -/
def segmentScriptUptoRow : OpenClaim := { program := "ytppdammgmnihgaadoor", sum := "741aefa65fec047b703dfc2a5817b8901f34bb6ce104cf0d03902aed60909ee7", func := "sigillum/sigillumlaw09.SegmentScript", spec := "segmentScript", inPlace := ["internal/reflectlite.ValueOf", "(internal/reflectlite.Value).Type", "(internal/reflectlite.Value).IsNil", "internal/reflectlite.TypeOf", "(internal/reflectlite.Value).Elem", "(internal/reflectlite.Value).Set"], unfollowed := true, recurses := true, named := ["errors.errorType"], apart := false, laid := [("errors.errorType", laid_errors_errorType)], narrowed := true }
def SegmentScriptUptoSaid : Prop := segmentScriptUptoRow.holds Tryd.pinned (OpenSpec.upto segmentScriptSpec)

/-- 'sigillumlaw09.SegmentApart', WHERE WHAT IT READS IS OF BULK AT MOST 1048576: true; the input reads as it did. -/
def segmentApartUptoRow : OpenClaim := { program := "ytppdammgmnihgaadoor", sum := "741aefa65fec047b703dfc2a5817b8901f34bb6ce104cf0d03902aed60909ee7", func := "sigillum/sigillumlaw09.SegmentApart", spec := "segmentApart", inPlace := ["internal/reflectlite.ValueOf", "(internal/reflectlite.Value).Type", "(internal/reflectlite.Value).IsNil", "internal/reflectlite.TypeOf", "(internal/reflectlite.Value).Elem", "(internal/reflectlite.Value).Set"], unfollowed := true, recurses := true, named := ["errors.errorType"], apart := false, laid := [("errors.errorType", laid_errors_errorType)], narrowed := true }
def SegmentApartUptoSaid : Prop := segmentApartUptoRow.holds Tryd.pinned (OpenSpec.upto segmentApartSpec)

/-- 'sigillumlaw09.SegmentGrow', WHERE WHAT IT READS IS OF BULK AT MOST 1048576: true; the input reads as it did. -/
def segmentGrowUptoRow : OpenClaim := { program := "ytppdammgmnihgaadoor", sum := "741aefa65fec047b703dfc2a5817b8901f34bb6ce104cf0d03902aed60909ee7", func := "sigillum/sigillumlaw09.SegmentGrow", spec := "segmentGrow", inPlace := ["internal/reflectlite.ValueOf", "(internal/reflectlite.Value).Type", "(internal/reflectlite.Value).IsNil", "internal/reflectlite.TypeOf", "(internal/reflectlite.Value).Elem", "(internal/reflectlite.Value).Set"], unfollowed := true, recurses := true, named := ["errors.errorType"], apart := false, laid := [("errors.errorType", laid_errors_errorType)], narrowed := true }
def SegmentGrowUptoSaid : Prop := segmentGrowUptoRow.holds Tryd.pinned (OpenSpec.upto segmentGrowSpec)

/-- 'sigillumlaw09.SegmentCount', WHERE WHAT IT READS IS OF BULK AT MOST 1048576: true; the input reads as it did. -/
def segmentCountUptoRow : OpenClaim := { program := "ytppdammgmnihgaadoor", sum := "741aefa65fec047b703dfc2a5817b8901f34bb6ce104cf0d03902aed60909ee7", func := "sigillum/sigillumlaw09.SegmentCount", spec := "segmentCount", inPlace := ["internal/reflectlite.ValueOf", "(internal/reflectlite.Value).Type", "(internal/reflectlite.Value).IsNil", "internal/reflectlite.TypeOf", "(internal/reflectlite.Value).Elem", "(internal/reflectlite.Value).Set"], unfollowed := true, recurses := true, named := ["errors.errorType"], apart := false, laid := [("errors.errorType", laid_errors_errorType)], narrowed := true }
def SegmentCountUptoSaid : Prop := segmentCountUptoRow.holds Tryd.pinned (OpenSpec.upto segmentCountSpec)

end Rows
end Go.Proofs.YtppdammgmnihgaaDoor
