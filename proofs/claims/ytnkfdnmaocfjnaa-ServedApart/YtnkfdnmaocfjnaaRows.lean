/-
  No cell of these rows narrows 'for every input' (looked for: loops, veiled, ifaces, maps, wideKeys, modest, calm, conditions, laid).
  DERIVED. THE GIVEN ROWS OF THIS SEAT. 2 by the template 'for every input the law returns true; each argument reads behind the call as it read before'; 0 by the template 'total and deterministic' (their statements: YtnkfdnmaocfjnaaTotals.lean).
  GIVEN WITH THE SEED: the statements are not yours to turn. If you find one false, say at which input.
  Laid BY PROGRAM, IN A SANDBOX (cutbox-rows.mjs): the forced cells as the released guide's own fill.sh prints them over the translation a50eb0d2b94bdfd8… (all of the seat's roots in one cut). By AI agents, Wed Nov 11 2026. No macro, syntax, notation, axiom, sorry.
-/
import Derived.Test.YtnkfdnmaocfjnaaChecked
import GoSem.Claim
import GoSem.ClaimJoined
import GoSem.ClaimMapViews
import Derived.JoinedTies
import Derived.KernelRfl
namespace Go.Proofs.Ytnkfdnmaocfjnaa
/- THE CELL 'sum', in the pinned program and in every row, IS THE sha256 OF THE DUMP (.gsa) THAT YtnkfdnmaocfjnaaProg.lean LOADS. Nothing in Lean hashes anything: it is a label: what it is worth is what the hold of that sum in a sandbox is worth. -/
noncomputable def Try.pinned : Pinned := { name := "ytnkfdnmaocfjnaa", sum := "a50eb0d2b94bdfd8ae3e052d22545be41921b18440bec55915bc3934cefbbd30", checked := Try.checked }
namespace Rows
def none {H : Type} : Left H := { results := [], args := [] }

/-- 'sigillumlaw22.ServedOnce': WHATEVER THE INPUT: true; the input reads as it did. -/
def servedOnceSpec : ChangeSpec := { name := "servedOnce", fn := fun _ => fun
  | [d1, d2, d3, d4] => { results := [.lit (.bool true)], args := [d1, d2, d3, d4] }
  | _ => none }
def servedOnceRow : OpenClaim := { program := "ytnkfdnmaocfjnaa", sum := "a50eb0d2b94bdfd8ae3e052d22545be41921b18440bec55915bc3934cefbbd30", func := "sigillum/sigillumlaw22.ServedOnce", spec := "servedOnce", unfollowed := true, recurses := true, apart := false }
def ServedOnceSaid : Prop := servedOnceRow.holds Try.pinned (OpenSpec.ofChange servedOnceSpec)

/-- ITS FALSE NEIGHBOUR: 'it returns false'. Refute it at one input. -/
def servedOnceWrong : ChangeSpec := { name := "servedOnce", fn := fun _ => fun
  | [d1, d2, d3, d4] => { results := [.lit (.bool false)], args := [d1, d2, d3, d4] }
  | _ => none }
def ServedOnceWrongFalsely : Prop := servedOnceRow.holds Try.pinned (OpenSpec.ofChange servedOnceWrong)

/-- 'sigillumlaw22.ServedApart': WHATEVER THE INPUT: true; the input reads as it did. -/
def servedApartSpec : ChangeSpec := { name := "servedApart", fn := fun _ => fun
  | [d1, d2, d3, d4] => { results := [.lit (.bool true)], args := [d1, d2, d3, d4] }
  | _ => none }
def servedApartRow : OpenClaim := { program := "ytnkfdnmaocfjnaa", sum := "a50eb0d2b94bdfd8ae3e052d22545be41921b18440bec55915bc3934cefbbd30", func := "sigillum/sigillumlaw22.ServedApart", spec := "servedApart", unfollowed := true, recurses := true, apart := false }
def ServedApartSaid : Prop := servedApartRow.holds Try.pinned (OpenSpec.ofChange servedApartSpec)

/-- ITS FALSE NEIGHBOUR: 'it returns false'. Refute it at one input. -/
def servedApartWrong : ChangeSpec := { name := "servedApart", fn := fun _ => fun
  | [d1, d2, d3, d4] => { results := [.lit (.bool false)], args := [d1, d2, d3, d4] }
  | _ => none }
def ServedApartWrongFalsely : Prop := servedApartRow.holds Try.pinned (OpenSpec.ofChange servedApartWrong)

/- THE SECOND FORM. 'bulk': how many values and letters a reading holds, each counted each time it is reached (what is shared counts as often as it is met; a slice's spare places count too). A statement '..UptoSaid' is the law's where the arguments, and the package variables that the reading takes, are together of bulk at most 1048576: NARROWER than '..Said'. Prove '..Said' where nothing that the law and all that it calls make is longer than what came in: it says more and counts as full. Else prove '..UptoSaid'. A law counts once. -/
mutual
def uptoBulk {H : Type} : DataW H → Nat
  | .lit (.string bytes) => bytes.length + 1
  | .lit _ => 1
  | .nil => 1
  | .ptr d => uptoBulk d + 1
  | .slice elems spare => uptoBulkAll elems + uptoBulkAll spare + 1
  | .agg parts => uptoBulkAll parts + 1
  | .iface _ d => uptoBulk d + 1
  | .map entries => uptoBulkEntries entries + 1
  | .held _ => 1
def uptoBulkAll {H : Type} : List (DataW H) → Nat
  | [] => 0
  | d :: r => uptoBulk d + uptoBulkAll r
def uptoBulkEntries {H : Type} : List (Lit × DataW H) → Nat
  | [] => 0
  | x :: r => uptoBulkEntry x + uptoBulkEntries r
def uptoBulkEntry {H : Type} : Lit × DataW H → Nat
  | (.string bytes, d) => bytes.length + uptoBulk d + 1
  | (_, d) => uptoBulk d + 1
 end
def uptoSmall : (H : Type) → List (DataW H) → Bool := fun _ ds => decide (uptoBulkAll ds ≤ 1048576)
def OpenSpec.upto (s : _root_.Go.ChangeSpec) : _root_.Go.OpenSpec := { _root_.Go.OpenSpec.ofChange s with cond := some uptoSmall }

/-- 'sigillumlaw22.ServedOnce', WHERE WHAT IT READS IS OF BULK AT MOST 1048576: true; the input reads as it did. -/
def servedOnceUptoRow : OpenClaim := { program := "ytnkfdnmaocfjnaa", sum := "a50eb0d2b94bdfd8ae3e052d22545be41921b18440bec55915bc3934cefbbd30", func := "sigillum/sigillumlaw22.ServedOnce", spec := "servedOnce", unfollowed := true, recurses := true, apart := false, narrowed := true }
def ServedOnceUptoSaid : Prop := servedOnceUptoRow.holds Try.pinned (OpenSpec.upto servedOnceSpec)

/-- 'sigillumlaw22.ServedApart', WHERE WHAT IT READS IS OF BULK AT MOST 1048576: true; the input reads as it did. -/
def servedApartUptoRow : OpenClaim := { program := "ytnkfdnmaocfjnaa", sum := "a50eb0d2b94bdfd8ae3e052d22545be41921b18440bec55915bc3934cefbbd30", func := "sigillum/sigillumlaw22.ServedApart", spec := "servedApart", unfollowed := true, recurses := true, apart := false, narrowed := true }
def ServedApartUptoSaid : Prop := servedApartUptoRow.holds Try.pinned (OpenSpec.upto servedApartSpec)

end Rows
end Go.Proofs.Ytnkfdnmaocfjnaa
