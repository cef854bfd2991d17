/-
  errors.Is of two errors that are api.Errno, as contracts.
-/
import Derived.Test.YtlfophfilehdeaaRows
import Derived.WalkKit
import Derived.LaidEql
import Derived.Stop.Asserts
import Derived.RowKitTokens
namespace Go.Proofs.Ytlfophfilehdeaa
open Go.RowKit Go.Extern.Stop Go.Stop Go.Extern
theorem run_equalIn_iface_num {P : Program} (w : World) (d : Nat) {ti tn : TypeId} {ms : Array (String × TypeId)} {i : TypeInfo} {k : IntKind} (a b : Int)
    (hi : P.underlying ti = some (.interface ms)) (hn : P.underlying tn = some (.int k)) (hinfo : P.info? tn = some i) (hcomp : i.comparable = true) :
    (Op.equalIn (d + 2) ti (.iface tn (.int k a)) (.iface tn (.int k b))).run P w = .ok (a == b) w := by
  simp [Op.equalIn, run_underlying hi, run_underlying hn, typeInfo, hinfo, hcomp]
theorem run_eql_iface_num {P : Program} (w : World) {ti tn : TypeId} {ms : Array (String × TypeId)} {i : TypeInfo} {k : IntKind} (a b : Int)
    (hi : P.underlying ti = some (.interface ms)) (hn : P.underlying tn = some (.int k)) (hinfo : P.info? tn = some i) (hcomp : i.comparable = true) :
    (binOp .eql ti (.iface tn (.int k a)) (.iface tn (.int k b))).run P w = .ok (.bool (a == b)) w := by
  simp only [binOp]
  simp [Op.equal, Op.maxDepth, run_equalIn_iface_num w 9998 a b hi hn hinfo hcomp]
theorem Try.isTypeOf (v : Value) (w : World) : (Extern.ReflectliteType.typeOf #[.iface 40 v]).run Try.prog w = .ok (.iface 61 (.agg #[.pointer (some ⟨0, 40, none⟩)])) w := by kernel_rfl
def compEntry : Array Value → Sem Value := Extern.ReflectliteType.method fun t => do Extern.Rtype.noPackHeld "Comparable" t; pure (.bool (← typeInfo t).comparable)
theorem Try.isComparable (w : World) : (compEntry #[.agg #[.pointer (some ⟨0, 40, none⟩)]]).run Try.prog w = .ok (.bool true) w := by kernel_rfl
theorem Try.isComp : (Try.prog.info? 40).map (·.comparable) = some true := by kernel_rfl
theorem Try.isMethodComparable (v : Value) (w : World) : (Go.method 204 61 v "Comparable").run Try.prog w = .ok (41, v) w := by kernel_rfl
set_option maxHeartbeats 400000 in
/- errors.Is(x, x) of one number -/
theorem is_same (a : Int) (w : World) :
    Calls Try.prog 11 #[.iface 40 (.int .i64 a), .iface 40 (.int .i64 a)] w fun e w' => e = .returned (.bool true) ∧ w' = w := by
  obtain ⟨i, hi, hcmp⟩ := Option.map_eq_some_iff.1 Try.isComp
  have h8 := @run_callFunc_extern Try.prog 17 _ Extern.ReflectliteType.typeOf Try.func17 (by kernel_rfl) (by kernel_rfl) (by kernel_rfl) (by kernel_rfl)
  have h32 := @run_callFunc_extern Try.prog 41 _ compEntry Try.func41 (by kernel_rfl) (by kernel_rfl) (by kernel_rfl) (by kernel_rfl)
  have tT := Try.isTypeOf
  have cT := Try.isComparable
  have mR := Try.isMethodComparable
  have heq := run_eql_iface_num (P := Try.prog) w a a Try.underlying36 Try.underlying40 hi hcmp
  go_enter Try.func11, Try.ntmps11
  go_wp2
  refine wp_loop_rounds 1 ?_
  rw [rounds_succ]
  go_wp2
  go_ret
  exact ⟨rfl, rfl⟩
end Go.Proofs.Ytlfophfilehdeaa
