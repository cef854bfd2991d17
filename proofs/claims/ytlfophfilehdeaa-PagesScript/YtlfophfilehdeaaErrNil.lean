/-
  errors.Is of no error, as a contract.
-/
import Derived.Test.YtlfophfilehdeaaErrIs
namespace Go.Proofs.Ytlfophfilehdeaa
open Go.RowKit
theorem run_equalIn_nil_iface {P : Program} (w : World) (d : Nat) {ti tn : TypeId} {ms : Array (String × TypeId)} (v : Value) (hi : P.underlying ti = some (.interface ms)) : (Op.equalIn (d + 1) ti .nilIface (.iface tn v)).run P w = .ok false w := by
  simp [Op.equalIn, run_underlying hi]
theorem run_eql_nil_iface {P : Program} (w : World) {ti tn : TypeId} {ms : Array (String × TypeId)} (v : Value) (hi : P.underlying ti = some (.interface ms)) : (binOp .eql ti .nilIface (.iface tn v)).run P w = .ok (.bool false) w := by
  simp only [binOp]
  simp [Op.equal, Op.maxDepth, run_equalIn_nil_iface w 9999 v hi]
set_option maxHeartbeats 400000 in
theorem is_nil (a : Int) (w : World) :
    Calls Try.prog 11 #[.nilIface, .iface 40 (.int .i64 a)] w fun e w' => e = .returned (.bool false) ∧ w' = w := by
  have heq := run_eql_nil_iface (P := Try.prog) (tn := 40) w (.int .i64 a) Try.underlying36
  go_enter Try.func11, Try.ntmps11
  go_wp2
  go_ret
  exact ⟨rfl, rfl⟩
end Go.Proofs.Ytlfophfilehdeaa
