/-
  errors.As at a target of type *api.Errno, and api.Number, as contracts: of an error that is an api.Errno, and of one that errors.New made.
-/
import Derived.Test.YtgcmompldcnhlaaDoorKRes
import Derived.WalkKit
import Derived.LaidEql
import Derived.Stop.Asserts
import Derived.RowKitTokens
namespace Go.Proofs.YtgcmompldcnhlaaDoor
open Go.RowKit Go.Extern.Stop Go.Stop Go.Extern
/- a type's handle; the Value of an *api.Errno, of an api.Errno, of the variable that is pointed to -/
def hdl (t : Nat) : Value := .pointer (some ⟨1, t, none⟩)
/- a method of reflectlite's Value that is not zero; Set of a value whose type is the target's -/
theorem rl_method {P : Program} (z : Sem Value) (f : TypeId → Addr → Nat → Nat → Sem Value) (v : Value) (w : World) (t : TypeId) (a : Addr) (fl : Nat) (h : (ReflectliteValue.parts v).run P w = .ok (some (t, a, fl)) w) :
    (ReflectliteValue.method z f #[v]).run P w = (f t a fl (fl % 32)).run P w := by
  delta ReflectliteValue.method
  conv => lhs; arg 2; whnf
  refine (Sem.run_bind ..).trans ?_
  refine (congrArg (fun r => Result.andThen r _) h).trans ?_
  simp only [Result.andThen]
theorem rl_set {P : Program} (v x : Value) (w : World) (dst src : TypeId) (a b : Addr) (fl fl' : Nat) (val : Value) (hv : (ReflectliteValue.parts v).run P w = .ok (some (dst, a, fl)) w) (hx : (ReflectliteValue.parts x).run P w = .ok (some (src, b, fl')) w)
    (hfl : (fl / ReflectliteValue.flagAddr % 2 == 0) = false) (hl : (loadVar src b).run P w = .ok val w) (hd : (Rtype.directlyAssignable dst src).run P w = .ok true w) :
    (ReflectliteValue.set #[v, x]).run P w = ((storeVar dst a val).run P w).andThen fun _ w' => .ok (.tuple #[]) w' := by
  delta ReflectliteValue.set
  conv => lhs; arg 2; whnf
  refine (Sem.run_bind ..).trans ?_
  refine (congrArg (fun r => Result.andThen r _) hv).trans ?_
  simp only [Result.andThen]
  refine (Sem.run_bind ..).trans ?_
  refine (congrArg (fun r => Result.andThen r _) hx).trans ?_
  simp only [Result.andThen]
  simp [hfl, hl, hd, Result.andThen]
theorem Tryd.valueOfP (t : Addr) (w : World) : (ReflectliteValue.unpack (.iface 106 (.pointer (some t)))).run Tryd.prog w
    = .ok (.agg #[.pointer (some ⟨1, 106, none⟩), .pointer (some ⟨w.heap.size, 0, none⟩), .int .u64 150]) (w.alloc (.cells #[.pointer (some t)] 106)) := by kernel_rfl
theorem Tryd.typeP (a : Addr) (w : World) : (ReflectliteValue.methodAny (ReflectliteValue.valueError "reflectlite.Value.Type" 0) (fun t _ _ _ => ReflectliteType.toType t) #[.agg #[.pointer (some ⟨1, 106, none⟩), .pointer (some a), .int .u64 150]]).run Tryd.prog w
    = .ok (.iface 131 (.agg #[.pointer (some ⟨1, 106, none⟩)])) w := by kernel_rfl
theorem Tryd.methodKind (h : Value) (w : World) : (Go.method 275 131 (.agg #[h]) "Kind").run Tryd.prog w = .ok (74, h) w := by kernel_rfl
theorem Tryd.kindP (w : World) : ((ReflectliteType.abiMethod fun t => (fun a : Nat => Value.int IntKind.u8 (a : Int)) <$> Rtype.kind t) #[.pointer (some ⟨1, 106, none⟩)]).run Tryd.prog w = .ok (.int .u8 22) w := by kernel_rfl
theorem Tryd.kindE (w : World) : ((ReflectliteType.abiMethod fun t => (fun a : Nat => Value.int IntKind.u8 (a : Int)) <$> Rtype.kind t) #[.pointer (some ⟨1, 60, none⟩)]).run Tryd.prog w = .ok (.int .u8 2) w := by kernel_rfl
theorem Tryd.partsP (a : Addr) (w : World) : (ReflectliteValue.parts (.agg #[.pointer (some ⟨1, 106, none⟩), .pointer (some a), .int .u64 150])).run Tryd.prog w = .ok (some (106, a, 150)) w := by kernel_rfl
theorem Tryd.isNilP (a p : Addr) (W : World) (ha : W.cell? a = some (.pointer (some p))) :
    (ReflectliteValue.method (ReflectliteValue.valueError "reflectlite.Value.IsNil" 0) ReflectliteValue.isNil #[.agg #[.pointer (some ⟨1, 106, none⟩), .pointer (some a), .int .u64 150]]).run Tryd.prog W = .ok (.bool false) W := by
  rw [rl_method _ _ _ _ _ _ _ (Tryd.partsP a W)]
  simp [ReflectliteValue.isNil, loadVar, isAgg, underlying, Tryd.underlying106, ha, Result.andThen]
theorem Tryd.methodElem (h : Value) (w : World) : (Go.method 275 131 (.agg #[h]) "Elem").run Tryd.prog w = .ok (86, .agg #[h]) w := by kernel_rfl
theorem Tryd.methodImplements (h : Value) (w : World) : (Go.method 275 131 (.agg #[h]) "Implements").run Tryd.prog w = .ok (87, .agg #[h]) w := by kernel_rfl
theorem Tryd.methodAssignableTo (h : Value) (w : World) : (Go.method 275 131 (.agg #[h]) "AssignableTo").run Tryd.prog w = .ok (84, .agg #[h]) w := by kernel_rfl
theorem Tryd.elemP (w : World) : (ReflectliteType.method ReflectliteType.elem #[.agg #[.pointer (some ⟨1, 106, none⟩)]]).run Tryd.prog w = .ok (.iface 131 (.agg #[.pointer (some ⟨1, 60, none⟩)])) w := by kernel_rfl
theorem Tryd.implementsE (w : World) : (ReflectliteType.relation "Implements" ReflectliteType.implements_ #[.agg #[.pointer (some ⟨1, 60, none⟩)], .iface 131 (.agg #[.pointer (some ⟨1, 52, none⟩)])]).run Tryd.prog w = .ok (.bool true) w := by kernel_rfl
theorem Tryd.typeOfE (v : Value) (w : World) : (ReflectliteType.typeOf #[.iface 60 v]).run Tryd.prog w = .ok (.iface 131 (.agg #[.pointer (some ⟨1, 60, none⟩)])) w := by kernel_rfl
theorem Tryd.assignE (w : World) : (ReflectliteType.relation "AssignableTo" ReflectliteType.assignableTo #[.agg #[.pointer (some ⟨1, 60, none⟩)], .iface 131 (.agg #[.pointer (some ⟨1, 60, none⟩)])]).run Tryd.prog w = .ok (.bool true) w := by kernel_rfl
theorem Tryd.valueOfE (a : Int) (w : World) : (ReflectliteValue.unpack (.iface 60 (.int .i64 a))).run Tryd.prog w
    = .ok (.agg #[.pointer (some ⟨1, 60, none⟩), .pointer (some ⟨w.heap.size, 0, none⟩), .int .u64 130]) (w.alloc (.cells #[.int .i64 a] 60)) := by kernel_rfl
theorem Tryd.elemOfP (w : World) : (Rtype.elem? 106).run Tryd.prog w = .ok (some 60) w := by kernel_rfl
theorem Tryd.mkE (p : Addr) (w : World) : (ReflectliteValue.mk 60 p ReflectliteValue.flagAddr).run Tryd.prog w = .ok (.agg #[.pointer (some ⟨1, 60, none⟩), .pointer (some p), .int .u64 386]) w := by kernel_rfl
theorem Tryd.elemVP (a p : Addr) (W : World) (ha : W.cell? a = some (.pointer (some p))) :
    (ReflectliteValue.method (ReflectliteValue.valueError "reflectlite.Value.Elem" 0) ReflectliteValue.elem #[.agg #[.pointer (some ⟨1, 106, none⟩), .pointer (some a), .int .u64 150]]).run Tryd.prog W
      = .ok (.agg #[.pointer (some ⟨1, 60, none⟩), .pointer (some p), .int .u64 386]) W := by
  rw [rl_method _ _ _ _ _ _ _ (Tryd.partsP a W)]
  simp [ReflectliteValue.elem, loadVar, isAgg, underlying, Tryd.underlying106, ha, Result.andThen, Tryd.elemOfP, Tryd.mkE]
theorem Tryd.partsEa (a : Addr) (w : World) : (ReflectliteValue.parts (.agg #[.pointer (some ⟨1, 60, none⟩), .pointer (some a), .int .u64 386])).run Tryd.prog w = .ok (some (60, a, 386)) w := by kernel_rfl
theorem Tryd.partsE (a : Addr) (w : World) : (ReflectliteValue.parts (.agg #[.pointer (some ⟨1, 60, none⟩), .pointer (some a), .int .u64 130])).run Tryd.prog w = .ok (some (60, a, 130)) w := by kernel_rfl
theorem Tryd.directE (w : World) : (Rtype.directlyAssignable 60 60).run Tryd.prog w = .ok true w := by kernel_rfl
theorem Tryd.setE (ta b : Addr) (a : Int) (old : Value) (W : World) (hb : W.cell? b = some (.int .i64 a)) (ht : W.cell? ta = some old) (hf : W.frozen? ta = false) :
    (ReflectliteValue.set #[.agg #[.pointer (some ⟨1, 60, none⟩), .pointer (some ta), .int .u64 386], .agg #[.pointer (some ⟨1, 60, none⟩), .pointer (some b), .int .u64 130]]).run Tryd.prog W
      = .ok (.tuple #[]) (W.setCell ta (.int .i64 a)) := by
  rw [rl_set _ _ _ _ _ _ _ _ _ (.int .i64 a) (Tryd.partsEa ta W) (Tryd.partsE b W) rfl (by simp [loadVar, isAgg, underlying, Tryd.underlying60, hb, Result.andThen]) (Tryd.directE W)]
  simp [storeVar, Value.cells, storeCells, Addr.add]
  rw [run_store Tryd.prog W ta _ _ (by rfl)]
  simp [ht, hf, Result.andThen]
end Go.Proofs.YtgcmompldcnhlaaDoor
