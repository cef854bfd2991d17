/-
  errors.As at a target of type *api.Errno, and api.Number, as contracts: of an error that is an api.Errno, and of one that errors.New made.
  What errors.As answers at a target of type *api.Errno, and what api.Number, errors.New, header.Answer and header.Fault answer, as contracts.
  What api.Number answers, and the statements' Alike, as contracts: of no error, and of ErrTape.
  Two oracles of two tapes in one memory: what is asked of the one leaves the other as it was.
-/
import Derived.Test.YtlmnnjibggdboaaGreatDoorJb
import Derived.WalkKit
import Derived.LaidEql
import Derived.Stop.Asserts
import Derived.RowKitTokens
import Derived.Deep.RegionHeld
namespace Go.Proofs.YtlmnnjibggdboaaGreatDoor
section
open Go.RowKit Go.Extern.Stop Go.Stop Go.Extern
/- a type's handle; the Value of an *api.Errno, of an api.Errno, of the variable that is pointed to -/
def hdl (t : Nat) : Value := .pointer (some ⟨1, t, none⟩)
/- a method of reflectlite's Value that is not zero; Set of a value whose type is the target's -/
theorem rl_method {P : Program} (z : Sem Value) (f : TypeId → Addr → Nat → Nat → Sem Value) (v : Value) (w : World) (t : TypeId) (a : Addr) (fl : Nat) (h : (ReflectliteValue.parts v).run P w = .ok (some (t, a, fl)) w) :
    (ReflectliteValue.method z f #[v]).run P w = (f t a fl (fl % 32)).run P w := by
  delta ReflectliteValue.method
  conv => lhs; arg 2; whnf
  refine (Sem.run_bind ..).trans ?_
  refine (congrArg (fun r => Result.andThen r _) h).trans ?_
  simp only [Result.andThen]
theorem rl_set {P : Program} (v x : Value) (w : World) (dst src : TypeId) (a b : Addr) (fl fl' : Nat) (val : Value) (hv : (ReflectliteValue.parts v).run P w = .ok (some (dst, a, fl)) w) (hx : (ReflectliteValue.parts x).run P w = .ok (some (src, b, fl')) w)
    (hfl : (fl / ReflectliteValue.flagAddr % 2 == 0) = false) (hl : (loadVar src b).run P w = .ok val w) (hd : (Rtype.directlyAssignable dst src).run P w = .ok true w) :
    (ReflectliteValue.set #[v, x]).run P w = ((storeVar dst a val).run P w).andThen fun _ w' => .ok (.tuple #[]) w' := by
  delta ReflectliteValue.set
  conv => lhs; arg 2; whnf
  refine (Sem.run_bind ..).trans ?_
  refine (congrArg (fun r => Result.andThen r _) hv).trans ?_
  simp only [Result.andThen]
  refine (Sem.run_bind ..).trans ?_
  refine (congrArg (fun r => Result.andThen r _) hx).trans ?_
  simp only [Result.andThen]
  simp [hfl, hl, hd, Result.andThen]
theorem Tryz.valueOfP (t : Addr) (w : World) : (ReflectliteValue.unpack (.iface 98 (.pointer (some t)))).run Tryz.prog w
    = .ok (.agg #[.pointer (some ⟨1, 98, none⟩), .pointer (some ⟨w.heap.size, 0, none⟩), .int .u64 150]) (w.alloc (.cells #[.pointer (some t)] 98)) := by kernel_rfl
theorem Tryz.typeP (a : Addr) (w : World) : (ReflectliteValue.methodAny (ReflectliteValue.valueError "reflectlite.Value.Type" 0) (fun t _ _ _ => ReflectliteType.toType t) #[.agg #[.pointer (some ⟨1, 98, none⟩), .pointer (some a), .int .u64 150]]).run Tryz.prog w
    = .ok (.iface 156 (.agg #[.pointer (some ⟨1, 98, none⟩)])) w := by kernel_rfl
theorem Tryz.methodKind (h : Value) (w : World) : (Go.method 325 156 (.agg #[h]) "Kind").run Tryz.prog w = .ok (99, h) w := by kernel_rfl
theorem Tryz.kindP (w : World) : ((ReflectliteType.abiMethod fun t => (fun a : Nat => Value.int IntKind.u8 (a : Int)) <$> Rtype.kind t) #[.pointer (some ⟨1, 98, none⟩)]).run Tryz.prog w = .ok (.int .u8 22) w := by kernel_rfl
theorem Tryz.kindE (w : World) : ((ReflectliteType.abiMethod fun t => (fun a : Nat => Value.int IntKind.u8 (a : Int)) <$> Rtype.kind t) #[.pointer (some ⟨1, 47, none⟩)]).run Tryz.prog w = .ok (.int .u8 2) w := by kernel_rfl
theorem Tryz.partsP (a : Addr) (w : World) : (ReflectliteValue.parts (.agg #[.pointer (some ⟨1, 98, none⟩), .pointer (some a), .int .u64 150])).run Tryz.prog w = .ok (some (98, a, 150)) w := by kernel_rfl
theorem Tryz.isNilP (a p : Addr) (W : World) (ha : W.cell? a = some (.pointer (some p))) :
    (ReflectliteValue.method (ReflectliteValue.valueError "reflectlite.Value.IsNil" 0) ReflectliteValue.isNil #[.agg #[.pointer (some ⟨1, 98, none⟩), .pointer (some a), .int .u64 150]]).run Tryz.prog W = .ok (.bool false) W := by
  rw [rl_method _ _ _ _ _ _ _ (Tryz.partsP a W)]
  simp [ReflectliteValue.isNil, loadVar, isAgg, underlying, Tryz.underlying98, ha, Result.andThen]
theorem Tryz.methodElem (h : Value) (w : World) : (Go.method 325 156 (.agg #[h]) "Elem").run Tryz.prog w = .ok (127, .agg #[h]) w := by kernel_rfl
theorem Tryz.methodImplements (h : Value) (w : World) : (Go.method 325 156 (.agg #[h]) "Implements").run Tryz.prog w = .ok (128, .agg #[h]) w := by kernel_rfl
theorem Tryz.methodAssignableTo (h : Value) (w : World) : (Go.method 325 156 (.agg #[h]) "AssignableTo").run Tryz.prog w = .ok (125, .agg #[h]) w := by kernel_rfl
theorem Tryz.elemP (w : World) : (ReflectliteType.method ReflectliteType.elem #[.agg #[.pointer (some ⟨1, 98, none⟩)]]).run Tryz.prog w = .ok (.iface 156 (.agg #[.pointer (some ⟨1, 47, none⟩)])) w := by kernel_rfl
theorem Tryz.implementsE (w : World) : (ReflectliteType.relation "Implements" ReflectliteType.implements_ #[.agg #[.pointer (some ⟨1, 47, none⟩)], .iface 156 (.agg #[.pointer (some ⟨1, 42, none⟩)])]).run Tryz.prog w = .ok (.bool true) w := by kernel_rfl
theorem Tryz.typeOfE (v : Value) (w : World) : (ReflectliteType.typeOf #[.iface 47 v]).run Tryz.prog w = .ok (.iface 156 (.agg #[.pointer (some ⟨1, 47, none⟩)])) w := by kernel_rfl
theorem Tryz.assignE (w : World) : (ReflectliteType.relation "AssignableTo" ReflectliteType.assignableTo #[.agg #[.pointer (some ⟨1, 47, none⟩)], .iface 156 (.agg #[.pointer (some ⟨1, 47, none⟩)])]).run Tryz.prog w = .ok (.bool true) w := by kernel_rfl
theorem Tryz.valueOfE (a : Int) (w : World) : (ReflectliteValue.unpack (.iface 47 (.int .i64 a))).run Tryz.prog w
    = .ok (.agg #[.pointer (some ⟨1, 47, none⟩), .pointer (some ⟨w.heap.size, 0, none⟩), .int .u64 130]) (w.alloc (.cells #[.int .i64 a] 47)) := by kernel_rfl
theorem Tryz.elemOfP (w : World) : (Rtype.elem? 98).run Tryz.prog w = .ok (some 47) w := by kernel_rfl
theorem Tryz.mkE (p : Addr) (w : World) : (ReflectliteValue.mk 47 p ReflectliteValue.flagAddr).run Tryz.prog w = .ok (.agg #[.pointer (some ⟨1, 47, none⟩), .pointer (some p), .int .u64 386]) w := by kernel_rfl
theorem Tryz.elemVP (a p : Addr) (W : World) (ha : W.cell? a = some (.pointer (some p))) :
    (ReflectliteValue.method (ReflectliteValue.valueError "reflectlite.Value.Elem" 0) ReflectliteValue.elem #[.agg #[.pointer (some ⟨1, 98, none⟩), .pointer (some a), .int .u64 150]]).run Tryz.prog W
      = .ok (.agg #[.pointer (some ⟨1, 47, none⟩), .pointer (some p), .int .u64 386]) W := by
  rw [rl_method _ _ _ _ _ _ _ (Tryz.partsP a W)]
  simp [ReflectliteValue.elem, loadVar, isAgg, underlying, Tryz.underlying98, ha, Result.andThen, Tryz.elemOfP, Tryz.mkE]
theorem Tryz.partsEa (a : Addr) (w : World) : (ReflectliteValue.parts (.agg #[.pointer (some ⟨1, 47, none⟩), .pointer (some a), .int .u64 386])).run Tryz.prog w = .ok (some (47, a, 386)) w := by kernel_rfl
theorem Tryz.partsE (a : Addr) (w : World) : (ReflectliteValue.parts (.agg #[.pointer (some ⟨1, 47, none⟩), .pointer (some a), .int .u64 130])).run Tryz.prog w = .ok (some (47, a, 130)) w := by kernel_rfl
theorem Tryz.directE (w : World) : (Rtype.directlyAssignable 47 47).run Tryz.prog w = .ok true w := by kernel_rfl
theorem Tryz.setE (ta b : Addr) (a : Int) (old : Value) (W : World) (hb : W.cell? b = some (.int .i64 a)) (ht : W.cell? ta = some old) (hf : W.frozen? ta = false) :
    (ReflectliteValue.set #[.agg #[.pointer (some ⟨1, 47, none⟩), .pointer (some ta), .int .u64 386], .agg #[.pointer (some ⟨1, 47, none⟩), .pointer (some b), .int .u64 130]]).run Tryz.prog W
      = .ok (.tuple #[]) (W.setCell ta (.int .i64 a)) := by
  rw [rl_set _ _ _ _ _ _ _ _ _ (.int .i64 a) (Tryz.partsEa ta W) (Tryz.partsE b W) rfl (by simp [loadVar, isAgg, underlying, Tryz.underlying47, hb, Result.andThen]) (Tryz.directE W)]
  simp [storeVar, Value.cells, storeCells, Addr.add]
  rw [run_store Tryz.prog W ta _ _ (by rfl)]
  simp [ht, hf, Result.andThen]
end
end Go.Proofs.YtlmnnjibggdboaaGreatDoor
namespace Go.Proofs.YtlmnnjibggdboaaGreatDoor
section
open Go.RowKit Go.Extern.Stop Go.Stop Go.Extern
/- the variable errors.errorType holds the handle of 'error' -/
def Glob (w : World) : Prop := w.cell? ⟨0, 0, none⟩ = some (.iface 156 (.agg #[.pointer (some ⟨1, 42, none⟩)]))
theorem Glob.carry {w w' : World} (h : Glob w) (b : Below w.heap.size w w') : Glob w' := by
  unfold Glob at *; rw [b.cell (lt_of_cell h), h]
set_option maxHeartbeats 4000000 in
theorem as_hit (a : Int) (t : Addr) (old : Value) (w : World) (hg : Glob w) (ht0 : w.cell? t = some old) (hf0 : w.frozen? t = false) :
    Calls Tryz.prog 33 #[.iface 47 (.int .i64 a), .iface 98 (.pointer (some t))] w fun ev w' => ev = .returned (.bool true) ∧ w' = ((((w.alloc (.cells #[.pointer (some t)] 98)).alloc (.cells #[.pointer (some ⟨1, 98, none⟩), .pointer (some ⟨w.heap.size, 0, none⟩), .int .u64 150] 126)).alloc (.cells #[.pointer (some ⟨1, 98, none⟩), .pointer (some ⟨w.heap.size, 0, none⟩), .int .u64 150] 126)).alloc (.cells #[.int .i64 a] 47)).setCell t (.int .i64 a) := by
  have h28 := @run_callFunc_extern Tryz.prog 47 _ (fun args => ReflectliteValue.unpack (args.getD 0 (.tuple #[]))) Tryz.func47 (by kernel_rfl) (by kernel_rfl) (by kernel_rfl) (by kernel_rfl)
  have h29 := @run_callFunc_extern Tryz.prog 48 _ (ReflectliteValue.methodAny (ReflectliteValue.valueError "reflectlite.Value.Type" 0) (fun t _ _ _ => ReflectliteType.toType t)) Tryz.func48 (by kernel_rfl) (by kernel_rfl) (by kernel_rfl) (by kernel_rfl)
  have h30 := @run_callFunc_extern Tryz.prog 49 _ (ReflectliteValue.method (ReflectliteValue.valueError "reflectlite.Value.IsNil" 0) ReflectliteValue.isNil) Tryz.func49 (by kernel_rfl) (by kernel_rfl) (by kernel_rfl) (by kernel_rfl)
  have hK := @run_callFunc_extern Tryz.prog 99 _ (ReflectliteType.abiMethod fun t => do pure (.int .u8 (← Rtype.kind t))) Tryz.func99 (by kernel_rfl) (by kernel_rfl) (by kernel_rfl) (by kernel_rfl)
  have hEl := @run_callFunc_extern Tryz.prog 127 _ (ReflectliteType.method ReflectliteType.elem) Tryz.func127 (by kernel_rfl) (by kernel_rfl) (by kernel_rfl) (by kernel_rfl)
  have hIm := @run_callFunc_extern Tryz.prog 128 _ (ReflectliteType.relation "Implements" ReflectliteType.implements_) Tryz.func128 (by kernel_rfl) (by kernel_rfl) (by kernel_rfl) (by kernel_rfl)
  have hTO := @run_callFunc_extern Tryz.prog 68 _ ReflectliteType.typeOf Tryz.func68 (by kernel_rfl) (by kernel_rfl) (by kernel_rfl) (by kernel_rfl)
  have hAT := @run_callFunc_extern Tryz.prog 125 _ (ReflectliteType.relation "AssignableTo" ReflectliteType.assignableTo) Tryz.func125 (by kernel_rfl) (by kernel_rfl) (by kernel_rfl) (by kernel_rfl)
  have hVE := @run_callFunc_extern Tryz.prog 69 _ (ReflectliteValue.method (ReflectliteValue.valueError "reflectlite.Value.Elem" 0) ReflectliteValue.elem) Tryz.func69 (by kernel_rfl) (by kernel_rfl) (by kernel_rfl) (by kernel_rfl)
  have hVS := @run_callFunc_extern Tryz.prog 70 _ ReflectliteValue.set Tryz.func70 (by kernel_rfl) (by kernel_rfl) (by kernel_rfl) (by kernel_rfl)
  have tO := Tryz.typeOfE
  have mA := Tryz.methodAssignableTo
  have aE := Tryz.assignE
  have vE := Tryz.valueOfE
  have f6 := Tryz.valueOfP
  have f7 := Tryz.typeP
  have mK := Tryz.methodKind
  have mE := Tryz.methodElem
  have mI := Tryz.methodImplements
  have kP := Tryz.kindP
  have kE := Tryz.kindE
  have eP := Tryz.elemP
  have iE := Tryz.implementsE
  have hlt : 0 < w.heap.size := lt_of_cell hg
  have htl : t.block < w.heap.size := lt_of_cell ht0
  have hgc : w.cell? ⟨0, 0, none⟩ = some (.iface 156 (.agg #[.pointer (some ⟨1, 42, none⟩)])) := hg
  have n8 := Tryz.isNilP ⟨w.heap.size, 0, none⟩ t ((w.alloc (.cells #[.pointer (some t)] 98)).alloc (.cells #[.pointer (some ⟨1, 98, none⟩), .pointer (some ⟨w.heap.size, 0, none⟩), .int .u64 150] 126)) (by simp)
  have hg2 : ((w.alloc (.cells #[.pointer (some t)] 98)).alloc (.cells #[.pointer (some ⟨1, 98, none⟩), .pointer (some ⟨w.heap.size, 0, none⟩), .int .u64 150] 126)).cell? ⟨0, 0, none⟩ = some (.iface 156 (.agg #[.pointer (some ⟨1, 42, none⟩)])) := by
    rw [World.cell?_alloc_lt _ _ ⟨0, 0, none⟩ (by simp), World.cell?_alloc_lt _ _ ⟨0, 0, none⟩ hlt]; exact hgc
  have el := Tryz.elemVP ⟨w.heap.size, 0, none⟩ t (((w.alloc (.cells #[.pointer (some t)] 98)).alloc (.cells #[.pointer (some ⟨1, 98, none⟩), .pointer (some ⟨w.heap.size, 0, none⟩), .int .u64 150] 126)).alloc (.cells #[.pointer (some ⟨1, 98, none⟩), .pointer (some ⟨w.heap.size, 0, none⟩), .int .u64 150] 126)) (by rw [World.cell?_alloc_lt _ _ ⟨w.heap.size, 0, none⟩ (by simp; omega)]; simp)
  have st := Tryz.setE t ⟨w.heap.size + 1 + 1 + 1, 0, none⟩ a old ((((w.alloc (.cells #[.pointer (some t)] 98)).alloc (.cells #[.pointer (some ⟨1, 98, none⟩), .pointer (some ⟨w.heap.size, 0, none⟩), .int .u64 150] 126)).alloc (.cells #[.pointer (some ⟨1, 98, none⟩), .pointer (some ⟨w.heap.size, 0, none⟩), .int .u64 150] 126)).alloc (.cells #[.int .i64 a] 47))
    (by rw [World.cell?_alloc_at _ _ _ _ (by simp)]; rfl)
    (by rw [World.cell?_alloc_lt _ _ t (by simp; omega), World.cell?_alloc_lt _ _ t (by simp; omega), World.cell?_alloc_lt _ _ t (by simp; omega), World.cell?_alloc_lt _ _ t htl]; exact ht0)
    (by rw [World.frozen?_alloc_old _ _ t (by simp; omega), World.frozen?_alloc_old _ _ t (by simp; omega), World.frozen?_alloc_old _ _ t (by simp; omega), World.frozen?_alloc_old _ _ t (Nat.ne_of_lt htl)]; exact hf0)
  clear hg
  go_enter Tryz.func33, Tryz.ntmps33
  go_wp2
  refine wp_loop_rounds 1 ?_
  rw [rounds_succ]
  go_wp2
  go_ret
  exact ⟨rfl, rfl⟩
end
end Go.Proofs.YtlmnnjibggdboaaGreatDoor
namespace Go.Proofs.YtlmnnjibggdboaaGreatDoor
section
open Go.RowKit
theorem below_one {w w1 : World} (h : Below w.heap.size w w1) {w2 : World} (k : Below w1.heap.size w1 w2) : Below w.heap.size w w2 := h.trans (k.mono h.size)
theorem Glob.grow {B : Nat} {w w' : World} (h : Glob w) (b : Below B w w') (hB : 0 < B) : Glob w' := by
  unfold Glob at *; rw [b.cell (show 0 < B from hB), h]
theorem Glob.lt {w : World} (h : Glob w) : 0 < w.heap.size := lt_of_cell h
set_option maxHeartbeats 800000 in
theorem as_nil (t : Value) (w : World) :
    Calls Tryz.prog 33 #[.nilIface, t] w fun ev w' => ev = .returned (.bool false) ∧ w' = w := by
  go_enter Tryz.func33, Tryz.ntmps33
  go_wp2
  go_ret
  exact ⟨rfl, rfl⟩
set_option maxHeartbeats 800000 in
theorem number_nil (w : World) :
    Calls Tryz.prog 14 #[.nilIface] w fun e w' => e = .returned (.int .i64 0) ∧ Below w.heap.size w w' := by
  go_enter Tryz.func14, Tryz.ntmps14
  go_wp2_with fail
  refine (as_nil _ _).mono ?_; rintro e w1 ⟨rfl, rfl⟩
  go_wp2
  go_ret
  exact ⟨rfl, below_alloc _ _⟩
set_option maxHeartbeats 800000 in
theorem number_errno (a : Int) (w : World) (hg : Glob w) :
    Calls Tryz.prog 14 #[.iface 47 (.int .i64 a)] w fun e w' => e = .returned (.int .i64 a) ∧ Below w.heap.size w w' := by
  have HG : Hid (Glob (w.alloc (.cells #[.int .i64 0] 47))) := hg.carry (below_alloc _ _)
  clear hg
  go_enter Tryz.func14, Tryz.ntmps14
  go_wp2_with fail
  refine (as_hit a ⟨w.heap.size, 0, none⟩ (.int .i64 0) _ HG.out (by simp) (by simp)).mono ?_; rintro e w1 ⟨rfl, hw1⟩
  have hc : w1.cell? ⟨w.heap.size, 0, none⟩ = some (.int .i64 a) := by rw [hw1]; simp [go_sem]
  have b1 : Below w.heap.size w w1 := by rw [hw1]; go_grown
  clear hw1
  go_wp2
  go_ret
  exact ⟨rfl, b1⟩
end
end Go.Proofs.YtlmnnjibggdboaaGreatDoor
namespace Go.Proofs.YtlmnnjibggdboaaGreatDoor
section
open Go.RowKit
def Two (g m a : Nat) (v : Value) (g2 m2 a2 : Nat) (v2 : Value) : Prop := g ≠ g2 ∧ m ≠ m2 ∧ a ≠ a2 ∧ ∀ r, v.ownBlock = some r → v2.ownBlock ≠ some r
theorem Two.symm {g m a g2 m2 a2 : Nat} {v v2 : Value} (D : Two g m a v g2 m2 a2 v2) : Two g2 m2 a2 v2 g m a v := ⟨D.1.symm, D.2.1.symm, D.2.2.1.symm, fun r h1 h2 => D.2.2.2 r h2 h1⟩
theorem tape_cross {w : World} {a h c d : Nat} {ws us : List Nat} {t k t' k' : Nat} (T : TapeAt w a h ws t k) (T' : TapeAt w c d us t' k') : a ≠ d := by
  intro e
  have hr : w.heap[d]? = Option.some _ := T'.row
  rw [← e, T.box] at hr; simp at hr
theorem orc_cross {w : World} {B g m B2 g2 m2 : Nat} {tp v tp2 v2 : Value} {es es2 : List Ent} (O : Orc w B g m tp v es) (O2 : Orc w B2 g2 m2 tp2 v2 es2) : g2 ≠ m ∧ v.ownBlock ≠ some g2 ∧ m2 ≠ g ∧ v.ownBlock ≠ some m2 := by
  obtain ⟨y, z, hm⟩ := O.map.isMap
  obtain ⟨y2, z2, hm2⟩ := O2.map.isMap
  refine ⟨fun e => ?_, fun e => ?_, fun e => ?_, fun e => ?_⟩
  · rw [← e, O2.box] at hm; cases hm
  · obtain ⟨cur, h1, _⟩ := owns_block O.row e; rw [O2.box] at h1; cases h1
  · rw [e, O.box] at hm2; cases hm2
  · obtain ⟨cur, h1, _⟩ := owns_block O.row e; rw [hm2] at h1; cases h1
section
variable {w0 w w' : World} {B g m a h k B2 g2 m2 a2 h2 k2 t t2 : Nat} {v v' v2 : Value} {ws ws2 : List Nat} {es es2 : List Ent} {X : Ans}
theorem Tk.other (S : Tk w0 w B g m a h k v ws t es) (S2 : Tk w0 w B2 g2 m2 a2 h2 k2 v2 ws2 t2 es2) (D : Two g m a v g2 m2 a2 v2) (F : Foot (AskS g m a v) w w') : Tk w0 w' B2 g2 m2 a2 h2 k2 v2 ws2 t2 es2 := by
  have c1 := orc_cross S.orc S2.orc
  have c2 := orc_cross S2.orc S.orc
  have o1 := S.tape.off S2.orc
  have o2 := S2.tape.off S.orc
  have x1 := tape_cross S.tape S2.tape
  refine ⟨S2.orc.foot F (fun e => ?_) (fun e => ?_) (fun r hr e => ?_), S2.tape.foot F (fun e => ?_) (fun e => ?_), ⟨S2.new.b0, S2.new.a0, S2.new.h0, (S.new.step S.orc F).bel, Nat.le_trans S2.new.bs F.size⟩⟩
  · rcases e with e | e | e | e
    · exact D.1 e.symm
    · exact c1.1 e
    · exact o1.1.1 e.symm
    · exact c1.2.1 e
  · rcases e with e | e | e | e
    · exact c1.2.2.1 e
    · exact D.2.1 e.symm
    · exact o1.1.2.1 e.symm
    · exact c1.2.2.2 e
  · rcases e with e | e | e | e
    · exact c2.2.1 (e ▸ hr)
    · exact c2.2.2.2 (e ▸ hr)
    · exact o1.1.2.2 (e ▸ hr)
    · exact D.2.2.2 r e hr
  · rcases e with e | e | e | e
    · exact o2.1.1 e
    · exact o2.1.2.1 e
    · exact D.2.2.1 e.symm
    · exact o2.1.2.2 e
  · rcases e with e | e | e | e
    · exact o2.2.1 e
    · exact o2.2.2.1 e
    · exact x1 e.symm
    · exact o2.2.2.2 e
theorem Left.pair (L : Left w0 w B g m a h k v ws w' X) (S : Tk w0 w B g m a h k v ws t es) (S2 : Tk w0 w B2 g2 m2 a2 h2 k2 v2 ws2 t2 es2) (D : Two g m a v g2 m2 a2 v2) :
    ∃ v', Tk w0 w' B g m a h k v' ws X.t X.es ∧ Tk w0 w' B2 g2 m2 a2 h2 k2 v2 ws2 t2 es2 ∧ Two g m a v' g2 m2 a2 v2 ∧ Foot (AskS g m a v) w w' := by
  obtain ⟨v', T, F, hv⟩ := L
  refine ⟨v', T, S.other S2 D F, ⟨D.1, D.2.1, D.2.2.1, fun r hr e => ?_⟩, F⟩
  rcases hv r hr with h1 | h1
  · exact D.2.2.2 r h1 e
  · obtain ⟨cur, hx, _⟩ := owns_block S2.orc.row e
    have := lt_of_heap hx
    omega
end
/- a second one, made behind the first -/
theorem Tk.second {w0 w3 w4 w5 : World} {B g m a h k c d k2 g2 m2 : Nat} {ws us : List Nat} (S : Tk w0 w3 B g m a h k (.slice none 0 0) ws 0 []) (T : TapeAt w4 c d us 0 k2) (hc : w3.heap.size ≤ c) (hd : w3.heap.size ≤ d) (b4 : Below w3.heap.size w3 w4) (O : Orc w5 w4.heap.size g2 m2 (.pointer (some ⟨c, 0, none⟩)) (.slice none 0 0) []) (b5 : Below w4.heap.size w4 w5) :
    Tk w0 w5 B g m a h k (.slice none 0 0) ws 0 [] ∧ Tk w0 w5 w4.heap.size g2 m2 c d k2 (.slice none 0 0) us 0 [] ∧ Two g m a (.slice none 0 0) g2 m2 c (.slice none 0 0) := by
  refine ⟨(S.grow b4).grow b5, Tk.made S.new.bel T hc hd b4 O b5, ?_, ?_, ?_, fun r h => by cases h⟩
  · have h1 := lt_of_heap S.orc.box
    have h2 := O.bg
    have h3 := b4.size
    omega
  · have h1 := S.orc.map.lt
    have h2 := O.bm
    have h3 := b4.size
    omega
  · have h1 := lt_of_heap S.tape.box
    omega
end
end Go.Proofs.YtlmnnjibggdboaaGreatDoor
