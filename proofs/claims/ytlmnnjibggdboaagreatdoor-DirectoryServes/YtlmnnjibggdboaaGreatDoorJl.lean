/-
  What the server's own parts answer, and what they leave: whole, need, gone, do, as contracts.
  What the server's part 'do' answers, and what it leaves, as contracts.
  What header.Answer answers, as a contract: its data lie in a row of bytes.
  May a capability be? As a contract.
  What the server's part destroy answers, and what it leaves, as a contract.
  What the server's part own answers, and what it leaves, as a contract.
  What comes of a request (the server's part outcome), as a contract: a capability that may not be.
  What comes of a request (the server's part outcome), as a contract: Destroy.
  What comes of a request (the server's part outcome), as a contract: the service's own.
  What Serve answers, and what it leaves, as a contract.
-/
import Derived.Test.YtlmnnjibggdboaaGreatDoorJk
import Derived.Recover
import Derived.Defers
import Derived.Deep.RegionHeld
namespace Go.Proofs.YtlmnnjibggdboaaGreatDoor
section
open Go.RowKit
variable {w0 w w1 w2 w' : World} {A A' : Ad} {p : Nat} {ws : List Nat} {s s' s1 : Hs} {r g : Nat} {sb : Nat × Bool}
/- bytes that no call on a store turns -/
def Dat (N : Nat) (w : World) (sn : Nat) (so : Option Addr) : Prop := 0 < sn → ∀ ad, so = some ad → ad.block < N ∨ ∃ cs z, w.heap[ad.block]? = some (.cells cs 5 z)
theorem Kh.bytes (k : Kh w w') {b : Nat} {cs : Array Value} {z : Nat × Nat} (h : w.heap[b]? = some (.cells cs 5 z)) : w'.heap[b]? = some (.cells cs 5 z) := by
  by_cases hz : z = (0, 0)
  · subst hz; exact (k.block _ _ _ h byte_odd3).trans h
  · exact (k.froz _ _ _ _ h hz).trans h
theorem Dat.kh {N sn : Nat} {so : Option Addr} (h : Dat N w sn so) (k : Kh w w') : Dat N w' sn so := fun hp ad e => by
  rcases h hp ad e with h | ⟨cs, z, h⟩
  · exact .inl h
  · exact .inr ⟨cs, z, k.bytes h⟩
theorem Dat.grow {N sn : Nat} {so : Option Addr} (h : Dat N w sn so) (b : Below w.heap.size w w') : Dat N w' sn so := h.kh (below_kh b)
/- a server in memory: its objects, its service -/
def Sr (w : World) (r g : Nat) (sb : Nat × Bool) : Prop := w.heap[r]? = some (.cells #[.pointer (some ⟨g, 0, none⟩), .iface 60 (.pointer (some ⟨sb.1, 0, none⟩))] 121 (0, 0)) ∧ Mb w g sb
theorem Sr.c0 (h : Sr w r g sb) : w.cell? ⟨r, 0, none⟩ = some (.pointer (some ⟨g, 0, none⟩)) := by rw [cell_of_row w r _ _ _ _ h.1]; rfl
theorem Sr.c1 (h : Sr w r g sb) : w.cell? ⟨r, 1, none⟩ = some (.iface 60 (.pointer (some ⟨sb.1, 0, none⟩))) := by rw [cell_of_row w r _ _ _ _ h.1]; rfl
theorem Sr.kh (h : Sr w r g sb) (k : Kh w w') : Sr w' r g sb := ⟨(k.block _ _ _ h.1 srv_odd3).trans h.1, h.2.kh k⟩
theorem Sr.grow (h : Sr w r g sb) (b : Below w.heap.size w w') : Sr w' r g sb := h.kh (below_kh b)
theorem Sr.foot {S : Nat → Prop} (h : Sr w r g sb) (f : Foot S w w') (hS : ¬ S r) (hM : ¬ S sb.1) : Sr w' r g sb := ⟨(f.block r (lt_of_heap h.1) hS).trans h.1, h.2.foot f hM⟩
/- a variable of another type turns -/
theorem Sr.var {b : Nat} {cs : Array Value} {ty : TypeId} (h : Sr w r g sb) (f : Foot (fun j => j = b) w w') (hb : w.heap[b]? = some (.cells cs ty (0, 0))) (h1 : ty ≠ 121) (_h2 : ty ≠ 63) : Sr w' r g sb :=
  ⟨(f.block r (lt_of_heap h.1) (fun e => by rw [← e, h.1] at hb; cases hb; exact h1 rfl)).trans h.1, h.2⟩
/- what a request wants -/
structure Lim (s : Hs) : Prop where
  el : s.es.length < 4999999000000
  q : s.q < 5000000000000000
  n : s.n ≤ 4611686018427387904
  vl : ∀ k, I64 (s.T k).v
set_option maxHeartbeats 800000 in
theorem whole_any (h : Sr w r g sb) : Calls Tryz.prog 53 #[.pointer (some ⟨r, 0, none⟩)] w fun e w' => e = .returned (.bool true) ∧ w' = w := by
  have c0 := h.c0
  have c1 := h.c1
  clear h
  go_enter Tryz.func53, Tryz.ntmps53
  go_wp2
  go_ret
  exact ⟨rfl, rfl⟩
theorem need_idle (w : World) : CallsD Tryz.prog 83 #[] .returning w fun e u' w' => e = .returned (.tuple #[]) ∧ u' = .returning ∧ w' = w := by
  refine callsD_of_wpS Tryz.func83 rfl fun c₀ cs hu => ?_
  apply wpS_region
  simp [wpOpsS, go_sem, recoverD, hu, Tryz.ntmps83]
  cases c₀
  simp_all [bodyPostS, results, Tryz.results83]
theorem gone_idle (w : World) : CallsD Tryz.prog 82 #[] .returning w fun e u' w' => e = .returned (.tuple #[]) ∧ u' = .returning ∧ w' = w := by
  refine callsD_of_wpS Tryz.func82 rfl fun c₀ cs hu => ?_
  apply wpS_region
  simp [wpOpsS, go_sem, recoverD, hu, Tryz.ntmps82]
  cases c₀
  simp_all [bodyPostS, results, Tryz.results82]
theorem do_idle (a b : Addr) (w : World) : CallsD Tryz.prog 84 #[.pointer (some a), .pointer (some b)] .returning w fun e u' w' => e = .returned (.tuple #[]) ∧ u' = .returning ∧ w' = w := by
  refine callsD_of_wpS Tryz.func84 rfl fun c₀ cs hu => ?_
  apply wpS_seq
  apply wpS_region
  simp [wpOpsS, go_sem, recoverD, hu, Tryz.ntmps84, Exit.thenS]
  refine wpS_cond (t := false) (by simp [Act.eval, Array.replicate]) ?_
  simp only [Bool.false_eq_true, if_false]
  refine wpS_of_wp (wp_skip ?_)
  cases c₀
  simp_all [bodyPostS, results, Tryz.results84]
theorem Tryz.mNeed (v : Value) (w : World) : (Go.method 325 60 v "Need").run Tryz.prog w = .ok (20, v) w := by kernel_rfl
theorem Tryz.mDo (v : Value) (w : World) : (Go.method 325 60 v "Do").run Tryz.prog w = .ok (107, v) w := by kernel_rfl
theorem Tryz.mGone (v : Value) (w : World) : (Go.method 325 60 v "Gone").run Tryz.prog w = .ok (108, v) w := by kernel_rfl
set_option maxHeartbeats 800000 in
theorem need_any (h : Sr w r g sb) (op : Nat) (ho : op ≤ 65535) : Calls Tryz.prog 73 #[.pointer (some ⟨r, 0, none⟩), .int .u16 (op : Int)] w fun e w' => e = .returned (.tuple #[.int .u8 (needN op : Int), .bool (needB op)]) ∧ w' = w := by
  have c1 := h.c1
  have hm := Tryz.mNeed
  clear h
  go_enter_defers Tryz.func73, Tryz.ntmps73
  go_wp2_with fail
  refine (svc_need _ op _ ho).mono ?_; rintro e w1 ⟨rfl, rfl⟩
  go_wp2
  refine leaves_cons (f := 83) (args := #[]) (by simp) (by simp [go_sem]) ?_
  refine (need_idle _).mono ?_
  rintro e u' w'' ⟨rfl, rfl, rfl⟩
  simp [Leaves, settle, results, Tryz.results73, go_sem]
set_option maxHeartbeats 800000 in
theorem srv_gone (z : Int) (w : World) (h : Sr w r A.g A.sb) (x : Sv w0 w A p ws s) (hz : I64 z) :
    Calls Tryz.prog 72 #[.pointer (some ⟨r, 0, none⟩), .int .i64 z] w fun e w' => e = .returned (.tuple #[]) ∧ SvEnd w0 w A p ws w' (s.gon z) := by
  have c1 := h.c1
  have hm := Tryz.mGone
  have HX := hide x
  have HM := hide h.2
  have HZ := hide hz
  clear h x hz
  go_enter_defers Tryz.func72, Tryz.ntmps72
  go_wp2_with fail
  refine (svc_gone z _ HM.out HX.out HZ.out).mono ?_; rintro e w1 ⟨rfl, E⟩
  have HE := hide E
  clear E
  go_wp2
  refine leaves_cons (f := 82) (args := #[]) (by simp) (by simp [go_sem]) ?_
  refine (gone_idle _).mono ?_
  rintro e u' w'' ⟨rfl, rfl, rfl⟩
  simp [Leaves, settle, results, Tryz.results72, go_sem]
  exact HE.out
end
end Go.Proofs.YtlmnnjibggdboaaGreatDoor
namespace Go.Proofs.YtlmnnjibggdboaaGreatDoor
section
open Go.RowKit
variable {w0 w w1 w2 w' : World} {A A' : Ad} {p : Nat} {ws : List Nat} {s s' s1 : Hs} {r g : Nat} {sb : Nat × Bool}
/- an error in a variable -/
def EB (w : World) (g : Nat) (v : Value) : Prop := w.heap[g]? = some (.cells #[v] 42 (0, 0))
theorem err_odd3 : Odd3 42 := ⟨⟨by decide, by decide, by decide, by decide⟩, by decide, by decide, by decide⟩
theorem EB.c {v : Value} (h : EB w g v) : w.cell? ⟨g, 0, none⟩ = some v := by rw [cell_of_row w g _ _ _ _ h]; rfl
theorem EB.z {v : Value} (h : EB w g v) : w.frozen? ⟨g, 0, none⟩ = false := frozen_of_row w g 0 _ _ h
theorem EB.kh {v : Value} (h : EB w g v) (k : Kh w w') : EB w' g v := (k.block _ _ _ h err_odd3).trans h
theorem EB.grow {v : Value} (h : EB w g v) (b : Below w.heap.size w w') : EB w' g v := h.kh (below_kh b)
theorem EB.foot {v : Value} {S : Nat → Prop} (h : EB w g v) (f : Foot S w w') (hS : ¬ S g) : EB w' g v := (f.block g (lt_of_heap h) hS).trans h
theorem EB.set {v : Value} (h : EB w g v) (u : Value) : EB (w.setCell ⟨g, 0, none⟩ u) g u := by
  have := heap_setCell_same w g 0 _ _ u h
  exact this
theorem MB.put10 {g : Nat} {m : Msg} {D : Value} (h : MB w g m D) (D' : Value) : MB (w.setCell ⟨g, 10, none⟩ D') g m D' := by
  unfold MB
  rw [heap_setCell_same w g 10 _ _ _ h]; rfl
theorem SvEnd.err (x : SvEnd w0 w A p ws w1 s) (hw : w0.heap.size ≤ w.heap.size) {g : Nat} {v : Value} (h : EB w1 g v) (hg : w.heap.size ≤ g) (f : Foot (fun j => j = g) w1 w2) : SvEnd w0 w A p ws w2 s :=
  x.off hw f (fun b e => ⟨by omega, .inr ⟨_, _, e ▸ h, err_odd3⟩⟩)
theorem Sv.mine (x : Sv w0 w A p ws s) {g : Nat} {m : Msg} {D : Value} (h : MB w g m D) (hg : w0.heap.size ≤ g) (f : Foot (fun j => j = g) w w1) : Sv w0 w1 A p ws s :=
  x.off f (fun b e => ⟨by omega, .inr ⟨_, _, e ▸ h, msg_odd3⟩⟩)
theorem sz2 (w : World) (a b : Obj) : ((w.alloc a).alloc b).heap.size = w.heap.size + 1 + 1 := by simp
/- the variables of 'do' -/
theorem do_vars (w : World) (m : Msg) (D : Value) : ∃ X, ((w.alloc (.cells #[.int .u64 m.ta, .int .u64 m.rp, .int .u32 m.id, .int .u16 m.op, .int .u16 m.st, .int .u64 m.p, .int .u32 m.o, .int .u8 m.r, .int .u64 m.c, .int .u64 m.ar, D] 55)).alloc (.cells resZ 102)).alloc (.cells #[.nilIface] 42) = X ∧
    MB X w.heap.size m D ∧ RB X (w.heap.size + 1) Cp.zero 0 (.slice none 0 0) ∧ EB X (w.heap.size + 1 + 1) .nilIface ∧ Below w.heap.size w X := by
  have b1 := below_alloc w (.cells #[.int .u64 m.ta, .int .u64 m.rp, .int .u32 m.id, .int .u16 m.op, .int .u16 m.st, .int .u64 m.p, .int .u32 m.o, .int .u8 m.r, .int .u64 m.c, .int .u64 m.ar, D] 55)
  have b2 := below_alloc (w.alloc (.cells #[.int .u64 m.ta, .int .u64 m.rp, .int .u32 m.id, .int .u16 m.op, .int .u16 m.st, .int .u64 m.p, .int .u32 m.o, .int .u8 m.r, .int .u64 m.c, .int .u64 m.ar, D] 55)) (.cells resZ 102)
  have b3 := below_alloc ((w.alloc (.cells #[.int .u64 m.ta, .int .u64 m.rp, .int .u32 m.id, .int .u16 m.op, .int .u16 m.st, .int .u64 m.p, .int .u32 m.o, .int .u8 m.r, .int .u64 m.c, .int .u64 m.ar, D] 55)).alloc (.cells resZ 102)) (.cells #[.nilIface] 42)
  refine ⟨_, rfl, ((mb_new w m D).grow b2).grow b3, ?_, ?_, below_one (below_one b1 b2) b3⟩
  · have h := heap_alloc_new (w.alloc (.cells #[.int .u64 m.ta, .int .u64 m.rp, .int .u32 m.id, .int .u16 m.op, .int .u16 m.st, .int .u64 m.p, .int .u32 m.o, .int .u8 m.r, .int .u64 m.c, .int .u64 m.ar, D] 55)) (.cells resZ 102)
    rw [show (w.alloc (.cells #[.int .u64 m.ta, .int .u64 m.rp, .int .u32 m.id, .int .u16 m.op, .int .u16 m.st, .int .u64 m.p, .int .u32 m.o, .int .u8 m.r, .int .u64 m.c, .int .u64 m.ar, D] 55)).heap.size = w.heap.size + 1 by simp] at h
    exact RB.grow (show RB _ _ Cp.zero 0 (.slice none 0 0) from h) b3
  · have h := heap_alloc_new ((w.alloc (.cells #[.int .u64 m.ta, .int .u64 m.rp, .int .u32 m.id, .int .u16 m.op, .int .u16 m.st, .int .u64 m.p, .int .u32 m.o, .int .u8 m.r, .int .u64 m.c, .int .u64 m.ar, D] 55)).alloc (.cells resZ 102)) (.cells #[.nilIface] 42)
    rw [sz2] at h
    exact h
theorem SvEnd.glob (x : SvEnd w0 w A p ws w1 s) (hg : Glob w0) : Glob w1 := by
  obtain ⟨v, dv, nv, S, _⟩ := x
  exact S.glob hg
/- a function that defers, and in which nothing panics -/
def calmD (P : Program) (fn : Func) (R : Ending → World → Prop) : Exit → Act → World → Prop
  | .panic _, _, _ => False
  | e, a, w => bodyPostD P fn R e a w
theorem calls_of_calm {P : Program} {f : FuncId} {fn : Func} {c : Code} {args : Array Value} {w : World} {R : Ending → World → Prop} (hf : P.funcs[f]? = some fn) (hb : fn.body = some c)
    (h : c.wp P (calmD P fn R) { tmps := args ++ Array.replicate (fn.ntmps - args.size) undef, defers := [] } w) : Calls P f args w R :=
  calls_of_wp_defers hf hb (Code.wp_mono (fun e a w h => by cases e <;> first | exact h | exact h.elim) h)
/- bytes that were copied lie in a row of bytes -/
set_option maxHeartbeats 800000 in
theorem clone_own (ao : Option Addr) (n cap : Nat) (l : List UInt8) (w : World) (hb : Bts w ao n cap l) (hr : n ≤ 140737488355328) :
    Calls Tryz.prog 59 #[.slice ao n cap] w fun e w' => ∃ co cc, e = .returned (.slice co n cc) ∧ Bts w' co n cc l ∧ New w co ∧ (∀ ad, co = some ad → ∃ cs, w'.heap[ad.block]? = some (.cells cs 5 (0, 0))) ∧ Below w.heap.size w w' := by
  have HB : Hid (Bts w ao n cap l) := hb
  clear hb
  cases ao with
  | none =>
    obtain ⟨rfl, rfl⟩ := HB.out.none rfl
    have he := run_eql_slice_nil (P := Tryz.prog) w 23 5 none 0 0 Tryz.underlying23
    go_enter Tryz.func59, Tryz.ntmps59
    go_wp2
    go_ret
    exact ⟨none, 0, rfl, HB.out, new_none _, (fun _ e => by cases e), Below.refl _ _⟩
  | some ad =>
    obtain ⟨i0, hi, hz0, hz1, hz2⟩ := info_parts Tryz.info5
    have hcm : cap ≤ 9223372036854775807 := HB.out.2.2.1
    have he := run_eql_slice_nil (P := Tryz.prog) w 23 5 (some ad) n cap Tryz.underlying23
    go_enter Tryz.func59, Tryz.ntmps59
    go_wp2_with (at_builtin; refine wpList_append_own _ rfl _ _ 23 rfl w.heap.size 5 i0 (.int .u8 0) 1 1 Tryz.underlying23 hi hz0 hz1 hz2 rfl (by decide) _ 0 [] rfl (own_empty w) ad n cap (cellsB l) rfl (by rw [cellsB_len]; have := HB.out.1; omega) ?c1 (cellsB_one l) (by unfold maxLen; omega) (by omega) ?c5 ?_)
    case c1 => exact (HB.out.carry (below_alloc w _)).news ad rfl
    case c5 => exact (below_alloc w _).size
    intro v' w2 hown2 hgrow2 _
    obtain ⟨co, cc, rfl, hb2⟩ := owns_bts hown2
    have HW : Hid (New w co) := owns_new hown2
    have HTY : Hid (∀ ad, co = some ad → ∃ cs, w2.heap[ad.block]? = some (.cells cs 5 (0, 0))) := fun ad e => by
      obtain ⟨cur, h1, _⟩ := owns_block hown2 (r := ad.block) (by rw [e]; rfl)
      exact ⟨cur, h1⟩
    have bel2 : Below w.heap.size w w2 := (below_alloc w (Obj.cells #[] 5)).grown hgrow2 (below_alloc w _).size (fun k e => by cases e; exact Nat.le_refl _)
    have HB2 : Hid (Bts w2 co n cc l) := hb2
    clear hown2 hgrow2 hb2
    go_wp2
    go_ret
    exact ⟨co, cc, rfl, HB2.out, HW.out, HTY.out, bel2⟩
/- beside an error nothing -/
theorem doF_bad (ws : List Nat) (p : Nat) (s : Hs) (op : Nat) (z : Int) (ar : Nat) (l : List UInt8) (h : (doF ws p s op z ar l).e ≠ 0) : doF ws p s op z ar l = badF (doF ws p s op z ar l).s (doF ws p s op z ar l).e := by
  revert h
  unfold doF
  split
  · unfold mkF
    split
    · intro h; exact absurd rfl h
    · intro _; rfl
  split
  · intro h; exact absurd rfl h
  unfold nameF
  split
  · intro _; rfl
  split
  · intro _; rfl
  split
  · intro _; rfl
  split
  · unfold lookF
    split
    · intro h; exact absurd rfl h
    split
    · split
      · intro h; exact absurd rfl h
      · intro _; rfl
    · intro _; rfl
  split
  · intro _; rfl
  split
  · intro _; rfl
  unfold entF
  split
  · intro _; rfl
  split
  · intro _; rfl
  · intro _; rfl
set_option maxRecDepth 20000 in
set_option maxHeartbeats 6400000 in
theorem do_yes (z : Int) (m : Msg) (so : Option Addr) (sn sc : Nat) (l : List UInt8) (w : World) (h : Sr w r A.g A.sb) (x : Sv w0 w A p ws s) (hl : Dok z s) (hop : 100 ≤ m.op ∧ m.op ≤ 105) (ha : m.ar ≤ 18446744073709551615) (hb : Bts w so sn sc l) (hn : sn ≤ 140737488355328) (R : Ro) (hR : doF ws p s m.op z m.ar l = R) (h0 : R.e = 0) :
    Calls Tryz.prog 74 #[.pointer (some ⟨r, 0, none⟩), .int .i64 z, .agg #[.int .u64 m.ta, .int .u64 m.rp, .int .u32 m.id, .int .u16 m.op, .int .u16 m.st, .int .u64 m.p, .int .u32 m.o, .int .u8 m.r, .int .u64 m.c, .int .u64 m.ar, .slice so sn sc]] w fun e w' => OutEnd w0 w A p ws R l e w' := by
  have HRR := hide hR
  
  have HH0 := hide h0
  have HEE : Hid (erN (R.e : Int) = .nilIface) := by show _ = _; rw [h0]; rfl
  
  
  
  obtain ⟨⟨qp, qo, qr, qc⟩, hq⟩ : ∃ q, R.c = q := ⟨_, rfl⟩
  have HQ := hide hq
  obtain ⟨ra, hra⟩ : ∃ q, R.ar = q := ⟨_, rfl⟩
  have HRA := hide hra
  clear hR h0 hq hra
  have hmf : ∀ (fn : Fn) (first cap : Array Value) (w : World), (Instr.makeFunc fn first cap).run Tryz.prog w = .ok (.func fn first cap) w := fun _ _ _ _ => rfl
  have hmd := Tryz.mDo
  obtain ⟨X, hX, bm, br, be, bX⟩ := do_vars w m (.slice so sn sc)
  unfold resZ at hX
  have HS := hide (h.grow bX)
  have HX := hide (x.grow bX)
  have HB := hide (hb.carry bX)
  have HM := hide bm
  have HR := hide br
  have HE := hide be
  have HBX := hide bX
  have HW0 : Hid (w0.heap.size ≤ w.heap.size) := x.bel.size
  have HL := hide hl
  have HOP := hide hop
  have HA := hide ha
  
  have k10 : X.cell? ⟨w.heap.size, 10, none⟩ = some (.slice so sn sc) := bm.all.2.2.2.2.2.2.2.2.2.2
  clear bm br be bX h x hb hl hop ha
  refine calls_of_calm Tryz.func74 rfl ?_
  simp only [Tryz.ntmps74, List.size_toArray, List.length_cons, List.length_nil, Nat.reduceAdd, Nat.reduceSub, Array.replicate_succ, Array.replicate_zero, List.push_toArray, List.append_toArray, List.nil_append, List.cons_append]
  go_wp2_with fail
  refine (clone_own so sn sc l _ HB.out hn).mono ?_; rintro e w2 ⟨co, cc, rfl, B2, N2, T2, b2⟩
  have hm2 := HM.out.grow b2
  have hr2 := HR.out.grow b2
  have he2 := HE.out.grow b2
  have z10 : w2.frozen? ⟨w.heap.size, 10, none⟩ = false := hm2.z 10
  have d10 : w2.cell? ⟨w.heap.size, 10, none⟩ = some (.slice so sn sc) := hm2.all.2.2.2.2.2.2.2.2.2.2
  have hm3 := hm2.put10 (.slice co sn cc)
  have f3 := foot_set w2 ⟨w.heap.size, 10, none⟩ (.slice co sn cc)
  have hs3 := (HS.out.grow b2).var f3 hm2 (by decide) (by decide)
  have hr3 := hr2.foot f3 (by show ¬ w.heap.size + 1 = w.heap.size; omega)
  have he3 := he2.foot f3 (by show ¬ w.heap.size + 1 + 1 = w.heap.size; omega)
  have hx3 := (HX.out.grow b2).mine hm2 HW0.out f3
  have hb3 : Bts (w2.setCell ⟨w.heap.size, 10, none⟩ (.slice co sn cc)) co sn cc l := Bts.foot B2 f3 (fun ad e _ => by
    have := N2 ad e
    have := lt_of_heap HM.out
    show ¬ ad.block = w.heap.size
    omega)
  have hd3 : Dat A.N (w2.setCell ⟨w.heap.size, 10, none⟩ (.slice co sn cc)) sn co := fun _ ad e => by
    obtain ⟨cs, h⟩ := T2 ad e
    exact .inr ⟨cs, (0, 0), (f3.block _ (lt_of_heap h) (by
      have := N2 ad e
      have := lt_of_heap HM.out
      show ¬ ad.block = w.heap.size
      omega)).trans h⟩
  have F3 : Foot (fun j => w.heap.size ≤ j) w (w2.setCell ⟨w.heap.size, 10, none⟩ (.slice co sn cc)) := ((below_foot _ (below_one HBX.out b2)).trans f3 (fun j (e : j = w.heap.size) => .inl (by show w.heap.size ≤ j; omega)))
  have BW3 := F3.below (Nat.le_refl _) (fun k e => e)
  obtain ⟨w3, hw3⟩ : ∃ w3, w2.setCell ⟨w.heap.size, 10, none⟩ (.slice co sn cc) = w3 := ⟨_, rfl⟩
  rw [hw3] at hm3 hs3 hr3 he3 hx3 hb3 hd3 BW3
  have HM3 := hide hm3
  have HR3 := hide hr3
  have HE3 := hide he3
  have HS3 := hide hs3
  have HX3 := hide hx3
  have HB3 := hide hb3
  have HD3 := hide hd3
  have HBW3 := hide BW3
  have HGT : Hid (w.heap.size + 1 + 1 < w3.heap.size) := lt_of_heap he3
  clear hm3 hr3 he3 hs3 hx3 hb3 hd3 BW3 F3 f3 hm2 hr2 he2 B2 N2 T2 b2 HB HM HR HE HS HX
  have HK3 : Hid ((w3.drew.cell? ⟨r, 1, none⟩ = some (.iface 60 (.pointer (some ⟨A.sb.1, 0, none⟩)))) ∧ (w3.drew.cell? ⟨w.heap.size, 0, none⟩ = some (.int .u64 m.ta) ∧ w3.drew.cell? ⟨w.heap.size, 1, none⟩ = some (.int .u64 m.rp) ∧ w3.drew.cell? ⟨w.heap.size, 2, none⟩ = some (.int .u32 m.id) ∧ w3.drew.cell? ⟨w.heap.size, 3, none⟩ = some (.int .u16 m.op) ∧ w3.drew.cell? ⟨w.heap.size, 4, none⟩ = some (.int .u16 m.st) ∧ w3.drew.cell? ⟨w.heap.size, 5, none⟩ = some (.int .u64 m.p) ∧ w3.drew.cell? ⟨w.heap.size, 6, none⟩ = some (.int .u32 m.o) ∧ w3.drew.cell? ⟨w.heap.size, 7, none⟩ = some (.int .u8 m.r) ∧ w3.drew.cell? ⟨w.heap.size, 8, none⟩ = some (.int .u64 m.c) ∧ w3.drew.cell? ⟨w.heap.size, 9, none⟩ = some (.int .u64 m.ar) ∧ w3.drew.cell? ⟨w.heap.size, 10, none⟩ = some (.slice co sn cc))) := ⟨HS3.out.c1, HM3.out.all⟩
  go_wp2
  have hS : Hid ((w3.drew.cell? ⟨r, 1, none⟩ = some (.iface 60 (.pointer (some ⟨A.sb.1, 0, none⟩)))) ∧ (w3.drew.cell? ⟨w.heap.size, 0, none⟩ = some (.int .u64 m.ta) ∧ w3.drew.cell? ⟨w.heap.size, 1, none⟩ = some (.int .u64 m.rp) ∧ w3.drew.cell? ⟨w.heap.size, 2, none⟩ = some (.int .u32 m.id) ∧ w3.drew.cell? ⟨w.heap.size, 3, none⟩ = some (.int .u16 m.op) ∧ w3.drew.cell? ⟨w.heap.size, 4, none⟩ = some (.int .u16 m.st) ∧ w3.drew.cell? ⟨w.heap.size, 5, none⟩ = some (.int .u64 m.p) ∧ w3.drew.cell? ⟨w.heap.size, 6, none⟩ = some (.int .u32 m.o) ∧ w3.drew.cell? ⟨w.heap.size, 7, none⟩ = some (.int .u8 m.r) ∧ w3.drew.cell? ⟨w.heap.size, 8, none⟩ = some (.int .u64 m.c) ∧ w3.drew.cell? ⟨w.heap.size, 9, none⟩ = some (.int .u64 m.ar) ∧ w3.drew.cell? ⟨w.heap.size, 10, none⟩ = some (.slice co sn cc))) := HK3.out
  refine wp_region_held_drew (S := fun W => (W.cell? ⟨r, 1, none⟩ = some (.iface 60 (.pointer (some ⟨A.sb.1, 0, none⟩)))) ∧ (W.cell? ⟨w.heap.size, 0, none⟩ = some (.int .u64 m.ta) ∧ W.cell? ⟨w.heap.size, 1, none⟩ = some (.int .u64 m.rp) ∧ W.cell? ⟨w.heap.size, 2, none⟩ = some (.int .u32 m.id) ∧ W.cell? ⟨w.heap.size, 3, none⟩ = some (.int .u16 m.op) ∧ W.cell? ⟨w.heap.size, 4, none⟩ = some (.int .u16 m.st) ∧ W.cell? ⟨w.heap.size, 5, none⟩ = some (.int .u64 m.p) ∧ W.cell? ⟨w.heap.size, 6, none⟩ = some (.int .u32 m.o) ∧ W.cell? ⟨w.heap.size, 7, none⟩ = some (.int .u8 m.r) ∧ W.cell? ⟨w.heap.size, 8, none⟩ = some (.int .u64 m.c) ∧ W.cell? ⟨w.heap.size, 9, none⟩ = some (.int .u64 m.ar) ∧ W.cell? ⟨w.heap.size, 10, none⟩ = some (.slice co sn cc))) (by kernel_rfl) hS.out (fun _ => ?_)
  refine wpAnyH_take (i := 0) (oi := { dst := some 14, op := Go.Op.move (Go.Operand.tmp 0), type := 37, pos := "skeleton.go:155", after := #[], guard := none }) (v := (.pointer (some ⟨r, 0, none⟩))) rfl (by kernel_rfl) (by kernel_rfl) (by kernel_rfl) (fun _ _ _ h => h) (Or.inl ⟨by kernel_rfl, fun w hC => by go_simp⟩) hS.out ?_
  simp only [Act.put, List.setIfInBounds_toArray, List.set_cons_zero, List.set_cons_succ]
  refine wpAnyH_take (i := 1) (oi := { dst := some 15, op := Go.Op.nilCheck (Go.Operand.tmp 14), type := 0, pos := "skeleton.go:155", after := #[{ on := 0, ground := Go.Ground.data }], guard := none }) (v := (.pointer (some ⟨r, 0, none⟩))) rfl (by kernel_rfl) (by kernel_rfl) (by kernel_rfl) (fun _ _ _ h => h) (Or.inl ⟨by kernel_rfl, fun w hC => by go_simp⟩) hS.out ?_
  simp only [Act.put, List.setIfInBounds_toArray, List.set_cons_zero, List.set_cons_succ]
  refine wpAnyH_take (i := 2) (oi := { dst := some 16, op := Go.Op.fieldAddr 121 (Go.Operand.tmp 15) 1, type := 0, pos := "skeleton.go:155", after := #[{ on := 1, ground := Go.Ground.data }], guard := none }) (v := (.pointer (some ⟨r, 1, none⟩))) rfl (by kernel_rfl) (by kernel_rfl) (by kernel_rfl) (fun _ _ _ h => h) (Or.inl ⟨by kernel_rfl, fun w hC => by go_simp⟩) hS.out ?_
  simp only [Act.put, List.setIfInBounds_toArray, List.set_cons_zero, List.set_cons_succ]
  refine wpAnyH_take (i := 3) (oi := { dst := some 17, op := Go.Op.load 119 (Go.Operand.tmp 16), type := 119, pos := "skeleton.go:155", after := #[{ on := 2, ground := Go.Ground.data }], guard := none }) (v := (.iface 60 (.pointer (some ⟨A.sb.1, 0, none⟩)))) rfl (by kernel_rfl) (by kernel_rfl) (by kernel_rfl) (fun _ _ _ h => h) (Or.inl ⟨by kernel_rfl, fun w hC => by (obtain ⟨c1, k0, k1, k2, k3, k4, k5, k6, k7, k8, k9, k10⟩ := hC; go_simp)⟩) hS.out ?_
  simp only [Act.put, List.setIfInBounds_toArray, List.set_cons_zero, List.set_cons_succ]
  refine wpAnyH_take (i := 4) (oi := { dst := some 18, op := Go.Op.fieldAddr 55 (Go.Operand.tmp 5) 3, type := 0, pos := "skeleton.go:155", after := #[], guard := none }) (v := (.pointer (some ⟨w.heap.size, 3, none⟩))) rfl (by kernel_rfl) (by kernel_rfl) (by kernel_rfl) (fun _ _ _ h => h) (Or.inl ⟨by kernel_rfl, fun w hC => by go_simp⟩) hS.out ?_
  simp only [Act.put, List.setIfInBounds_toArray, List.set_cons_zero, List.set_cons_succ]
  refine wpAnyH_take (i := 5) (oi := { dst := some 19, op := Go.Op.load 51 (Go.Operand.tmp 18), type := 51, pos := "skeleton.go:155", after := #[{ on := 4, ground := Go.Ground.data }], guard := none }) (v := (.int .u16 (m.op : Int))) rfl (by kernel_rfl) (by kernel_rfl) (by kernel_rfl) (fun _ _ _ h => h) (Or.inl ⟨by kernel_rfl, fun w hC => by (obtain ⟨c1, k0, k1, k2, k3, k4, k5, k6, k7, k8, k9, k10⟩ := hC; go_simp)⟩) hS.out ?_
  simp only [Act.put, List.setIfInBounds_toArray, List.set_cons_zero, List.set_cons_succ]
  refine wpAnyH_take (i := 6) (oi := { dst := some 20, op := Go.Op.move (Go.Operand.tmp 1), type := 3, pos := "skeleton.go:155", after := #[], guard := none }) (v := (.int .i64 z)) rfl (by kernel_rfl) (by kernel_rfl) (by kernel_rfl) (fun _ _ _ h => h) (Or.inl ⟨by kernel_rfl, fun w hC => by go_simp⟩) hS.out ?_
  simp only [Act.put, List.setIfInBounds_toArray, List.set_cons_zero, List.set_cons_succ]
  refine wpAnyH_take (i := 7) (oi := { dst := some 21, op := Go.Op.load 55 (Go.Operand.tmp 5), type := 55, pos := "skeleton.go:155", after := #[], guard := none }) (v := (.agg #[.int .u64 m.ta, .int .u64 m.rp, .int .u32 m.id, .int .u16 m.op, .int .u16 m.st, .int .u64 m.p, .int .u32 m.o, .int .u8 m.r, .int .u64 m.c, .int .u64 m.ar, .slice co sn cc])) rfl (by kernel_rfl) (by kernel_rfl) (by kernel_rfl) (fun _ _ _ h => h) (Or.inl ⟨by kernel_rfl, fun w hC => by (obtain ⟨c1, k0, k1, k2, k3, k4, k5, k6, k7, k8, k9, k10⟩ := hC; go_simp)⟩) hS.out ?_
  simp only [Act.put, List.setIfInBounds_toArray, List.set_cons_zero, List.set_cons_succ]
  refine wpAnyH_ready (rs := [8]) (by kernel_rfl) (by simp) ?_
  refine AllReadyH.cons (o := { dst := some 22, op := Go.Op.call { callee := Go.Callee.invoke (Go.Operand.tmp 17) "Do", args := #[Go.Operand.tmp 19, Go.Operand.tmp 20, Go.Operand.tmp 21], argTypes := #[51, 3, 55] }, type := 103, pos := "skeleton.go:155", after := #[{ on := 3, ground := Go.Ground.data }, { on := 5, ground := Go.Ground.data }, { on := 6, ground := Go.Ground.data }, { on := 7, ground := Go.Ground.data }], guard := none }) rfl (fun KK hKK => ?_) AllReadyH.nil
  go_simp
  refine (svc_do m.op z m co sn cc l _ (Mb.grow (show Mb w3 A.g A.sb from HS3.out.2) (below_d w3 1)) (HX3.out.drewN 1) HL.out (HB3.out.drewN 1) HOP.out).mono ?_; unfold OutEnd; rw [HRR.out, HEE.out, HQ.out, HRA.out]; rintro e w4 ⟨ro, rn, rc, rfl, B4, N4, n4, E⟩
  have kh4 := (HX3.out.drewN 1).kh E
  have HS4 := hide ((show Sr w3.drew r A.g A.sb from HS3.out).kh kh4)
  have HM4 := hide ((show MB w3.drew w.heap.size m (.slice co sn cc) from HM3.out).kh kh4)
  have HR4 := hide ((show RB w3.drew _ _ _ _ from HR3.out).kh kh4)
  have HE4 := hide ((show EB w3.drew _ _ from HE3.out).kh kh4)
  have HB4 := hide B4
  have HNN := hide n4
  have HN : Hid (New w ro) := N4.le (by have := HBW3.out.size; exact this)
  have HND : Hid (∀ ad, ro = some ad → ¬ (ad.block ≤ w.heap.size + 1 + 1)) := fun ad e => by have h1 : w3.heap.size ≤ ad.block := N4 ad e; have h2 := HGT.out; omega
  have HEN := hide (E.from (below_one HBW3.out (below_d w3 1)))
  clear kh4 E B4 N4 n4
  have hS : Hid ((w4.cell? ⟨r, 1, none⟩ = some (.iface 60 (.pointer (some ⟨A.sb.1, 0, none⟩)))) ∧ (w4.cell? ⟨w.heap.size, 0, none⟩ = some (.int .u64 m.ta) ∧ w4.cell? ⟨w.heap.size, 1, none⟩ = some (.int .u64 m.rp) ∧ w4.cell? ⟨w.heap.size, 2, none⟩ = some (.int .u32 m.id) ∧ w4.cell? ⟨w.heap.size, 3, none⟩ = some (.int .u16 m.op) ∧ w4.cell? ⟨w.heap.size, 4, none⟩ = some (.int .u16 m.st) ∧ w4.cell? ⟨w.heap.size, 5, none⟩ = some (.int .u64 m.p) ∧ w4.cell? ⟨w.heap.size, 6, none⟩ = some (.int .u32 m.o) ∧ w4.cell? ⟨w.heap.size, 7, none⟩ = some (.int .u8 m.r) ∧ w4.cell? ⟨w.heap.size, 8, none⟩ = some (.int .u64 m.c) ∧ w4.cell? ⟨w.heap.size, 9, none⟩ = some (.int .u64 m.ar) ∧ w4.cell? ⟨w.heap.size, 10, none⟩ = some (.slice co sn cc))) := ⟨HS4.out.c1, HM4.out.all⟩
  refine hKK.out _ _ hS.out (fun _ => ?_)
  clear hKK
  refine wpAnyH_take (i := 9) (oi := { dst := some 13, op := Go.Op.move (Go.Operand.tmp 22), type := 103, pos := "skeleton.go:155", after := #[{ on := 8, ground := Go.Ground.data }], guard := none }) (v := (.tuple #[.agg #[.int .u64 (qp : Int), .int .u32 (qo : Int), .int .u8 (qr : Int), .int .u64 (qc : Int), .int .u64 (ra : Int), .slice ro rn rc], .nilIface])) rfl (by kernel_rfl) (by kernel_rfl) (by kernel_rfl) (fun _ _ _ h => h) (Or.inl ⟨by kernel_rfl, fun w hC => by go_simp⟩) hS.out ?_
  simp only [Act.put, List.setIfInBounds_toArray, List.set_cons_zero, List.set_cons_succ]
  refine wpAnyH_take (i := 10) (oi := { dst := some 23, op := Go.Op.extract (Go.Operand.tmp 13) 0, type := 102, pos := "skeleton.go:155", after := #[{ on := 9, ground := Go.Ground.data }], guard := none }) (v := (.agg #[.int .u64 (qp : Int), .int .u32 (qo : Int), .int .u8 (qr : Int), .int .u64 (qc : Int), .int .u64 (ra : Int), .slice ro rn rc])) rfl (by kernel_rfl) (by kernel_rfl) (by kernel_rfl) (fun _ _ _ h => h) (Or.inl ⟨by kernel_rfl, fun w hC => by go_simp⟩) hS.out ?_
  simp only [Act.put, List.setIfInBounds_toArray, List.set_cons_zero, List.set_cons_succ]
  refine wpAnyH_take (i := 11) (oi := { dst := some 24, op := Go.Op.extract (Go.Operand.tmp 13) 1, type := 42, pos := "skeleton.go:155", after := #[{ on := 9, ground := Go.Ground.data }], guard := none }) (v := (.nilIface)) rfl (by kernel_rfl) (by kernel_rfl) (by kernel_rfl) (fun _ _ _ h => h) (Or.inl ⟨by kernel_rfl, fun w hC => by go_simp⟩) hS.out ?_
  simp only [Act.put, List.setIfInBounds_toArray, List.set_cons_zero, List.set_cons_succ]
  obtain ⟨y0, y1, y2, y3, y4, y5⟩ := HR4.out.all
  have z0 := HR4.out.z 0
  have z1 := HR4.out.z 1
  have z2 := HR4.out.z 2
  have z3 := HR4.out.z 3
  have z4 := HR4.out.z 4
  have z5 := HR4.out.z 5
  have HR5 := hide (HR4.out.lay ⟨qp, qo, qr, qc⟩ (ra : Int) (.slice ro rn rc))
  have f5 := foot_lay6 w4 (w.heap.size + 1) ⟨qp, qo, qr, qc⟩ (ra : Int) (.slice ro rn rc)
  have HE5 := hide (HE4.out.foot f5 (by show ¬ w.heap.size + 1 + 1 = w.heap.size + 1; omega))
  have HM5 := hide (HM4.out.foot f5 (by show ¬ w.heap.size = w.heap.size + 1; omega))
  have HS5 := hide (HS4.out.var f5 HR4.out (by decide) (by decide))
  have HB5 := hide (Bts.foot HB4.out f5 (fun ad e _ (h : ad.block = w.heap.size + 1) => HND.out ad e (by omega)))
  have HEN5 := hide (HEN.out.res HW0.out HR4.out (by omega) f5)
  clear f5
  obtain ⟨w5, hw5⟩ : ∃ w5, lay6 w4 (w.heap.size + 1) ⟨qp, qo, qr, qc⟩ (ra : Int) (.slice ro rn rc) = w5 := ⟨_, rfl⟩
  rw [hw5] at HR5 HE5 HM5 HS5 HB5 HEN5
  unfold lay6 at hw5
  refine wpAnyH_ready (rs := [12]) (by kernel_rfl) (by simp) ?_
  refine AllReadyH.cons (o := { dst := none, op := Go.Op.store 102 (Go.Operand.tmp 6) (Go.Operand.tmp 23), type := 0, pos := "skeleton.go:155", after := #[{ on := 10, ground := Go.Ground.data }, { on := 8, ground := Go.Ground.chain }, { on := 0, ground := Go.Ground.phase }, { on := 1, ground := Go.Ground.phase }, { on := 2, ground := Go.Ground.phase }, { on := 3, ground := Go.Ground.phase }, { on := 4, ground := Go.Ground.phase }, { on := 5, ground := Go.Ground.phase }, { on := 6, ground := Go.Ground.phase }, { on := 7, ground := Go.Ground.phase }, { on := 8, ground := Go.Ground.phase }, { on := 9, ground := Go.Ground.phase }, { on := 10, ground := Go.Ground.phase }, { on := 11, ground := Go.Ground.textOnly Go.Departure.lateStoresUnsure }], guard := none }) rfl (fun KK hKK => ?_) AllReadyH.nil
  go_simp
  have hS : Hid ((w5.cell? ⟨r, 1, none⟩ = some (.iface 60 (.pointer (some ⟨A.sb.1, 0, none⟩)))) ∧ (w5.cell? ⟨w.heap.size, 0, none⟩ = some (.int .u64 m.ta) ∧ w5.cell? ⟨w.heap.size, 1, none⟩ = some (.int .u64 m.rp) ∧ w5.cell? ⟨w.heap.size, 2, none⟩ = some (.int .u32 m.id) ∧ w5.cell? ⟨w.heap.size, 3, none⟩ = some (.int .u16 m.op) ∧ w5.cell? ⟨w.heap.size, 4, none⟩ = some (.int .u16 m.st) ∧ w5.cell? ⟨w.heap.size, 5, none⟩ = some (.int .u64 m.p) ∧ w5.cell? ⟨w.heap.size, 6, none⟩ = some (.int .u32 m.o) ∧ w5.cell? ⟨w.heap.size, 7, none⟩ = some (.int .u8 m.r) ∧ w5.cell? ⟨w.heap.size, 8, none⟩ = some (.int .u64 m.c) ∧ w5.cell? ⟨w.heap.size, 9, none⟩ = some (.int .u64 m.ar) ∧ w5.cell? ⟨w.heap.size, 10, none⟩ = some (.slice co sn cc))) := ⟨HS5.out.c1, HM5.out.all⟩
  refine hKK.out _ _ hS.out (fun _ => ?_)
  clear hKK
  have e0 := HE5.out.c
  have ez := HE5.out.z
  refine wpAnyH_ready (rs := [13]) (by kernel_rfl) (by simp) ?_
  refine AllReadyH.cons (o := { dst := none, op := Go.Op.store 42 (Go.Operand.tmp 7) (Go.Operand.tmp 24), type := 0, pos := "skeleton.go:155", after := #[{ on := 11, ground := Go.Ground.data }, { on := 12, ground := Go.Ground.chain }, { on := 0, ground := Go.Ground.phase }, { on := 1, ground := Go.Ground.phase }, { on := 2, ground := Go.Ground.phase }, { on := 3, ground := Go.Ground.phase }, { on := 4, ground := Go.Ground.phase }, { on := 5, ground := Go.Ground.phase }, { on := 6, ground := Go.Ground.phase }, { on := 7, ground := Go.Ground.phase }, { on := 8, ground := Go.Ground.phase }, { on := 9, ground := Go.Ground.phase }, { on := 10, ground := Go.Ground.phase }, { on := 11, ground := Go.Ground.phase }, { on := 12, ground := Go.Ground.phase }], guard := none }) rfl (fun KK hKK => ?_) AllReadyH.nil
  go_simp
  have HR6 := hide (HR5.out.foot (foot_set w5 ⟨w.heap.size + 1 + 1, 0, none⟩ (.nilIface)) (by show ¬ w.heap.size + 1 = w.heap.size + 1 + 1; omega))
  have HM6 := hide (HM5.out.foot (foot_set w5 ⟨w.heap.size + 1 + 1, 0, none⟩ (.nilIface)) (by show ¬ w.heap.size = w.heap.size + 1 + 1; omega))
  have HS6 := hide (HS5.out.var (foot_set w5 ⟨w.heap.size + 1 + 1, 0, none⟩ (.nilIface)) HE5.out (by decide) (by decide))
  have HE6 := hide (HE5.out.set (.nilIface))
  have HB6 := hide (Bts.foot HB5.out (foot_set w5 ⟨w.heap.size + 1 + 1, 0, none⟩ (.nilIface)) (fun ad e _ (h : ad.block = w.heap.size + 1 + 1) => HND.out ad e (by omega)))
  have HEN6 := hide (HEN5.out.err HW0.out HE5.out (by omega) (foot_set w5 ⟨w.heap.size + 1 + 1, 0, none⟩ (.nilIface)))
  obtain ⟨w6, hw6⟩ : ∃ w6, w5.setCell ⟨w.heap.size + 1 + 1, 0, none⟩ (.nilIface) = w6 := ⟨_, rfl⟩
  rw [hw6] at HR6 HM6 HS6 HE6 HB6 HEN6
  try rw [hw6]
  clear e0 ez y0 y1 y2 y3 y4 y5 z0 z1 z2 z3 z4 z5 hw5
  have hS : Hid ((w6.cell? ⟨r, 1, none⟩ = some (.iface 60 (.pointer (some ⟨A.sb.1, 0, none⟩)))) ∧ (w6.cell? ⟨w.heap.size, 0, none⟩ = some (.int .u64 m.ta) ∧ w6.cell? ⟨w.heap.size, 1, none⟩ = some (.int .u64 m.rp) ∧ w6.cell? ⟨w.heap.size, 2, none⟩ = some (.int .u32 m.id) ∧ w6.cell? ⟨w.heap.size, 3, none⟩ = some (.int .u16 m.op) ∧ w6.cell? ⟨w.heap.size, 4, none⟩ = some (.int .u16 m.st) ∧ w6.cell? ⟨w.heap.size, 5, none⟩ = some (.int .u64 m.p) ∧ w6.cell? ⟨w.heap.size, 6, none⟩ = some (.int .u32 m.o) ∧ w6.cell? ⟨w.heap.size, 7, none⟩ = some (.int .u8 m.r) ∧ w6.cell? ⟨w.heap.size, 8, none⟩ = some (.int .u64 m.c) ∧ w6.cell? ⟨w.heap.size, 9, none⟩ = some (.int .u64 m.ar) ∧ w6.cell? ⟨w.heap.size, 10, none⟩ = some (.slice co sn cc))) := ⟨HS6.out.c1, HM6.out.all⟩
  refine hKK.out _ _ hS.out (fun _ => ?_)
  clear hKK
  refine wpAnyH_done (by kernel_rfl) ?_ _
  have e0 := HE6.out.c
  have ez := HE6.out.z
  obtain ⟨y0, y1, y2, y3, y4, y5⟩ := HR6.out.all
  have z0 := HR6.out.z 0
  have z1 := HR6.out.z 1
  have z2 := HR6.out.z 2
  have z3 := HR6.out.z 3
  have z4 := HR6.out.z 4
  have z5 := HR6.out.z 5
  have HR8 := hide (HR6.out.lay ⟨qp, qo, qr, qc⟩ (ra : Int) (.slice ro rn rc))
  have f8 := foot_lay6 w6 (w.heap.size + 1) ⟨qp, qo, qr, qc⟩ (ra : Int) (.slice ro rn rc)
  have HE8 := hide (HE6.out.foot f8 (by show ¬ w.heap.size + 1 + 1 = w.heap.size + 1; omega))
  have HB8 := hide (Bts.foot HB6.out f8 (fun ad e _ (h : ad.block = w.heap.size + 1) => HND.out ad e (by omega)))
  have HEN8 := hide (HEN6.out.res HW0.out HR6.out (by omega) f8)
  clear f8
  obtain ⟨w8, hw8⟩ : ∃ w8, lay6 w6 (w.heap.size + 1) ⟨qp, qo, qr, qc⟩ (ra : Int) (.slice ro rn rc) = w8 := ⟨_, rfl⟩
  rw [hw8] at HR8 HE8 HB8 HEN8
  unfold lay6 at hw8
  
  have g0 := HE8.out.c
  have gz := HE8.out.z
  have f9 := foot_set w8 ⟨w.heap.size + 1 + 1, 0, none⟩ (.nilIface)
  have HR9 := hide (HR8.out.foot f9 (by show ¬ w.heap.size + 1 = w.heap.size + 1 + 1; omega))
  have HE9 := hide (HE8.out.set (.nilIface))
  have HB9 := hide (Bts.foot HB8.out f9 (fun ad e _ (h : ad.block = w.heap.size + 1 + 1) => HND.out ad e (by omega)))
  have HEN9 := hide (HEN8.out.err HW0.out HE8.out (by omega) f9)
  clear f9
  obtain ⟨w9, hw9⟩ : ∃ w9, w8.setCell ⟨w.heap.size + 1 + 1, 0, none⟩ (.nilIface) = w9 := ⟨_, rfl⟩
  rw [hw9] at HR9 HE9 HB9 HEN9
  go_wp2
  refine leaves_cons (f := 84) (args := #[.pointer (some ⟨w.heap.size + 1, 0, none⟩), .pointer (some ⟨w.heap.size + 1 + 1, 0, none⟩)]) (by simp) (by simp [go_sem]) ?_
  refine (do_idle _ _ _).mono ?_
  rintro e u' w'' ⟨rfl, rfl, rfl⟩
  have q0 := HE9.out.c
  obtain ⟨v0, v1, v2, v3, v4, v5⟩ := HR9.out.all
  
  simp [Leaves, settle, results, Tryz.results74, go_sem, q0, v0, v1, v2, v3, v4, v5]
  exact ⟨ro, rn, rc, by rw [HEE.out, HQ.out, HRA.out], HB9.out, HN.out, HNN.out, HEN9.out⟩
  
set_option maxRecDepth 20000 in
set_option maxHeartbeats 6400000 in
theorem do_no (z : Int) (m : Msg) (so : Option Addr) (sn sc : Nat) (l : List UInt8) (w : World) (h : Sr w r A.g A.sb) (x : Sv w0 w A p ws s) (hl : Dok z s) (hop : 100 ≤ m.op ∧ m.op ≤ 105) (ha : m.ar ≤ 18446744073709551615) (hb : Bts w so sn sc l) (hn : sn ≤ 140737488355328) (R : Ro) (hR : doF ws p s m.op z m.ar l = R) (h0 : R.e ≠ 0) (hg : Glob w0) :
    Calls Tryz.prog 74 #[.pointer (some ⟨r, 0, none⟩), .int .i64 z, .agg #[.int .u64 m.ta, .int .u64 m.rp, .int .u32 m.id, .int .u16 m.op, .int .u16 m.st, .int .u64 m.p, .int .u32 m.o, .int .u8 m.r, .int .u64 m.c, .int .u64 m.ar, .slice so sn sc]] w fun e w' => OutEnd w0 w A p ws R l e w' := by
  have HRR := hide hR
  have HBAD : Hid (R = badF R.s R.e) := by show _ = _; rw [← hR]; exact doF_bad _ _ _ _ _ _ _ (by rw [hR]; exact h0)
  have HH0 := hide h0
  
  obtain ⟨k, hk⟩ : ∃ k, R.e = k := ⟨_, rfl⟩
  have HKK := hide hk
  have HEE : Hid (erN (R.e : Int) = .iface 47 (.int .i64 (k : Int))) := by show _ = _; rw [hk]; exact erN_not (by omega)
  obtain ⟨⟨qp, qo, qr, qc⟩, hq⟩ : ∃ q, R.c = q := ⟨_, rfl⟩
  have HQ := hide hq
  obtain ⟨ra, hra⟩ : ∃ q, R.ar = q := ⟨_, rfl⟩
  have HRA := hide hra
  clear hR h0 hq hra hk
  have hmf : ∀ (fn : Fn) (first cap : Array Value) (w : World), (Instr.makeFunc fn first cap).run Tryz.prog w = .ok (.func fn first cap) w := fun _ _ _ _ => rfl
  have hmd := Tryz.mDo
  obtain ⟨X, hX, bm, br, be, bX⟩ := do_vars w m (.slice so sn sc)
  unfold resZ at hX
  have HS := hide (h.grow bX)
  have HX := hide (x.grow bX)
  have HB := hide (hb.carry bX)
  have HM := hide bm
  have HR := hide br
  have HE := hide be
  have HBX := hide bX
  have HW0 : Hid (w0.heap.size ≤ w.heap.size) := x.bel.size
  have HL := hide hl
  have HOP := hide hop
  have HA := hide ha
  have HG := hide hg
  have k10 : X.cell? ⟨w.heap.size, 10, none⟩ = some (.slice so sn sc) := bm.all.2.2.2.2.2.2.2.2.2.2
  clear bm br be bX h x hb hl hop ha hg
  refine calls_of_calm Tryz.func74 rfl ?_
  simp only [Tryz.ntmps74, List.size_toArray, List.length_cons, List.length_nil, Nat.reduceAdd, Nat.reduceSub, Array.replicate_succ, Array.replicate_zero, List.push_toArray, List.append_toArray, List.nil_append, List.cons_append]
  go_wp2_with fail
  refine (clone_own so sn sc l _ HB.out hn).mono ?_; rintro e w2 ⟨co, cc, rfl, B2, N2, T2, b2⟩
  have hm2 := HM.out.grow b2
  have hr2 := HR.out.grow b2
  have he2 := HE.out.grow b2
  have z10 : w2.frozen? ⟨w.heap.size, 10, none⟩ = false := hm2.z 10
  have d10 : w2.cell? ⟨w.heap.size, 10, none⟩ = some (.slice so sn sc) := hm2.all.2.2.2.2.2.2.2.2.2.2
  have hm3 := hm2.put10 (.slice co sn cc)
  have f3 := foot_set w2 ⟨w.heap.size, 10, none⟩ (.slice co sn cc)
  have hs3 := (HS.out.grow b2).var f3 hm2 (by decide) (by decide)
  have hr3 := hr2.foot f3 (by show ¬ w.heap.size + 1 = w.heap.size; omega)
  have he3 := he2.foot f3 (by show ¬ w.heap.size + 1 + 1 = w.heap.size; omega)
  have hx3 := (HX.out.grow b2).mine hm2 HW0.out f3
  have hb3 : Bts (w2.setCell ⟨w.heap.size, 10, none⟩ (.slice co sn cc)) co sn cc l := Bts.foot B2 f3 (fun ad e _ => by
    have := N2 ad e
    have := lt_of_heap HM.out
    show ¬ ad.block = w.heap.size
    omega)
  have hd3 : Dat A.N (w2.setCell ⟨w.heap.size, 10, none⟩ (.slice co sn cc)) sn co := fun _ ad e => by
    obtain ⟨cs, h⟩ := T2 ad e
    exact .inr ⟨cs, (0, 0), (f3.block _ (lt_of_heap h) (by
      have := N2 ad e
      have := lt_of_heap HM.out
      show ¬ ad.block = w.heap.size
      omega)).trans h⟩
  have F3 : Foot (fun j => w.heap.size ≤ j) w (w2.setCell ⟨w.heap.size, 10, none⟩ (.slice co sn cc)) := ((below_foot _ (below_one HBX.out b2)).trans f3 (fun j (e : j = w.heap.size) => .inl (by show w.heap.size ≤ j; omega)))
  have BW3 := F3.below (Nat.le_refl _) (fun k e => e)
  obtain ⟨w3, hw3⟩ : ∃ w3, w2.setCell ⟨w.heap.size, 10, none⟩ (.slice co sn cc) = w3 := ⟨_, rfl⟩
  rw [hw3] at hm3 hs3 hr3 he3 hx3 hb3 hd3 BW3
  have HM3 := hide hm3
  have HR3 := hide hr3
  have HE3 := hide he3
  have HS3 := hide hs3
  have HX3 := hide hx3
  have HB3 := hide hb3
  have HD3 := hide hd3
  have HBW3 := hide BW3
  have HGT : Hid (w.heap.size + 1 + 1 < w3.heap.size) := lt_of_heap he3
  clear hm3 hr3 he3 hs3 hx3 hb3 hd3 BW3 F3 f3 hm2 hr2 he2 B2 N2 T2 b2 HB HM HR HE HS HX
  have HK3 : Hid ((w3.drew.cell? ⟨r, 1, none⟩ = some (.iface 60 (.pointer (some ⟨A.sb.1, 0, none⟩)))) ∧ (w3.drew.cell? ⟨w.heap.size, 0, none⟩ = some (.int .u64 m.ta) ∧ w3.drew.cell? ⟨w.heap.size, 1, none⟩ = some (.int .u64 m.rp) ∧ w3.drew.cell? ⟨w.heap.size, 2, none⟩ = some (.int .u32 m.id) ∧ w3.drew.cell? ⟨w.heap.size, 3, none⟩ = some (.int .u16 m.op) ∧ w3.drew.cell? ⟨w.heap.size, 4, none⟩ = some (.int .u16 m.st) ∧ w3.drew.cell? ⟨w.heap.size, 5, none⟩ = some (.int .u64 m.p) ∧ w3.drew.cell? ⟨w.heap.size, 6, none⟩ = some (.int .u32 m.o) ∧ w3.drew.cell? ⟨w.heap.size, 7, none⟩ = some (.int .u8 m.r) ∧ w3.drew.cell? ⟨w.heap.size, 8, none⟩ = some (.int .u64 m.c) ∧ w3.drew.cell? ⟨w.heap.size, 9, none⟩ = some (.int .u64 m.ar) ∧ w3.drew.cell? ⟨w.heap.size, 10, none⟩ = some (.slice co sn cc))) := ⟨HS3.out.c1, HM3.out.all⟩
  go_wp2
  have hS : Hid ((w3.drew.cell? ⟨r, 1, none⟩ = some (.iface 60 (.pointer (some ⟨A.sb.1, 0, none⟩)))) ∧ (w3.drew.cell? ⟨w.heap.size, 0, none⟩ = some (.int .u64 m.ta) ∧ w3.drew.cell? ⟨w.heap.size, 1, none⟩ = some (.int .u64 m.rp) ∧ w3.drew.cell? ⟨w.heap.size, 2, none⟩ = some (.int .u32 m.id) ∧ w3.drew.cell? ⟨w.heap.size, 3, none⟩ = some (.int .u16 m.op) ∧ w3.drew.cell? ⟨w.heap.size, 4, none⟩ = some (.int .u16 m.st) ∧ w3.drew.cell? ⟨w.heap.size, 5, none⟩ = some (.int .u64 m.p) ∧ w3.drew.cell? ⟨w.heap.size, 6, none⟩ = some (.int .u32 m.o) ∧ w3.drew.cell? ⟨w.heap.size, 7, none⟩ = some (.int .u8 m.r) ∧ w3.drew.cell? ⟨w.heap.size, 8, none⟩ = some (.int .u64 m.c) ∧ w3.drew.cell? ⟨w.heap.size, 9, none⟩ = some (.int .u64 m.ar) ∧ w3.drew.cell? ⟨w.heap.size, 10, none⟩ = some (.slice co sn cc))) := HK3.out
  refine wp_region_held_drew (S := fun W => (W.cell? ⟨r, 1, none⟩ = some (.iface 60 (.pointer (some ⟨A.sb.1, 0, none⟩)))) ∧ (W.cell? ⟨w.heap.size, 0, none⟩ = some (.int .u64 m.ta) ∧ W.cell? ⟨w.heap.size, 1, none⟩ = some (.int .u64 m.rp) ∧ W.cell? ⟨w.heap.size, 2, none⟩ = some (.int .u32 m.id) ∧ W.cell? ⟨w.heap.size, 3, none⟩ = some (.int .u16 m.op) ∧ W.cell? ⟨w.heap.size, 4, none⟩ = some (.int .u16 m.st) ∧ W.cell? ⟨w.heap.size, 5, none⟩ = some (.int .u64 m.p) ∧ W.cell? ⟨w.heap.size, 6, none⟩ = some (.int .u32 m.o) ∧ W.cell? ⟨w.heap.size, 7, none⟩ = some (.int .u8 m.r) ∧ W.cell? ⟨w.heap.size, 8, none⟩ = some (.int .u64 m.c) ∧ W.cell? ⟨w.heap.size, 9, none⟩ = some (.int .u64 m.ar) ∧ W.cell? ⟨w.heap.size, 10, none⟩ = some (.slice co sn cc))) (by kernel_rfl) hS.out (fun _ => ?_)
  refine wpAnyH_take (i := 0) (oi := { dst := some 14, op := Go.Op.move (Go.Operand.tmp 0), type := 37, pos := "skeleton.go:155", after := #[], guard := none }) (v := (.pointer (some ⟨r, 0, none⟩))) rfl (by kernel_rfl) (by kernel_rfl) (by kernel_rfl) (fun _ _ _ h => h) (Or.inl ⟨by kernel_rfl, fun w hC => by go_simp⟩) hS.out ?_
  simp only [Act.put, List.setIfInBounds_toArray, List.set_cons_zero, List.set_cons_succ]
  refine wpAnyH_take (i := 1) (oi := { dst := some 15, op := Go.Op.nilCheck (Go.Operand.tmp 14), type := 0, pos := "skeleton.go:155", after := #[{ on := 0, ground := Go.Ground.data }], guard := none }) (v := (.pointer (some ⟨r, 0, none⟩))) rfl (by kernel_rfl) (by kernel_rfl) (by kernel_rfl) (fun _ _ _ h => h) (Or.inl ⟨by kernel_rfl, fun w hC => by go_simp⟩) hS.out ?_
  simp only [Act.put, List.setIfInBounds_toArray, List.set_cons_zero, List.set_cons_succ]
  refine wpAnyH_take (i := 2) (oi := { dst := some 16, op := Go.Op.fieldAddr 121 (Go.Operand.tmp 15) 1, type := 0, pos := "skeleton.go:155", after := #[{ on := 1, ground := Go.Ground.data }], guard := none }) (v := (.pointer (some ⟨r, 1, none⟩))) rfl (by kernel_rfl) (by kernel_rfl) (by kernel_rfl) (fun _ _ _ h => h) (Or.inl ⟨by kernel_rfl, fun w hC => by go_simp⟩) hS.out ?_
  simp only [Act.put, List.setIfInBounds_toArray, List.set_cons_zero, List.set_cons_succ]
  refine wpAnyH_take (i := 3) (oi := { dst := some 17, op := Go.Op.load 119 (Go.Operand.tmp 16), type := 119, pos := "skeleton.go:155", after := #[{ on := 2, ground := Go.Ground.data }], guard := none }) (v := (.iface 60 (.pointer (some ⟨A.sb.1, 0, none⟩)))) rfl (by kernel_rfl) (by kernel_rfl) (by kernel_rfl) (fun _ _ _ h => h) (Or.inl ⟨by kernel_rfl, fun w hC => by (obtain ⟨c1, k0, k1, k2, k3, k4, k5, k6, k7, k8, k9, k10⟩ := hC; go_simp)⟩) hS.out ?_
  simp only [Act.put, List.setIfInBounds_toArray, List.set_cons_zero, List.set_cons_succ]
  refine wpAnyH_take (i := 4) (oi := { dst := some 18, op := Go.Op.fieldAddr 55 (Go.Operand.tmp 5) 3, type := 0, pos := "skeleton.go:155", after := #[], guard := none }) (v := (.pointer (some ⟨w.heap.size, 3, none⟩))) rfl (by kernel_rfl) (by kernel_rfl) (by kernel_rfl) (fun _ _ _ h => h) (Or.inl ⟨by kernel_rfl, fun w hC => by go_simp⟩) hS.out ?_
  simp only [Act.put, List.setIfInBounds_toArray, List.set_cons_zero, List.set_cons_succ]
  refine wpAnyH_take (i := 5) (oi := { dst := some 19, op := Go.Op.load 51 (Go.Operand.tmp 18), type := 51, pos := "skeleton.go:155", after := #[{ on := 4, ground := Go.Ground.data }], guard := none }) (v := (.int .u16 (m.op : Int))) rfl (by kernel_rfl) (by kernel_rfl) (by kernel_rfl) (fun _ _ _ h => h) (Or.inl ⟨by kernel_rfl, fun w hC => by (obtain ⟨c1, k0, k1, k2, k3, k4, k5, k6, k7, k8, k9, k10⟩ := hC; go_simp)⟩) hS.out ?_
  simp only [Act.put, List.setIfInBounds_toArray, List.set_cons_zero, List.set_cons_succ]
  refine wpAnyH_take (i := 6) (oi := { dst := some 20, op := Go.Op.move (Go.Operand.tmp 1), type := 3, pos := "skeleton.go:155", after := #[], guard := none }) (v := (.int .i64 z)) rfl (by kernel_rfl) (by kernel_rfl) (by kernel_rfl) (fun _ _ _ h => h) (Or.inl ⟨by kernel_rfl, fun w hC => by go_simp⟩) hS.out ?_
  simp only [Act.put, List.setIfInBounds_toArray, List.set_cons_zero, List.set_cons_succ]
  refine wpAnyH_take (i := 7) (oi := { dst := some 21, op := Go.Op.load 55 (Go.Operand.tmp 5), type := 55, pos := "skeleton.go:155", after := #[], guard := none }) (v := (.agg #[.int .u64 m.ta, .int .u64 m.rp, .int .u32 m.id, .int .u16 m.op, .int .u16 m.st, .int .u64 m.p, .int .u32 m.o, .int .u8 m.r, .int .u64 m.c, .int .u64 m.ar, .slice co sn cc])) rfl (by kernel_rfl) (by kernel_rfl) (by kernel_rfl) (fun _ _ _ h => h) (Or.inl ⟨by kernel_rfl, fun w hC => by (obtain ⟨c1, k0, k1, k2, k3, k4, k5, k6, k7, k8, k9, k10⟩ := hC; go_simp)⟩) hS.out ?_
  simp only [Act.put, List.setIfInBounds_toArray, List.set_cons_zero, List.set_cons_succ]
  refine wpAnyH_ready (rs := [8]) (by kernel_rfl) (by simp) ?_
  refine AllReadyH.cons (o := { dst := some 22, op := Go.Op.call { callee := Go.Callee.invoke (Go.Operand.tmp 17) "Do", args := #[Go.Operand.tmp 19, Go.Operand.tmp 20, Go.Operand.tmp 21], argTypes := #[51, 3, 55] }, type := 103, pos := "skeleton.go:155", after := #[{ on := 3, ground := Go.Ground.data }, { on := 5, ground := Go.Ground.data }, { on := 6, ground := Go.Ground.data }, { on := 7, ground := Go.Ground.data }], guard := none }) rfl (fun KK hKK => ?_) AllReadyH.nil
  go_simp
  refine (svc_do m.op z m co sn cc l _ (Mb.grow (show Mb w3 A.g A.sb from HS3.out.2) (below_d w3 1)) (HX3.out.drewN 1) HL.out (HB3.out.drewN 1) HOP.out).mono ?_; unfold OutEnd; rw [HRR.out, HEE.out, HQ.out, HRA.out]; rintro e w4 ⟨ro, rn, rc, rfl, B4, N4, n4, E⟩
  have kh4 := (HX3.out.drewN 1).kh E
  have HS4 := hide ((show Sr w3.drew r A.g A.sb from HS3.out).kh kh4)
  have HM4 := hide ((show MB w3.drew w.heap.size m (.slice co sn cc) from HM3.out).kh kh4)
  have HR4 := hide ((show RB w3.drew _ _ _ _ from HR3.out).kh kh4)
  have HE4 := hide ((show EB w3.drew _ _ from HE3.out).kh kh4)
  have HB4 := hide B4
  have HNN := hide n4
  have HN : Hid (New w ro) := N4.le (by have := HBW3.out.size; exact this)
  have HND : Hid (∀ ad, ro = some ad → ¬ (ad.block ≤ w.heap.size + 1 + 1)) := fun ad e => by have h1 : w3.heap.size ≤ ad.block := N4 ad e; have h2 := HGT.out; omega
  have HEN := hide (E.from (below_one HBW3.out (below_d w3 1)))
  clear kh4 E B4 N4 n4
  have hS : Hid ((w4.cell? ⟨r, 1, none⟩ = some (.iface 60 (.pointer (some ⟨A.sb.1, 0, none⟩)))) ∧ (w4.cell? ⟨w.heap.size, 0, none⟩ = some (.int .u64 m.ta) ∧ w4.cell? ⟨w.heap.size, 1, none⟩ = some (.int .u64 m.rp) ∧ w4.cell? ⟨w.heap.size, 2, none⟩ = some (.int .u32 m.id) ∧ w4.cell? ⟨w.heap.size, 3, none⟩ = some (.int .u16 m.op) ∧ w4.cell? ⟨w.heap.size, 4, none⟩ = some (.int .u16 m.st) ∧ w4.cell? ⟨w.heap.size, 5, none⟩ = some (.int .u64 m.p) ∧ w4.cell? ⟨w.heap.size, 6, none⟩ = some (.int .u32 m.o) ∧ w4.cell? ⟨w.heap.size, 7, none⟩ = some (.int .u8 m.r) ∧ w4.cell? ⟨w.heap.size, 8, none⟩ = some (.int .u64 m.c) ∧ w4.cell? ⟨w.heap.size, 9, none⟩ = some (.int .u64 m.ar) ∧ w4.cell? ⟨w.heap.size, 10, none⟩ = some (.slice co sn cc))) := ⟨HS4.out.c1, HM4.out.all⟩
  refine hKK.out _ _ hS.out (fun _ => ?_)
  clear hKK
  refine wpAnyH_take (i := 9) (oi := { dst := some 13, op := Go.Op.move (Go.Operand.tmp 22), type := 103, pos := "skeleton.go:155", after := #[{ on := 8, ground := Go.Ground.data }], guard := none }) (v := (.tuple #[.agg #[.int .u64 (qp : Int), .int .u32 (qo : Int), .int .u8 (qr : Int), .int .u64 (qc : Int), .int .u64 (ra : Int), .slice ro rn rc], .iface 47 (.int .i64 (k : Int))])) rfl (by kernel_rfl) (by kernel_rfl) (by kernel_rfl) (fun _ _ _ h => h) (Or.inl ⟨by kernel_rfl, fun w hC => by go_simp⟩) hS.out ?_
  simp only [Act.put, List.setIfInBounds_toArray, List.set_cons_zero, List.set_cons_succ]
  refine wpAnyH_take (i := 10) (oi := { dst := some 23, op := Go.Op.extract (Go.Operand.tmp 13) 0, type := 102, pos := "skeleton.go:155", after := #[{ on := 9, ground := Go.Ground.data }], guard := none }) (v := (.agg #[.int .u64 (qp : Int), .int .u32 (qo : Int), .int .u8 (qr : Int), .int .u64 (qc : Int), .int .u64 (ra : Int), .slice ro rn rc])) rfl (by kernel_rfl) (by kernel_rfl) (by kernel_rfl) (fun _ _ _ h => h) (Or.inl ⟨by kernel_rfl, fun w hC => by go_simp⟩) hS.out ?_
  simp only [Act.put, List.setIfInBounds_toArray, List.set_cons_zero, List.set_cons_succ]
  refine wpAnyH_take (i := 11) (oi := { dst := some 24, op := Go.Op.extract (Go.Operand.tmp 13) 1, type := 42, pos := "skeleton.go:155", after := #[{ on := 9, ground := Go.Ground.data }], guard := none }) (v := (.iface 47 (.int .i64 (k : Int)))) rfl (by kernel_rfl) (by kernel_rfl) (by kernel_rfl) (fun _ _ _ h => h) (Or.inl ⟨by kernel_rfl, fun w hC => by go_simp⟩) hS.out ?_
  simp only [Act.put, List.setIfInBounds_toArray, List.set_cons_zero, List.set_cons_succ]
  obtain ⟨y0, y1, y2, y3, y4, y5⟩ := HR4.out.all
  have z0 := HR4.out.z 0
  have z1 := HR4.out.z 1
  have z2 := HR4.out.z 2
  have z3 := HR4.out.z 3
  have z4 := HR4.out.z 4
  have z5 := HR4.out.z 5
  have HR5 := hide (HR4.out.lay ⟨qp, qo, qr, qc⟩ (ra : Int) (.slice ro rn rc))
  have f5 := foot_lay6 w4 (w.heap.size + 1) ⟨qp, qo, qr, qc⟩ (ra : Int) (.slice ro rn rc)
  have HE5 := hide (HE4.out.foot f5 (by show ¬ w.heap.size + 1 + 1 = w.heap.size + 1; omega))
  have HM5 := hide (HM4.out.foot f5 (by show ¬ w.heap.size = w.heap.size + 1; omega))
  have HS5 := hide (HS4.out.var f5 HR4.out (by decide) (by decide))
  have HB5 := hide (Bts.foot HB4.out f5 (fun ad e _ (h : ad.block = w.heap.size + 1) => HND.out ad e (by omega)))
  have HEN5 := hide (HEN.out.res HW0.out HR4.out (by omega) f5)
  clear f5
  obtain ⟨w5, hw5⟩ : ∃ w5, lay6 w4 (w.heap.size + 1) ⟨qp, qo, qr, qc⟩ (ra : Int) (.slice ro rn rc) = w5 := ⟨_, rfl⟩
  rw [hw5] at HR5 HE5 HM5 HS5 HB5 HEN5
  unfold lay6 at hw5
  refine wpAnyH_ready (rs := [12]) (by kernel_rfl) (by simp) ?_
  refine AllReadyH.cons (o := { dst := none, op := Go.Op.store 102 (Go.Operand.tmp 6) (Go.Operand.tmp 23), type := 0, pos := "skeleton.go:155", after := #[{ on := 10, ground := Go.Ground.data }, { on := 8, ground := Go.Ground.chain }, { on := 0, ground := Go.Ground.phase }, { on := 1, ground := Go.Ground.phase }, { on := 2, ground := Go.Ground.phase }, { on := 3, ground := Go.Ground.phase }, { on := 4, ground := Go.Ground.phase }, { on := 5, ground := Go.Ground.phase }, { on := 6, ground := Go.Ground.phase }, { on := 7, ground := Go.Ground.phase }, { on := 8, ground := Go.Ground.phase }, { on := 9, ground := Go.Ground.phase }, { on := 10, ground := Go.Ground.phase }, { on := 11, ground := Go.Ground.textOnly Go.Departure.lateStoresUnsure }], guard := none }) rfl (fun KK hKK => ?_) AllReadyH.nil
  go_simp
  have hS : Hid ((w5.cell? ⟨r, 1, none⟩ = some (.iface 60 (.pointer (some ⟨A.sb.1, 0, none⟩)))) ∧ (w5.cell? ⟨w.heap.size, 0, none⟩ = some (.int .u64 m.ta) ∧ w5.cell? ⟨w.heap.size, 1, none⟩ = some (.int .u64 m.rp) ∧ w5.cell? ⟨w.heap.size, 2, none⟩ = some (.int .u32 m.id) ∧ w5.cell? ⟨w.heap.size, 3, none⟩ = some (.int .u16 m.op) ∧ w5.cell? ⟨w.heap.size, 4, none⟩ = some (.int .u16 m.st) ∧ w5.cell? ⟨w.heap.size, 5, none⟩ = some (.int .u64 m.p) ∧ w5.cell? ⟨w.heap.size, 6, none⟩ = some (.int .u32 m.o) ∧ w5.cell? ⟨w.heap.size, 7, none⟩ = some (.int .u8 m.r) ∧ w5.cell? ⟨w.heap.size, 8, none⟩ = some (.int .u64 m.c) ∧ w5.cell? ⟨w.heap.size, 9, none⟩ = some (.int .u64 m.ar) ∧ w5.cell? ⟨w.heap.size, 10, none⟩ = some (.slice co sn cc))) := ⟨HS5.out.c1, HM5.out.all⟩
  refine hKK.out _ _ hS.out (fun _ => ?_)
  clear hKK
  have e0 := HE5.out.c
  have ez := HE5.out.z
  refine wpAnyH_ready (rs := [13]) (by kernel_rfl) (by simp) ?_
  refine AllReadyH.cons (o := { dst := none, op := Go.Op.store 42 (Go.Operand.tmp 7) (Go.Operand.tmp 24), type := 0, pos := "skeleton.go:155", after := #[{ on := 11, ground := Go.Ground.data }, { on := 12, ground := Go.Ground.chain }, { on := 0, ground := Go.Ground.phase }, { on := 1, ground := Go.Ground.phase }, { on := 2, ground := Go.Ground.phase }, { on := 3, ground := Go.Ground.phase }, { on := 4, ground := Go.Ground.phase }, { on := 5, ground := Go.Ground.phase }, { on := 6, ground := Go.Ground.phase }, { on := 7, ground := Go.Ground.phase }, { on := 8, ground := Go.Ground.phase }, { on := 9, ground := Go.Ground.phase }, { on := 10, ground := Go.Ground.phase }, { on := 11, ground := Go.Ground.phase }, { on := 12, ground := Go.Ground.phase }], guard := none }) rfl (fun KK hKK => ?_) AllReadyH.nil
  go_simp
  have HR6 := hide (HR5.out.foot (foot_set w5 ⟨w.heap.size + 1 + 1, 0, none⟩ (.iface 47 (.int .i64 (k : Int)))) (by show ¬ w.heap.size + 1 = w.heap.size + 1 + 1; omega))
  have HM6 := hide (HM5.out.foot (foot_set w5 ⟨w.heap.size + 1 + 1, 0, none⟩ (.iface 47 (.int .i64 (k : Int)))) (by show ¬ w.heap.size = w.heap.size + 1 + 1; omega))
  have HS6 := hide (HS5.out.var (foot_set w5 ⟨w.heap.size + 1 + 1, 0, none⟩ (.iface 47 (.int .i64 (k : Int)))) HE5.out (by decide) (by decide))
  have HE6 := hide (HE5.out.set (.iface 47 (.int .i64 (k : Int))))
  have HB6 := hide (Bts.foot HB5.out (foot_set w5 ⟨w.heap.size + 1 + 1, 0, none⟩ (.iface 47 (.int .i64 (k : Int)))) (fun ad e _ (h : ad.block = w.heap.size + 1 + 1) => HND.out ad e (by omega)))
  have HEN6 := hide (HEN5.out.err HW0.out HE5.out (by omega) (foot_set w5 ⟨w.heap.size + 1 + 1, 0, none⟩ (.iface 47 (.int .i64 (k : Int)))))
  obtain ⟨w6, hw6⟩ : ∃ w6, w5.setCell ⟨w.heap.size + 1 + 1, 0, none⟩ (.iface 47 (.int .i64 (k : Int))) = w6 := ⟨_, rfl⟩
  rw [hw6] at HR6 HM6 HS6 HE6 HB6 HEN6
  try rw [hw6]
  clear e0 ez y0 y1 y2 y3 y4 y5 z0 z1 z2 z3 z4 z5 hw5
  have hS : Hid ((w6.cell? ⟨r, 1, none⟩ = some (.iface 60 (.pointer (some ⟨A.sb.1, 0, none⟩)))) ∧ (w6.cell? ⟨w.heap.size, 0, none⟩ = some (.int .u64 m.ta) ∧ w6.cell? ⟨w.heap.size, 1, none⟩ = some (.int .u64 m.rp) ∧ w6.cell? ⟨w.heap.size, 2, none⟩ = some (.int .u32 m.id) ∧ w6.cell? ⟨w.heap.size, 3, none⟩ = some (.int .u16 m.op) ∧ w6.cell? ⟨w.heap.size, 4, none⟩ = some (.int .u16 m.st) ∧ w6.cell? ⟨w.heap.size, 5, none⟩ = some (.int .u64 m.p) ∧ w6.cell? ⟨w.heap.size, 6, none⟩ = some (.int .u32 m.o) ∧ w6.cell? ⟨w.heap.size, 7, none⟩ = some (.int .u8 m.r) ∧ w6.cell? ⟨w.heap.size, 8, none⟩ = some (.int .u64 m.c) ∧ w6.cell? ⟨w.heap.size, 9, none⟩ = some (.int .u64 m.ar) ∧ w6.cell? ⟨w.heap.size, 10, none⟩ = some (.slice co sn cc))) := ⟨HS6.out.c1, HM6.out.all⟩
  refine hKK.out _ _ hS.out (fun _ => ?_)
  clear hKK
  refine wpAnyH_done (by kernel_rfl) ?_ _
  have e0 := HE6.out.c
  have ez := HE6.out.z
  obtain ⟨y0, y1, y2, y3, y4, y5⟩ := HR6.out.all
  have z0 := HR6.out.z 0
  have z1 := HR6.out.z 1
  have z2 := HR6.out.z 2
  have z3 := HR6.out.z 3
  have z4 := HR6.out.z 4
  have z5 := HR6.out.z 5
  go_wp2_with fail
  refine (number_errno (k : Int) _ (HEN6.out.glob HG.out)).mono ?_; rintro e w7 ⟨rfl, b7⟩
  have HR7 := hide (HR6.out.grow b7)
  have HE7 := hide (HE6.out.grow b7)
  have HEN7 := hide (HEN6.out.to b7)
  clear b7 e0 ez y0 y1 y2 y3 y4 y5 z0 z1 z2 z3 z4 z5 hw6
  have e0 := HE7.out.c
  have ez := HE7.out.z
  obtain ⟨y0, y1, y2, y3, y4, y5⟩ := HR7.out.all
  have z0 := HR7.out.z 0
  have z1 := HR7.out.z 1
  have z2 := HR7.out.z 2
  have z3 := HR7.out.z 3
  have z4 := HR7.out.z 4
  have z5 := HR7.out.z 5
  have HR8 := hide (HR7.out.lay Cp.zero 0 (.slice none 0 0))
  have f8 := foot_lay6 w7 (w.heap.size + 1) Cp.zero 0 (.slice none 0 0)
  have HE8 := hide (HE7.out.foot f8 (by show ¬ w.heap.size + 1 + 1 = w.heap.size + 1; omega))
  
  have HEN8 := hide (HEN7.out.res HW0.out HR7.out (by omega) f8)
  clear f8
  obtain ⟨w8, hw8⟩ : ∃ w8, lay6 w7 (w.heap.size + 1) Cp.zero 0 (.slice none 0 0) = w8 := ⟨_, rfl⟩
  rw [hw8] at HR8 HE8 HEN8
  unfold lay6 at hw8
  simp only [Cp.zero, show (((0 : Nat)) : Int) = 0 from rfl] at hw8
  have g0 := HE8.out.c
  have gz := HE8.out.z
  have f9 := foot_set w8 ⟨w.heap.size + 1 + 1, 0, none⟩ (.iface 47 (.int .i64 (k : Int)))
  have HR9 := hide (HR8.out.foot f9 (by show ¬ w.heap.size + 1 = w.heap.size + 1 + 1; omega))
  have HE9 := hide (HE8.out.set (.iface 47 (.int .i64 (k : Int))))
  
  have HEN9 := hide (HEN8.out.err HW0.out HE8.out (by omega) f9)
  clear f9
  obtain ⟨w9, hw9⟩ : ∃ w9, w8.setCell ⟨w.heap.size + 1 + 1, 0, none⟩ (.iface 47 (.int .i64 (k : Int))) = w9 := ⟨_, rfl⟩
  rw [hw9] at HR9 HE9 HEN9
  go_wp2
  refine leaves_cons (f := 84) (args := #[.pointer (some ⟨w.heap.size + 1, 0, none⟩), .pointer (some ⟨w.heap.size + 1 + 1, 0, none⟩)]) (by simp) (by simp [go_sem]) ?_
  refine (do_idle _ _ _).mono ?_
  rintro e u' w'' ⟨rfl, rfl, rfl⟩
  have q0 := HE9.out.c
  obtain ⟨v0, v1, v2, v3, v4, v5⟩ := HR9.out.all
  simp only [Cp.zero, show (((0 : Nat)) : Int) = 0 from rfl] at v0 v1 v2 v3 v4 v5
  simp [Leaves, settle, results, Tryz.results74, go_sem, q0, v0, v1, v2, v3, v4, v5]
  rw [HBAD.out]
  exact out_bad HEE.out HEN9.out
theorem do_any (z : Int) (m : Msg) (so : Option Addr) (sn sc : Nat) (l : List UInt8) (w : World) (h : Sr w r A.g A.sb) (x : Sv w0 w A p ws s) (hl : Dok z s) (hop : 100 ≤ m.op ∧ m.op ≤ 105) (ha : m.ar ≤ 18446744073709551615) (hb : Bts w so sn sc l) (hn : sn ≤ 140737488355328) (hg : Glob w0) :
    Calls Tryz.prog 74 #[.pointer (some ⟨r, 0, none⟩), .int .i64 z, .agg #[.int .u64 m.ta, .int .u64 m.rp, .int .u32 m.id, .int .u16 m.op, .int .u16 m.st, .int .u64 m.p, .int .u32 m.o, .int .u8 m.r, .int .u64 m.c, .int .u64 m.ar, .slice so sn sc]] w fun e w' => OutEnd w0 w A p ws (doF ws p s m.op z m.ar l) l e w' := by
  by_cases h0 : (doF ws p s m.op z m.ar l).e = 0
  · exact do_yes z m so sn sc l w h x hl hop ha hb hn _ rfl h0
  · exact do_no z m so sn sc l w h x hl hop ha hb hn _ rfl h0 hg
end
end Go.Proofs.YtlmnnjibggdboaaGreatDoor
namespace Go.Proofs.YtlmnnjibggdboaaGreatDoor
section
open Go.RowKit
variable {w w' : World} {co : Option Addr}
/- data that lie in a row of bytes -/
def Typ8 (w : World) (co : Option Addr) : Prop := ∀ ad, co = some ad → ∃ cs, w.heap[ad.block]? = some (.cells cs 5 (0, 0))
theorem Typ8.kh (h : Typ8 w co) (k : Kh w w') : Typ8 w' co := fun ad e => by
  obtain ⟨cs, h⟩ := h ad e
  exact ⟨cs, (k.block _ _ _ h byte_odd3).trans h⟩
theorem Typ8.grow (h : Typ8 w co) (b : Below w.heap.size w w') : Typ8 w' co := h.kh (below_kh b)
theorem Typ8.foot {S : Nat → Prop} (h : Typ8 w co) (f : Foot S w w') (hS : ∀ ad, co = some ad → ¬ S ad.block) : Typ8 w' co := fun ad e => by
  obtain ⟨cs, h⟩ := h ad e
  exact ⟨cs, (f.block _ (lt_of_heap h) (hS ad e)).trans h⟩
theorem Typ8.set (h : Typ8 w co) (p : Addr) (v : Value) (hp : ∀ ad, co = some ad → ad.block ≠ p.block) : Typ8 (w.setCell p v) co := h.foot (foot_set w p v) (fun ad e => hp ad e)
theorem Bts.typ {n cc : Nat} {d : List UInt8} (h : Bts w co n cc d) (t : d = [] ∨ Typ8 w co) (k : Kh w w') : Bts w' co n cc d := by
  rcases t with rfl | t
  · exact ⟨h.1, h.2.1, h.2.2.1, h.2.2.2.1, fun _ _ j hj => by simp at hj⟩
  · refine ⟨h.1, h.2.1, h.2.2.1, h.2.2.2.1, fun ad e j hj => ?_⟩
    obtain ⟨cs, hc⟩ := t ad e
    have c0 := h.2.2.2.2 ad e j hj
    rw [← c0]; unfold World.cell?; rw [add_block, k.block _ _ _ hc byte_odd3]
set_option maxHeartbeats 4000000 in
theorem answer_own (m : Msg) (D : Value) (s p o r c ar : Nat) (ao : Option Addr) (n cap : Nat) (l : List UInt8) (w : World) (hs : s ≤ 65535) (hb : Bts w ao n cap l) (hn : n ≤ 140737488355328) (m2 : Msg) (h2 : (⟨m.rp, m.ta, m.id, m.op, s, p, o, r, c, ar⟩ : Msg) = m2) :
    Calls Tryz.prog 37 #[.agg #[.int .u64 m.ta, .int .u64 m.rp, .int .u32 m.id, .int .u16 m.op, .int .u16 m.st, .int .u64 m.p, .int .u32 m.o, .int .u8 m.r, .int .u64 m.c, .int .u64 m.ar, D], .int .i64 s, .agg #[.int .u64 p, .int .u32 o, .int .u8 r, .int .u64 c], .int .u64 ar, .slice ao n cap] w fun e w' => ∃ co cc, e = .returned (.agg #[.int .u64 m2.ta, .int .u64 m2.rp, .int .u32 m2.id, .int .u16 m2.op, .int .u16 m2.st, .int .u64 m2.p, .int .u32 m2.o, .int .u8 m2.r, .int .u64 m2.c, .int .u64 m2.ar, .slice co n cc]) ∧ Bts w' co n cc l ∧ New w co ∧ Typ8 w' co ∧ Below w.heap.size w w' := by
  subst h2
  have hw := wrap16 s hs
  have HB : Hid (Bts w ao n cap l) := hb
  clear hb
  have b1 : Below w.heap.size w (w.alloc (.cells #[.int .u64 m.ta, .int .u64 m.rp, .int .u32 m.id, .int .u16 m.op, .int .u16 m.st, .int .u64 m.p, .int .u32 m.o, .int .u8 m.r, .int .u64 m.c, .int .u64 m.ar, D] 55)) := below_alloc _ _
  have z1 : (w.alloc (.cells #[.int .u64 m.ta, .int .u64 m.rp, .int .u32 m.id, .int .u16 m.op, .int .u16 m.st, .int .u64 m.p, .int .u32 m.o, .int .u8 m.r, .int .u64 m.c, .int .u64 m.ar, D] 55)).heap.size = w.heap.size + 1 := by simp
  have x1 := mbox_new w m D
  have c2 := box_new (w.alloc (.cells #[.int .u64 m.ta, .int .u64 m.rp, .int .u32 m.id, .int .u16 m.op, .int .u16 m.st, .int .u64 m.p, .int .u32 m.o, .int .u8 m.r, .int .u64 m.c, .int .u64 m.ar, D] 55)) p o r c
  have b2 := below_alloc (w.alloc (.cells #[.int .u64 m.ta, .int .u64 m.rp, .int .u32 m.id, .int .u16 m.op, .int .u16 m.st, .int .u64 m.p, .int .u32 m.o, .int .u8 m.r, .int .u64 m.c, .int .u64 m.ar, D] 55)) (.cells #[.int .u64 p, .int .u32 o, .int .u8 r, .int .u64 c] 40)
  have x2 := x1.carry b2
  have z2 : ((w.alloc (.cells #[.int .u64 m.ta, .int .u64 m.rp, .int .u32 m.id, .int .u16 m.op, .int .u16 m.st, .int .u64 m.p, .int .u32 m.o, .int .u8 m.r, .int .u64 m.c, .int .u64 m.ar, D] 55)).alloc (.cells #[.int .u64 p, .int .u32 o, .int .u8 r, .int .u64 c] 40)).heap.size = w.heap.size + 1 + 1 := by simp
  have x3 := zero_new ((w.alloc (.cells #[.int .u64 m.ta, .int .u64 m.rp, .int .u32 m.id, .int .u16 m.op, .int .u16 m.st, .int .u64 m.p, .int .u32 m.o, .int .u8 m.r, .int .u64 m.c, .int .u64 m.ar, D] 55)).alloc (.cells #[.int .u64 p, .int .u32 o, .int .u8 r, .int .u64 c] 40))
  have f3 := mfree_new ((w.alloc (.cells #[.int .u64 m.ta, .int .u64 m.rp, .int .u32 m.id, .int .u16 m.op, .int .u16 m.st, .int .u64 m.p, .int .u32 m.o, .int .u8 m.r, .int .u64 m.c, .int .u64 m.ar, D] 55)).alloc (.cells #[.int .u64 p, .int .u32 o, .int .u8 r, .int .u64 c] 40)) #[.int .u64 0, .int .u64 0, .int .u32 0, .int .u16 0, .int .u16 0, .int .u64 0, .int .u32 0, .int .u8 0, .int .u64 0, .int .u64 0, .slice none 0 0]
  rw [z1] at c2
  rw [z2] at x3 f3
  have HX := hide x2
  have HC := hide c2
  have HZ := hide x3
  have HF := hide f3
  have HS2 := hide z2
  have HBB := hide (below_one b1 b2)
  clear x1 x2 c2 x3 f3 z1 z2 b1 b2
  go_enter Tryz.func37, Tryz.ntmps37
  go_wp2_with fail
  generalize hW : (w.alloc (.cells #[.int .u64 m.ta, .int .u64 m.rp, .int .u32 m.id, .int .u16 m.op, .int .u16 m.st, .int .u64 m.p, .int .u32 m.o, .int .u8 m.r, .int .u64 m.c, .int .u64 m.ar, D] 55)).alloc (.cells #[.int .u64 p, .int .u32 o, .int .u8 r, .int .u64 c] 40) = W at *
  have hle : W.heap.size ≤ w.heap.size + 1 + 1 := by have := HS2.out; omega
  have hlw : w.heap.size ≤ W.heap.size := HBB.out.size
  have bb : Below W.heap.size W (W.alloc (.cells #[.int .u64 0, .int .u64 0, .int .u32 0, .int .u16 0, .int .u16 0, .int .u64 0, .int .u32 0, .int .u8 0, .int .u64 0, .int .u64 0, .slice none 0 0] 55)).drew := (below_alloc _ _).drew
  have HZ1 := hide HZ.out.drew
  have HF1 : Hid (MFree (W.alloc (.cells #[.int .u64 0, .int .u64 0, .int .u32 0, .int .u16 0, .int .u16 0, .int .u64 0, .int .u32 0, .int .u8 0, .int .u64 0, .int .u64 0, .slice none 0 0] 55)).drew (w.heap.size + 1 + 1)) := HF.out
  have HBW := hide (HB.out.carry HBB.out)
  clear hW HZ HF HB
  go_region_held (fun w' => (w'.cell? ⟨w.heap.size, 0, none⟩ = some (.int .u64 m.ta) ∧ w'.cell? ⟨w.heap.size, 1, none⟩ = some (.int .u64 m.rp) ∧ w'.cell? ⟨w.heap.size, 2, none⟩ = some (.int .u32 m.id) ∧ w'.cell? ⟨w.heap.size, 3, none⟩ = some (.int .u16 m.op)) ∧
      (w'.cell? ⟨w.heap.size + 1, 0, none⟩ = some (.int .u64 p) ∧ w'.cell? ⟨w.heap.size + 1, 1, none⟩ = some (.int .u32 o) ∧ w'.cell? ⟨w.heap.size + 1, 2, none⟩ = some (.int .u8 r) ∧ w'.cell? ⟨w.heap.size + 1, 3, none⟩ = some (.int .u64 c)))
    (exact ⟨(HX.out.carry (by go_grown)).four, HC.out.carry (by go_grown)⟩)
    (first
      | (go_at_call 59; refine (clone_own ao n cap l _ (HBW.out.carry (by go_grown)) hn).mono ?_; rintro e wx ⟨co, cc, rfl, hbx, hnx, htx, bel⟩; have HTX := hide (show Typ8 wx co from htx); have HN1 := hide (hnx.le (w := w) (by have h1 := bb.size; omega)); have HP1 := hide (apart0 hnx); have bb : Below W.heap.size W wx := below_one bb bel; obtain ⟨k0, k1, k2, k3, k4, k5, k6, k7, k8, k9, k10⟩ := HZ1.out.carry bel; obtain ⟨z0, z1, z2, z3, z4, z5, z6, z7, z8, z9, z10⟩ := HF1.out.carry HZ1.out.lt bel; have HBX := hide hbx; clear bel hbx hnx htx))
  go_wp2
  have HP2 : Hid (∀ ad, co = some ad → ad.block ≠ w.heap.size + 1 + 1) := HP1.out _ (by have := HS2.out; simp; omega)
  have b9 := below_one HBB.out bb
  have h9 : w.heap.size ≤ w.heap.size + 1 + 1 := by omega
  refine bodyPost_ret (by simp [results, Tryz.results37, go_sem, k0, k1, k2, k3, k4, k5, k6, k7, k8, k9, k10]; rfl) rfl ?_
  exact ⟨co, cc, rfl, ((((((((((HBX.out.set _ _ HP2.out).set _ _ HP2.out).set _ _ HP2.out).set _ _ HP2.out).set _ _ HP2.out).set _ _ HP2.out).set _ _ HP2.out).set _ _ HP2.out).set _ _ HP2.out).set _ _ HP2.out).set _ _ HP2.out, HN1.out, (((((((((((HTX.out.set _ _ HP2.out).set _ _ HP2.out).set _ _ HP2.out).set _ _ HP2.out).set _ _ HP2.out).set _ _ HP2.out).set _ _ HP2.out).set _ _ HP2.out).set _ _ HP2.out).set _ _ HP2.out).set _ _ HP2.out), ((((((((((b9.setCell h9 _).setCell h9 _).setCell h9 _).setCell h9 _).setCell h9 _).setCell h9 _).setCell h9 _).setCell h9 _).setCell h9 _).setCell h9 _).setCell h9 _⟩
end
end Go.Proofs.YtlmnnjibggdboaaGreatDoor
namespace Go.Proofs.YtlmnnjibggdboaaGreatDoor
section
open Go.RowKit
variable {w0 w w1 w2 w' : World} {A A' : Ad} {p : Nat} {ws : List Nat} {s s' s1 : Hs} {r g : Nat} {sb : Nat × Bool}
theorem Sv.cap (x : Sv w0 w A p ws s) {b : Nat} {q : Cp} (h : CBox w b q.p q.o q.r q.c) (hb : w0.heap.size ≤ b) (f : Foot (fun j => j = b) w w1) : Sv w0 w1 A p ws s :=
  x.off f (fun j e => ⟨by omega, .inr ⟨_, _, e ▸ h, cap_odd3⟩⟩)
end
end Go.Proofs.YtlmnnjibggdboaaGreatDoor
namespace Go.Proofs.YtlmnnjibggdboaaGreatDoor
section
open Go.RowKit
variable {w0 w w1 w2 w' : World} {A A' : Ad} {p : Nat} {ws : List Nat} {s s' s1 : Hs} {r g : Nat} {sb : Nat × Bool}
set_option maxRecDepth 20000 in
set_option maxHeartbeats 1600000 in
theorem dst_root (c : Cp) (w : World) (h : Sr w r A.g A.sb) (x : Sv w0 w A p ws s) (hc : c.ok) (hl : s.es.length ≤ 5000000000000) (K : Chk) (hK : chkF ws s.t s.es p s.T c 8 = K) (ho : c.o = 0) :
    Calls Tryz.prog 57 #[.pointer (some ⟨r, 0, none⟩), c.val] w fun e w' => e = .returned (erN ((dstF s c K).e : Int)) ∧ SvEnd w0 w A p ws w' (dstF s c K).s := by
  obtain ⟨cp, co, cr, cc⟩ := c
  simp only at ho
  have hoi : ((co : Int) == 0) = true := by rw [ho]; rfl
  have HO := hide ho
  simp only [Cp.val]
  obtain ⟨W, hW⟩ : ∃ W, w.alloc (.cells #[.int .u64 (cp : Int), .int .u32 (co : Int), .int .u8 (cr : Int), .int .u64 (cc : Int)] 40) = W := ⟨_, rfl⟩
  have bW : Below w.heap.size w W := hW ▸ below_alloc w _
  have cW : CBox W w.heap.size cp co cr cc := hW ▸ CBox.new w cp co cr cc
  have HS := hide (h.grow bW)
  have HX := hide (x.grow bW)
  have HC := hide cW
  have HBW := hide bW
  have HCO := hide hc
  have HL := hide hl
  have HK := hide hK
  have c1 : W.cell? ⟨w.heap.size, 1, none⟩ = some (.int .u32 (co : Int)) := cW.c1
  clear h x hc hl hK bW cW ho
  obtain ⟨er, her⟩ : ∃ er, erN (K.e : Int) = er := ⟨_, rfl⟩
  have HER := hide her
  clear her
  go_enter Tryz.func57, Tryz.ntmps57
  go_wp2_with fail
  go_region_held (fun U => U.cell? ⟨r, 0, none⟩ = some (.pointer (some ⟨A.g, 0, none⟩)) ∧ U.cell? ⟨w.heap.size, 0, none⟩ = some (.int .u64 (cp : Int)) ∧ U.cell? ⟨w.heap.size, 1, none⟩ = some (.int .u32 (co : Int)) ∧ U.cell? ⟨w.heap.size, 2, none⟩ = some (.int .u8 (cr : Int)) ∧ U.cell? ⟨w.heap.size, 3, none⟩ = some (.int .u64 (cc : Int)))
    (first | exact ⟨HS.out.c0, HC.out.c0, HC.out.c1, HC.out.c2, HC.out.c3⟩ | exact ⟨HS1.out.c0, HC1.out.c0, HC1.out.c1, HC1.out.c2, HC1.out.c3⟩)
    (first
      | (go_at_call 34; refine (tb_check ⟨cp, co, cr, cc⟩ 8 _ (HX.out.drewN 1) HCO.out (by omega) HL.out K HK.out).mono ?_; rw [HER.out]; rintro e w1 ⟨rfl, E⟩; have k1 := (HX.out.drewN 1).kh E; have HS1 := hide ((show Sr W.drew r A.g A.sb from HS.out).kh k1); have HC1 := hide (CBox.kh (show CBox W.drew _ _ _ _ _ from HC.out) k1); have HE1 := hide E; clear k1 E))
  by_cases h0 : K.e = 0
  · obtain rfl : er = .nilIface := by rw [← HER.out, h0]; rfl
    have HD : Hid (dstF s ⟨cp, co, cr, cc⟩ K = badF (s.tab K.t K.es s.T) 15) := by show dstF s ⟨cp, co, cr, cc⟩ K = _; unfold dstF; rw [if_pos HO.out, if_pos h0]
    go_wp2
    go_ret
    rw [HD.out]
    exact ⟨rfl, HE1.out.from (below_one HBW.out (below_d W 1))⟩
  · have HD : Hid (dstF s ⟨cp, co, cr, cc⟩ K = badF (s.tab K.t K.es s.T) K.e) := by show dstF s ⟨cp, co, cr, cc⟩ K = _; unfold dstF; rw [if_pos HO.out, if_neg h0]
    obtain ⟨tE, hE⟩ : ∃ v, er = .iface 47 v := ⟨_, by rw [← HER.out]; exact erN_not (by omega)⟩
    subst hE
    go_wp2
    go_ret
    rw [HD.out]
    exact ⟨by rw [← HER.out]; rfl, HE1.out.from (below_one HBW.out (below_d W 1))⟩
set_option maxRecDepth 20000 in
set_option maxHeartbeats 1600000 in
theorem dst_other (c : Cp) (w : World) (h : Sr w r A.g A.sb) (x : Sv w0 w A p ws s) (hc : c.ok) (hl : s.es.length ≤ 5000000000000) (hvv : ∀ k, I64 (s.T k).v) (K : Chk) (hK : chkF ws s.t s.es p s.T c 8 = K) (ho : c.o ≠ 0) :
    Calls Tryz.prog 57 #[.pointer (some ⟨r, 0, none⟩), c.val] w fun e w' => e = .returned (erN ((dstF s c K).e : Int)) ∧ SvEnd w0 w A p ws w' (dstF s c K).s := by
  obtain ⟨cp, co, cr, cc⟩ := c
  simp only at ho
  have hoi : ¬ (co : Int) = 0 := by omega
  have HO := hide ho
  simp only [Cp.val]
  obtain ⟨W, hW⟩ : ∃ W, w.alloc (.cells #[.int .u64 (cp : Int), .int .u32 (co : Int), .int .u8 (cr : Int), .int .u64 (cc : Int)] 40) = W := ⟨_, rfl⟩
  have bW : Below w.heap.size w W := hW ▸ below_alloc w _
  have cW : CBox W w.heap.size cp co cr cc := hW ▸ CBox.new w cp co cr cc
  have HS := hide (h.grow bW)
  have HX := hide (x.grow bW)
  have HC := hide cW
  have HBW := hide bW
  have HCO := hide hc
  have HVV := hide hvv
  clear hvv
  have HL := hide hl
  have HK := hide hK
  have c1 : W.cell? ⟨w.heap.size, 1, none⟩ = some (.int .u32 (co : Int)) := cW.c1
  clear h x hc hl hK bW cW ho
  obtain ⟨er, her⟩ : ∃ er, erN (K.e : Int) = er := ⟨_, rfl⟩
  have HER := hide her
  obtain ⟨vl, hvl⟩ : ∃ vl : Int, (if K.e = 0 then (s.T K.k).v else 0) = vl := ⟨_, rfl⟩
  have HVL := hide hvl
  clear her hvl
  go_enter Tryz.func57, Tryz.ntmps57
  go_wp2_with fail
  go_region_held (fun U => U.cell? ⟨r, 0, none⟩ = some (.pointer (some ⟨A.g, 0, none⟩)) ∧ U.cell? ⟨w.heap.size, 0, none⟩ = some (.int .u64 (cp : Int)) ∧ U.cell? ⟨w.heap.size, 1, none⟩ = some (.int .u32 (co : Int)) ∧ U.cell? ⟨w.heap.size, 2, none⟩ = some (.int .u8 (cr : Int)) ∧ U.cell? ⟨w.heap.size, 3, none⟩ = some (.int .u64 (cc : Int)))
    (first | exact ⟨HS.out.c0, HC.out.c0, HC.out.c1, HC.out.c2, HC.out.c3⟩ | exact ⟨HS1.out.c0, HC1.out.c0, HC1.out.c1, HC1.out.c2, HC1.out.c3⟩)
    (first
      | (go_at_call 39; refine (tb_destroy ⟨cp, co, cr, cc⟩ _ (HX.out.drewN 1) HCO.out HL.out K HK.out).mono ?_; rw [HER.out, HVL.out]; rintro e w1 ⟨rfl, E⟩; have k1 := (HX.out.drewN 1).kh E; have HS1 := hide ((show Sr W.drew r A.g A.sb from HS.out).kh k1); have HC1 := hide (CBox.kh (show CBox W.drew _ _ _ _ _ from HC.out) k1); have HE1 := hide E; clear k1 E))
  by_cases h0 : K.e = 0
  · obtain rfl : er = .nilIface := by rw [← HER.out, h0]; rfl
    have hv : (s.T K.k).v = vl := by have := HVL.out; rw [if_pos h0] at this; exact this
    have HD : Hid (dstF s ⟨cp, co, cr, cc⟩ K = badF ⟨K.t, K.es, desT s.T K, s.n, s.q, updL s.L vl []⟩ 0) := by show dstF s ⟨cp, co, cr, cc⟩ K = _; unfold dstF; rw [if_neg HO.out, if_pos h0, hv]
    obtain ⟨v, dv, nv, S1, on1⟩ := SvEnd.run HE1.out
    have HS1' := hide S1
    have HON := hide on1
    have HIV : Hid (I64 vl) := by have := HVV.out K.k; rw [hv] at this; exact this
    clear S1 on1 hv
    go_wp2_with fail
    refine (srv_gone vl _ (A := A.upd v dv nv) HS1.out HS1'.out HIV.out).mono ?_; rintro e w2 ⟨rfl, E2⟩
    have HE2 := hide (HON.out _ _ E2)
    clear E2
    go_wp2
    go_ret
    rw [HD.out]
    exact ⟨rfl, HE2.out.from (below_one HBW.out (below_d W 1))⟩
  · have HD : Hid (dstF s ⟨cp, co, cr, cc⟩ K = badF (s.tab K.t K.es s.T) K.e) := by show dstF s ⟨cp, co, cr, cc⟩ K = _; unfold dstF; rw [if_neg HO.out, if_neg h0]
    have hT : desT s.T K = s.T := by unfold desT; rw [if_neg h0]
    have HT := hide hT
    clear hT
    obtain ⟨tE, hE⟩ : ∃ v, er = .iface 47 v := ⟨_, by rw [← HER.out]; exact erN_not (by omega)⟩
    subst hE
    go_wp2
    go_ret
    rw [HD.out]
    refine ⟨by rw [← HER.out]; rfl, ?_⟩
    have := HE1.out.from (below_one HBW.out (below_d W 1))
    rw [HT.out] at this
    exact this
end
end Go.Proofs.YtlmnnjibggdboaaGreatDoor
namespace Go.Proofs.YtlmnnjibggdboaaGreatDoor
section
open Go.RowKit
variable {w0 w w1 w2 w' : World} {A A' : Ad} {p : Nat} {ws : List Nat} {s s' s1 : Hs} {r g : Nat} {sb : Nat × Bool}
theorem tb_value (k : Nat) (vl : Int) (w : World) (x : Sv w0 w A p ws s) (hk : hasO s.T k = true) (hv : (s.T k).v = vl) :
    Calls Tryz.prog 40 #[.pointer (some ⟨A.g, 0, none⟩), .int .i64 (k : Int)] w fun e w' => e = .returned (.tuple #[.int .i64 vl, .bool true]) ∧ w' = w := by
  have hlt := (hasO_yes hk).1
  refine (value_any (k : Int) w x.od.tb (by omega)).mono ?_
  have hb : (decide (0 ≤ (k : Int)) && hasO s.T ((k : Int)).toNat) = true := by rw [Int.toNat_natCast, hk, decide_eq_true (by omega : (0 : Int) ≤ (k : Int))]; rfl
  rw [hb, Int.toNat_natCast, if_pos rfl, hv]
  exact fun _ _ h => h
theorem Bts.sv {so : Option Addr} {sn sc : Nat} {l : List UInt8} (h : Bts w so sn sc l) (hd : Dat w0.heap.size w sn so) (x : Sv w0 w A p ws s) (E : SvEnd w0 w A p ws w1 s1) : Bts w1 so sn sc l := by
  obtain ⟨v, dv, nv, S, F, _⟩ := E
  by_cases hp : 0 < sn
  · refine Bts.foot h F (fun ad e _ h => ?_)
    rcases hd hp ad e with h1 | ⟨cs, z, h1⟩
    · have := (x.up h).1; omega
    · exact x.noY h1 h
  · obtain rfl : l = [] := List.length_eq_zero_iff.1 (by have := h.1; omega)
    exact ⟨h.1, h.2.1, h.2.2.1, h.2.2.2.1, fun _ _ j hj => absurd hj (by simp)⟩
theorem srv_destroy (c : Cp) (w : World) (h : Sr w r A.g A.sb) (x : Sv w0 w A p ws s) (hc : c.ok) (hl : s.es.length ≤ 5000000000000) (hvv : ∀ k, I64 (s.T k).v) (K : Chk) (hK : chkF ws s.t s.es p s.T c 8 = K) :
    Calls Tryz.prog 57 #[.pointer (some ⟨r, 0, none⟩), c.val] w fun e w' => e = .returned (erN ((dstF s c K).e : Int)) ∧ SvEnd w0 w A p ws w' (dstF s c K).s := by
  by_cases ho : c.o = 0
  · exact dst_root c w h x hc hl K hK ho
  · exact dst_other c w h x hc hl hvv K hK ho
set_option maxHeartbeats 1600000 in
theorem own_low (m : Msg) (so : Option Addr) (sn sc : Nat) (l : List UInt8) (w : World) (h : Sr w r A.g A.sb) (x : Sv w0 w A p ws s) (ho : m.op ≤ 65535) (h1 : m.op < 100) :
    Calls Tryz.prog 58 #[.pointer (some ⟨r, 0, none⟩), .agg #[.int .u64 m.ta, .int .u64 m.rp, .int .u32 m.id, .int .u16 m.op, .int .u16 m.st, .int .u64 m.p, .int .u32 m.o, .int .u8 m.r, .int .u64 m.c, .int .u64 m.ar, .slice so sn sc]] w fun e w' => OutEnd w0 w A p ws (badF s 3) l e w' := by
  obtain ⟨X, hX, bm, br, bX⟩ := own_vars w m (.slice so sn sc)
  unfold resZ at hX
  have HS := hide (h.grow bX)
  have HX := hide (x.grow bX)
  have HM := hide bm
  have HR := hide br
  have HBX := hide bX
  have HW0 : Hid (w0.heap.size ≤ w.heap.size) := x.bel.size
  have k3 : X.cell? ⟨w.heap.size, 3, none⟩ = some (.int .u16 (m.op : Int)) := bm.all.2.2.2.1
  have hop : (m.op : Int) < 100 := by omega
  clear bm br bX h x ho h1
  obtain ⟨y0, y1, y2, y3, y4, y5⟩ := HR.out.all
  have z0 := HR.out.z 0
  have z1 := HR.out.z 1
  have z2 := HR.out.z 2
  have z3 := HR.out.z 3
  have z4 := HR.out.z 4
  have z5 := HR.out.z 5
  simp only [Cp.zero, show (((0 : Nat)) : Int) = 0 from rfl] at y0 y1 y2 y3
  have HEN := hide (Sv.stay HX.out |>.from HBX.out)
  go_enter Tryz.func58, Tryz.ntmps58
  have HRZ := hide (HR.out.lay Cp.zero 0 (.slice none 0 0))
  have HEZ := hide (HEN.out.res HW0.out HR.out (by omega) (foot_lay6 X (w.heap.size + 1) Cp.zero 0 (.slice none 0 0)))
  obtain ⟨wz, hwz⟩ : ∃ wz, lay6 X (w.heap.size + 1) Cp.zero 0 (.slice none 0 0) = wz := ⟨_, rfl⟩
  rw [hwz] at HRZ HEZ
  unfold lay6 at hwz
  simp only [Cp.zero, show (((0 : Nat)) : Int) = 0 from rfl] at hwz
  obtain ⟨v0, v1, v2, v3, v4, v5⟩ := HRZ.out.all
  simp only [Cp.zero, show (((0 : Nat)) : Int) = 0 from rfl] at v0 v1 v2 v3 v4
  go_wp2
  refine bodyPost_ret (by simp [results, Tryz.results58, go_sem, v0, v1, v2, v3, v4, v5]; rfl) rfl ?_
  exact out_bad rfl HEZ.out
set_option maxHeartbeats 1600000 in
theorem own_none (m : Msg) (so : Option Addr) (sn sc : Nat) (l : List UInt8) (w : World) (h : Sr w r A.g A.sb) (x : Sv w0 w A p ws s) (ho : m.op ≤ 65535) (h1 : 100 ≤ m.op) (h2 : needB m.op = false) :
    Calls Tryz.prog 58 #[.pointer (some ⟨r, 0, none⟩), .agg #[.int .u64 m.ta, .int .u64 m.rp, .int .u32 m.id, .int .u16 m.op, .int .u16 m.st, .int .u64 m.p, .int .u32 m.o, .int .u8 m.r, .int .u64 m.c, .int .u64 m.ar, .slice so sn sc]] w fun e w' => OutEnd w0 w A p ws (badF s 3) l e w' := by
  obtain ⟨X, hX, bm, br, bX⟩ := own_vars w m (.slice so sn sc)
  unfold resZ at hX
  have HS := hide (h.grow bX)
  have HX := hide (x.grow bX)
  have HM := hide bm
  have HR := hide br
  have HBX := hide bX
  have HW0 : Hid (w0.heap.size ≤ w.heap.size) := x.bel.size
  have k3 : X.cell? ⟨w.heap.size, 3, none⟩ = some (.int .u16 (m.op : Int)) := bm.all.2.2.2.1
  have hop : ¬ (m.op : Int) < 100 := by omega
  have HO := hide ho
  have H2 := hide h2
  clear bm br bX h x ho h1 h2
  obtain ⟨y0, y1, y2, y3, y4, y5⟩ := HR.out.all
  have z0 := HR.out.z 0
  have z1 := HR.out.z 1
  have z2 := HR.out.z 2
  have z3 := HR.out.z 3
  have z4 := HR.out.z 4
  have z5 := HR.out.z 5
  simp only [Cp.zero, show (((0 : Nat)) : Int) = 0 from rfl] at y0 y1 y2 y3
  have HEN := hide (Sv.stay HX.out |>.from HBX.out)
  go_enter Tryz.func58, Tryz.ntmps58
  go_wp2_with fail
  refine (need_any HS.out m.op HO.out).mono ?_; rw [H2.out]; rintro e w1 ⟨rfl, rfl⟩
  have HRZ := hide (HR.out.lay Cp.zero 0 (.slice none 0 0))
  have HEZ := hide (HEN.out.res HW0.out HR.out (by omega) (foot_lay6 w1 (w.heap.size + 1) Cp.zero 0 (.slice none 0 0)))
  obtain ⟨wz, hwz⟩ : ∃ wz, lay6 w1 (w.heap.size + 1) Cp.zero 0 (.slice none 0 0) = wz := ⟨_, rfl⟩
  rw [hwz] at HRZ HEZ
  unfold lay6 at hwz
  simp only [Cp.zero, show (((0 : Nat)) : Int) = 0 from rfl] at hwz
  obtain ⟨v0, v1, v2, v3, v4, v5⟩ := HRZ.out.all
  simp only [Cp.zero, show (((0 : Nat)) : Int) = 0 from rfl] at v0 v1 v2 v3 v4
  go_wp2
  refine bodyPost_ret (by simp [results, Tryz.results58, go_sem, v0, v1, v2, v3, v4, v5]; rfl) rfl ?_
  exact out_bad rfl HEZ.out
set_option maxHeartbeats 3200000 in
theorem own_chk (m : Msg) (so : Option Addr) (sn sc : Nat) (l : List UInt8) (w : World) (h : Sr w r A.g A.sb) (x : Sv w0 w A p ws s) (ho : m.op ≤ 65535) (hb : Bts w so sn sc l) (hn : sn ≤ 140737488355328) (hd : Dat w0.heap.size w sn so) (h1 : 100 ≤ m.op) (h2 : needB m.op = true) (hc : (Cp.mk m.p m.o m.r m.c).ok) (hl : s.es.length ≤ 5000000000000) (ha : m.ar ≤ 18446744073709551615) (hg : Glob w0) (K : Chk) (hK : chkF ws s.t s.es p s.T ⟨m.p, m.o, m.r, m.c⟩ (needN m.op) = K) (h0 : K.e ≠ 0) :
    Calls Tryz.prog 58 #[.pointer (some ⟨r, 0, none⟩), .agg #[.int .u64 m.ta, .int .u64 m.rp, .int .u32 m.id, .int .u16 m.op, .int .u16 m.st, .int .u64 m.p, .int .u32 m.o, .int .u8 m.r, .int .u64 m.c, .int .u64 m.ar, .slice so sn sc]] w fun e w' => OutEnd w0 w A p ws (badF (s.tab K.t K.es s.T) K.e) l e w' := by
  obtain ⟨X, hX, bm, br, bX⟩ := own_vars w m (.slice so sn sc)
  unfold resZ at hX
  have HS := hide (h.grow bX)
  have HX := hide (x.grow bX)
  have HB := hide (hb.carry bX)
  have HM := hide bm
  have HR := hide br
  have HBX := hide bX
  have HW0 : Hid (w0.heap.size ≤ w.heap.size) := x.bel.size
  have k3 : X.cell? ⟨w.heap.size, 3, none⟩ = some (.int .u16 (m.op : Int)) := bm.all.2.2.2.1
  have hop : ¬ (m.op : Int) < 100 := by omega
  have HO := hide ho
  have H2 := hide h2
  have HD := hide (hd.grow bX)
  have HN := hide hn
  have HC := hide hc
  have HL := hide hl
  have HA := hide ha
  have H1 := hide h1
  have HG := hide hg
  have HK := hide hK
  have HNL := needN_le m.op
  clear bm br bX h x hb ho hn h1 h2 hd hc hl ha hg hK
  obtain ⟨er, her⟩ : ∃ er, erN (K.e : Int) = er := ⟨_, rfl⟩
  have HER := hide her
  clear her
  go_enter Tryz.func58, Tryz.ntmps58
  go_wp2_with fail
  refine (need_any HS.out m.op HO.out).mono ?_; rw [H2.out]; rintro e w1 ⟨rfl, hw1⟩; subst hw1
  obtain ⟨nd, hnd⟩ : ∃ nd, needN m.op = nd := ⟨_, rfl⟩
  have HND := hide hnd
  rw [hnd] at HNL ⊢
  clear hnd
  go_wp2_with fail
  go_region_held (fun U => U.cell? ⟨r, 0, none⟩ = some (.pointer (some ⟨A.g, 0, none⟩)) ∧ U.cell? ⟨w.heap.size, 5, none⟩ = some (.int .u64 (m.p : Int)) ∧ U.cell? ⟨w.heap.size, 6, none⟩ = some (.int .u32 (m.o : Int)) ∧ U.cell? ⟨w.heap.size, 7, none⟩ = some (.int .u8 (m.r : Int)) ∧ U.cell? ⟨w.heap.size, 8, none⟩ = some (.int .u64 (m.c : Int)))
    (first | exact ⟨HS.out.c0, HM.out.all.2.2.2.2.2.1, HM.out.all.2.2.2.2.2.2.1, HM.out.all.2.2.2.2.2.2.2.1, HM.out.all.2.2.2.2.2.2.2.2.1⟩ | exact ⟨HS1.out.c0, HM1.out.all.2.2.2.2.2.1, HM1.out.all.2.2.2.2.2.2.1, HM1.out.all.2.2.2.2.2.2.2.1, HM1.out.all.2.2.2.2.2.2.2.2.1⟩)
    (first
      | (go_at_call 34; refine (tb_check ⟨m.p, m.o, m.r, m.c⟩ nd _ (HX.out.drewN 1) HC.out HNL HL.out K (HND.out ▸ HK.out)).mono ?_; rw [HER.out]; rintro e w2 ⟨rfl, E⟩; have k1 := (HX.out.drewN 1).kh E; have HS1 := hide ((show Sr w1.drew r A.g A.sb from HS.out).kh k1); have HM1 := hide ((show MB w1.drew _ _ _ from HM.out).kh k1); have HR1 := hide ((show RB w1.drew _ _ _ _ from HR.out).kh k1); have HB1 := hide (Bts.sv (show Bts w1.drew so sn sc l from HB.out) (HD.out.grow (below_d w1 1)) (HX.out.drewN 1) E); have HE1 := hide E; clear k1 E))
  obtain ⟨tE, hE⟩ : ∃ v, er = .iface 47 v := ⟨_, by rw [← HER.out]; exact erN_not (by omega)⟩
  subst hE
  have HEN := hide (HE1.out.from (below_one HBX.out (below_d w1 1)))
  obtain ⟨y0, y1, y2, y3, y4, y5⟩ := HR1.out.all
  have z0 := HR1.out.z 0
  have z1 := HR1.out.z 1
  have z2 := HR1.out.z 2
  have z3 := HR1.out.z 3
  have z4 := HR1.out.z 4
  have z5 := HR1.out.z 5
  simp only [Cp.zero, show (((0 : Nat)) : Int) = 0 from rfl] at y0 y1 y2 y3
  have HRZ := hide (HR1.out.lay Cp.zero 0 (.slice none 0 0))
  have HEZ := hide (HEN.out.res HW0.out HR1.out (by omega) (foot_lay6 w2 (w.heap.size + 1) Cp.zero 0 (.slice none 0 0)))
  obtain ⟨wz, hwz⟩ : ∃ wz, lay6 w2 (w.heap.size + 1) Cp.zero 0 (.slice none 0 0) = wz := ⟨_, rfl⟩
  rw [hwz] at HRZ HEZ
  unfold lay6 at hwz
  simp only [Cp.zero, show (((0 : Nat)) : Int) = 0 from rfl] at hwz
  obtain ⟨v0, v1, v2, v3, v4, v5⟩ := HRZ.out.all
  simp only [Cp.zero, show (((0 : Nat)) : Int) = 0 from rfl] at v0 v1 v2 v3 v4
  go_wp2
  refine bodyPost_ret (by simp [results, Tryz.results58, go_sem, v0, v1, v2, v3, v4, v5]; rfl) rfl ?_
  exact out_bad HER.out HEZ.out
theorem need_in (op : Nat) (h : needB op = true) : 100 ≤ op ∧ op ≤ 105 := by unfold needB at h; simp at h; omega
set_option maxRecDepth 20000 in
set_option maxHeartbeats 3200000 in
theorem own_yes (m : Msg) (so : Option Addr) (sn sc : Nat) (l : List UInt8) (w : World) (h : Sr w r A.g A.sb) (x : Sv w0 w A p ws s) (ho : m.op ≤ 65535) (hb : Bts w so sn sc l) (hn : sn ≤ 140737488355328) (hd : Dat w0.heap.size w sn so) (h1 : 100 ≤ m.op) (h2 : needB m.op = true) (hc : (Cp.mk m.p m.o m.r m.c).ok) (hl : s.es.length ≤ 5000000000000) (ha : m.ar ≤ 18446744073709551615) (hg : Glob w0) (K : Chk) (hK : chkF ws s.t s.es p s.T ⟨m.p, m.o, m.r, m.c⟩ (needN m.op) = K) (hls : Lim s) (h0 : K.e = 0) :
    Calls Tryz.prog 58 #[.pointer (some ⟨r, 0, none⟩), .agg #[.int .u64 m.ta, .int .u64 m.rp, .int .u32 m.id, .int .u16 m.op, .int .u16 m.st, .int .u64 m.p, .int .u32 m.o, .int .u8 m.r, .int .u64 m.c, .int .u64 m.ar, .slice so sn sc]] w fun e w' => OutEnd w0 w A p ws (doF ws p (s.tab K.t K.es s.T) m.op (s.T K.k).v m.ar l) l e w' := by
  have HH : Hid (hasO s.T K.k = true) := by
    have e := chk_has (hK ▸ h0)
    show hasO s.T K.k = true
    rw [← hK, e.2.2]; exact e.1
  have H0 := hide h0
  have HLE : Hid (Dok (s.T K.k).v (s.tab K.t K.es s.T)) := by
    have := chk_len ws s.t s.es p s.T ⟨m.p, m.o, m.r, m.c⟩ (needN m.op)
    rw [hK] at this
    have := hls.el
    exact ⟨hls.vl _, by show K.es.length ≤ _; omega, hls.q, hls.n⟩
  clear h0 hls
  obtain ⟨vl, hvl⟩ : ∃ vl, (s.T K.k).v = vl := ⟨_, rfl⟩
  have HVL := hide hvl
  rw [hvl]
  clear hvl
  obtain ⟨R, hR⟩ : ∃ R, doF ws p (s.tab K.t K.es s.T) m.op vl m.ar l = R := ⟨_, rfl⟩
  rw [hR]
  have HRR := hide hR
  clear hR
  obtain ⟨e2, he2⟩ : ∃ er, erN (R.e : Int) = er := ⟨_, rfl⟩
  have HEE := hide he2
  obtain ⟨⟨qp, qo, qr, qc⟩, hq⟩ : ∃ q, R.c = q := ⟨_, rfl⟩
  have HQ := hide hq
  obtain ⟨ra, hra⟩ : ∃ q, R.ar = q := ⟨_, rfl⟩
  have HRA := hide hra
  clear he2 hq hra
  obtain ⟨X, hX, bm, br, bX⟩ := own_vars w m (.slice so sn sc)
  unfold resZ at hX
  have HS := hide (h.grow bX)
  have HX := hide (x.grow bX)
  have HB := hide (hb.carry bX)
  have HM := hide bm
  have HR := hide br
  have HBX := hide bX
  have HW0 : Hid (w0.heap.size ≤ w.heap.size) := x.bel.size
  have k3 : X.cell? ⟨w.heap.size, 3, none⟩ = some (.int .u16 (m.op : Int)) := bm.all.2.2.2.1
  have hop : ¬ (m.op : Int) < 100 := by omega
  have HO := hide ho
  have H2 := hide h2
  have HD := hide (hd.grow bX)
  have HN := hide hn
  have HC := hide hc
  have HL := hide hl
  have HA := hide ha
  have H1 := hide h1
  have HG := hide hg
  have HK := hide hK
  have HNL := needN_le m.op
  clear bm br bX h x hb ho hn h1 h2 hd hc hl ha hg hK
  obtain ⟨er, her⟩ : ∃ er, erN (K.e : Int) = er := ⟨_, rfl⟩
  have HER := hide her
  clear her
  go_enter Tryz.func58, Tryz.ntmps58
  go_wp2_with fail
  refine (need_any HS.out m.op HO.out).mono ?_; rw [H2.out]; rintro e w1 ⟨rfl, hw1⟩; subst hw1
  obtain ⟨nd, hnd⟩ : ∃ nd, needN m.op = nd := ⟨_, rfl⟩
  have HND := hide hnd
  rw [hnd] at HNL ⊢
  clear hnd
  go_wp2_with fail
  go_region_held (fun U => U.cell? ⟨r, 0, none⟩ = some (.pointer (some ⟨A.g, 0, none⟩)) ∧ U.cell? ⟨w.heap.size, 5, none⟩ = some (.int .u64 (m.p : Int)) ∧ U.cell? ⟨w.heap.size, 6, none⟩ = some (.int .u32 (m.o : Int)) ∧ U.cell? ⟨w.heap.size, 7, none⟩ = some (.int .u8 (m.r : Int)) ∧ U.cell? ⟨w.heap.size, 8, none⟩ = some (.int .u64 (m.c : Int)))
    (first | exact ⟨HS.out.c0, HM.out.all.2.2.2.2.2.1, HM.out.all.2.2.2.2.2.2.1, HM.out.all.2.2.2.2.2.2.2.1, HM.out.all.2.2.2.2.2.2.2.2.1⟩ | exact ⟨HS1.out.c0, HM1.out.all.2.2.2.2.2.1, HM1.out.all.2.2.2.2.2.2.1, HM1.out.all.2.2.2.2.2.2.2.1, HM1.out.all.2.2.2.2.2.2.2.2.1⟩)
    (first
      | (go_at_call 34; refine (tb_check ⟨m.p, m.o, m.r, m.c⟩ nd _ (HX.out.drewN 1) HC.out HNL HL.out K (HND.out ▸ HK.out)).mono ?_; rw [HER.out]; rintro e w2 ⟨rfl, E⟩; have k1 := (HX.out.drewN 1).kh E; have HS1 := hide ((show Sr w1.drew r A.g A.sb from HS.out).kh k1); have HM1 := hide ((show MB w1.drew _ _ _ from HM.out).kh k1); have HR1 := hide ((show RB w1.drew _ _ _ _ from HR.out).kh k1); have HB1 := hide (Bts.sv (show Bts w1.drew so sn sc l from HB.out) (HD.out.grow (below_d w1 1)) (HX.out.drewN 1) E); have HE1 := hide E; clear k1 E))
  obtain rfl : er = .nilIface := by rw [← HER.out, H0.out]; rfl
  obtain ⟨v, dv, nv, S1, on1⟩ := SvEnd.run HE1.out
  have HS1' := hide S1
  have HON := hide on1
  have HGT : Hid (w.heap.size + 1 < w2.heap.size) := lt_of_heap HR1.out
  clear S1 on1
  go_wp2_with fail
  refine (tb_value (A := A.upd v dv nv) K.k vl _ HS1'.out HH.out HVL.out).mono ?_; rintro e w3 ⟨rfl, hw3⟩; subst hw3
  obtain ⟨k0, k1, k2, k3, k4, k5, k6, k7, k8, k9, k10⟩ := HM1.out.all
  go_wp2_with fail
  refine (do_any (A := A.upd v dv nv) vl m so sn sc l _ HS1.out HS1'.out (HVL.out ▸ HLE.out) (need_in _ H2.out) HA.out HB1.out HN.out HG.out).mono ?_; unfold OutEnd; rw [HRR.out, HEE.out, HQ.out, HRA.out]; rintro e w4 ⟨co, n, cc, rfl, B4, N4, n4, E4⟩
  have HB4 := hide B4
  have HN4 := hide N4
  have HNN := hide n4
  have kh4 := HS1'.out.kh E4
  have HR4 := hide (HR1.out.kh kh4)
  have HEN := hide ((HON.out _ _ E4).from (below_one HBX.out (below_d w1 1)))
  clear B4 N4 n4 E4 kh4 k0 k1 k2 k3 k4 k5 k6 k7 k8 k9 k10
  obtain ⟨y0, y1, y2, y3, y4, y5⟩ := HR4.out.all
  have z0 := HR4.out.z 0
  have z1 := HR4.out.z 1
  have z2 := HR4.out.z 2
  have z3 := HR4.out.z 3
  have z4 := HR4.out.z 4
  have z5 := HR4.out.z 5
  simp only [Cp.zero, show (((0 : Nat)) : Int) = 0 from rfl] at y0 y1 y2 y3
  have HRZ := hide (HR4.out.lay ⟨qp, qo, qr, qc⟩ (ra : Int) (.slice co n cc))
  have HEZ := hide (HEN.out.res HW0.out HR4.out (by omega) (foot_lay6 w4 (w.heap.size + 1) ⟨qp, qo, qr, qc⟩ (ra : Int) (.slice co n cc)))
  have HBZ := hide (Bts.foot HB4.out (foot_lay6 w4 (w.heap.size + 1) ⟨qp, qo, qr, qc⟩ (ra : Int) (.slice co n cc)) (fun ad e _ (h : ad.block = w.heap.size + 1) => by have := HN4.out ad e; have := HGT.out; omega))
  obtain ⟨wz, hwz⟩ : ∃ wz, lay6 w4 (w.heap.size + 1) ⟨qp, qo, qr, qc⟩ (ra : Int) (.slice co n cc) = wz := ⟨_, rfl⟩
  rw [hwz] at HRZ HEZ HBZ
  unfold lay6 at hwz
  obtain ⟨v0, v1, v2, v3, v4, v5⟩ := HRZ.out.all
  go_wp2
  refine bodyPost_ret (by simp [results, Tryz.results58, go_sem, v0, v1, v2, v3, v4, v5]; rfl) rfl ?_
  exact ⟨co, n, cc, by rw [HEE.out, HQ.out, HRA.out], HBZ.out, HN4.out.le (by have := HGT.out; omega), HNN.out, HEZ.out⟩
end
end Go.Proofs.YtlmnnjibggdboaaGreatDoor
namespace Go.Proofs.YtlmnnjibggdboaaGreatDoor
section
open Go.RowKit
variable {w0 w w1 w2 w' : World} {A A' : Ad} {p : Nat} {ws : List Nat} {s s' s1 : Hs} {r g : Nat} {sb : Nat × Bool}
set_option maxRecDepth 20000 in
set_option maxHeartbeats 6400000 in
theorem out_may (m : Msg) (so : Option Addr) (sn sc : Nat) (l : List UInt8) (w : World) (h : Sr w r A.g A.sb) (x : Sv w0 w A p ws s) (hc : (Cp.mk m.p m.o m.r m.c).ok) (hm : mayC ⟨m.p, m.o, m.r, m.c⟩ = false) :
    Calls Tryz.prog 35 #[.pointer (some ⟨r, 0, none⟩), .agg #[.int .u64 m.ta, .int .u64 m.rp, .int .u32 m.id, .int .u16 m.op, .int .u16 m.st, .int .u64 m.p, .int .u32 m.o, .int .u8 m.r, .int .u64 m.c, .int .u64 m.ar, .slice so sn sc]] w fun e w' => OutEnd w0 w A p ws (badF s 1) l e w' := by
  obtain ⟨X, hX, bm, br, bX⟩ := own_vars w m (.slice so sn sc)
  unfold resZ at hX
  have HS0 := hide (h.grow bX)
  have HX0 := hide (x.grow bX)
  have HM0 := hide bm
  have HR0 := hide br
  have HBX0 := hide bX
  have HW0 : Hid (w0.heap.size ≤ w.heap.size) := x.bel.size
  have HC := hide hc
  have HMY : Hid (decide (m.p ≤ 281474976710655 ∧ m.o ≤ 16777215 ∧ m.c ≤ 281474976710655) = false) := hm
  have hgm : w.heap.size < X.heap.size := lt_of_heap bm
  have HGR : Hid (w.heap.size + 1 < X.heap.size) := lt_of_heap br
  obtain ⟨k0, k1, k2, k3, k4, k5, k6, k7, k8, k9, k10⟩ := bm.all
  clear bm br bX h x hc hm
  go_enter Tryz.func35, Tryz.ntmps35
  go_wp2_with fail
  refine (whole_any HS0.out).mono ?_; rintro e w1 ⟨rfl, hw1⟩; subst hw1
  go_wp2_with fail
  refine (may_any m.p m.o m.r m.c _ HC.out.1 HC.out.2.1 HC.out.2.2.1 HC.out.2.2.2).mono ?_; rw [HMY.out]; rintro e w2 ⟨rfl, hw2⟩
  have b2 : Below w1.heap.size w1 w2 := hw2 ▸ below_alloc _ _
  have HS := hide (HS0.out.grow b2)
  have HX := hide (HX0.out.grow b2)
  have HM := hide (HM0.out.grow b2)
  have HR := hide (HR0.out.grow b2)
  have HBX := hide (below_one HBX0.out b2)
  have HGT : Hid (w.heap.size + 1 < w2.heap.size) := Nat.lt_of_lt_of_le HGR.out b2.size
  clear b2 hw2 hgm k0 k1 k2 k3 k4 k5 k6 k7 k8 k9 k10 HS0 HX0 HM0 HR0 HBX0 HGR
  have hX : True := trivial
  obtain ⟨y0, y1, y2, y3, y4, y5⟩ := HR.out.all
  have z0 := HR.out.z 0
  have z1 := HR.out.z 1
  have z2 := HR.out.z 2
  have z3 := HR.out.z 3
  have z4 := HR.out.z 4
  have z5 := HR.out.z 5
  simp only [Cp.zero, show (((0 : Nat)) : Int) = 0 from rfl] at y0 y1 y2 y3
  have HEN := hide (Sv.stay HX.out |>.from HBX.out)
  have HRZ := hide (HR.out.lay Cp.zero 0 (.slice none 0 0))
  have HEZ := hide (HEN.out.res HW0.out HR.out (by omega) (foot_lay6 w2 (w.heap.size + 1) Cp.zero 0 (.slice none 0 0)))
  obtain ⟨wz, hwz⟩ : ∃ wz, lay6 w2 (w.heap.size + 1) Cp.zero 0 (.slice none 0 0) = wz := ⟨_, rfl⟩
  rw [hwz] at HRZ HEZ
  unfold lay6 at hwz
  simp only [Cp.zero, show (((0 : Nat)) : Int) = 0 from rfl] at hwz
  obtain ⟨v0, v1, v2, v3, v4, v5⟩ := HRZ.out.all
  simp only [Cp.zero, show (((0 : Nat)) : Int) = 0 from rfl] at v0 v1 v2 v3 v4
  go_wp2
  refine bodyPost_ret (by simp [results, Tryz.results35, go_sem, v0, v1, v2, v3, v4, v5]; rfl) rfl ?_
  exact out_bad rfl HEZ.out
end
end Go.Proofs.YtlmnnjibggdboaaGreatDoor
namespace Go.Proofs.YtlmnnjibggdboaaGreatDoor
section
open Go.RowKit
variable {w0 w w1 w2 w' : World} {A A' : Ad} {p : Nat} {ws : List Nat} {s s' s1 : Hs} {r g : Nat} {sb : Nat × Bool}
set_option maxRecDepth 20000 in
set_option maxHeartbeats 6400000 in
theorem out_destroy (m : Msg) (so : Option Addr) (sn sc : Nat) (l : List UInt8) (w : World) (h : Sr w r A.g A.sb) (x : Sv w0 w A p ws s) (hc : (Cp.mk m.p m.o m.r m.c).ok) (hm : mayC ⟨m.p, m.o, m.r, m.c⟩ = true) (hop : m.op = 5) (hl : s.es.length ≤ 5000000000000) (hvv : ∀ k, I64 (s.T k).v) (K : Chk) (hK : chkF ws s.t s.es p s.T ⟨m.p, m.o, m.r, m.c⟩ 8 = K) :
    Calls Tryz.prog 35 #[.pointer (some ⟨r, 0, none⟩), .agg #[.int .u64 m.ta, .int .u64 m.rp, .int .u32 m.id, .int .u16 m.op, .int .u16 m.st, .int .u64 m.p, .int .u32 m.o, .int .u8 m.r, .int .u64 m.c, .int .u64 m.ar, .slice so sn sc]] w fun e w' => OutEnd w0 w A p ws (dstF s ⟨m.p, m.o, m.r, m.c⟩ K) l e w' := by
  obtain ⟨X, hX, bm, br, bX⟩ := own_vars w m (.slice so sn sc)
  unfold resZ at hX
  have HS0 := hide (h.grow bX)
  have HX0 := hide (x.grow bX)
  have HM0 := hide bm
  have HR0 := hide br
  have HBX0 := hide bX
  have HW0 : Hid (w0.heap.size ≤ w.heap.size) := x.bel.size
  have HC := hide hc
  have HK := hide hK
  have HL := hide hl
  have HVV := hide hvv
  clear hvv
  have HMY : Hid (decide (m.p ≤ 281474976710655 ∧ m.o ≤ 16777215 ∧ m.c ≤ 281474976710655) = true) := hm
  have hgm : w.heap.size < X.heap.size := lt_of_heap bm
  have HGR : Hid (w.heap.size + 1 < X.heap.size) := lt_of_heap br
  have hopi : ((m.op : Int)) = 5 := by omega
  have HOP := hide hopi
  obtain ⟨Q, hQ⟩ : ∃ Q, dstF s ⟨m.p, m.o, m.r, m.c⟩ K = Q := ⟨_, rfl⟩
  have HQ := hide hQ
  have HZ : Hid (Q.c = Cp.zero ∧ Q.d = [] ∧ Q.ar = 0) := by
    subst hQ
    unfold dstF
    split
    · exact ⟨rfl, rfl, rfl⟩
    · split <;> exact ⟨rfl, rfl, rfl⟩
  obtain ⟨er, her⟩ : ∃ er, erN (Q.e : Int) = er := ⟨_, rfl⟩
  have HER := hide her
  rw [hQ]
  clear hQ her
  obtain ⟨k0, k1, k2, k3, k4, k5, k6, k7, k8, k9, k10⟩ := bm.all
  clear bm br bX h x hc hm hK hl hop hopi
  go_enter Tryz.func35, Tryz.ntmps35
  go_wp2_with fail
  refine (whole_any HS0.out).mono ?_; rintro e w1 ⟨rfl, hw1⟩; subst hw1
  go_wp2_with fail
  refine (may_any m.p m.o m.r m.c _ HC.out.1 HC.out.2.1 HC.out.2.2.1 HC.out.2.2.2).mono ?_; rw [HMY.out]; rintro e w2 ⟨rfl, hw2⟩
  have b2 : Below w1.heap.size w1 w2 := hw2 ▸ below_alloc _ _
  have HS := hide (HS0.out.grow b2)
  have HX := hide (HX0.out.grow b2)
  have HM := hide (HM0.out.grow b2)
  have HR := hide (HR0.out.grow b2)
  have HBX := hide (below_one HBX0.out b2)
  have HGT : Hid (w.heap.size + 1 < w2.heap.size) := Nat.lt_of_lt_of_le HGR.out b2.size
  clear b2 hw2 hgm k0 k1 k2 k3 k4 k5 k6 k7 k8 k9 k10 HS0 HX0 HM0 HR0 HBX0 HGR
  have hX : True := trivial
  obtain ⟨k0, k1, k2, k3, k4, k5, k6, k7, k8, k9, k10⟩ := HM.out.all
  rw [HOP.out] at k3
  go_wp2_with fail
  refine (srv_destroy ⟨m.p, m.o, m.r, m.c⟩ _ HS.out HX.out HC.out HL.out HVV.out K HK.out).mono ?_; rw [HQ.out, HER.out]; rintro e w3 ⟨rfl, E⟩
  have kh := HX.out.kh E
  have HR3 := hide (HR.out.kh kh)
  have HEN := hide (E.from HBX.out)
  clear kh E k0 k1 k2 k3 k4 k5 k6 k7 k8 k9 k10
  obtain ⟨y0, y1, y2, y3, y4, y5⟩ := HR3.out.all
  have z0 := HR3.out.z 0
  have z1 := HR3.out.z 1
  have z2 := HR3.out.z 2
  have z3 := HR3.out.z 3
  have z4 := HR3.out.z 4
  have z5 := HR3.out.z 5
  simp only [Cp.zero, show (((0 : Nat)) : Int) = 0 from rfl] at y0 y1 y2 y3
  have HRZ := hide (HR3.out.lay Cp.zero 0 (.slice none 0 0))
  have HEZ := hide (HEN.out.res HW0.out HR3.out (by omega) (foot_lay6 w3 (w.heap.size + 1) Cp.zero 0 (.slice none 0 0)))
  obtain ⟨wz, hwz⟩ : ∃ wz, lay6 w3 (w.heap.size + 1) Cp.zero 0 (.slice none 0 0) = wz := ⟨_, rfl⟩
  rw [hwz] at HRZ HEZ
  unfold lay6 at hwz
  simp only [Cp.zero, show (((0 : Nat)) : Int) = 0 from rfl] at hwz
  obtain ⟨v0, v1, v2, v3, v4, v5⟩ := HRZ.out.all
  simp only [Cp.zero, show (((0 : Nat)) : Int) = 0 from rfl] at v0 v1 v2 v3 v4
  go_wp2
  refine bodyPost_ret (by simp [results, Tryz.results35, go_sem, v0, v1, v2, v3, v4, v5]; rfl) rfl ?_
  refine ⟨none, 0, 0, ?_, ?_, new_none _, by omega, HEZ.out⟩
  · rw [HZ.out.1, HZ.out.2.2, HER.out]; rfl
  · rw [HZ.out.2.1]; exact bts_nil _
end
end Go.Proofs.YtlmnnjibggdboaaGreatDoor
namespace Go.Proofs.YtlmnnjibggdboaaGreatDoor
section
open Go.RowKit
variable {w0 w w1 w2 w' : World} {A A' : Ad} {p : Nat} {ws : List Nat} {s s' s1 : Hs} {r g : Nat} {sb : Nat × Bool}
set_option maxRecDepth 20000 in
set_option maxHeartbeats 6400000 in
theorem out_own (m : Msg) (so : Option Addr) (sn sc : Nat) (l : List UInt8) (w : World) (h : Sr w r A.g A.sb) (x : Sv w0 w A p ws s) (hc : (Cp.mk m.p m.o m.r m.c).ok) (hm : mayC ⟨m.p, m.o, m.r, m.c⟩ = true) (hop : 6 ≤ m.op ∨ m.op = 0) (R : Ro) (hown : ∀ (w : World), Sr w r A.g A.sb → Sv w0 w A p ws s → Bts w so sn sc l → Dat w0.heap.size w sn so → Calls Tryz.prog 58 #[.pointer (some ⟨r, 0, none⟩), .agg #[.int .u64 m.ta, .int .u64 m.rp, .int .u32 m.id, .int .u16 m.op, .int .u16 m.st, .int .u64 m.p, .int .u32 m.o, .int .u8 m.r, .int .u64 m.c, .int .u64 m.ar, .slice so sn sc]] w fun e w' => OutEnd w0 w A p ws R l e w') (hb : Bts w so sn sc l) (hd : Dat w0.heap.size w sn so) :
    Calls Tryz.prog 35 #[.pointer (some ⟨r, 0, none⟩), .agg #[.int .u64 m.ta, .int .u64 m.rp, .int .u32 m.id, .int .u16 m.op, .int .u16 m.st, .int .u64 m.p, .int .u32 m.o, .int .u8 m.r, .int .u64 m.c, .int .u64 m.ar, .slice so sn sc]] w fun e w' => OutEnd w0 w A p ws (R) l e w' := by
  obtain ⟨X, hX, bm, br, bX⟩ := own_vars w m (.slice so sn sc)
  unfold resZ at hX
  have HS0 := hide (h.grow bX)
  have HX0 := hide (x.grow bX)
  have HM0 := hide bm
  have HR0 := hide br
  have HBX0 := hide bX
  have HW0 : Hid (w0.heap.size ≤ w.heap.size) := x.bel.size
  have HC := hide hc
  have HB0 := hide (hb.carry bX)
  have HD0 := hide (hd.grow bX)
  have HOWN := hide hown
  have HMY : Hid (decide (m.p ≤ 281474976710655 ∧ m.o ≤ 16777215 ∧ m.c ≤ 281474976710655) = true) := hm
  have hgm : w.heap.size < X.heap.size := lt_of_heap bm
  have HGR : Hid (w.heap.size + 1 < X.heap.size) := lt_of_heap br
  have n1 : ((m.op : Int) == 1) = false := by rw [beq_eq_false_iff_ne]; omega
  have n2 : ((m.op : Int) == 2) = false := by rw [beq_eq_false_iff_ne]; omega
  have n3 : ((m.op : Int) == 3) = false := by rw [beq_eq_false_iff_ne]; omega
  have n4 : ((m.op : Int) == 4) = false := by rw [beq_eq_false_iff_ne]; omega
  have n5 : ((m.op : Int) == 5) = false := by rw [beq_eq_false_iff_ne]; omega
  obtain ⟨k0, k1, k2, k3, k4, k5, k6, k7, k8, k9, k10⟩ := bm.all
  clear bm br bX h x hc hm hb hd hown hop
  go_enter Tryz.func35, Tryz.ntmps35
  go_wp2_with fail
  refine (whole_any HS0.out).mono ?_; rintro e w1 ⟨rfl, hw1⟩; subst hw1
  go_wp2_with fail
  refine (may_any m.p m.o m.r m.c _ HC.out.1 HC.out.2.1 HC.out.2.2.1 HC.out.2.2.2).mono ?_; rw [HMY.out]; rintro e w2 ⟨rfl, hw2⟩
  have b2 : Below w1.heap.size w1 w2 := hw2 ▸ below_alloc _ _
  have HS := hide (HS0.out.grow b2)
  have HX := hide (HX0.out.grow b2)
  have HM := hide (HM0.out.grow b2)
  have HR := hide (HR0.out.grow b2)
  have HBX := hide (below_one HBX0.out b2)
  have HGT : Hid (w.heap.size + 1 < w2.heap.size) := Nat.lt_of_lt_of_le HGR.out b2.size
  have HB := hide (HB0.out.carry b2)
  have HD := hide (HD0.out.grow b2)
  clear b2 hw2 hgm k0 k1 k2 k3 k4 k5 k6 k7 k8 k9 k10 HS0 HX0 HM0 HR0 HB0 HD0 HBX0 HGR
  have hX : True := trivial
  obtain ⟨k0, k1, k2, k3, k4, k5, k6, k7, k8, k9, k10⟩ := HM.out.all
  obtain ⟨er, her⟩ : ∃ er, erN (R.e : Int) = er := ⟨_, rfl⟩
  have HER := hide her
  obtain ⟨qc, qa, hqc, hqa⟩ : ∃ qc qa, R.c = qc ∧ R.ar = qa := ⟨_, _, rfl, rfl⟩
  have HQC := hide hqc
  have HQA := hide hqa
  clear her hqc hqa
  go_wp2_with fail
  refine (HOWN.out _ HS.out HX.out HB.out HD.out).mono ?_; unfold OutEnd; rw [HER.out, HQC.out, HQA.out]; rintro e w3 ⟨co, n, cc, rfl, B3, hnw, hn, E⟩
  have kh := HX.out.kh E
  have HR3 := hide (HR.out.kh kh)
  have HEN := hide (E.from HBX.out)
  have HB3 := hide B3
  have HN := hide hn
  have HNW := hide hnw
  clear kh E B3 hn hnw k0 k1 k2 k3 k4 k5 k6 k7 k8 k9 k10
  obtain ⟨y0, y1, y2, y3, y4, y5⟩ := HR3.out.all
  have z0 := HR3.out.z 0
  have z1 := HR3.out.z 1
  have z2 := HR3.out.z 2
  have z3 := HR3.out.z 3
  have z4 := HR3.out.z 4
  have z5 := HR3.out.z 5
  simp only [Cp.zero, show (((0 : Nat)) : Int) = 0 from rfl] at y0 y1 y2 y3
  have HRZ := hide (HR3.out.lay qc (qa : Int) (.slice co n cc))
  have HEZ := hide (HEN.out.res HW0.out HR3.out (by omega) (foot_lay6 w3 (w.heap.size + 1) qc (qa : Int) (.slice co n cc)))
  have HBZ := hide (Bts.foot HB3.out (foot_lay6 w3 (w.heap.size + 1) qc (qa : Int) (.slice co n cc)) (fun ad e _ (h : ad.block = w.heap.size + 1) => by have := HNW.out ad e; have := HGT.out; omega))
  obtain ⟨wz, hwz⟩ : ∃ wz, lay6 w3 (w.heap.size + 1) qc (qa : Int) (.slice co n cc) = wz := ⟨_, rfl⟩
  rw [hwz] at HRZ HEZ HBZ
  unfold lay6 at hwz
  obtain ⟨v0, v1, v2, v3, v4, v5⟩ := HRZ.out.all
  go_wp2
  refine bodyPost_ret (by simp [results, Tryz.results35, go_sem, v0, v1, v2, v3, v4, v5]; rfl) rfl ?_
  exact ⟨co, n, cc, by rw [HER.out, HQC.out, HQA.out], HBZ.out, HNW.out.le (by have := HGT.out; omega), HN.out, HEZ.out⟩
end
end Go.Proofs.YtlmnnjibggdboaaGreatDoor
namespace Go.Proofs.YtlmnnjibggdboaaGreatDoor
section
open Go.RowKit
variable {w0 w w1 w2 w' : World} {A A' : Ad} {p : Nat} {ws : List Nat} {s s' s1 : Hs} {r g : Nat} {sb : Nat × Bool}
structure Okm (w0 w : World) (m : Msg) (so : Option Addr) (sn : Nat) : Prop where
  c : (Cp.mk m.p m.o m.r m.c).ok
  o : m.op ≤ 65535
  a : m.ar ≤ 18446744073709551615
  n : sn ≤ 140737488355328
  d : Dat w0.heap.size w sn so
theorem Okm.grow {m : Msg} {so : Option Addr} {sn : Nat} (q : Okm w0 w m so sn) (b : Below w.heap.size w w') : Okm w0 w' m so sn := ⟨q.c, q.o, q.a, q.n, q.d.grow b⟩
theorem own_any (m : Msg) (so : Option Addr) (sn sc : Nat) (l : List UInt8) (w : World) (h : Sr w r A.g A.sb) (x : Sv w0 w A p ws s) (hb : Bts w so sn sc l) (q : Okm w0 w m so sn) (li : Lim s) (hg : Glob w0) :
    Calls Tryz.prog 58 #[.pointer (some ⟨r, 0, none⟩), .agg #[.int .u64 m.ta, .int .u64 m.rp, .int .u32 m.id, .int .u16 m.op, .int .u16 m.st, .int .u64 m.p, .int .u32 m.o, .int .u8 m.r, .int .u64 m.c, .int .u64 m.ar, .slice so sn sc]] w fun e w' => OutEnd w0 w A p ws (if m.op < 100 ∨ needB m.op = false then badF s 3 else ownF ws p s m.op m.ar l (chkF ws s.t s.es p s.T ⟨m.p, m.o, m.r, m.c⟩ (needN m.op))) l e w' := by
  by_cases h1 : m.op < 100
  · rw [if_pos (.inl h1)]
    exact own_low m so sn sc l w h x q.o h1
  · cases h2 : needB m.op with
    | false =>
      rw [if_pos (.inr rfl)]
      exact own_none m so sn sc l w h x q.o (by omega) h2
    | true =>
      rw [if_neg (by rintro (h | h); exact h1 h; cases h)]
      unfold ownF
      by_cases h0 : (chkF ws s.t s.es p s.T ⟨m.p, m.o, m.r, m.c⟩ (needN m.op)).e = 0
      · rw [if_pos h0]
        exact own_yes m so sn sc l w h x q.o hb q.n q.d (by omega) h2 q.c (by have := li.el; omega) q.a hg _ rfl li h0
      · rw [if_neg h0]
        exact own_chk m so sn sc l w h x q.o hb q.n q.d (by omega) h2 q.c (by have := li.el; omega) q.a hg _ rfl h0
theorem outcome_any (m : Msg) (so : Option Addr) (sn sc : Nat) (l : List UInt8) (w : World) (h : Sr w r A.g A.sb) (x : Sv w0 w A p ws s) (hb : Bts w so sn sc l) (q : Okm w0 w m so sn) (hop : m.op = 0 ∨ 5 ≤ m.op) (li : Lim s) (hg : Glob w0) :
    Calls Tryz.prog 35 #[.pointer (some ⟨r, 0, none⟩), .agg #[.int .u64 m.ta, .int .u64 m.rp, .int .u32 m.id, .int .u16 m.op, .int .u16 m.st, .int .u64 m.p, .int .u32 m.o, .int .u8 m.r, .int .u64 m.c, .int .u64 m.ar, .slice so sn sc]] w fun e w' => OutEnd w0 w A p ws (outF ws p s m.op ⟨m.p, m.o, m.r, m.c⟩ m.ar l) l e w' := by
  unfold outF
  cases hm : mayC ⟨m.p, m.o, m.r, m.c⟩ with
  | false => rw [if_pos rfl]; exact out_may m so sn sc l w h x q.c hm
  | true =>
    rw [if_neg (by simp)]
    by_cases h5 : m.op = 5
    · rw [if_pos h5]; exact out_destroy m so sn sc l w h x q.c hm h5 (by have := li.el; omega) li.vl _ rfl
    rw [if_neg h5]
    exact out_own m so sn sc l w h x q.c hm (by omega) _ (fun w h x hb hd => own_any m so sn sc l w h x hb ⟨q.c, q.o, q.a, q.n, hd⟩ li hg) hb q.d
/- a reply -/
def RplEnd (w0 w : World) (A : Ad) (p : Nat) (ws : List Nat) (m : Msg) (R : Ro) (l : List UInt8) (e : Ending) (w' : World) : Prop := ∃ m2 co n cc, m2 = rplF m R ∧ e = .returned (.agg #[.int .u64 m2.ta, .int .u64 m2.rp, .int .u32 m2.id, .int .u16 m2.op, .int .u16 m2.st, .int .u64 m2.p, .int .u32 m2.o, .int .u8 m2.r, .int .u64 m2.c, .int .u64 m2.ar, .slice co n cc]) ∧ Bts w' co n cc (datF R l) ∧ (datF R l = [] ∨ New w co ∧ Typ8 w' co) ∧ SvEnd w0 w A p ws w' R.s
theorem bts_none {co : Option Addr} {n cc : Nat} (h : Bts w co n cc []) : Bts w' co n cc [] := ⟨h.1, h.2.1, h.2.2.1, h.2.2.2.1, fun _ _ j hj => by simp at hj⟩
/- bytes that were there are not turned by a store into memory that was not -/
theorem Bts.past {co : Option Addr} {n cc : Nat} {l : List UInt8} (h : Bts w co n cc l) (h1 : Bts w1 co n cc l) {g : Nat} (hg : w.heap.size ≤ g) (f : Foot (fun j => j = g) w1 w2) : Bts w2 co n cc l :=
  ⟨h1.1, h1.2.1, h1.2.2.1, h1.2.2.2.1, fun ad e j hj => by
    have c0 := lt_of_cell (h.2.2.2.2 ad e j hj)
    have c1 := h1.2.2.2.2 ad e j hj
    rw [f.cell _ (lt_of_cell c1) (by show ¬ (ad.add j).block = g; omega), c1]⟩
theorem rep_vars (w : World) (m : Msg) (D : Value) : ∃ X, (w.alloc (.cells #[.int .u64 m.ta, .int .u64 m.rp, .int .u32 m.id, .int .u16 m.op, .int .u16 m.st, .int .u64 m.p, .int .u32 m.o, .int .u8 m.r, .int .u64 m.c, .int .u64 m.ar, D] 55)).alloc (.cells #[.int .u64 0, .int .u64 0, .int .u32 0, .int .u16 0, .int .u16 0, .int .u64 0, .int .u32 0, .int .u8 0, .int .u64 0, .int .u64 0, .slice none 0 0] 55) = X ∧ MB X w.heap.size m D ∧ MB X (w.heap.size + 1) Msg.zero (.slice none 0 0) ∧ Below w.heap.size w X := by
  have b1 := below_alloc w (.cells #[.int .u64 m.ta, .int .u64 m.rp, .int .u32 m.id, .int .u16 m.op, .int .u16 m.st, .int .u64 m.p, .int .u32 m.o, .int .u8 m.r, .int .u64 m.c, .int .u64 m.ar, D] 55)
  have b2 := below_alloc (w.alloc (.cells #[.int .u64 m.ta, .int .u64 m.rp, .int .u32 m.id, .int .u16 m.op, .int .u16 m.st, .int .u64 m.p, .int .u32 m.o, .int .u8 m.r, .int .u64 m.c, .int .u64 m.ar, D] 55)) (.cells #[.int .u64 0, .int .u64 0, .int .u32 0, .int .u16 0, .int .u16 0, .int .u64 0, .int .u32 0, .int .u8 0, .int .u64 0, .int .u64 0, .slice none 0 0] 55)
  refine ⟨_, rfl, (mb_new w m D).grow b2, ?_, below_one b1 b2⟩
  have h := heap_alloc_new (w.alloc (.cells #[.int .u64 m.ta, .int .u64 m.rp, .int .u32 m.id, .int .u16 m.op, .int .u16 m.st, .int .u64 m.p, .int .u32 m.o, .int .u8 m.r, .int .u64 m.c, .int .u64 m.ar, D] 55)) (.cells #[.int .u64 0, .int .u64 0, .int .u32 0, .int .u16 0, .int .u16 0, .int .u64 0, .int .u32 0, .int .u8 0, .int .u64 0, .int .u64 0, .slice none 0 0] 55)
  rw [sz1] at h
  exact h
theorem srv_fault (m : Msg) (D : Value) (e : Nat) (w : World) (he : e ≤ 65535) (hg : Glob w) (m2 : Msg) (h2 : (⟨m.rp, m.ta, m.id, m.op, e, 0, 0, 0, 0, 0⟩ : Msg) = m2) :
    Calls Tryz.prog 36 #[.agg #[.int .u64 m.ta, .int .u64 m.rp, .int .u32 m.id, .int .u16 m.op, .int .u16 m.st, .int .u64 m.p, .int .u32 m.o, .int .u8 m.r, .int .u64 m.c, .int .u64 m.ar, D], erN (e : Int)] w fun e w' => ∃ co cc, e = .returned (.agg #[.int .u64 m2.ta, .int .u64 m2.rp, .int .u32 m2.id, .int .u16 m2.op, .int .u16 m2.st, .int .u64 m2.p, .int .u32 m2.o, .int .u8 m2.r, .int .u64 m2.c, .int .u64 m2.ar, .slice co 0 cc]) ∧ Bts w' co 0 cc [] ∧ Below w.heap.size w w' :=
  fault_gen m D (erN (e : Int)) e w he hg (fun W hW => number_any (e : Int) W hW) m2 h2
theorem doF_err (ws : List Nat) (p : Nat) (s : Hs) (op : Nat) (z : Int) (ar : Nat) (l : List UInt8) : (doF ws p s op z ar l).e ≤ 65535 := by
  unfold doF
  split
  · unfold mkF
    split
    · show 0 ≤ _; omega
    · exact cre_err _ _ _ _ _ _
  split
  · show 0 ≤ _; omega
  unfold nameF lookF entF badF
  repeat' split
  all_goals (simp only; omega)
theorem out_err (ws : List Nat) (p : Nat) (s : Hs) (op : Nat) (c : Cp) (ar : Nat) (l : List UInt8) : (outF ws p s op c ar l).e ≤ 65535 := by
  unfold outF
  split
  · show 1 ≤ _; omega
  split
  · have k8 := chk_err ws s.t s.es p s.T c 8
    unfold dstF
    split
    · show (if _ then _ else _) ≤ _; split <;> omega
    · split
      · show 0 ≤ _; omega
      · show (chkF ws s.t s.es p s.T c 8).e ≤ _; omega
  split
  · show 3 ≤ _; omega
  · have kn := chk_err ws s.t s.es p s.T c (needN op)
    unfold ownF
    split
    · exact doF_err _ _ _ _ _ _ _
    · show (chkF ws s.t s.es p s.T c (needN op)).e ≤ _; omega
set_option maxRecDepth 20000 in
set_option maxHeartbeats 6400000 in
theorem serve_any (m : Msg) (so : Option Addr) (sn sc : Nat) (l : List UInt8) (w : World) (h : Sr w r A.g A.sb) (x : Sv w0 w A p ws s) (hb : Bts w so sn sc l) (q : Okm w0 w m so sn) (hop : m.op = 0 ∨ 5 ≤ m.op) (li : Lim s) (hg : Glob w0) (R : Ro) (hR : outF ws p s m.op ⟨m.p, m.o, m.r, m.c⟩ m.ar l = R) :
    Calls Tryz.prog 17 #[.pointer (some ⟨r, 0, none⟩), .agg #[.int .u64 m.ta, .int .u64 m.rp, .int .u32 m.id, .int .u16 m.op, .int .u16 m.st, .int .u64 m.p, .int .u32 m.o, .int .u8 m.r, .int .u64 m.c, .int .u64 m.ar, .slice so sn sc]] w fun e w' => RplEnd w0 w A p ws m R l e w' := by
  have hre : R.e ≤ 65535 := hR ▸ out_err ws p s m.op ⟨m.p, m.o, m.r, m.c⟩ m.ar l
  obtain ⟨X, hX, bm, bz, bX⟩ := rep_vars w m (.slice so sn sc)
  have HS := hide (h.grow bX)
  have HX := hide (x.grow bX)
  have HB := hide (hb.carry bX)
  have HM := hide bm
  have HZ := hide bz
  have HBX := hide bX
  have HW0 : Hid (w0.heap.size ≤ w.heap.size) := x.bel.size
  have HQ := hide (q.grow bX)
  have HLI := hide li
  have HOP := hide hop
  have HG := hide hg
  have HR := hide hR
  have HRE := hide hre
  obtain ⟨k0, k1, k2, k3, k4, k5, k6, k7, k8, k9, k10⟩ := bm.all
  obtain ⟨er, her⟩ : ∃ er, erN (R.e : Int) = er := ⟨_, rfl⟩
  have HER := hide her
  obtain ⟨qc, qa, hqc, hqa⟩ : ∃ qc qa, R.c = qc ∧ R.ar = qa := ⟨_, _, rfl, rfl⟩
  have HQC := hide hqc
  have HQA := hide hqa
  clear bm bz bX h x hb q li hop hg hR hre her hqc hqa
  go_enter Tryz.func17, Tryz.ntmps17
  go_wp2_with fail
  refine (outcome_any m so sn sc l _ HS.out HX.out HB.out HQ.out HOP.out HLI.out HG.out).mono ?_; unfold OutEnd; rw [HR.out, HER.out, HQC.out, HQA.out]; rintro e w3 ⟨co, n, cc, rfl, B3, hnw, hn, E⟩
  have kh := HX.out.kh E
  have HM3 := hide (HM.out.kh kh)
  have HZ3 := hide (HZ.out.kh kh)
  have HEN3 := hide (E.from HBX.out)
  have HB3 := hide B3
  have HN := hide hn
  have HNW := hide hnw
  have HSZ3 : Hid (w.heap.size + 1 < w3.heap.size) := lt_of_heap HZ3.out
  clear kh E B3 hn hnw k0 k1 k2 k3 k4 k5 k6 k7 k8 k9 k10
  obtain ⟨w4, hw4⟩ : ∃ w4, w3.alloc (.cells resZ 102) = w4 := ⟨_, rfl⟩
  have b4 : Below w3.heap.size w3 w4 := hw4 ▸ below_alloc _ _
  have HR4 : Hid (RB w4 w3.heap.size Cp.zero 0 (.slice none 0 0)) := hw4 ▸ rb_new w3 Cp.zero 0 (.slice none 0 0)
  have HM4 := hide (HM3.out.grow b4)
  have HZ4 := hide (HZ3.out.grow b4)
  have HB4 := hide (HB3.out.carry b4)
  have HEN4 := hide (HEN3.out.to b4)
  have y0 := HR4.out.z 0
  have y1 := HR4.out.z 1
  have y2 := HR4.out.z 2
  have y3 := HR4.out.z 3
  have y4 := HR4.out.z 4
  have y5 := HR4.out.z 5
  obtain ⟨e0, e1, e2, e3, e4, e5⟩ := HR4.out.all
  simp only [Cp.zero, show (((0 : Nat)) : Int) = 0 from rfl] at e0 e1 e2 e3
  have f5 := foot_lay6 w4 w3.heap.size qc (qa : Int) (.slice co n cc)
  have HR5 := hide (HR4.out.lay qc (qa : Int) (.slice co n cc))
  have HM5 := hide (HM4.out.foot f5 (by show ¬ w.heap.size = w3.heap.size; have := HSZ3.out; omega))
  have HZ5 := hide (HZ4.out.foot f5 (by show ¬ w.heap.size + 1 = w3.heap.size; have := HSZ3.out; omega))
  have HB5 := hide (Bts.past HB3.out HB4.out (Nat.le_refl _) f5)
  have HEN5 := hide (HEN4.out.res HW0.out HR4.out (by have := HSZ3.out; omega) f5)
  obtain ⟨w5, hw5⟩ : ∃ w5, lay6 w4 w3.heap.size qc (qa : Int) (.slice co n cc) = w5 := ⟨_, rfl⟩
  rw [hw5] at HR5 HM5 HZ5 HB5 HEN5
  unfold lay6 at hw5
  unfold resZ at hw4
  clear b4 f5
  by_cases h0 : R.e = 0
  · obtain rfl : er = .nilIface := by rw [← HER.out, h0]; rfl
    obtain ⟨j0, j1, j2, j3, j4, j5⟩ := HR5.out.all
    obtain ⟨k0, k1, k2, k3, k4, k5, k6, k7, k8, k9, k10⟩ := HM5.out.all
    go_wp2_with fail
    obtain ⟨m2, h2⟩ : ∃ m2, (⟨m.rp, m.ta, m.id, m.op, 0, qc.p, qc.o, qc.r, qc.c, qa⟩ : Msg) = m2 := ⟨_, rfl⟩
    refine (answer_own m (.slice so sn sc) 0 qc.p qc.o qc.r qc.c qa co n cc _ _ (by omega) HB5.out (by have := HN.out; omega) m2 h2).mono ?_; rintro e w6 ⟨co2, cc2, rfl, B6, N6, T6, b6⟩
    have HB6 := hide B6
    have HZ6 := hide (HZ5.out.grow b6)
    have HE6 := hide (HEN5.out.to b6)
    have HN6 := hide N6
    have HT6 := hide T6
    have HS6 : Hid (w.heap.size + 1 < w5.heap.size) := lt_of_heap HZ5.out
    have HM2 : Hid (m2 = rplF m R) := by show m2 = rplF m R; unfold rplF; rw [if_pos h0, ← h2, HQC.out, HQA.out]
    have HDT : Hid (datF R l = R.d) := by show datF R l = _; unfold datF; rw [if_pos h0]
    clear y0 y1 y2 y3 y4 y5 e0 e1 e2 e3 e4 e5 hw5 hw4 B6 N6 T6 b6 h2 j0 j1 j2 j3 j4 j5 k0 k1 k2 k3 k4 k5 k6 k7 k8 k9 k10
    have HZL := hide (HZ6.out.lay (m := m2) (D := .slice co2 n cc2))
    have f7 := foot_lay11 w6 (w.heap.size + 1) m2 (.slice co2 n cc2)
    have HE7 := hide (HE6.out.msg HW0.out HZ6.out (by omega) f7)
    have HB7 := hide (Bts.foot HB6.out f7 (fun ad e _ (h : ad.block = w.heap.size + 1) => by have := HN6.out ad e; have := HS6.out; omega))
    have HT7 := hide (HT6.out.foot f7 (fun ad e (h : ad.block = w.heap.size + 1) => by have := HN6.out ad e; have := HS6.out; omega))
    obtain ⟨w7, hw7⟩ : ∃ w7, lay11 w6 (w.heap.size + 1) m2 (.slice co2 n cc2) = w7 := ⟨_, rfl⟩
    rw [hw7] at HZL HE7 HB7 HT7
    unfold lay11 at hw7
    clear f7
    obtain ⟨v0, v1, v2, v3, v4, v5, v6, v7, v8, v9, v10⟩ := HZL.out.all
    obtain ⟨z0, z1, z2, z3, z4, z5, z6, z7, z8, z9, z10⟩ := HZ6.out.all
    have x0 := HZ6.out.z 0
    have x1 := HZ6.out.z 1
    have x2 := HZ6.out.z 2
    have x3 := HZ6.out.z 3
    have x4 := HZ6.out.z 4
    have x5 := HZ6.out.z 5
    have x6 := HZ6.out.z 6
    have x7 := HZ6.out.z 7
    have x8 := HZ6.out.z 8
    have x9 := HZ6.out.z 9
    have x10 := HZ6.out.z 10
    go_wp2
    refine bodyPost_ret (by simp [results, Tryz.results17, go_sem, v0, v1, v2, v3, v4, v5, v6, v7, v8, v9, v10]; rfl) rfl ?_
    refine ⟨m2, co2, n, cc2, HM2.out, rfl, ?_, .inr ⟨HN6.out.le (by have := HS6.out; omega), HT7.out⟩, HE7.out⟩
    rw [HDT.out]; exact HB7.out
  · obtain ⟨m2, h2⟩ : ∃ m2, (⟨m.rp, m.ta, m.id, m.op, R.e, 0, 0, 0, 0, 0⟩ : Msg) = m2 := ⟨_, rfl⟩
    have hf := fun W hW => srv_fault m (.slice so sn sc) R.e W HRE.out hW m2 h2
    rw [HER.out] at hf
    have HF := hide hf
    obtain ⟨tE, hE⟩ : ∃ v, er = .iface 47 v := ⟨_, by rw [← HER.out]; exact erN_not (by omega)⟩
    subst hE
    clear hf
    obtain ⟨k0, k1, k2, k3, k4, k5, k6, k7, k8, k9, k10⟩ := HM5.out.all
    go_wp2_with fail
    refine (HF.out _ (HEN5.out.glob HG.out)).mono ?_; rintro e w6 ⟨co2, cc2, rfl, B6, b6⟩
    have HB6 := hide B6
    have HZ6 := hide (HZ5.out.grow b6)
    have HE6 := hide (HEN5.out.to b6)
    have HM2 : Hid (m2 = rplF m R) := by show m2 = rplF m R; unfold rplF; rw [if_neg h0, ← h2]
    have HDT : Hid (datF R l = []) := by show datF R l = _; unfold datF; rw [if_neg h0]
    clear y0 y1 y2 y3 y4 y5 e0 e1 e2 e3 e4 e5 hw5 hw4 B6 b6 h2 k0 k1 k2 k3 k4 k5 k6 k7 k8 k9 k10
    have HZL := hide (HZ6.out.lay (m := m2) (D := .slice co2 0 cc2))
    have f7 := foot_lay11 w6 (w.heap.size + 1) m2 (.slice co2 0 cc2)
    have HE7 := hide (HE6.out.msg HW0.out HZ6.out (by omega) f7)
    have HB7 : Hid (Bts (lay11 w6 (w.heap.size + 1) m2 (.slice co2 0 cc2)) co2 0 cc2 []) := bts_none HB6.out
    obtain ⟨w7, hw7⟩ : ∃ w7, lay11 w6 (w.heap.size + 1) m2 (.slice co2 0 cc2) = w7 := ⟨_, rfl⟩
    rw [hw7] at HZL HE7 HB7
    unfold lay11 at hw7
    clear f7
    obtain ⟨v0, v1, v2, v3, v4, v5, v6, v7, v8, v9, v10⟩ := HZL.out.all
    obtain ⟨z0, z1, z2, z3, z4, z5, z6, z7, z8, z9, z10⟩ := HZ6.out.all
    have x0 := HZ6.out.z 0
    have x1 := HZ6.out.z 1
    have x2 := HZ6.out.z 2
    have x3 := HZ6.out.z 3
    have x4 := HZ6.out.z 4
    have x5 := HZ6.out.z 5
    have x6 := HZ6.out.z 6
    have x7 := HZ6.out.z 7
    have x8 := HZ6.out.z 8
    have x9 := HZ6.out.z 9
    have x10 := HZ6.out.z 10
    go_wp2
    refine bodyPost_ret (by simp [results, Tryz.results17, go_sem, v0, v1, v2, v3, v4, v5, v6, v7, v8, v9, v10]; rfl) rfl ?_
    refine ⟨m2, co2, 0, cc2, HM2.out, rfl, ?_, .inl HDT.out, HE7.out⟩
    rw [HDT.out]; exact HB7.out
end
end Go.Proofs.YtlmnnjibggdboaaGreatDoor
