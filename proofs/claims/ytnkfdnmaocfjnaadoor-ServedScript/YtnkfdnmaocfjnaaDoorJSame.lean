/-
  What the statements' own Same answers of two messages that are alike, as a contract.
-/
import Derived.Test.YtnkfdnmaocfjnaaDoorNAwake
namespace Go.Proofs.YtnkfdnmaocfjnaaDoor
open Go.RowKit
theorem eqGuard29 : Tryd.prog.eqGuardType Tryd.prog.depth 29 = false := by kernel_rfl
theorem eql_cap (p o r c p' o' r' c' : Int) (w : World) : (binOp .eql 29 (.agg #[.int .u64 p, .int .u32 o, .int .u8 r, .int .u64 c]) (.agg #[.int .u64 p', .int .u32 o', .int .u8 r', .int .u64 c'])).run Tryd.prog w = .ok (.bool (decide (p = p' ∧ o = o' ∧ r = r' ∧ c = c'))) w := by
  have hS : Tryd.prog.underlying 29 = some (.struct (Tryd.prog.fieldsOf 29)) := by kernel_rfl
  have hp : Tryd.prog.stoodInHeld 29 = false := by kernel_rfl
  rw [run_eql_struct, show (10000 : Nat) = 9999 + 1 from rfl, run_equalIn_agg w 9999 29 _ _ hS hp]
  simp only [Program.fieldsOf, Tryd.underlying29]
  have u1 := Tryd.underlying25
  have u2 := Tryd.underlying26
  have u3 := Tryd.underlying5
  go_simp
  by_cases h1 : p = p' <;> by_cases h2 : o = o' <;> by_cases h3 : r = r' <;> by_cases h4 : c = c' <;> simp [h1, h2, h3, h4]
theorem str_list (l : List UInt8) : (str l).toList = l := by
  rw [str, ByteArray.toList_eq]
set_option maxRecDepth 20000 in
set_option maxHeartbeats 6400000 in
theorem same_yes (p q : Ms) (w : World) (hp : p.has w) (hq : q.has w) (h : p.nm = q.nm) :
    Calls Tryd.prog 9 #[.agg #[.int .u64 p.ta, .int .u64 p.rp, .int .u32 p.id, .int .u16 p.op, .int .u16 p.st, .int .u64 p.p, .int .u32 p.o, .int .u8 p.r, .int .u64 p.c, .int .u64 p.ar, .slice p.so p.sn p.sc], .agg #[.int .u64 q.ta, .int .u64 q.rp, .int .u32 q.id, .int .u16 q.op, .int .u16 q.st, .int .u64 q.p, .int .u32 q.o, .int .u8 q.r, .int .u64 q.c, .int .u64 q.ar, .slice q.so q.sn q.sc]] w fun e w' => e = .returned (.bool true) ∧ Below w.heap.size w w' := by
  obtain ⟨X, hX⟩ : ∃ X, (w.alloc (.cells #[.int .u64 p.ta, .int .u64 p.rp, .int .u32 p.id, .int .u16 p.op, .int .u16 p.st, .int .u64 p.p, .int .u32 p.o, .int .u8 p.r, .int .u64 p.c, .int .u64 p.ar, .slice p.so p.sn p.sc] 32)).alloc (.cells #[.int .u64 q.ta, .int .u64 q.rp, .int .u32 q.id, .int .u16 q.op, .int .u16 q.st, .int .u64 q.p, .int .u32 q.o, .int .u8 q.r, .int .u64 q.c, .int .u64 q.ar, .slice q.so q.sn q.sc] 32) = X := ⟨_, rfl⟩
  have hb : Below w.heap.size w X := hX ▸ below_one (below_alloc w _) (below_alloc _ _)
  have hl : p.l = q.l := by show p.nm.l = q.nm.l; rw [h]
  have k1 := conv_bts (Bts.carry hp hb)
  have k2 := conv_bts (Bts.carry hq hb)
  rw [← hl] at k2
  have HB := hide hb
  have bp : BoxM X w.heap.size p := hX ▸ (boxM_new w p).grow (below_alloc _ _)
  have bq : BoxM X (w.heap.size + 1) q := by rw [← hX, ← size_al w (.cells #[.int .u64 p.ta, .int .u64 p.rp, .int .u32 p.id, .int .u16 p.op, .int .u16 p.st, .int .u64 p.p, .int .u32 p.o, .int .u8 p.r, .int .u64 p.c, .int .u64 p.ar, .slice p.so p.sn p.sc] 32)]; exact boxM_new _ q
  obtain ⟨p0, p1, p2, p3, p4, p5, p6, p7, p8, p9, p10⟩ := bp.all
  obtain ⟨q0, q1, q2, q3, q4, q5, q6, q7, q8, q9, q10⟩ := bq.all
  have hg := eqGuard29
  have hE := eql_cap p.p p.o p.r p.c p.p p.o p.r p.c
  simp only [and_self, decide_true] at hE
  clear bp bq
  obtain ⟨ta, rp, id, op, st, pp, oo, rr, cc, ar, so, sn, sc, l⟩ := p
  obtain ⟨ta', rp', id', op', st', pp', oo', rr', cc', ar', so', sn', sc', l'⟩ := q
  unfold Ms.nm at h
  simp only [Ms.mk.injEq] at h
  obtain ⟨rfl, rfl, rfl, rfl, rfl, rfl, rfl, rfl, rfl, rfl, _, _, _, rfl⟩ := h
  simp only at hE k1 k2 hX p0 p1 p2 p3 p4 p5 p6 p7 p8 p9 p10 q0 q1 q2 q3 q4 q5 q6 q7 q8 q9 q10
  clear hl hb hp hq
  go_enter Tryd.func9, Tryd.ntmps9
  go_wp2
  go_ret
  exact ⟨rfl, HB.out⟩
end Go.Proofs.YtnkfdnmaocfjnaaDoor
