/-
  What the statements' own Same answers of two messages that are alike, as a contract.
-/
import Derived.Test.YtnkfdnmaocfjnaaNAwake
namespace Go.Proofs.Ytnkfdnmaocfjnaa
open Go.RowKit
theorem eqGuard26 : Try.prog.eqGuardType Try.prog.depth 26 = false := by kernel_rfl
theorem eql_cap (p o r c p' o' r' c' : Int) (w : World) : (binOp .eql 26 (.agg #[.int .u64 p, .int .u32 o, .int .u8 r, .int .u64 c]) (.agg #[.int .u64 p', .int .u32 o', .int .u8 r', .int .u64 c'])).run Try.prog w = .ok (.bool (decide (p = p' ∧ o = o' ∧ r = r' ∧ c = c'))) w := by
  have hS : Try.prog.underlying 26 = some (.struct (Try.prog.fieldsOf 26)) := by kernel_rfl
  have hp : Try.prog.stoodInHeld 26 = false := by kernel_rfl
  rw [run_eql_struct, show (10000 : Nat) = 9999 + 1 from rfl, run_equalIn_agg w 9999 26 _ _ hS hp]
  simp only [Program.fieldsOf, Try.underlying26]
  have u1 := Try.underlying22
  have u2 := Try.underlying23
  have u3 := Try.underlying5
  go_simp
  by_cases h1 : p = p' <;> by_cases h2 : o = o' <;> by_cases h3 : r = r' <;> by_cases h4 : c = c' <;> simp [h1, h2, h3, h4]
theorem str_list (l : List UInt8) : (str l).toList = l := by
  rw [str, ByteArray.toList_eq]
set_option maxRecDepth 20000 in
set_option maxHeartbeats 6400000 in
theorem same_yes (p q : Ms) (w : World) (hp : p.has w) (hq : q.has w) (h : p.nm = q.nm) :
    Calls Try.prog 8 #[.agg #[.int .u64 p.ta, .int .u64 p.rp, .int .u32 p.id, .int .u16 p.op, .int .u16 p.st, .int .u64 p.p, .int .u32 p.o, .int .u8 p.r, .int .u64 p.c, .int .u64 p.ar, .slice p.so p.sn p.sc], .agg #[.int .u64 q.ta, .int .u64 q.rp, .int .u32 q.id, .int .u16 q.op, .int .u16 q.st, .int .u64 q.p, .int .u32 q.o, .int .u8 q.r, .int .u64 q.c, .int .u64 q.ar, .slice q.so q.sn q.sc]] w fun e w' => e = .returned (.bool true) ∧ Below w.heap.size w w' := by
  obtain ⟨X, hX⟩ : ∃ X, (w.alloc (.cells #[.int .u64 p.ta, .int .u64 p.rp, .int .u32 p.id, .int .u16 p.op, .int .u16 p.st, .int .u64 p.p, .int .u32 p.o, .int .u8 p.r, .int .u64 p.c, .int .u64 p.ar, .slice p.so p.sn p.sc] 29)).alloc (.cells #[.int .u64 q.ta, .int .u64 q.rp, .int .u32 q.id, .int .u16 q.op, .int .u16 q.st, .int .u64 q.p, .int .u32 q.o, .int .u8 q.r, .int .u64 q.c, .int .u64 q.ar, .slice q.so q.sn q.sc] 29) = X := ⟨_, rfl⟩
  have hb : Below w.heap.size w X := hX ▸ below_one (below_alloc w _) (below_alloc _ _)
  have hl : p.l = q.l := by show p.nm.l = q.nm.l; rw [h]
  have k1 := conv_bts (Bts.carry hp hb)
  have k2 := conv_bts (Bts.carry hq hb)
  rw [← hl] at k2
  have HB := hide hb
  have bp : BoxM X w.heap.size p := hX ▸ (boxM_new w p).grow (below_alloc _ _)
  have bq : BoxM X (w.heap.size + 1) q := by rw [← hX, ← size_al w (.cells #[.int .u64 p.ta, .int .u64 p.rp, .int .u32 p.id, .int .u16 p.op, .int .u16 p.st, .int .u64 p.p, .int .u32 p.o, .int .u8 p.r, .int .u64 p.c, .int .u64 p.ar, .slice p.so p.sn p.sc] 29)]; exact boxM_new _ q
  obtain ⟨p0, p1, p2, p3, p4, p5, p6, p7, p8, p9, p10⟩ := bp.all
  obtain ⟨q0, q1, q2, q3, q4, q5, q6, q7, q8, q9, q10⟩ := bq.all
  have hg := eqGuard26
  have hE := eql_cap p.p p.o p.r p.c p.p p.o p.r p.c
  simp only [and_self, decide_true] at hE
  clear bp bq
  obtain ⟨ta, rp, id, op, st, pp, oo, rr, cc, ar, so, sn, sc, l⟩ := p
  obtain ⟨ta', rp', id', op', st', pp', oo', rr', cc', ar', so', sn', sc', l'⟩ := q
  unfold Ms.nm at h
  simp only [Ms.mk.injEq] at h
  obtain ⟨rfl, rfl, rfl, rfl, rfl, rfl, rfl, rfl, rfl, rfl, _, _, _, rfl⟩ := h
  simp only at hE k1 k2 hX p0 p1 p2 p3 p4 p5 p6 p7 p8 p9 p10 q0 q1 q2 q3 q4 q5 q6 q7 q8 q9 q10
  clear hl hb hp hq
  go_enter Try.func8, Try.ntmps8
  go_wp2
  go_ret
  exact ⟨rfl, HB.out⟩
end Go.Proofs.Ytnkfdnmaocfjnaa
