/-
  What the statements' own Same answers, as a contract.
-/
import Derived.Test.YtmgbcnlnikchbaaDoorHDecY
namespace Go.Proofs.YtmgbcnlnikchbaaDoor
open Go.RowKit
theorem str_list (l : List UInt8) : (str l).toList = l := by
  rw [str, ByteArray.toList_eq]
/- are two messages the same? -/
def sameD (m k : Msg) (l r : List UInt8) : Bool := decide (m.ta = k.ta ∧ m.rp = k.rp ∧ m.id = k.id ∧ m.op = k.op ∧ m.st = k.st ∧ (m.p = k.p ∧ m.o = k.o ∧ m.r = k.r ∧ m.c = k.c) ∧ m.ar = k.ar ∧ l = r)
theorem beq_cast (a b : Nat) : ((a : Int) == (b : Int)) = decide (a = b) := by
  by_cases h : a = b
  · subst h; simp
  · rw [decide_eq_false h]; simp; omega
theorem sameD_iff {m k : Msg} {l r : List UInt8} : sameD m k l r = true ↔ (m = k ∧ l = r) := by
  unfold sameD; rw [decide_eq_true_iff]
  constructor
  · rintro ⟨h0, h1, h2, h3, h4, ⟨h5, h6, h7, h8⟩, h9, h10⟩
    cases m; cases k; simp_all
  · rintro ⟨rfl, rfl⟩; simp
set_option maxHeartbeats 1600000 in
theorem same_any (m k : Msg) (ao : Option Addr) (n cap : Nat) (l : List UInt8) (bo : Option Addr) (nb capb : Nat) (r : List UInt8) (w : World) (ha : Bts w ao n cap l) (hb : Bts w bo nb capb r) :
    Calls Tryd.prog 8 #[.agg #[.int .u64 m.ta, .int .u64 m.rp, .int .u32 m.id, .int .u16 m.op, .int .u16 m.st, .int .u64 m.p, .int .u32 m.o, .int .u8 m.r, .int .u64 m.c, .int .u64 m.ar, .slice ao n cap], .agg #[.int .u64 k.ta, .int .u64 k.rp, .int .u32 k.id, .int .u16 k.op, .int .u16 k.st, .int .u64 k.p, .int .u32 k.o, .int .u8 k.r, .int .u64 k.c, .int .u64 k.ar, .slice bo nb capb]] w fun e w' => e = .returned (.bool (sameD m k l r)) ∧ Below w.heap.size w w' := by
  have HT : Hid (Below w.heap.size w ((w.alloc (.cells #[.int .u64 m.ta, .int .u64 m.rp, .int .u32 m.id, .int .u16 m.op, .int .u16 m.st, .int .u64 m.p, .int .u32 m.o, .int .u8 m.r, .int .u64 m.c, .int .u64 m.ar, .slice ao n cap] 29)).alloc (.cells #[.int .u64 k.ta, .int .u64 k.rp, .int .u32 k.id, .int .u16 k.op, .int .u16 k.st, .int .u64 k.p, .int .u32 k.o, .int .u8 k.r, .int .u64 k.c, .int .u64 k.ar, .slice bo nb capb] 29))) := below_one (below_alloc _ _) (below_alloc _ _)
  have cva := conv_bts (ha.carry HT.out)
  have cvb := conv_bts (hb.carry HT.out)
  have hg := eqGuard26
  have hE := eql_cap m.p m.o m.r m.c k.p k.o k.r k.c
  have hED : decide ((m.p : Int) = k.p ∧ (m.o : Int) = k.o ∧ (m.r : Int) = k.r ∧ (m.c : Int) = k.c) = decide (m.p = k.p ∧ m.o = k.o ∧ m.r = k.r ∧ m.c = k.c) := by apply decide_eq_decide.2; omega
  rw [hED] at hE
  have e0 := beq_cast m.ta k.ta
  have e1 := beq_cast m.rp k.rp
  have e2 := beq_cast m.id k.id
  have e3 := beq_cast m.op k.op
  have e4 := beq_cast m.st k.st
  have e6 := beq_cast m.ar k.ar
  have HS : Hid (sameD m k l r = (decide (m.ta = k.ta) && decide (m.rp = k.rp) && decide (m.id = k.id) && decide (m.op = k.op) && decide (m.st = k.st) && decide (m.p = k.p ∧ m.o = k.o ∧ m.r = k.r ∧ m.c = k.c) && decide (m.ar = k.ar) && decide (l = r))) := by
    show sameD m k l r = _
    simp only [sameD, Bool.decide_and, Bool.and_assoc]
  rw [HS.out]
  clear ha hb hED HS
  generalize decide (m.ta = k.ta) = q0 at e0 ⊢
  generalize decide (m.rp = k.rp) = q1 at e1 ⊢
  generalize decide (m.id = k.id) = q2 at e2 ⊢
  generalize decide (m.op = k.op) = q3 at e3 ⊢
  generalize decide (m.st = k.st) = q4 at e4 ⊢
  generalize decide (m.p = k.p ∧ m.o = k.o ∧ m.r = k.r ∧ m.c = k.c) = q5 at hE ⊢
  generalize decide (m.ar = k.ar) = q6 at e6 ⊢
  cases q0 with
  | false =>
    simp only [Bool.false_and]
    go_enter Tryd.func8, Tryd.ntmps8
    go_wp2
    go_ret
    exact ⟨rfl, HT.out⟩
  | true =>
    cases q1 with
    | false =>
      simp only [Bool.false_and, Bool.true_and]
      go_enter Tryd.func8, Tryd.ntmps8
      go_wp2
      go_ret
      exact ⟨rfl, HT.out⟩
    | true =>
      cases q2 with
      | false =>
        simp only [Bool.false_and, Bool.true_and]
        go_enter Tryd.func8, Tryd.ntmps8
        go_wp2
        go_ret
        exact ⟨rfl, HT.out⟩
      | true =>
        cases q3 with
        | false =>
          simp only [Bool.false_and, Bool.true_and]
          go_enter Tryd.func8, Tryd.ntmps8
          go_wp2
          go_ret
          exact ⟨rfl, HT.out⟩
        | true =>
          cases q4 with
          | false =>
            simp only [Bool.false_and, Bool.true_and]
            go_enter Tryd.func8, Tryd.ntmps8
            go_wp2
            go_ret
            exact ⟨rfl, HT.out⟩
          | true =>
            cases q5 with
            | false =>
              simp only [Bool.false_and, Bool.true_and]
              go_enter Tryd.func8, Tryd.ntmps8
              go_wp2
              go_ret
              exact ⟨rfl, HT.out⟩
            | true =>
              cases q6 with
              | false =>
                simp only [Bool.false_and, Bool.true_and]
                go_enter Tryd.func8, Tryd.ntmps8
                go_wp2
                go_ret
                exact ⟨rfl, HT.out⟩
              | true =>
                simp only [Bool.true_and]
                go_enter Tryd.func8, Tryd.ntmps8
                go_wp2
                go_ret
                refine ⟨?_, HT.out⟩
                show Ending.returned (.bool ((str l).toList == (str r).toList)) = _
                rw [str_list, str_list]
                by_cases h : l = r
                · subst h; rw [decide_eq_true rfl, BEq.rfl]
                · rw [decide_eq_false h, beq_eq_false_iff_ne.2 h]
end Go.Proofs.YtmgbcnlnikchbaaDoor
