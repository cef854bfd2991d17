/-
  The statements' own first steps: the word of a question, the document's example, errors.Is of no error; questions in memory.
-/
import Derived.Test.YtgcmompldcnhlaaDoorOAsk
namespace Go.Proofs.YtgcmompldcnhlaaDoor
open Go.RowKit
/- the word that is asked, and what is left of it when it is cut -/
def inF (q : Nat) : Nat := q % 5 * 281474976710659
theorem inF_le (q : Nat) : inF q ≤ 18446744073709551615 := by unfold inF; omega
theorem inF_cut (q : Nat) : inF q % 281474976710656 = q % 5 * 3 := by unfold inF; omega
theorem run_equalIn_nil_iface {P : Program} (w : World) (d : Nat) {ti tn : TypeId} {ms : Array (String × TypeId)} (v : Value) (hi : P.underlying ti = some (.interface ms)) : (Op.equalIn (d + 1) ti .nilIface (.iface tn v)).run P w = .ok false w := by
  simp [Op.equalIn, run_underlying hi]
theorem run_eql_nil_iface {P : Program} (w : World) {ti tn : TypeId} {ms : Array (String × TypeId)} (v : Value) (hi : P.underlying ti = some (.interface ms)) : (binOp .eql ti .nilIface (.iface tn v)).run P w = .ok (.bool false) w := by
  simp only [binOp]
  simp [Op.equal, Op.maxDepth, run_equalIn_nil_iface w 9999 v hi]
theorem cutN_79 : cutN [7, 9] = [7, 9] := by decide
theorem row_79 (w : World) : RowN (w.alloc (.cells #[.int .u64 7, .int .u64 9] 22)) .u64 22 w.heap.size [7, 9] := heap_alloc_new _ _
theorem u64s_79 (w : World) : U64s (w.alloc (.cells #[.int .u64 7, .int .u64 9] 22)) (some ⟨w.heap.size, 0, none⟩) 2 2 [7, 9] :=
  (row_79 w).u64s (by decide) (fun j => by
    rcases j with _ | _ | j <;> simp)
/- an oracle of a new tape: all its blocks are new -/
structure New2 (w0 w : World) (B g m a h : Nat) : Prop where
  b0 : w0.heap.size ≤ B
  a0 : w0.heap.size ≤ a
  h0 : w0.heap.size ≤ h
  bel : Below w0.heap.size w0 w
  bs : B ≤ w.heap.size
theorem New2.step {w0 w w' : World} {B g m a h : Nat} {tp v : Value} {es : List Ent} (n : New2 w0 w B g m a h) (O : Orc w B g m tp v es) (F : Foot (AskS g m a v) w w') : New2 w0 w' B g m a h :=
  ⟨n.b0, n.a0, n.h0, n.bel.trans (F.below n.bel.size (fun k e => by
    have b0 := n.b0
    have a0 := n.a0
    rcases e with e | e | e | e
    · have := O.bg; omega
    · have := O.bm; omega
    · omega
    · obtain ⟨_, _, h⟩ := owns_block O.row e; omega)), Nat.le_trans n.bs F.size⟩
theorem New2.grow {w0 w w' : World} {B g m a h : Nat} (n : New2 w0 w B g m a h) (b : Below w.heap.size w w') : New2 w0 w' B g m a h := ⟨n.b0, n.a0, n.h0, n.bel.trans (b.mono n.bel.size), Nat.le_trans n.bs b.size⟩
theorem New2.drewN {w0 w : World} {B g m a h : Nat} (n : New2 w0 w B g m a h) (q : Nat) : New2 w0 (w.drewN q) B g m a h := ⟨n.b0, n.a0, n.h0, below_drewN n.bel q, n.bs⟩
theorem Orc.grow {w w' : World} {B g m : Nat} {tp v : Value} {es : List Ent} (O : Orc w B g m tp v es) (b : Below w.heap.size w w') : Orc w' B g m tp v es := O.foot (below_foot (fun _ => False) b) id id (fun _ _ => id)
theorem TapeAt.grow {w w' : World} {g h : Nat} {ws : List Nat} {t k : Nat} (x : TapeAt w g h ws t k) (b : Below w.heap.size w w') : TapeAt w' g h ws t k := x.carry b (lt_of_heap x.box) (lt_of_heap x.row)
end Go.Proofs.YtgcmompldcnhlaaDoor
