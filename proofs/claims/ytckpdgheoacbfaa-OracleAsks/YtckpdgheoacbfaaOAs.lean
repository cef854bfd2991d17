/-
  What OracleAsks has beside the oracle: a tape of its own, drawn in step, and the answers so far in a row of its own; how each step carries them.
-/
import Derived.Test.YtckpdgheoacbfaaOStep
import Derived.Laws.StructEq
namespace Go.Proofs.Ytckpdgheoacbfaa
open Go.RowKit
structure As (w0 w : World) (B g m a h k c d k2 : Nat) (v v2 : Value) (ws : List Nat) (t : Nat) (es : List Ent) : Prop where
  st : St w0 w B g m a h k v ws t es
  own : TapeAt w c d ws t k2
  c0 : w0.heap.size ≤ c
  ca : c ≠ a
  had : w.ownsRow w0.heap.size 42 3 v2 es.length (cellsE es)
  apart : ∀ r, v.ownBlock = some r → v2.ownBlock ≠ some r
section
variable {w0 w w1 w2 w3 : World} {B g m a h k c d k2 : Nat} {v v' v2 : Value} {ws : List Nat} {t : Nat} {es es' : List Ent}
theorem As.drewN (A : As w0 w B g m a h k c d k2 v v2 ws t es) (q : Nat) : As w0 (w.drewN q) B g m a h k c d k2 v v2 ws t es := ⟨A.st.drewN q, A.own.drewN q, A.c0, A.ca, A.had, A.apart⟩
theorem As.grow (A : As w0 w B g m a h k c d k2 v v2 ws t es) (b : Below w.heap.size w w1) : As w0 w1 B g m a h k c d k2 v v2 ws t es :=
  ⟨A.st.grow b, A.own.grow b, A.c0, A.ca, owns_foot A.had (below_foot (fun _ => False) b) (fun _ _ => id), A.apart⟩
/- none of the blocks that a tape has is a row of answers -/
theorem TapeAt.noRow {w : World} {a h : Nat} {ws : List Nat} {t k base n : Nat} {v : Value} {xs : List Value} (T : TapeAt w a h ws t k) (x : w.ownsRow base 42 3 v n xs) : v.ownBlock ≠ Option.some a ∧ v.ownBlock ≠ Option.some h := by
  have hr : w.heap[h]? = Option.some _ := T.row
  refine ⟨fun e => ?_, fun e => ?_⟩
  · obtain ⟨cur, h1, _⟩ := owns_block x e; rw [T.box] at h1; cases h1
  · obtain ⟨cur, h1, _⟩ := owns_block x e; rw [hr] at h1; simp at h1
theorem TapeAt.cross {w : World} {a h c d : Nat} {ws : List Nat} {t k t' k' : Nat} (T : TapeAt w a h ws t k) (T' : TapeAt w c d ws t' k') : a ≠ d := by
  intro e
  have hr : w.heap[d]? = Option.some _ := T'.row
  rw [← e, T.box] at hr; simp at hr
/- a step of the oracle's tape alone, and of one's own alone -/
theorem St.touch {t' : Nat} (S : St w0 w B g m a h k v ws t es) (x : Touch c w w1) (hc : w0.heap.size ≤ c) (hca : c ≠ a) (T : TapeAt w c d ws t' k2) : St w0 w1 B g m a h k v ws t es := by
  have ho := T.off S.orc
  have hx := S.tape.cross T
  have hd := T.cross S.tape
  exact ⟨S.orc.foot x.foot (fun e => ho.1.1 e.symm) (fun e => ho.1.2.1 e.symm) (fun r hr e => ho.1.2.2 (by rw [← e]; exact hr)), S.tape.touch x (fun e => hca e.symm) (fun e => hd e.symm),
    ⟨S.new.b0, S.new.a0, S.new.h0, S.new.bel.trans (x.below hc), Nat.le_trans S.new.bs (Nat.le_of_eq x.size.symm)⟩, S.few⟩
theorem owns_touch {base n : Nat} {xs : List Value} (x : w.ownsRow base 42 3 v2 n xs) (y : Touch c w w1) (hc : v2.ownBlock ≠ some c) : w1.ownsRow base 42 3 v2 n xs := owns_foot x y.foot (fun r hr e => hc (by rw [← e]; exact hr))
/- a draw of both -/
theorem As.drew1 (A : As w0 w B g m a h k c d k2 v v2 ws t es) (x : Touch a w w1) : TapeAt w1 c d ws t k2 := A.own.touch x A.ca (A.st.tape.cross A.own).symm
theorem As.drawn (A : As w0 w B g m a h k c d k2 v v2 ws t es) (T1 : TapeAt w1 a h ws (t + 1) k) (x1 : Touch a w w1) (T2 : TapeAt w2 c d ws (t + 1) k2) (x2 : Touch c w1 w2) : As w0 w2 B g m a h k c d k2 v v2 ws (t + 1) es := by
  have ho := A.st.tape.off A.st.orc
  have O1 : Orc w1 B g m (.pointer (some ⟨a, 0, none⟩)) v es := A.st.orc.foot x1.foot (fun e => ho.1.1 e.symm) (fun e => ho.1.2.1 e.symm) (fun r hr e => ho.1.2.2 (by rw [← e]; exact hr))
  have U1 := A.drew1 x1
  have oc := U1.off O1
  have hd := U1.cross T1
  have h1 : w1.ownsRow w0.heap.size 42 3 v2 es.length (cellsE es) := owns_touch A.had x1 (A.st.tape.noRow A.had).1
  refine ⟨⟨O1.foot x2.foot (fun e => oc.1.1 e.symm) (fun e => oc.1.2.1 e.symm) (fun r hr e => oc.1.2.2 (by rw [← e]; exact hr)), T1.touch x2 (fun e => A.ca e.symm) (fun e => hd e.symm), ?_, A.st.few⟩, T2, A.c0, A.ca, owns_touch h1 x2 (U1.noRow h1).1, A.apart⟩
  exact ⟨A.st.new.b0, A.st.new.a0, A.st.new.h0, (A.st.new.bel.trans (x1.below A.st.new.a0)).trans (x2.below A.c0), Nat.le_trans A.st.new.bs (Nat.le_of_eq (by rw [x2.size, x1.size]))⟩
/- an answer that is new: the oracle's, then a draw of one's own, then the row of one's own -/
theorem As.own1 (A : As w0 w B g m a h k c d k2 v v2 ws t es) (F : Foot (AskS g m a v) w w1) : TapeAt w1 c d ws t k2 := by
  have oc := A.own.off A.st.orc
  refine A.own.foot F (fun e => ?_) (fun e => ?_)
  · rcases e with e | e | e | e
    · exact oc.1.1 e
    · exact oc.1.2.1 e
    · exact A.ca e
    · exact oc.1.2.2 e
  · rcases e with e | e | e | e
    · exact oc.2.1 e
    · exact oc.2.2.1 e
    · exact (A.st.tape.cross A.own) e.symm
    · exact oc.2.2.2 e
theorem As.had1 (A : As w0 w B g m a h k c d k2 v v2 ws t es) (F : Foot (AskS g m a v) w w1) : w1.ownsRow w0.heap.size 42 3 v2 es.length (cellsE es) := by
  refine owns_foot A.had F fun r hr e => ?_
  obtain ⟨cur, hx, _⟩ := owns_block A.had hr
  obtain ⟨y, z, hm⟩ := A.st.orc.map.isMap
  rcases e with e | e | e | e
  · rw [e, A.st.orc.box] at hx; cases hx
  · rw [e, hm] at hx; cases hx
  · rw [e, A.st.tape.box] at hx; cases hx
  · exact A.apart r e hr
theorem As.apart1 (A : As w0 w B g m a h k c d k2 v v2 ws t es) (hv : ∀ r, v'.ownBlock = some r → v.ownBlock = some r ∨ w.heap.size ≤ r) : ∀ r, v'.ownBlock = some r → v2.ownBlock ≠ some r := by
  intro r hr e
  rcases hv r hr with h1 | h1
  · exact A.apart r h1 e
  · obtain ⟨cur, hx, _⟩ := owns_block A.had e
    have := lt_of_heap hx
    omega
theorem St.row (S : St w0 w B g m a h k v ws t es) {n : Nat} {xs : List Value} (x : w.ownsRow w0.heap.size 42 3 v2 n xs) (ap : ∀ r, v.ownBlock = some r → v2.ownBlock ≠ some r) (F : Foot (fun j => v2.ownBlock = some j) w w1) : St w0 w1 B g m a h k v ws t es := by
  obtain ⟨y, z, hm⟩ := S.orc.map.isMap
  have hn := S.tape.noRow x
  refine ⟨S.orc.foot F (fun e => ?_) (fun e => ?_) (fun r hr e => ap r hr e), S.tape.foot F hn.1 hn.2, ⟨S.new.b0, S.new.a0, S.new.h0, S.new.bel.trans (F.below S.new.bel.size fun j e => ?_), Nat.le_trans S.new.bs F.size⟩, S.few⟩
  · obtain ⟨cur, hx, _⟩ := owns_block x e; rw [S.orc.box] at hx; cases hx
  · obtain ⟨cur, hx, _⟩ := owns_block x e; rw [hm] at hx; cases hx
  · obtain ⟨_, _, h1⟩ := owns_block x e; exact h1
theorem As.put {x : Ent} (gg cap : Nat) (S : St w0 w2 B g m a h k v' ws t (es ++ [x])) (T : TapeAt w2 c d ws t k2) (hc : w0.heap.size ≤ c) (hca : c ≠ a) (x2 : w2.ownsRow w0.heap.size 42 3 v2 es.length (cellsE es)) (ap : ∀ r, v'.ownBlock = some r → v2.ownBlock ≠ some r)
    (F : Foot (fun j => v2.ownBlock = some j) w2 w3) (y : w3.ownsRow w0.heap.size 42 3 (.slice (some ⟨gg, 0, none⟩) (es.length + 1) cap) (es.length + 1) (cellsE es ++ x.cells)) (hat : v2.ownBlock = some gg ∨ gg = w2.heap.size + 1) :
    As w0 w3 B g m a h k c d k2 v' (.slice (some ⟨gg, 0, none⟩) (es ++ [x]).length cap) ws t (es ++ [x]) := by
  have hn := T.noRow x2
  refine ⟨S.row x2 ap F, T.foot F hn.1 hn.2, hc, hca, ?_, fun r hr e => ?_⟩
  · rw [cellsE_snoc, List.length_append, List.length_singleton]; exact y
  · obtain rfl : gg = r := by simpa [Value.ownBlock] using e
    rcases hat with h1 | h1
    · exact ap gg hr h1
    · obtain ⟨cur, hx, _⟩ := owns_block S.orc.row hr
      have := lt_of_heap hx
      omega
end
/- where the search through the answers has come to -/
def atF (es : List Ent) (f : Int) (i : Nat) : Int := match findE es f i with | some j => (j : Int) | none => -1
theorem atF_nil (f : Int) (i : Nat) : atF [] f i = -1 := rfl
theorem atF_hit {es : List Ent} (hd : Dist es) {f : Int} {i j : Nat} (hj : j < es.length) (h1 : (es.getD j Ent.zero).f = f) (h2 : (es.getD j Ent.zero).i = i) : atF (es.take (j + 1)) f i = (j : Int) := by
  have hl : (es.take j).length = j := by rw [List.length_take]; omega
  unfold atF
  rw [takeE_snoc es j hj, findE_snoc]
  cases e : findE (es.take j) f i with
  | none => rw [if_pos ⟨h1, h2⟩, hl]; rfl
  | some a =>
    obtain ⟨b1, b2, b3⟩ := findE_some e
    rw [hl] at b1
    have eg : (es.take j).getD a Ent.zero = es.getD a Ent.zero := by rw [List.getD_eq_getElem?_getD, List.getD_eq_getElem?_getD, List.getElem?_take, if_pos b1]
    rw [eg] at b2 b3
    have := hd a j (by omega) hj (by rw [b2, h1]) (by rw [b3, h2])
    omega
theorem atF_miss {es : List Ent} {f : Int} {i j : Nat} (hj : j < es.length) (hn : ¬ ((es.getD j Ent.zero).f = f ∧ (es.getD j Ent.zero).i = i)) : atF (es.take (j + 1)) f i = atF (es.take j) f i := by
  unfold atF
  rw [takeE_snoc es j hj, findE_snoc, if_neg hn, Option.or_none]
theorem neq_ent (f : Int) (i o : Int) (f' i' o' : Int) (w : World) : (binOp .neq 42 (.agg #[.int .i64 f, .int .u64 i, .int .u64 o]) (.agg #[.int .i64 f', .int .u64 i', .int .u64 o'])).run Try.prog w = .ok (.bool (!decide (f = f' ∧ i = i' ∧ o = o'))) w := by
  have hS : Try.prog.underlying 42 = some (.struct (Try.prog.fieldsOf 42)) := by kernel_rfl
  have hp : Try.prog.stoodInHeld 42 = false := by kernel_rfl
  rw [run_neq_struct, show (10000 : Nat) = 9999 + 1 from rfl, run_equalIn_agg w 9999 42 _ _ hS hp]
  simp only [Program.fieldsOf, Try.underlying42]
  have u1 := Try.underlying39
  have u2 := Try.underlying30
  go_simp
  by_cases h1 : f = f' <;> by_cases h2 : i = i' <;> by_cases h3 : o = o' <;> simp [h1, h2, h3]
theorem eqGuardE : Try.prog.eqGuardType Try.prog.depth 42 = false := by kernel_rfl
end Go.Proofs.Ytckpdgheoacbfaa
