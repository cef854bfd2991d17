/-
  What holds of the places that a script leaves; what the statement's own search finds. Nothing here names the program.
-/
import Derived.Test.YtlpjaklhmnbpeaaVMath
namespace Go.Proofs.Ytlpjaklhmnbpeaa
def Uni (L : List Pl) : Prop := L.Pairwise fun a b => a.p ≠ b.p
structure Inv (now : Int) (L : List Pl) : Prop where
  few : L.length ≤ 16
  uni : Uni L
  when : ∀ y ∈ L, 0 ≤ y.a ∧ y.a ≤ now
theorem inv_nil (now : Int) : Inv now [] := ⟨by decide, List.Pairwise.nil, (fun _ h => by cases h)⟩
theorem Inv.later {now now' : Int} {L : List Pl} (h : Inv now L) (hn : now ≤ now') : Inv now' L :=
  ⟨h.few, h.uni, fun y hy => ⟨(h.when y hy).1, Int.le_trans (h.when y hy).2 hn⟩⟩
theorem Inv.drop {now : Int} {L : List Pl} (h : Inv now L) (q : Pl → Bool) : Inv now (dropQ q L) :=
  ⟨Nat.le_trans (dropQ_len q L) h.few, h.uni.filter _, fun y hy => h.when y (List.mem_filter.1 hy).1⟩
theorem mem_cutL {y : Pl} {L : List Pl} (h : y ∈ cutL L) : y ∈ L := by
  unfold cutL at h
  split at h
  · exact List.mem_of_mem_drop h
  · exact h
theorem Inv.learn {now : Int} {L : List Pl} (h : Inv now L) (p n : Int) (h0 : 0 ≤ now) : Inv now (learnL L p n now) := by
  have hd := h.drop (isP p)
  refine ⟨learn_len L p n now h.few, ?_, fun y hy => ?_⟩
  · unfold Uni learnL
    rw [List.pairwise_append]
    refine ⟨?_, List.pairwise_singleton _ _, fun a ha b hb => ?_⟩
    · unfold cutL
      split
      · exact hd.uni.sublist (List.drop_sublist 1 _)
      · exact hd.uni
    · rw [List.mem_singleton.1 hb]
      have := (List.mem_filter.1 (mem_cutL ha)).2
      intro e
      have e2 : isP p a = true := by unfold isP; simpa using e
      rw [e2] at this; cases this
  · unfold learnL at hy
    rcases List.mem_append.1 hy with hy | hy
    · exact hd.when y (mem_cutL hy)
    · rw [List.mem_singleton.1 hy]; exact ⟨h0, Int.le_refl _⟩
def see (age now p : Int) (o : Option Int) (y : Pl) : Option Int := if (y.p == p && decide (now - y.a < age)) = true then some y.n else o
def seeV (age now p : Int) (L : List Pl) : Option Int := L.foldl (see age now p) none
theorem seeV_snoc (age now p : Int) (L : List Pl) (k : Nat) (h : k < L.length) : seeV age now p (L.take (k + 1)) = see age now p (seeV age now p (L.take k)) (L.getD k Pl.zero) := by
  unfold seeV; rw [takeV_snoc L k h, List.foldl_append]; rfl
theorem see_other {age now p : Int} {y : Pl} (o : Option Int) (h : y.p ≠ p) : see age now p o y = o := by
  unfold see; rw [show (y.p == p) = false from by simpa using h]; rfl
theorem see_none {age now p : Int} : ∀ (L : List Pl) (o : Option Int), (∀ y ∈ L, y.p ≠ p) → L.foldl (see age now p) o = o := by
  intro L
  induction L with
  | nil => intro o _; rfl
  | cons y L ih =>
    intro o h
    rw [List.foldl_cons, see_other o (h y (List.mem_cons_self ..))]
    exact ih o fun z hz => h z (List.mem_cons_of_mem _ hz)
theorem see_at {age now p : Int} : ∀ (L : List Pl) (o : Option Int), Uni L → L.foldl (see age now p) o = match findP L p with
    | none => o
    | some y => if decide (now - y.a < age) = true then some y.n else o := by
  intro L
  induction L with
  | nil => intro o _; rfl
  | cons y L ih =>
    intro o h
    obtain ⟨h1, h2⟩ := List.pairwise_cons.1 h
    rw [List.foldl_cons]
    by_cases e : y.p = p
    · have e2 : isP p y = true := by unfold isP; simpa using e
      have hf : findP (y :: L) p = some y := by unfold findP; rw [List.find?_cons_of_pos e2]
      rw [see_none L _ (fun z hz => by rw [← e]; exact fun h => h1 z hz h.symm), hf]
      show see age now p o y = if decide (now - y.a < age) = true then some y.n else o
      unfold see
      rw [show (y.p == p) = true from e2]; rfl
    · have e2 : isP p y = false := by unfold isP; simpa using e
      have hf : findP (y :: L) p = findP L p := by unfold findP; rw [List.find?_cons_of_neg (by rw [e2]; decide)]
      rw [see_other o e, hf]
      exact ih o h2
theorem see_find {age now p : Int} {L : List Pl} (h : Inv now L) : seeV age now p L = findV age L p now := by
  unfold seeV
  rw [see_at L none h.uni]
  unfold findV
  cases e : findP L p with
  | none => rfl
  | some y =>
    have hm : y ∈ L := List.mem_of_find?_eq_some e
    show (if decide (now - y.a < age) = true then some y.n else none) = if trust age y now = true then some y.n else none
    unfold trust
    rw [decide_eq_true (h.when y hm).2, Bool.true_and]
end Go.Proofs.Ytlpjaklhmnbpeaa
