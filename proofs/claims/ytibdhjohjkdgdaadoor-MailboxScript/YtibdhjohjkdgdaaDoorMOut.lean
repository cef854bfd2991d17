/-
  What All answers of a box without addresses; what the statement knows beside the box and its rows while it holds the answer against them.
-/
import Derived.Test.YtibdhjohjkdgdaaDoorMScr
namespace Go.Proofs.YtibdhjohjkdgdaaDoor
open Go.RowKit Go.Conc
variable {w w' : World} {b cu co N rr : Nat} {L M : List Ms}
theorem outF_nm {q : Ms → Bool} (hq : ∀ y y' : Ms, y.nm = y'.nm → q y = q y') (K : List Ms) : outF q (K.map Ms.nm) = (outF q K).map Ms.nm := by
  unfold outF
  rw [List.filter_map]
  congr 1
  apply List.filter_congr
  intro y _
  exact hq _ _ rfl
theorem keepF_nm {q : Ms → Bool} (hq : ∀ y y' : Ms, y.nm = y'.nm → q y = q y') (K : List Ms) : keepF q (K.map Ms.nm) = (keepF q K).map Ms.nm := by
  unfold keepF
  rw [List.filter_map]
  congr 1
  apply List.filter_congr
  intro y _
  show (!q y.nm) = (!q y)
  rw [hq y.nm y rfl]
structure AllSt (w : World) (q : Ms → Bool) (b cu co N : Nat) (L M V : List Ms) (v : Value) (w' : World) : Prop where
  row : w'.ownsRow w.heap.size 35 11 v V.length (cellsM V)
  nm : V.map Ms.nm = outF q L ++ outF q M
  has : ∀ y ∈ V, y.has w' ∧ OwnD w' y
  st : St w' b cu co N (keepF q L) (keepF q M)
  ft : Foot (Two cu co) w w'
theorem st_all {F : Nat} {cap : Array Value} {g : Nat} {o : Obj} {q : Ms → Bool} (hF : AsksOf F cap g o q) (w : World) (x : St w b cu co N L M) (hg : w.heap[g]? = some o) (hgt : ¬ Two cu co g) :
    Calls Tryd.prog 14 #[.pointer (some ⟨b, 0, none⟩), .func (.func F) #[] cap] w fun e w' => ∃ v V, e = .returned v ∧ AllSt w q b cu co N L M V v w' := by
  obtain ⟨U, O, x, rfl, rfl⟩ := x
  refine (all_any hF w x hg (fun e => hgt (.inl e)) (fun e => hgt (.inr e))).mono ?_
  rintro e w1 ⟨v, rfl, E⟩
  refine ⟨v, outF q U ++ outF q O, rfl, E.row, ?_, fun y hy => E.has y ?_, ⟨_, _, E.bx, (keepF_nm hF.nm U).symm, (keepF_nm hF.nm O).symm⟩, E.ft⟩
  · rw [outF_nm hF.nm, outF_nm hF.nm, List.map_append]
  · rcases List.mem_append.1 hy with h | h
    · exact List.mem_append_left _ (List.mem_filter.1 h).1
    · exact List.mem_append_right _ (List.mem_filter.1 h).1
/- the deed in its variable, and what All answered -/
structure Ex (W : World) (g : Nat) (x : Ac) (B : Nat) (v : Value) (nv : Nat) (V : List Ms) : Prop where
  act : W.heap[g]? = some (actO x)
  row : W.ownsRow B 35 11 v nv (cellsM V)
  has : ∀ y ∈ V, y.has W ∧ OwnD W y
theorem Ex.grow {g : Nat} {x : Ac} {B : Nat} {v : Value} {nv : Nat} {V : List Ms} (h : Ex w g x B v nv V) (e : Below w.heap.size w w') : Ex w' g x B v nv V :=
  ⟨(e.block g (lt_of_heap h.act)).trans h.act, owns_carry h.row e, fun y hy => ⟨Bts.carry (h.has y hy).1 e, (h.has y hy).2.grow e⟩⟩
theorem Ex.put {g : Nat} {x : Ac} {B : Nat} {v : Value} {nv : Nat} {V : List Ms} (h : Ex w g x B v nv V) {v0 v1 : Value} (box : w.heap[rr]? = some (rrO v0 v1)) (j : Nat) (u : Value) : Ex (w.setCell ⟨rr, j, none⟩ u) g x B v nv V := by
  have ft := foot_set w ⟨rr, j, none⟩ u
  have hty : ∀ k cur, w.heap[k]? = some (.cells cur 5 (0, 0)) → ¬ k = rr := fun k cur hk e => two_types hk box (by decide) e
  refine ⟨(ft.block g (lt_of_heap h.act) (fun e => ?_)).trans h.act, owns_foot h.row ft (fun k hk e => ?_), fun y hy => ⟨has_foot (h.has y hy).1 (h.has y hy).2 ft hty, (h.has y hy).2.foot ft hty⟩⟩
  · exact two_types h.act box (by decide) e
  · obtain ⟨cur, hc⟩ := owns_type h.row hk
    exact two_types hc box (by decide) e
/- the place of a message among those that are asked for -/
theorem out_at {q : Ms → Bool} (K : List Ms) (i : Nat) (hi : i < K.length) (h : q (K.getD i Ms.zero) = true) : (outF q (K.take i)).length < (outF q K).length ∧ (outF q K).getD (outF q (K.take i)).length Ms.zero = K.getD i Ms.zero := by
  have e : outF q K = outF q (K.take i) ++ K.getD i Ms.zero :: outF q (K.drop (i + 1)) := by
    have h0 : K = K.take i ++ (K.getD i Ms.zero :: K.drop (i + 1)) := by rw [← dropM_cons K i hi, List.take_append_drop]
    conv => lhs; rw [h0]
    unfold outF
    rw [List.filter_append, List.filter_cons, if_pos h]
  rw [e]
  refine ⟨by simp, ?_⟩
  rw [List.getD_eq_getElem?_getD, List.getElem?_append_right (Nat.le_refl _), Nat.sub_self]
  rfl
theorem getD_app0 (A C : List Ms) (j : Nat) (h : j < A.length) : (A ++ C).getD j Ms.zero = A.getD j Ms.zero := by
  rw [List.getD_eq_getElem?_getD, List.getElem?_append_left h, ← List.getD_eq_getElem?_getD]
theorem getD_app1 (A C : List Ms) (j : Nat) : (A ++ C).getD (A.length + j) Ms.zero = C.getD j Ms.zero := by
  rw [List.getD_eq_getElem?_getD, List.getElem?_append_right (Nat.le_add_right ..), Nat.add_sub_cancel_left, ← List.getD_eq_getElem?_getD]
def InRel (X : World) (q : Ms → Bool) (R : List Ms) (s n gk : Nat) (va vs vi : Value) (wz : World) : Prop :=
  ∃ i : Nat, i + gk = n ∧ vi = .int .i64 (i : Int) ∧ va = .int .i64 ((s + (outF q (R.take i)).length : Nat) : Int) ∧ wz.ownsRow X.heap.size 35 11 vs (keepF q (R.take i)).length (cellsM (keepF q (R.take i))) ∧ Below X.heap.size X wz
end Go.Proofs.YtibdhjohjkdgdaaDoor
