/-
  A region that draws its order, loads variables, and stores into them at its end: a load may be taken first where a condition on the world holds TILL a named operation (the first store) comes up; that operation waits, through others, for the load.
-/
import Derived.Test.YtnkfdnmaocfjnaaDoorABase
import Derived.OrdersHeld
import Derived.RegionTactic
namespace Go.Proofs.YtnkfdnmaocfjnaaDoor
open Go.RowKit
section
variable {P : Program} {ops : Array Oper} {Q : Exit → Act → World → Prop} {md : Region.Mode} {C : World → Prop} {p : Nat}
/- whatever comes up next: what is known behind it while p has not come up -/
def Till (P : Program) (md : Region.Mode) (ops : Array Oper) (Q : Exit → Act → World → Prop) (C : World → Prop) (p : Nat) : Nat → Array Bool → Act → World → Prop
  | 0, ls, a, w => Region.ready md ops ls = [] ∧ Q .normal a w
  | f + 1, ls, a, w => (Region.ready md ops ls = [] → Q .normal a w) ∧ ∀ j ∈ Region.ready md ops ls, wpOp P ops Q j (fun a' w' => ((ls.setIfInBounds j true).getD p true = false → C w') ∧ Till P md ops Q C p f (ls.setIfInBounds j true) a' w') a w
theorem any_of_till : ∀ (f : Nat) (ls : Array Bool) (a : Act) (w : World), Till P md ops Q C p f ls a w → wpAny P md ops Q f ls a w := by
  intro f
  induction f with
  | zero => intro _ _ _ h; exact h
  | succ f ih => intro ls a w h; exact ⟨h.1, fun j hj => wpOp_mono (fun _ _ k => ih _ _ _ k.2) (h.2 j hj)⟩
/- U: operations that wait for i, each through one of U; none has come up -/
def waits (md : Region.Mode) (ops : Array Oper) (ls : Array Bool) (i p : Nat) (U : List Nat) : Bool :=
  U.contains p && U.all fun u => !(ls.getD u true) && (u == i || match ops[u]? with
    | some o => o.after.any fun e => Region.binds md e && U.contains e.on
    | none => true)
structure Waits (md : Region.Mode) (ops : Array Oper) (ls : Array Bool) (i p : Nat) (U : List Nat) : Prop where
  at_p : p ∈ U
  open_ : ∀ u ∈ U, ls.getD u true = false
  via : ∀ u ∈ U, u ≠ i → ∀ o, ops[u]? = some o → ∃ e ∈ o.after, Region.binds md e = true ∧ e.on ∈ U
theorem waits_spec {ls : Array Bool} {i : Nat} {U : List Nat} (h : waits md ops ls i p U = true) : Waits md ops ls i p U := by
  unfold waits at h
  rw [Bool.and_eq_true, List.all_eq_true] at h
  refine ⟨by simpa using h.1, fun u hu => ?_, fun u hu hne o ho => ?_⟩
  · have := h.2 u hu
    rw [Bool.and_eq_true] at this
    simpa using this.1
  · have := h.2 u hu
    rw [Bool.and_eq_true, Bool.or_eq_true, ho] at this
    rcases this.2 with k | k
    · exact absurd (by simpa using k) hne
    · obtain ⟨m, hm, k2⟩ := Array.any_eq_true.1 k
      rw [Bool.and_eq_true] at k2
      exact ⟨o.after[m], Array.getElem_mem hm, k2.1, by simpa using k2.2⟩
theorem Waits.other {ls : Array Bool} {i j : Nat} {U : List Nat} (h : Waits md ops ls i p U) (hj : j ∈ Region.ready md ops ls) (hne : j ≠ i) : j ∉ U := fun hu => by
  obtain ⟨_, o, ho, hall⟩ := mem_ready.1 hj
  obtain ⟨e, he, hb, hon⟩ := h.via j hu hne o ho
  have h1 := hall e he hb
  have h2 := h.open_ e.on hon
  rcases Nat.lt_or_ge e.on ls.size with k | k
  · simp [k] at h1 h2; rw [h1] at h2; cases h2
  · simp [Array.getElem?_eq_none k] at h1
theorem Waits.step {ls : Array Bool} {i j : Nat} {U : List Nat} (h : Waits md ops ls i p U) (hj : j ∉ U) : Waits md ops (ls.setIfInBounds j true) i p U :=
  ⟨h.at_p, fun u hu => by rw [getD_set_ne true (fun e => hj (by rw [e]; exact hu))]; exact h.open_ u hu, h.via⟩
theorem till_first {i : Nat} {oi : Oper} {v : Value} {U : List Nat} (hi : ops[i]? = some oi) (hsel : ∀ (j : Nat) (o : Oper) cs b, ops[j]? = some o → o.op ≠ .select cs b)
    (hQ : ∀ c a w, Q (.panic c) (a.put oi.dst v) w → Q (.panic c) a w) (hip : i ≠ p) :
    ∀ (f : Nat) (ls : Array Bool) (a : Act) (w : World),
      (∀ j oj, ops[j]? = some oj → j ≠ i → ls.getD j true = false → (∀ e ∈ oj.after, Region.binds md e = true → e.on ≠ i) → oi.apart ops oj = true) →
      i ∈ Region.ready md ops ls → Waits md ops ls i p U → YieldsIf P ops C oi v a → C w →
      Till P md ops Q C p f (ls.setIfInBounds i true) (a.put oi.dst v) w → Till P md ops Q C p (f + 1) ls a w := by
  intro f
  induction f with
  | zero =>
    intro ls a w _ hr _ hy hC H
    refine ⟨fun h => (by rw [h] at hr; cases hr), fun j hj => ?_⟩
    by_cases hji : j = i
    · rw [hji]; exact hy.wpOp hi hC ⟨fun _ => hC, H⟩
    · have := ready_mono hj hji
      rw [H.1] at this; cases this
  | succ f ih =>
    intro ls a w hap hr hW hy hC H
    refine ⟨fun h => (by rw [h] at hr; cases hr), fun j hj => ?_⟩
    by_cases hji : j = i
    · rw [hji]; exact hy.wpOp hi hC ⟨fun _ => hC, H⟩
    · have hjU := hW.other hj hji
      have hjp : j ≠ p := fun e => hjU (by rw [e]; exact hW.at_p)
      obtain ⟨hun, oj, hoj, hall⟩ := mem_ready.1 hj
      have hno : ∀ e ∈ oj.after, Region.binds md e = true → e.on ≠ i := fun e he hb heq => by
        have h1 := hall e he hb
        have h0 := (mem_ready.1 hr).1
        rw [heq] at h1
        rcases Nat.lt_or_ge i ls.size with k | k
        · simp [k] at h0 h1; rw [h0] at h1; cases h1
        · simp [Array.getElem?_eq_none k] at h1
      have two := wpOp_putIf hoj (hap j oj hoj hji hun hno) (fun cs b => hsel i oi cs b hi) (fun cs b => hsel j oj cs b hoj) hQ hy (H.2 j (ready_mono hj hji))
      refine wpOp_mono (fun a' w' h3 => ?_) two
      obtain ⟨hy', hC', H'⟩ := h3
      have hc : C w' := hC' (by rw [getD_set_ne true hjp, getD_set_ne true hip]; exact hW.open_ p hW.at_p)
      refine ⟨fun _ => hc, ih (ls.setIfInBounds j true) a' w' (fun k ok hk hki hkn hkw => hap k ok hk hki ?_ hkw) (ready_mono hr (Ne.symm hji)) (hW.step hjU) hy' hc ?_⟩
      · by_cases e : j = k
        · rw [← e]; exact hun
        · rw [getD_set_ne true e] at hkn; exact hkn
      · rw [Array.setIfInBounds_comm _ _ hji]; exact H'
theorem till_take {i : Nat} {oi : Oper} {v : Value} {f : Nat} {ls : Array Bool} {a : Act} {w : World} (U : List Nat) (hi : ops[i]? = some oi)
    (hs : Region.noSelect ops = true) (hf : Region.free md ops ls i = true) (hr : (Region.ready md ops ls).contains i = true) (hw : (waits md ops ls i p U && !(i == p)) = true)
    (hQ : ∀ c a w, Q (.panic c) (a.put oi.dst v) w → Q (.panic c) a w) (hy : YieldsIf P ops C oi v a) (hC : C w)
    (h : Till P md ops Q C p f (ls.setIfInBounds i true) (a.put oi.dst v) w) : Till P md ops Q C p (f + 1) ls a w := by
  rw [Bool.and_eq_true] at hw
  exact till_first hi (Region.noSelect_spec hs) hQ (by simpa using hw.2) f ls a w (Region.free_spec hi hf) (by simpa using hr) (waits_spec hw.1) hy hC h
/- each of those that may come up comes up -/
def AllTill (P : Program) (md : Region.Mode) (ops : Array Oper) (Q : Exit → Act → World → Prop) (C : World → Prop) (p f : Nat) (ls : Array Bool) (a : Act) (w : World) (rs : List Nat) : Prop :=
  ∀ j ∈ rs, wpOp P ops Q j (fun a' w' => ((ls.setIfInBounds j true).getD p true = false → C w') ∧ Till P md ops Q C p f (ls.setIfInBounds j true) a' w') a w
theorem AllTill.nil {f : Nat} {ls : Array Bool} {a : Act} {w : World} : AllTill P md ops Q C p f ls a w [] := fun _ h => by cases h
theorem AllTill.cons {f : Nat} {ls : Array Bool} {a : Act} {w : World} {j : Nat} {o : Oper} {rs : List Nat} (ho : ops[j]? = some o)
    (h : ∀ K : Act → World → Prop, Hid (∀ a w, ((ls.setIfInBounds j true).getD p true = false → C w) → Till P md ops Q C p f (ls.setIfInBounds j true) a w → K a w) → if Region.wanted o (yielded ops a.tmps) = true then Oper.wp P o a w K Q else K (a.put o.dst undef) w)
    (hs : AllTill P md ops Q C p f ls a w rs) : AllTill P md ops Q C p f ls a w (j :: rs) := fun k hk => by
  rcases List.mem_cons.1 hk with e | hk
  · rw [e]; exact wpOp_step ho (fun K hK => h K (fun a w c t => hK a w ⟨c, t⟩))
  · exact hs k hk
theorem till_ready {rs : List Nat} {f : Nat} {ls : Array Bool} {a : Act} {w : World} (hr : Region.ready md ops ls = rs) (hne : rs ≠ []) (h : AllTill P md ops Q C p f ls a w rs) : Till P md ops Q C p (f + 1) ls a w :=
  ⟨fun h0 => absurd (hr ▸ h0) hne, hr ▸ h⟩
theorem till_done {ls : Array Bool} {a : Act} {w : World} (hr : Region.ready md ops ls = []) (h : Q .normal a w) : ∀ f, Till P md ops Q C p f ls a w
  | 0 => ⟨hr, h⟩
  | _ + 1 => ⟨fun _ => h, by rw [hr]; simp⟩
theorem region_till {id : Nat} {a : Act} {w : World} (C : World → Prop) (p : Nat) (hm : P.follows .mixedOrders = true) (h : Till P .any ops Q C p ops.size (Array.replicate ops.size false) a w.drew) : (Code.region id ops true).wp P Q a w :=
  wp_region_any hm (any_of_till _ _ _ _ h)
/- an append whose run is known -/
theorem step_run {w : World} {o : Oper} {a : Act} {K : Act → World → Prop} {E : Prop} (hgd : o.guard = none) (s x : Operand) (ts : Array TypeId)
    (ho : o.op = .call { callee := .builtin .append, args := #[s, x], argTypes := ts }) (v u v' : Value) (w' : World) (hs : a.eval s = v) (hx : a.eval x = u) (hr : (Builtin.append_ ts o.type #[v, u]).run P w = .ok v' w') (h : K (a.put o.dst v') w') :
    if Region.wanted o (yielded ops a.tmps) = true then Oper.wp P o a w K Q else E := by
  have hw : Region.wanted o (yielded ops a.tmps) = true := by simp [Region.wanted, hgd]
  rw [if_pos hw]
  unfold Oper.wp execOp
  simp only [ho, resolve, invoke, builtin, Sem.run_bind, Sem.run_pure, Result.andThen_ok, List.map_toArray, List.map_cons, List.map_nil, hs, hx, hr]
  exact h
end
end Go.Proofs.YtnkfdnmaocfjnaaDoor
