/-
  Objects in memory: a table of them with its oracle; what stays of it when other memory turns.
-/
import Derived.Test.YtgcmompldcnhlaaDoorIMath
import Derived.Test.YtgcmompldcnhlaaDoorKTwo
import Derived.Test.YtgcmompldcnhlaaDoorKAlike
import Derived.Test.YtgcmompldcnhlaaDoorKRead
namespace Go.Proofs.YtgcmompldcnhlaaDoor
open Go.RowKit
def erN (k : Int) : Value := if k = 0 then .nilIface else .iface 60 (.int .i64 k)
theorem erN_zero : erN 0 = .nilIface := rfl
theorem erN_not {k : Int} (h : k ≠ 0) : erN k = .iface 60 (.int .i64 k) := if_neg h
def Cp.val (x : Cp) : Value := .agg #[.int .u64 (x.p : Int), .int .u32 (x.o : Int), .int .u8 (x.r : Int), .int .u64 (x.c : Int)]
theorem set_get (C : Array Value) (i j : Nat) (v : Value) (hi : i < C.size) : (C.setIfInBounds i v)[j]? = if j = i then some v else C[j]? := by
  rw [Array.getElem?_setIfInBounds]
  by_cases e : i = j
  · subst e; simp [hi]
  · rw [if_neg e, if_neg (fun x => e x.symm)]
structure TbC (C : Array Value) (p go : Nat) (T : Nat → Ob) : Prop where
  size : C.size = 258
  c0 : C[0]? = some (.int .u64 (p : Int))
  c1 : C[1]? = some (.pointer (some ⟨go, 0, none⟩))
  c : ∀ j f, j < 64 → f < 4 → C[2 + j * 4 + f]? = (T j).cells[f]?
structure Tb (w : World) (g p go : Nat) (T : Nat → Ob) : Prop where
  box : ∃ C, w.heap[g]? = some (.cells C 74 (0, 0)) ∧ TbC C p go T
  ok : ∀ j, (T j).ok
variable {w w' : World} {g p go : Nat} {T : Nat → Ob}
theorem Tb.lt (x : Tb w g p go T) : g < w.heap.size := by obtain ⟨C, h, _⟩ := x.box; exact lt_of_heap h
theorem Tb.c0 (x : Tb w g p go T) : w.cell? ⟨g, 0, none⟩ = some (.int .u64 (p : Int)) := by
  obtain ⟨C, h, c⟩ := x.box; rw [cell_of_row w g _ _ _ _ h]; exact c.c0
theorem Tb.c1 (x : Tb w g p go T) : w.cell? ⟨g, 1, none⟩ = some (.pointer (some ⟨go, 0, none⟩)) := by
  obtain ⟨C, h, c⟩ := x.box; rw [cell_of_row w g _ _ _ _ h]; exact c.c1
theorem Tb.at (x : Tb w g p go T) (k : Nat) (hk : k < 64) (s e : Nat) (v : Int) (l : Nat) (hy : T k = ⟨s, e, v, l⟩) :
    w.cell? ⟨g, 2 + k * 4, none⟩ = some (.int .u64 (s : Int)) ∧ w.cell? ⟨g, 2 + k * 4 + 1, none⟩ = some (.int .i64 (e : Int)) ∧ w.cell? ⟨g, 2 + k * 4 + 2, none⟩ = some (.int .i64 v) ∧ w.cell? ⟨g, 2 + k * 4 + 3, none⟩ = some (.int .i64 (l : Int)) := by
  obtain ⟨C, h, c⟩ := x.box
  have e : ∀ f, f < 4 → C[2 + k * 4 + f]? = (T k).cells[f]? := fun f hf => c.c k f hk hf
  rw [hy] at e
  refine ⟨?_, ?_, ?_, ?_⟩ <;> rw [cell_of_row w g _ _ _ _ h]
  · exact e 0 (by omega)
  · exact e 1 (by omega)
  · exact e 2 (by omega)
  · exact e 3 (by omega)
theorem Tb.z (x : Tb w g p go T) (j : Nat) : w.frozen? ⟨g, j, none⟩ = false := by
  obtain ⟨C, h, c⟩ := x.box; exact frozen_of_row w g j _ _ h
theorem Tb.foot {S : Nat → Prop} (x : Tb w g p go T) (f : Foot S w w') (hS : ¬ S g) : Tb w' g p go T := by
  obtain ⟨C, h, c⟩ := x.box
  exact ⟨⟨C, (f.block g (lt_of_heap h) hS).trans h, c⟩, x.ok⟩
theorem Tb.grow (x : Tb w g p go T) (b : Below w.heap.size w w') : Tb w' g p go T := x.foot (below_foot (fun _ => False) b) id
theorem Tb.drewN (x : Tb w g p go T) (q : Nat) : Tb (w.drewN q) g p go T := ⟨x.box, x.ok⟩
/- a cell of an object is laid anew -/
theorem TbC.set {C : Array Value} (c : TbC C p go T) (k i : Nat) (hk : k < 64) (hi : i < 4) (v : Value) (y : Ob) (hy : ∀ f, f < 4 → y.cells[f]? = if f = i then some v else (T k).cells[f]?) : TbC (C.setIfInBounds (2 + k * 4 + i) v) p go (updO T k y) := by
  have hs := c.size
  have get := fun j => set_get C (2 + k * 4 + i) j v (by omega)
  refine ⟨by simp [hs], ?_, ?_, fun j f hj hf => ?_⟩
  · rw [get, if_neg (by omega)]; exact c.c0
  · rw [get, if_neg (by omega)]; exact c.c1
  · rw [get]
    by_cases e : j = k
    · subst e
      rw [updO_same, hy f hf]
      by_cases e2 : f = i
      · subst e2; rw [if_pos rfl, if_pos rfl]
      · rw [if_neg (by omega), if_neg e2]; exact c.c j f hj hf
    · rw [updO_other _ _ e, if_neg (by omega)]; exact c.c j f hj hf
theorem Tb.set (x : Tb w g p go T) (k i : Nat) (hk : k < 64) (hi : i < 4) (v : Value) (y : Ob) (ho : y.ok) (hy : ∀ f, f < 4 → y.cells[f]? = if f = i then some v else (T k).cells[f]?) : Tb (w.setCell ⟨g, 2 + k * 4 + i, none⟩ v) g p go (updO T k y) := by
  obtain ⟨C, h, c⟩ := x.box
  refine ⟨⟨_, heap_setCell_same w g (2 + k * 4 + i) _ _ v h, c.set k i hk hi v y hy⟩, fun j => ?_⟩
  by_cases e : j = k
  · subst e; rw [updO_same]; exact ho
  · rw [updO_other _ _ e]; exact x.ok j
/- an object is laid: four cells -/
def lay4 (w : World) (g k : Nat) (y : Ob) : World := (((w.setCell ⟨g, 2 + k * 4, none⟩ (.int .u64 (y.s : Int))).setCell ⟨g, 2 + k * 4 + 1, none⟩ (.int .i64 (y.e : Int))).setCell ⟨g, 2 + k * 4 + 2, none⟩ (.int .i64 y.v)).setCell ⟨g, 2 + k * 4 + 3, none⟩ (.int .i64 (y.l : Int))
theorem updO_updO (T : Nat → Ob) (k : Nat) (x y : Ob) : updO (updO T k x) k y = updO T k y := by
  funext j; unfold updO; split <;> rfl
theorem Tb.lay (x : Tb w g p go T) (k : Nat) (hk : k < 64) (y : Ob) (ho : y.ok) : Tb (lay4 w g k y) g p go (updO T k y) := by
  obtain ⟨s, e, v, l⟩ := y
  rcases hT : T k with ⟨s0, e0, v0, l0⟩
  have o0 := x.ok k
  rw [hT] at o0
  have h1 := x.set k 0 hk (by omega) (.int .u64 (s : Int)) ⟨s, e0, v0, l0⟩ ⟨ho.1, o0.2⟩ (fun f hf => by rw [hT]; match f, hf with | 0, _ | 1, _ | 2, _ | 3, _ => rfl)
  have h2 := h1.set k 1 hk (by omega) (.int .i64 (e : Int)) ⟨s, e, v0, l0⟩ ⟨ho.1, o0.2⟩ (fun f hf => by rw [updO_same]; match f, hf with | 0, _ | 1, _ | 2, _ | 3, _ => rfl)
  have h3 := h2.set k 2 hk (by omega) (.int .i64 v) ⟨s, e, v, l0⟩ ⟨ho.1, o0.2⟩ (fun f hf => by rw [updO_same]; match f, hf with | 0, _ | 1, _ | 2, _ | 3, _ => rfl)
  have h4 := h3.set k 3 hk (by omega) (.int .i64 (l : Int)) ⟨s, e, v, l⟩ ho (fun f hf => by rw [updO_same]; match f, hf with | 0, _ | 1, _ | 2, _ | 3, _ => rfl)
  simp only [updO_updO] at h4
  exact h4
theorem foot_lay4 (w : World) (g k : Nat) (y : Ob) : Foot (fun j => j = g) w (lay4 w g k y) := by
  unfold lay4
  have t : ∀ {a b : World}, Foot (fun j => j = g) a b → ∀ (o : Nat) (v : Value), Foot (fun j => j = g) a (b.setCell ⟨g, o, none⟩ v) := fun h o v => h.trans (foot_set _ ⟨g, o, none⟩ v) (fun _ e => .inl e)
  exact t (t (t (t (Foot.refl _ _) _ _) _ _) _ _) _ _
end Go.Proofs.YtgcmompldcnhlaaDoor
