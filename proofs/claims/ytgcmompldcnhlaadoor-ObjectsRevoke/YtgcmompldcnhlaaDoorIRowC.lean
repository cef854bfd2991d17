/-
  An own row of capabilities beside a table.
-/
import Derived.Test.YtgcmompldcnhlaaDoorIAns
namespace Go.Proofs.YtgcmompldcnhlaaDoor
open Go.RowKit
variable {w0 w w1 w2 w' : World} {g p : Nat} {ws : List Nat} {t : Nat} {es : List Ent} {T : Nat → Ob}
def Cp.cells (c : Cp) : List Value := [.int .u64 (c.p : Int), .int .u32 (c.o : Int), .int .u8 (c.r : Int), .int .u64 (c.c : Int)]
def cellsC (L : List Cp) : List Value := L.flatMap Cp.cells
theorem cellsC_snoc (L : List Cp) (c : Cp) : cellsC (L ++ [c]) = cellsC L ++ c.cells := by simp [cellsC]
theorem cellsC_get (L : List Cp) (k f : Nat) (h : k < L.length) (hf : f < 4) : (cellsC L)[k * 4 + f]? = (L.getD k Cp.zero).cells[f]? := by
  induction L generalizing k with
  | nil => simp at h
  | cons x r ih =>
    simp only [cellsC, List.flatMap_cons] at ih ⊢
    cases k with
    | zero => rw [List.getElem?_append_left (by show _ < 4; omega)]; simp
    | succ k =>
      rw [List.getElem?_append_right (by show 4 ≤ _; omega)]
      show (List.flatMap Cp.cells r)[(k + 1) * 4 + f - 4]? = _
      rw [show (k + 1) * 4 + f - 4 = k * 4 + f from by omega, ih k (by simpa using h)]
      rfl
/- an element, where it lies -/
theorem owns_cap {B n : Nat} {v : Value} {L : List Cp} (h : w.ownsRow B 49 4 v n (cellsC L)) (hn : n = L.length) (k : Nat) (hk : k < n) (p o r c : Nat) (hc : L.getD k Cp.zero = ⟨p, o, r, c⟩) :
    ∃ b cap, v = .slice (some ⟨b, 0, none⟩) n cap ∧ n ≤ cap ∧ cap ≤ maxLen ∧ w.cell? ⟨b, k * 4, none⟩ = some (.int .u64 (p : Int)) ∧ w.cell? ⟨b, k * 4 + 1, none⟩ = some (.int .u32 (o : Int)) ∧ w.cell? ⟨b, k * 4 + 2, none⟩ = some (.int .u8 (r : Int)) ∧ w.cell? ⟨b, k * 4 + 3, none⟩ = some (.int .u64 (c : Int)) := by
  have get := fun f hf => cellsC_get L k f (by omega) hf
  rw [hc] at get
  rcases h.2 with ⟨rfl, rfl⟩ | ⟨b, cap, cur, rfl, h1, h2, h3, h4, h5, h6⟩
  · omega
  · refine ⟨b, cap, rfl, h3, h4, ?_, ?_, ?_, ?_⟩
    · rw [← add0]; exact h.cells (g := b) rfl (k * 4) _ (get 0 (by omega))
    · rw [← add0]; exact h.cells (g := b) rfl (k * 4 + 1) _ (get 1 (by omega))
    · rw [← add0]; exact h.cells (g := b) rfl (k * 4 + 2) _ (get 2 (by omega))
    · rw [← add0]; exact h.cells (g := b) rfl (k * 4 + 3) _ (get 3 (by omega))
theorem owns_form {B n : Nat} {v : Value} {L : List Cp} (h : w.ownsRow B 49 4 v n (cellsC L)) : ∃ ao cap, v = .slice ao n cap ∧ n ≤ cap ∧ cap ≤ maxLen := by
  obtain ⟨ao, cap, e, h1, h2, h3, _⟩ := owns_lies h
  exact ⟨ao, cap, e, h2, h3⟩
theorem Tryd.infoC : (Tryd.prog.info? 49).map (fun i => (i.zero, i.size, i.bytes)) = some (some (.agg #[.int .u64 0, .int .u32 0, .int .u8 0, .int .u64 0]), 4, 24) := by kernel_rfl
theorem app_cap {B n : Nat} {v : Value} {L : List Cp} (p o r c : Nat) (h : w.ownsRow B 49 4 v n (cellsC L)) (hn : n ≤ 5000000000000) (hB : B ≤ w.heap.size) :
    ∃ v' w', (Builtin.append_ #[38, 38] 38 #[v, .slice (some ⟨w.heap.size, 0, none⟩) 1 1]).run Tryd.prog (w.alloc (.cells #[.int .u64 (p : Int), .int .u32 (o : Int), .int .u8 (r : Int), .int .u64 (c : Int)] 49)) = .ok v' w' ∧ w'.ownsRow B 49 4 v' (n + 1) (cellsC (L ++ [⟨p, o, r, c⟩])) ∧ Foot (fun k => v.ownBlock = some k) w w' ∧ Moved w v v' := by
  obtain ⟨v', w', h1, h2, h3, h4⟩ := app_elem (ty := 38) #[.int .u64 (p : Int), .int .u32 (o : Int), .int .u8 (r : Int), .int .u64 (c : Int)] Tryd.underlying38 Tryd.infoC rfl (by omega) rfl (by intro u hu; simp at hu; rcases hu with rfl | rfl | rfl | rfl <;> rfl) (by omega) (by unfold maxLen; omega) h hB
  exact ⟨v', w', h1, by rw [cellsC_snoc]; exact h2, h3, h4⟩
theorem Sd.row (x : Sd w0 w g p ws t es T) {B n : Nat} {v : Value} {xs : List Value} (h : w.ownsRow B 49 4 v n xs) (hB : w0.heap.size ≤ B) (f : Foot (fun k => v.ownBlock = some k) w w') : Sd w0 w' g p ws t es T := by
  refine x.off f fun b e => ?_
  obtain ⟨cur, h1, h2⟩ := owns_block h e
  exact ⟨Nat.le_trans hB h2, .inr ⟨cur, _, h1, cap_odd, by decide⟩⟩
theorem owns_grow {B n : Nat} {v : Value} {e : TypeId} {sz : Nat} {xs : List Value} (h : w.ownsRow B e sz v n xs) (b : Below w.heap.size w w') : w'.ownsRow B e sz v n xs := owns_foot h (below_foot (fun _ => False) b) (fun _ _ e => e)
end Go.Proofs.YtgcmompldcnhlaaDoor
