/-
  A slice of ints in memory; pieces of it; what slices.Grow of none answers.
-/
import Derived.Test.YtifmeljdkohkkaaDoorQMath
namespace Go.Proofs.YtifmeljdkohkkaaDoor
open Go.RowKit
def cellsI (L : List Int) : List Value := L.map (Value.int .i64)
theorem cellsI_len (L : List Int) : (cellsI L).length = L.length := by simp [cellsI]
theorem cellsI_append (a b : List Int) : cellsI (a ++ b) = cellsI a ++ cellsI b := by simp [cellsI]
theorem cellsI_one (L : List Int) : ∀ u ∈ cellsI L, u.oneCell' = true := by
  intro u hu
  obtain ⟨x, _, rfl⟩ := List.mem_map.1 hu
  rfl
theorem cellsI_get (L : List Int) (j : Nat) (h : j < L.length) : (cellsI L)[j]? = some (.int .i64 (L.getD j 0)) := by
  unfold cellsI; rw [List.getElem?_map, getI L j h]; rfl
def Nums (w : World) (ao : Option Addr) (n cap : Nat) (L : List Int) : Prop := Lies 1 w ao n cap (cellsI L)
theorem Nums.len {w : World} {ao : Option Addr} {n cap : Nat} {L : List Int} (h : Nums w ao n cap L) : n = L.length := by have := h.1; rw [cellsI_len] at this; omega
theorem Nums.carry {w w' : World} {ao : Option Addr} {n cap : Nat} {L : List Int} (h : Nums w ao n cap L) (b : Below w.heap.size w w') : Nums w' ao n cap L := Lies.carry h b (Nat.le_refl _)
theorem Nums.over {w w' : World} {ao : Option Addr} {n cap B : Nat} {L : List Int} (h : Nums w ao n cap L) (b : Below B w w') (hB : w.heap.size ≤ B) : Nums w' ao n cap L := Lies.carry h b hB
theorem Nums.drewN {w : World} {ao : Option Addr} {n cap : Nat} {L : List Int} (h : Nums w ao n cap L) (q : Nat) : Nums (w.drewN q) ao n cap L := h
theorem nums_nil (w : World) : Nums w none 0 0 [] := lies_nil 1 w
theorem Nums.elem {w : World} {ad : Addr} {n cap : Nat} {L : List Int} (h : Nums w (some ad) n cap L) (k : Nat) (hk : k < n) : w.cell? (ad.add k) = some (.int .i64 (L.getD k 0)) :=
  h.2.2.2.2 ad rfl k _ (cellsI_get L k (by have := h.len; omega))
theorem Nums.there {w : World} {ao : Option Addr} {n cap : Nat} {L : List Int} (h : Nums w ao n cap L) {k : Nat} (hk : k < n) : ∃ ad, ao = some ad := by
  cases ao with
  | none => have := h.2.2.2.1 rfl; have := h.2.1; omega
  | some ad => exact ⟨ad, rfl⟩
theorem Nums.head {w : World} {ao : Option Addr} {n cap : Nat} {L : List Int} (h : Nums w ao n cap L) (k : Nat) (hk : k ≤ n) : Nums w ao k cap (L.take k) := by
  have hl := h.len
  refine ⟨?_, Nat.le_trans hk h.2.1, h.2.2.1, h.2.2.2.1, fun ad e j u hu => h.2.2.2.2 ad e j u ?_⟩
  · rw [cellsI_len, List.length_take]; omega
  · unfold cellsI at hu ⊢
    rw [List.map_take, List.getElem?_take] at hu
    split at hu
    · exact hu
    · simp at hu
def tailA (ao : Option Addr) (k cap : Nat) : Option Addr := if cap = k then ao else ao.map (·.add k)
theorem Nums.tail {w : World} {ao : Option Addr} {n cap : Nat} {L : List Int} (h : Nums w ao n cap L) (k : Nat) (hk : k ≤ n) : Nums w (tailA ao k cap) (n - k) (cap - k) (L.drop k) := by
  have hl := h.len
  have h2 := h.2.1
  have h3 := h.2.2.1
  refine ⟨by rw [cellsI_len, List.length_drop, hl]; omega, by omega, by omega, fun e => ?_, fun ad e j u hu => ?_⟩
  · unfold tailA at e
    split at e
    · omega
    · have := h.2.2.2.1 (by cases ao <;> simp_all); omega
  · have hj : j < (cellsI (L.drop k)).length := by
      rcases Nat.lt_or_ge j (cellsI (L.drop k)).length with hlt | hge
      · exact hlt
      · rw [List.getElem?_eq_none hge] at hu; cases hu
    rw [cellsI_len, List.length_drop] at hj
    unfold tailA at e
    rw [if_neg (by omega)] at e
    obtain ⟨a0, rfl, rfl⟩ := Option.map_eq_some_iff.1 e
    unfold cellsI at hu
    rw [List.map_drop, List.getElem?_drop] at hu
    rw [add_add]
    exact h.2.2.2.2 a0 rfl _ u hu
theorem Tryd.infoN : (Tryd.prog.info? 3).map (fun i => (i.zero, i.size, i.bytes)) = some (some (.int .i64 0), 1, 8) := by kernel_rfl
theorem Tryd.sizeOfN (w : World) : (sizeOf 3).run Tryd.prog w = .ok 1 w := by kernel_rfl
theorem Tryd.elemN : Tryd.prog.elem 28 = 3 := by simp [Program.elem, Tryd.underlying28]
theorem cut_tail_at {t : TypeId} (ht : Tryd.prog.underlying t = some (.slice 3)) (w : World) (ao : Option Addr) (n cap k : Nat) (h : k ≤ n) : (Instr.slice t (.slice ao n cap) (some (.int .i64 (k : Int))) none none).run Tryd.prog w = .ok (.slice (tailA ao k cap) (n - k) (cap - k)) w := by
  have he : Tryd.prog.elem t = 3 := by simp [Program.elem, ht]
  rw [run_slice_l (P := Tryd.prog) w t ao n cap (by rw [he]; exact ht) .i64 (k : Int) (by omega) (by omega), he, Tryd.sizeOfN]
  simp [Result.andThen, sliced, tailA]
theorem cut_head_at {t : TypeId} (ht : Tryd.prog.underlying t = some (.slice 3)) (w : World) (ao : Option Addr) (n cap k : Nat) (h : k ≤ cap) : (Instr.slice t (.slice ao n cap) none (some (.int .i64 (k : Int))) none).run Tryd.prog w = .ok (.slice ao k cap) w := by
  have he : Tryd.prog.elem t = 3 := by simp [Program.elem, ht]
  rw [run_slice_h (P := Tryd.prog) w t ao n cap (by rw [he]; exact ht) .i64 (k : Int) (by omega) (by omega), he, Tryd.sizeOfN]
  have hz : ao.map (fun x => x.add 0) = ao := by cases ao <;> simp [Addr.add]
  simp [Result.andThen, sliced, hz]
/- append(own row of ints, a slice of ints...) -/
theorem app_own {t ty : TypeId} (ht : Tryd.prog.underlying t = some (.slice 3)) {B n m c : Nat} {w : World} {v : Value} {L M : List Int} {ao : Option Addr} (hown : w.ownsRow B 3 1 v n (cellsI L)) (hM : Nums w ao m c M) (hn : n + m ≤ 17592186044416) (hB : B ≤ w.heap.size) :
    ∃ v' w', (Builtin.append_ #[t, t] ty #[v, .slice ao m c]).run Tryd.prog w = .ok v' w' ∧ w'.ownsRow B 3 1 v' (n + m) (cellsI (L ++ M)) ∧ w.grownBy w' v.ownBlock := by
  obtain ⟨i0, hi0, hz0, hz1, hz2⟩ := info_parts Tryd.infoN
  cases ao with
  | none =>
    obtain rfl : c = 0 := hM.2.2.2.1 rfl
    obtain rfl : m = 0 := by have := hM.2.1; omega
    obtain rfl : M = [] := List.eq_nil_of_length_eq_zero hM.len.symm
    obtain ⟨a, cap, rfl, hl⟩ := owns_lies hown
    refine ⟨_, _, app_none (ty := ty) w ht hi0 a n cap hl.2.1 hl.2.2.2.1, by rw [List.append_nil]; exact hown, ⟨rfl, rfl, rfl, Nat.le_refl _, fun _ _ _ => rfl⟩⟩
  | some ad =>
    obtain ⟨v', w3, hr, hown3, hgr3, _, _⟩ := run_append_own_at (P := Tryd.prog) w B t ty 3 i0 _ 1 8 ht hi0 hz0 hz1 hz2 rfl (by omega) v n _ hown ad m c (cellsI M) hM.1 (hM.2.2.2.2 ad rfl) (cellsI_one M) (by unfold maxLen; omega) (by omega) hB
    exact ⟨v', w3, hr, by rw [cellsI_append]; exact hown3, hgr3⟩
end Go.Proofs.YtifmeljdkohkkaaDoor
