/-
  The walk of RunqTurns.
-/
import Derived.Test.YtnfpldndnmbplaaQRead
namespace Go.Proofs.Ytnfpldndnmbplaa
open Go.RowKit
def seqL (k : Nat) : List Int := (List.range k).map (fun j : Nat => 7 * (j : Int))
theorem seqL_len (k : Nat) : (seqL k).length = k := by simp [seqL]
theorem seqL_succ (k : Nat) : seqL (k + 1) = seqL k ++ [7 * (k : Int)] := by simp [seqL, List.range_succ]
theorem seqL_not (k : Nat) : 7 * (k : Int) ∉ seqL k := by
  unfold seqL
  intro h
  obtain ⟨j, hj, e⟩ := List.mem_map.1 h
  have := List.mem_range.1 hj
  omega
theorem seqL_nodup (k : Nat) : (seqL k).Nodup := by
  induction k with
  | zero => simp [seqL]
  | succ k ih =>
    rw [seqL_succ]
    refine List.nodup_append.2 ⟨ih, by simp, fun a ha b hb e => ?_⟩
    rw [List.mem_singleton.1 hb] at e
    rw [e] at ha
    exact seqL_not k ha
def rotL (L : List Int) (k : Nat) : List Int := L.drop k ++ L.take k
theorem rotL_cons (L : List Int) (k : Nat) (h : k < L.length) : rotL L k = L.getD k 0 :: (L.drop (k + 1) ++ L.take k) := by
  unfold rotL
  rw [List.drop_eq_getElem_cons h, List.getD_eq_getElem?_getD, List.getElem?_eq_getElem h]; rfl
theorem rotL_len (L : List Int) (k : Nat) (h : k ≤ L.length) : (rotL L k).length = L.length := by unfold rotL; simp; omega
theorem place0 (n : Nat) : placeF 0 n = 0 := by unfold placeF; simp
theorem rot_x (L : List Int) (k : Nat) (h : k < L.length) : takeX (rotL L k) 0 = L.getD k 0 := by
  unfold takeX; rw [place0, rotL_cons L k h]; rfl
theorem rot_r (L : List Int) (k : Nat) (h : k < L.length) : takeL (rotL L k) 0 = L.drop (k + 1) ++ L.take k := by
  unfold takeL; rw [place0, rotL_cons L k h]; rfl
theorem rot_e (L : List Int) (k : Nat) (h : k < L.length) : takeE (rotL L k) = 0 := by
  unfold takeE; rw [rotL_len L k (by omega), if_neg (by omega)]
theorem rot_p (L : List Int) (k : Nat) (h : k < L.length) (hl : L.length ≤ 64) (hd : L.Nodup) : pushE (L.drop (k + 1) ++ L.take k) (L.getD k 0) = 0 := by
  refine pushE_zero (fun hm => ?_) (by simp; omega)
  have e : L.getD k 0 = L[k] := by rw [List.getD_eq_getElem?_getD, List.getElem?_eq_getElem h]; rfl
  rw [e] at hm
  rcases List.mem_append.1 hm with hm | hm
  · obtain ⟨j, hj, he⟩ := List.mem_iff_getElem.1 hm
    rw [List.getElem_drop] at he
    exact (List.pairwise_iff_getElem.1 hd) k (k + 1 + j) h (by simp at hj; omega) (by omega) he.symm
  · obtain ⟨j, hj, he⟩ := List.mem_iff_getElem.1 hm
    rw [List.getElem_take] at he
    simp at hj
    exact (List.pairwise_iff_getElem.1 hd) j k (by omega) h (by omega) he
theorem rot_q (L : List Int) (k : Nat) (h : k < L.length) (hl : L.length ≤ 64) (hd : L.Nodup) : pushL (L.drop (k + 1) ++ L.take k) (L.getD k 0) = rotL L (k + 1) := by
  rw [pushL_zero (rot_p L k h hl hd)]
  unfold rotL
  rw [takeI_snoc L k h, List.append_assoc]
theorem rot_end (L : List Int) : rotL L L.length = L := by unfold rotL; simp
/- append's second type, where both are slices -/
theorem app_types {P : Program} {t u ty e e' : TypeId} (ht : P.underlying t = some (.slice e)) (hu : P.underlying u = some (.slice e')) {i : TypeInfo} (hi : P.info? e = some i) {ao : Option Addr} {n c : Nat} {x : Value} {w : World} : (Builtin.append_ #[t, u] ty #[.slice ao n c, x]).run P w = (Builtin.append_ #[t, t] ty #[.slice ao n c, x]).run P w := by
  simp [Builtin.append_, run_underlying ht, run_underlying hu, sizeOf, typeInfo, hi]
def FillRel (w : World) (m gk : Nat) (vq vk : Value) (wr : World) : Prop := ∃ (k : Nat) (qo : Option Addr) (qc : Nat), k + gk = m ∧ vk = .int .i64 (k : Int) ∧ vq = .slice qo k qc ∧ Nums wr qo k qc (seqL k) ∧ Below w.heap.size w wr
def TurnRel (w : World) (L : List Int) (m gk : Nat) (vq vi : Value) (wr : World) : Prop := ∃ (k : Nat) (qo : Option Addr) (qc : Nat), k + gk = m ∧ vi = .int .i64 (k : Int) ∧ vq = .slice qo m qc ∧ Nums wr qo m qc (rotL L k) ∧ Below w.heap.size w wr
end Go.Proofs.Ytnfpldndnmbplaa
