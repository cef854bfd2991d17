/-
  What the statements' awake and Same answer, as contracts; what cutting and joining make of each other.
-/
import Derived.Test.YtdfakeddhoolcaaFJoin
import Derived.Lib.SlBytesConst
namespace Go.Proofs.Ytdfakeddhoolcaa
open Go.RowKit
/- what is cut is joined -/
theorem spl_may {f t i : Int} {s : Nat} {l : List UInt8} {c : Nat} {L : List Pa} {w : World} {ao : Option Addr} {n cap : Nat} (h : Spl f t i s l c L) (hp : Pks w ao n cap L) (hs2 : s ≤ 32768) (hc : c ≤ 256) (j : Nat) (hj : j < c) : (L.getD j Pa.zero).may = true := by
  obtain ⟨_, _, _, h4, h5, h6⟩ := h.2 j hj
  have hb := (hp.bts j (by rw [hp.len, h.1]; exact hj)).1
  rw [h6, pc_len] at hb
  exact (may_iff _ _ _).2 ⟨by omega, by omega, by omega, by omega, by omega⟩
theorem okL_of {n : Nat} {q : Pa} : ∀ (L : List Pa) (k : Nat), (∀ j, j < L.length → okK n q (k + j) (L.getD j Pa.zero) = true) → okL n q k L = true
  | [], _, _ => rfl
  | p :: r, k, h => by
    rw [okL, Bool.and_eq_true]
    refine ⟨h 0 (by simp), okL_of r (k + 1) fun j hj => ?_⟩
    have := h (j + 1) (by simpa using hj)
    rw [show k + 1 + j = k + (j + 1) by omega]; exact this
theorem spl_join {f t i : Int} {s : Nat} {l : List UInt8} {c : Nat} {L : List Pa} {w : World} {ao : Option Addr} {n cap : Nat} (h : Spl f t i s l c L) (hp : Pks w ao n cap L) (hs2 : s ≤ 32768) (hc : c ≤ 256) (hc0 : 1 ≤ c) : joinB L = true := by
  unfold joinB
  rw [Bool.and_eq_true]
  refine ⟨by cases L with | nil => (have := h.1; simp at this; omega) | cons x r => rfl, okL_of L 0 fun j hj => ?_⟩
  have hjc : j < c := by rw [← h.1]; exact hj
  obtain ⟨h1, h2, h3, h4, h5, h6⟩ := h.2 j hjc
  obtain ⟨k1, k2, k3, k4, k5, k6⟩ := h.2 0 (by omega)
  unfold okK Pa.with
  rw [spl_may h hp hs2 hc j hjc, h1, h2, h3, h4, h5, k1, k2, k3, h.1]
  simp
theorem map_getK (L : List Pa) : (List.range L.length).map (fun j => (L.getD j Pa.zero).l) = L.map Pa.l := by
  apply List.ext_getElem?
  intro j
  by_cases hj : j < L.length
  · simp [List.getElem?_range hj, List.getElem?_eq_getElem hj, List.getD_eq_getElem?_getD]
  · rw [List.getElem?_eq_none (by simp; omega), List.getElem?_eq_none (by simp; omega)]
theorem spl_bytes {f t i : Int} {s : Nat} {l : List UInt8} {L : List Pa} (h : Spl f t i s l (cntF l.length s) L) (hs : 1 ≤ s) : joinL L = l := by
  have e : joinL L = (L.map Pa.l).flatten := by unfold joinL; rw [List.flatMap_def]
  rw [e, ← map_getK, ← List.flatMap_def]
  refine Eq.trans ?_ (pcs_join l s hs)
  rw [h.1]
  have hm : ∀ j ∈ List.range (cntF l.length s), (L.getD j Pa.zero).l = pcF l s j := fun j hj => (h.2 j (List.mem_range.1 hj)).2.2.2.2.2
  rw [List.flatMap_def, List.flatMap_def, List.map_congr_left hm]
theorem str_list (l : List UInt8) : (str l).toList = l := by
  rw [str, ByteArray.toList_eq]
/- a slice of packets without the first -/
theorem Try.sizePk (w : World) : (sizeOf 35).run Try.prog w = .ok 6 w := by kernel_rfl
theorem cut_pks (w : World) (ao : Option Addr) (n cap k : Nat) (h : k ≤ n) : (Instr.slice 41 (.slice ao n cap) (some (.int .i64 (k : Int))) none none).run Try.prog w = .ok (.slice (if cap = k then ao else ao.map (·.add (k * 6))) (n - k) (cap - k)) w := by
  have ht : Try.prog.underlying 41 = some (.slice (Try.prog.elem 41)) := by simp [Program.elem, Try.underlying41]
  have he : Try.prog.elem 41 = 35 := by simp [Program.elem, Try.underlying41]
  rw [run_slice_l (P := Try.prog) w 41 ao n cap ht .i64 (k : Int) (by omega) (by omega), he, Try.sizePk]
  simp [Result.andThen, sliced]
theorem cellsK_drop (L : List Pa) (k : Nat) : (cellsK L).drop (k * 6) = cellsK (L.drop k) := by
  induction L generalizing k with
  | nil => simp [cellsK]
  | cons x r ih =>
    cases k with
    | zero => simp
    | succ k =>
      show (x.cells ++ cellsK r).drop ((k + 1) * 6) = cellsK (r.drop k)
      rw [List.drop_append, List.drop_eq_nil_of_le (by show 6 ≤ _; omega), List.nil_append, show (k + 1) * 6 - x.cells.length = k * 6 from by show _ - 6 = _; omega, ih]
theorem Pks.tail {w : World} {ao : Option Addr} {n cap : Nat} {L : List Pa} (h : Pks w ao n cap L) (k : Nat) (hk : k ≤ n) : Pks w (if cap = k then ao else ao.map (·.add (k * 6))) (n - k) (cap - k) (L.drop k) := by
  have hl := h.len
  have h1 := h.1.2.1
  have h2 := h.1.2.2.1
  refine ⟨⟨by rw [cellsK_len, List.length_drop, hl], by omega, by omega, fun e => ?_, fun ad e j u hu => ?_⟩, fun x hx => h.2 x (List.mem_of_mem_drop hx)⟩
  · split at e
    · omega
    · have := h.1.2.2.2.1 (by cases ao <;> simp_all); omega
  · rw [← cellsK_drop, List.getElem?_drop] at hu
    have hj : k * 6 + j < (cellsK L).length := (List.getElem?_eq_some_iff.1 hu).1
    rw [cellsK_len] at hj
    rw [if_neg (by omega)] at e
    obtain ⟨a0, rfl, rfl⟩ := Option.map_eq_some_iff.1 e
    rw [add_add]; exact h.1.2.2.2.2 a0 rfl _ u hu
def abc : List UInt8 := [97, 98, 99]
theorem abc_cnt : cntF abc.length 2 = 2 := by decide
theorem abc_cells : (cellsB abc).toArray = #[.int .u8 97, .int .u8 98, .int .u8 99] := rfl
end Go.Proofs.Ytdfakeddhoolcaa
