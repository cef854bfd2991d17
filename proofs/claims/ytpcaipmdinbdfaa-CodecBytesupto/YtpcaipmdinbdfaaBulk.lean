/-
  What the second form's bound gives: a slice among the arguments has at most so many places.
-/
import Derived.Test.YtpcaipmdinbdfaaRows
namespace Go.Proofs.Ytpcaipmdinbdfaa
theorem bulk_pos {H : Type} (d : DataW H) : 0 < Rows.uptoBulk d := by
  match d with
  | .lit b => cases b <;> simp [Rows.uptoBulk]
  | .nil => simp [Rows.uptoBulk]
  | .held _ => simp [Rows.uptoBulk]
  | .ptr _ | .slice _ _ | .agg _ | .iface _ _ | .map _ => simp [Rows.uptoBulk]
theorem bulk_len {H : Type} : ∀ l : List (DataW H), l.length ≤ Rows.uptoBulkAll l
  | [] => Nat.zero_le _
  | x :: r => by have h := bulk_len r; have h0 := bulk_pos x; simp only [Rows.uptoBulkAll, List.length_cons]; omega
theorem bulk_mem {H : Type} {d : DataW H} : ∀ {l : List (DataW H)}, d ∈ l → Rows.uptoBulk d ≤ Rows.uptoBulkAll l
  | x :: r, h => by
    simp only [Rows.uptoBulkAll]
    rcases List.mem_cons.1 h with rfl | h
    · omega
    · have := bulk_mem h; omega
theorem bulk_slice {H : Type} {l : List (DataW H)} {elems spare : List (DataW H)} (hk : Rows.uptoSmall H l = true) (h : DataW.slice elems spare ∈ l) : elems.length + spare.length ≤ 1048576 := by
  have h0 : Rows.uptoBulkAll l ≤ 1048576 := of_decide_eq_true hk
  have h1 := bulk_mem h
  simp only [Rows.uptoBulk] at h1
  have := bulk_len elems
  have := bulk_len spare
  omega
end Go.Proofs.Ytpcaipmdinbdfaa
