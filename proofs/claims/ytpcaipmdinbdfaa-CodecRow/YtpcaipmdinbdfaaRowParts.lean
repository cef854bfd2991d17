/-
  What CodecRow asks besides: the numbers of a slice of uint64, their bytes one behind the other, what is owned and what is not written.
-/
import Derived.Test.YtpcaipmdinbdfaaMore
import Derived.WalkKit
namespace Go.Proofs.Ytpcaipmdinbdfaa
open Go.RowKit
theorem Try.info3 : (Try.prog.info? 3).map (fun i => (i.zero, i.size, i.bytes)) = some (some (.int .i64 0), 1, 8) := by kernel_rfl
/- the numbers of a slice of uint64 that came in -/
def U64s (w : World) (ao : Option Addr) (n cap : Nat) (us : List Nat) : Prop :=
  n = us.length ∧ n ≤ cap ∧ cap ≤ maxLen ∧ (ao = none → cap = 0) ∧ (∀ ad, ao = some ad → ∀ j, j < us.length → w.cell? (ad.add j) = some (.int .u64 (us.getD j 0 : Nat))) ∧ ∀ j, us.getD j 0 ≤ 18446744073709551615
theorem U64s.carry {w w' : World} {ao : Option Addr} {n cap : Nat} {l : List Nat} (h : U64s w ao n cap l) (b : Below w.heap.size w w') : U64s w' ao n cap l := by
  refine ⟨h.1, h.2.1, h.2.2.1, h.2.2.2.1, fun ad e j hj => ?_, h.2.2.2.2.2⟩
  have hc := h.2.2.2.2.1 ad e j hj
  rw [b.cell (lt_of_cell hc), hc]
theorem RowOf.u64s {w : World} {a : Option Addr} {len cap : Nat} {zs : List Int} (h : RowOf .u64 w a len cap zs) : ∃ us, U64s w a len cap us := by
  rcases h with ⟨rfl, rfl, rfl, rfl⟩ | ⟨x, rfl, h1, h2, h3, h4, h5⟩
  · exact ⟨[], rfl, Nat.le_refl _, by decide, fun _ => rfl, (fun ad e => by cases e), fun j => by simp⟩
  · have hlen : ((zs.take len).map Int.toNat).length = len := by simp; omega
    have hget : ∀ j, j < len → ∃ z, zs[j]? = some z ∧ zs.getD j 0 = z ∧ ((zs.take len).map Int.toNat).getD j 0 = z.toNat ∧ 0 ≤ z ∧ z ≤ 18446744073709551615 := by
      intro j hj
      have hjz : j < zs.length := by omega
      have e2 := bounds_u64 (h5 zs[j] (List.getElem_mem hjz))
      refine ⟨zs[j], List.getElem?_eq_getElem hjz, ?_, ?_, e2.1, e2.2⟩
      · rw [List.getD_eq_getElem?_getD, List.getElem?_eq_getElem hjz]; rfl
      · rw [List.getD_eq_getElem?_getD, List.getElem?_map, List.getElem?_take, if_pos hj, List.getElem?_eq_getElem hjz]; rfl
    refine ⟨(zs.take len).map Int.toNat, hlen.symm, h1, h2, (fun e => by cases e), fun ad e j hj => ?_, fun j => ?_⟩
    · obtain rfl := Option.some.inj e
      rw [hlen] at hj
      obtain ⟨z, _, e1, e2, e3, _⟩ := hget j hj
      rw [h4 j (by omega), e1, e2]
      congr 2; omega
    · by_cases hj : j < len
      · obtain ⟨z, _, e1, e2, e3, e4⟩ := hget j hj
        rw [e2]; omega
      · rw [List.getD_eq_getElem?_getD, List.getElem?_eq_none (by rw [hlen]; omega)]; simp
/- the bytes of the first k numbers, m bytes each -/
def catF (us : List Nat) (m : Nat) : Nat → List UInt8
  | 0 => []
  | k + 1 => catF us m k ++ putF (us.getD k 0) m
theorem catF_len (us : List Nat) (m k : Nat) : (catF us m k).length = k * m := by
  induction k with
  | zero => simp [catF]
  | succ k ih => simp only [catF]; rw [List.length_append, ih, putF_len, Nat.succ_mul]
theorem catF_get (us : List Nat) (m k n : Nat) (h : k < n) : ((catF us m n).drop (k * m)).take m = putF (us.getD k 0) m := by
  induction n with
  | zero => omega
  | succ n ih =>
    simp only [catF]
    by_cases hk : k < n
    · have hkm : k * m + m ≤ n * m := by rw [← Nat.succ_mul]; exact Nat.mul_le_mul_right _ hk
      rw [List.drop_append_of_le_length (by rw [catF_len]; omega), List.take_append_of_le_length (by rw [List.length_drop, catF_len]; omega), ih hk]
    · obtain rfl : k = n := by omega
      have e := catF_len us m k
      rw [← e, List.drop_left, List.take_of_length_le (by rw [putF_len]; omega)]
theorem skipF_rep (N m k p : Nat) (h : p + k * m ≤ N) : skipF N p (List.replicate k (m : Int)) = some (p + k * m) := by
  induction k generalizing p with
  | zero => simp [skipF]
  | succ k ih =>
    rw [Nat.succ_mul] at h
    rw [List.replicate_succ]
    simp only [skipF]
    rw [if_pos (by omega), Int.toNat_natCast, ih _ (by omega), Nat.succ_mul]
    congr 1; omega
theorem skipA_rep (m k : Nat) : skipA (k * m) 0 (List.replicate k (m : Int)) = some (k * m) := by
  unfold skipA
  rw [if_pos (by omega)]
  have := skipF_rep (k * m) m k 0 (by omega)
  rw [Nat.zero_add] at this
  exact this
/- what is owned stays owned where nothing that was there is turned -/
theorem owns_carry {w w' : World} {base : Nat} {e : TypeId} {size : Nat} {v : Value} {n : Nat} {xs : List Value} (h : w.ownsRow base e size v n xs) (b : Below w.heap.size w w') : w'.ownsRow base e size v n xs := by
  refine ⟨h.1, ?_⟩
  rcases h.2 with ⟨hv, hn⟩ | ⟨g, cap, cur, hv, hb, hg, h1, h2, h3, h4⟩
  · exact .inl ⟨hv, hn⟩
  · have hlt : g < w.heap.size := by
      by_cases hlt : g < w.heap.size
      · exact hlt
      · rw [Array.getElem?_eq_none (by omega)] at hg; cases hg
    exact .inr ⟨g, cap, cur, hv, hb, (b.block g hlt).trans hg, h1, h2, h3, h4⟩
theorem owns_lt {w : World} {base : Nat} {e : TypeId} {size : Nat} {v : Value} {n : Nat} {xs : List Value} (h : w.ownsRow base e size v n xs) : ∀ g, v.ownBlock = some g → base ≤ g ∧ g < w.heap.size := by
  intro g0 e
  rcases h.2 with ⟨rfl, hn⟩ | ⟨g, cap, cur, rfl, hb, hg, h1, h2, h3, h4⟩
  · cases e
  · have hlt : g < w.heap.size := by
      by_cases hlt : g < w.heap.size
      · exact hlt
      · rw [Array.getElem?_eq_none (by omega)] at hg; cases hg
    obtain rfl : g = g0 := Option.some.inj e
    exact ⟨hb, hlt⟩
theorem owns_ints {w : World} {base : Nat} {v : Value} {n m : Nat} (h : w.ownsRow base 3 1 v n (List.replicate n (Value.int .i64 (m : Int)))) : ∃ ao cap, v = .slice ao n cap ∧ Ints w ao n cap (List.replicate n (m : Int)) := by
  rcases h.2 with ⟨rfl, rfl⟩ | ⟨g, cap, cur, rfl, _, _, hc, hm, _, _⟩
  · exact ⟨none, 0, rfl, rfl, Nat.le_refl _, by decide, fun _ => rfl, fun ad e => by cases e⟩
  · refine ⟨some ⟨g, 0, none⟩, cap, rfl, by simp, hc, hm, (fun e => by cases e), fun ad e j hj => ?_⟩
    obtain rfl := Option.some.inj e
    have hj' : j < n := by simpa using hj
    have := h.cellAt j (by omega)
    rw [addr0, this, List.getElem?_replicate, if_pos hj', List.getD_eq_getElem?_getD, List.getElem?_replicate, if_pos hj']; rfl
/- bytes of one block are as they were where another block was written -/
theorem bts_grown {w w' : World} {g n cap : Nat} {l : List UInt8} {row : Option Nat} (h : Bts w (some ⟨g, 0, none⟩) n cap l) (hg : w.grownBy w' row) (hne : some g ≠ row) : Bts w' (some ⟨g, 0, none⟩) n cap l := by
  refine ⟨h.1, h.2.1, h.2.2.1, h.2.2.2.1, fun ad e j hj => ?_⟩
  have hc := h.2.2.2.2 ad e j hj
  obtain rfl := Option.some.inj e
  rw [← hc]
  have hb : (Addr.add ⟨g, 0, none⟩ j).block = g := by rw [addr0]
  refine World.cell?_of_block ?_
  rw [hb]
  exact hg.block g (by have := lt_of_cell hc; rw [hb] at this; exact this) hne
end Go.Proofs.Ytpcaipmdinbdfaa
