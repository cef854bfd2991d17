/-
  What the statements' own Bytes answers, as a contract: the document's bytes, in new memory.
-/
import Derived.Test.YtmbjgndajlomnaaBytes
import Derived.Deep.RegionHeldLaw
import Derived.Deep.AppendLies
namespace Go.Proofs.Ytmbjgndajlomnaa
open Go.RowKit
theorem Box.grown {w w' : World} {g p o r c : Nat} {row : Option Nat} (h : Box w g p o r c) (hg : w.grownBy w' row) (hne : some g ≠ row) : Box w' g p o r c := by
  obtain ⟨h0, h1, h2, h3⟩ := h
  exact ⟨by rw [hg.cell_far _ (lt_of_cell h0) hne, h0], by rw [hg.cell_far _ (lt_of_cell h1) hne, h1], by rw [hg.cell_far _ (lt_of_cell h2) hne, h2], by rw [hg.cell_far _ (lt_of_cell h3) hne, h3]⟩
/- what is owned stays owned where nothing that was there is turned -/
theorem owns_carry {w w' : World} {base : Nat} {e : TypeId} {size : Nat} {v : Value} {n : Nat} {xs : List Value} (h : w.ownsRow base e size v n xs) (b : Below w.heap.size w w') : w'.ownsRow base e size v n xs := by
  refine ⟨h.1, ?_⟩
  rcases h.2 with ⟨hv, hn⟩ | ⟨g, cap, cur, hv, hb, hg, h1, h2, h3, h4⟩
  · exact .inl ⟨hv, hn⟩
  · have hlt : g < w.heap.size := by
      by_cases hlt : g < w.heap.size
      · exact hlt
      · rw [Array.getElem?_eq_none (by omega)] at hg; cases hg
    exact .inr ⟨g, cap, cur, hv, hb, (b.block g hlt).trans hg, h1, h2, h3, h4⟩
theorem owns_lt {w : World} {base : Nat} {e : TypeId} {size : Nat} {v : Value} {n : Nat} {xs : List Value} (h : w.ownsRow base e size v n xs) : ∀ g, v.ownBlock = some g → base ≤ g ∧ g < w.heap.size := by
  intro g0 e
  rcases h.2 with ⟨rfl, hn⟩ | ⟨g, cap, cur, rfl, hb, hg, h1, h2, h3, h4⟩
  · cases e
  · have hlt : g < w.heap.size := by
      by_cases hlt : g < w.heap.size
      · exact hlt
      · rw [Array.getElem?_eq_none (by omega)] at hg; cases hg
    obtain rfl : g = g0 := Option.some.inj e
    exact ⟨hb, hlt⟩
theorem owns_news {w : World} {base g n cap : Nat} {l : List UInt8} (h : w.ownsRow base 5 1 (.slice (some ⟨g, 0, none⟩) n cap) n (cellsB l)) : ∀ j u, (cellsB l)[j]? = some u → w.cell? ((⟨g, 0, none⟩ : Addr).add j) = some u := (owns_at h).news _ rfl
theorem bytes6a (v base : Nat) (w : World) (hv : v ≤ 18446744073709551615) (hb : base ≤ w.heap.size) :
    Calls Try.prog 21 #[.int .u64 v, .int .i64 6] w fun e w' => ∃ g, e = .returned (.slice (some ⟨g, 0, none⟩) 6 6) ∧ w.heap.size = g ∧ w'.ownsRow base 5 1 (.slice (some ⟨g, 0, none⟩) 6 6) 6 (cellsB (putF v 6)) ∧ Below w.heap.size w w' :=
  (bytes6 v w hv).mono fun _ _ h => ⟨_, h.1, rfl, by rw [h.2]; exact own_new w _ 6 base (by rw [putF_len]) (by decide) hb, by rw [h.2]; exact below_alloc _ _⟩
theorem bytes3a (v base : Nat) (w : World) (hv : v ≤ 18446744073709551615) (hb : base ≤ w.heap.size) :
    Calls Try.prog 21 #[.int .u64 v, .int .i64 3] w fun e w' => ∃ g, e = .returned (.slice (some ⟨g, 0, none⟩) 3 3) ∧ w.heap.size = g ∧ w'.ownsRow base 5 1 (.slice (some ⟨g, 0, none⟩) 3 3) 3 (cellsB (putF v 3)) ∧ Below w.heap.size w w' :=
  (bytes3 v w hv).mono fun _ _ h => ⟨_, h.1, rfl, by rw [h.2]; exact own_new w _ 3 base (by rw [putF_len]) (by decide) hb, by rw [h.2]; exact below_alloc _ _⟩
theorem cells1 (r : Nat) (h : r ≤ 255) : [Value.int .u8 (r : Int)] = cellsB (putF r 1) := by
  simp [cellsB, putF, putP, List.range_succ]; omega
set_option maxHeartbeats 1600000 in
theorem own_bytes (p o r c : Nat) (w : World) (hp : p ≤ 281474976710655) (ho : o ≤ 16777215) (hr : r ≤ 255) (hc : c ≤ 281474976710655) :
    Calls Try.prog 13 #[.agg #[.int .u64 p, .int .u32 o, .int .u8 r, .int .u64 c]] w fun e w' => ∃ g cap, e = .returned (.slice (some ⟨g, 0, none⟩) 16 cap) ∧ w.heap.size ≤ g ∧
      w'.ownsRow w.heap.size 5 1 (.slice (some ⟨g, 0, none⟩) 16 cap) 16 (cellsB (capF p o r c)) ∧ Below w.heap.size w w' := by
  obtain ⟨i0, hi, hz0, hz1, hz2⟩ := info_parts Try.info5
  have hwo : IntKind.u64.wrap (o : Int) = (o : Int) := by rw [IntKind.wrap_u64]; omega
  go_enter Try.func13, Try.ntmps13
  go_wp2
  have HX0 : Hid (Box ((w.alloc (.cells #[.int .u64 p, .int .u32 o, .int .u8 r, .int .u64 c] 25)).drew) w.heap.size p o r c) := box_new w p o r c
  go_region_held_law (fun w' => w'.cell? ⟨w.heap.size, 0, none⟩ = some (.int .u64 p) ∧ w'.cell? ⟨w.heap.size, 1, none⟩ = some (.int .u32 o) ∧ w'.cell? ⟨w.heap.size, 2, none⟩ = some (.int .u8 r) ∧ w'.cell? ⟨w.heap.size, 3, none⟩ = some (.int .u64 c))
    (first | exact hSz.out | exact hS3.out | exact hS6.out | exact HX0.out)
    (first
      | (go_at_call_of 21 (Value.int IntKind.i64 6); refine (bytes6a _ w.heap.size _ (by omega) (by simp)).mono ?_; rintro e wx ⟨g6, rfl, hg6, hown6, bel6⟩; have hS6 : Hid (Box wx w.heap.size p o r c) := HX0.out.carry bel6; have hgg : w.heap.size < g6 := by simp at hg6; omega)
      | (go_at_call_of 21 (Value.int IntKind.i64 3); have hold := hown6; refine (bytes3a _ w.heap.size _ (by omega) (by have := bel6.size; simp at this; omega)).mono ?_; rintro e wy ⟨g3, rfl, hg3, hown3, bel3⟩; have hown6' := owns_carry hown6 bel3; have hS3 : Hid (Box wy w.heap.size p o r c) := hS6.out.carry bel3)
      | (have hold := hown3; refine step_append_lies _ rfl (.tmp 6) (.tmp 10) 29 rfl w.heap.size 5 i0 (.int .u8 0) 1 1 Try.underlying29 hi hz0 hz1 hz2 rfl (by decide) (.slice (some ⟨g6, 0, none⟩) 6 6) 6 (cellsB (putF p 6)) (by simp [Act.eval]) hown6' ⟨g3, 0, none⟩ 3 3 (cellsB (putF o 3)) (by simp [Act.eval]) (by rw [cellsB_len, putF_len]) (owns_news hown3) (cellsB_one _) (by omega) (by decide) (by omega) (by have := bel6.size; have := bel3.size; simp at *; omega) wy.heap.size rfl ?_; intro g cap wz hown hgrow hat hlt; have hSz : Hid (Box wz w.heap.size p o r c) := hS3.out.grown hgrow (by simp [Value.ownBlock]; omega)))
  have b0 : Below w.heap.size w ((w.alloc (.cells #[.int .u64 p, .int .u32 o, .int .u8 r, .int .u64 c] 25)).drew) := (below_alloc w _).drew
  have b1 : Below w.heap.size w wx := b0.trans (bel6.mono b0.size)
  have b2 : Below w.heap.size w wy := b1.trans (bel3.mono b1.size)
  have b3 : Below w.heap.size w wz := b2.grown hgrow b2.size (fun k e => by cases e; exact Nat.le_of_lt hgg)
  have hgb : w.heap.size < g := by
    have h1 := lt_of_cell hS3.out.1
    rcases hat with h | h
    · cases h; exact hgg
    · rw [h]; exact h1
  have HO9 : Hid (wz.ownsRow w.heap.size 5 1 (.slice (some ⟨g, 0, none⟩) 9 cap) 9 (cellsB (putF p 6 ++ putF o 3))) := by rw [cellsB_append]; exact hown
  have HXz : Hid (Box wz w.heap.size p o r c) := hSz
  clear hown hgrow hat hlt hown6' hown6 hown3 bel6 bel3 b0 b1 b2 hS3 hS6 hSz HX0 hg6 hg3
  obtain ⟨k0, k1, k2, k3⟩ := HXz.out
  go_wp2_with (at_builtin; refine wpList_append_lies _ rfl _ _ 29 rfl w.heap.size 5 i0 (.int .u8 0) 1 1 Try.underlying29 hi hz0 hz1 hz2 rfl (by decide) _ 9 _ rfl (HO9.out.alloc _) ⟨wz.heap.size, 0, none⟩ 1 1 (cellsB (putF r 1)) rfl (by rw [cellsB_len, putF_len]) ?c1 (cellsB_one _) (by omega) (by decide) (by omega) ?c5 (wz.heap.size + 1) (by simp) ?_)
  case c1 => rw [← cells1 r hr]; exact cell_new _ _ _
  case c5 => have := b3.size; simp; omega
  intro g4 cap4 w4 hown4 hgrow4 hat4 hlt4
  have b4 : Below w.heap.size w w4 := (b3.alloc b3.size _).grown hgrow4 (b3.alloc b3.size _).size (fun k e => by cases e; exact Nat.le_of_lt hgb)
  have hgb4 : w.heap.size < g4 := by
    rcases hat4 with h | h
    · cases h; exact hgb
    · have := b3.size; omega
  have HO10 : Hid (w4.ownsRow w.heap.size 5 1 (.slice (some ⟨g4, 0, none⟩) 10 cap4) 10 (cellsB (putF p 6 ++ putF o 3 ++ putF r 1))) := by rw [cellsB_append (putF p 6 ++ putF o 3)]; exact hown4
  have HX4 : Hid (Box w4 w.heap.size p o r c) := (HXz.out.carry (below_alloc _ _)).grown hgrow4 (by simp [Value.ownBlock]; omega)
  clear hown4 hgrow4 hat4 hlt4 k0 k1 k2 k3 HXz HO9 b3
  obtain ⟨k0, k1, k2, k3⟩ := HX4.out
  go_wp2_with fail
  refine (bytes6a c w.heap.size _ (by omega) b4.size).mono ?_; rintro e w5 ⟨g5, rfl, hg5, hown5, bel5⟩
  have b5 : Below w.heap.size w w5 := b4.trans (bel5.mono b4.size)
  have HO10' : Hid (w5.ownsRow w.heap.size 5 1 (.slice (some ⟨g4, 0, none⟩) 10 cap4) 10 (cellsB (putF p 6 ++ putF o 3 ++ putF r 1))) := owns_carry HO10.out bel5
  clear bel5 k0 k1 k2 k3 HX4 HO10
  go_wp2_with (at_builtin; refine wpList_append_lies _ rfl _ _ 29 rfl w.heap.size 5 i0 (.int .u8 0) 1 1 Try.underlying29 hi hz0 hz1 hz2 rfl (by decide) _ 10 _ rfl HO10'.out ⟨g5, 0, none⟩ 6 6 (cellsB (putF c 6)) rfl (by rw [cellsB_len, putF_len]) (owns_news hown5) (cellsB_one _) (by omega) (by decide) (by omega) b5.size w5.heap.size rfl ?_)
  intro g6' cap6 w6 hown6 hgrow6 hat6 hlt6
  have b6 : Below w.heap.size w w6 := b5.grown hgrow6 b5.size (fun k e => by cases e; exact Nat.le_of_lt hgb4)
  have hgb6 : w.heap.size ≤ g6' := by
    rcases hat6 with h | h
    · cases h; exact Nat.le_of_lt hgb4
    · have := b5.size; omega
  have HO16 : Hid (w6.ownsRow w.heap.size 5 1 (.slice (some ⟨g6', 0, none⟩) 16 cap6) 16 (cellsB (capF p o r c))) := by rw [show capF p o r c = putF p 6 ++ putF o 3 ++ putF r 1 ++ putF c 6 from rfl, cellsB_append (putF p 6 ++ putF o 3 ++ putF r 1)]; exact hown6
  clear hown6 hgrow6 hat6 hlt6 hown5 HO10'
  go_wp2
  go_ret
  exact ⟨_, _, rfl, hgb6, HO16.out, b6⟩
end Go.Proofs.Ytmbjgndajlomnaa
