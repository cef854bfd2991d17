/-
  What Row answers, as a contract: the bytes of all, one behind the other; nothing, if one may not be.
-/
import Derived.Test.YtmbjgndajlomnaaLists
namespace Go.Proofs.Ytmbjgndajlomnaa
open Go.RowKit
def RowRel (w : World) (n : Nat) (xs : List Cp) (x4 x13 : Value) (wr : World) : Prop :=
  ∃ k : Nat, k ≤ n ∧ x13 = .int .i64 k ∧ x4 = .slice (some ⟨w.heap.size, 0, none⟩) (k * 16) (n * 16) ∧ Hid (mayC (xs.take k) = true) ∧
    Hid (wr.ownsRow w.heap.size 5 1 (.slice (some ⟨w.heap.size, 0, none⟩) (k * 16) (n * 16)) (k * 16) (cellsB (bytesC (xs.take k)))) ∧ Hid (Below w.heap.size w wr)
def RowAns (xs : List Cp) (n : Nat) (e : Ending) (w w' : World) : Prop :=
  Below w.heap.size w w' ∧ ((mayC xs = true ∧ ∃ g cap, e = .returned (.tuple #[.slice (some ⟨g, 0, none⟩) (n * 16) cap, .bool true]) ∧ Bts w' (some ⟨g, 0, none⟩) (n * 16) cap (bytesC xs)) ∨ (mayC xs = false ∧ e = .returned (.tuple #[.slice none 0 0, .bool false])))
theorem mayC_false (xs : List Cp) (k : Nat) (h : k < xs.length) (hf : (xs.getD k Cp.zero).may = false) : mayC xs = false := by
  rw [List.getD_eq_getElem?_getD, List.getElem?_eq_getElem h] at hf
  unfold mayC
  rw [List.all_eq_false]
  exact ⟨xs[k], List.getElem_mem h, by simpa using hf⟩
set_option maxHeartbeats 1600000 in
theorem row_any (ao : Option Addr) (n cap : Nat) (xs : List Cp) (w : World) (hx : Caps w ao n cap xs) (hr : n ≤ 5864062014720) :
    Calls Try.prog 17 #[.slice ao n cap] w fun e w' => RowAns xs n e w w' := by
  have HX : Hid (Caps w ao n cap xs) := hx
  have hnx := hx.1
  have HN : Hid (n = xs.length) := hx.1
  have hcm : cap ≤ 9223372036854775807 := hx.2.2.1
  have hnc : n ≤ cap := hx.2.1
  clear hx hnx
  obtain ⟨i0, hi, hz0, hz1, hz2⟩ := info_parts Try.info5
  go_enter Try.func17, Try.ntmps17
  go_wp2_with (at_make; refine wpList_make_own _ rfl _ _ 29 rfl w.heap.size 5 i0 (.int .u8 0) 1 Try.underlying29 hi hz0 hz1 _ _ _ (n * 16) rfl rfl (by omega) ?b2 ?b3 (Nat.le_refl _) ?_)
  case b2 => rw [hz2]; omega
  case b3 => unfold maxLen; omega
  intro w2 hown2 hgrow2
  have bel2 : Below w.heap.size w w2 := (Below.refl _ _).grown hgrow2 (Nat.le_refl _) (fun k e => by cases e)
  have HO2 : Hid (w2.ownsRow w.heap.size 5 1 (.slice (some ⟨w.heap.size, 0, none⟩) 0 (n * 16)) 0 []) := hown2
  clear hown2 hgrow2
  go_wp2
  go_loopw [4, 13] (fun x i wr => RowRel w n xs x i wr) (fun _ i _ => n - (intOf i).toNat)
  case atStart => exact ⟨0, Nat.zero_le _, rfl, by rw [Nat.zero_mul], rfl, by rw [Nat.zero_mul]; exact HO2.out, bel2⟩
  case round =>
    obtain ⟨k, hk, rfl, rfl, HM, HO, HB⟩ := hrel
    have hXr : Hid (Caps wr ao n cap xs) := HX.out.carry HB.out
    by_cases hkn : k < n
    · have HS : Hid (xs.take (k + 1) = xs.take k ++ [xs.getD k Cp.zero]) := take_snoc xs k (by have := HN.out; omega)
      have hok := hXr.out.okAt k hkn
      have HMF : Hid ((xs.getD k Cp.zero).may = false → mayC xs = false) := mayC_false xs k (by have := HN.out; omega)
      obtain ⟨⟨p, o, r, c⟩, hx⟩ : ∃ x, xs.getD k Cp.zero = x := ⟨_, rfl⟩
      cases ao with
      | none => have := HX.out.2.2.2.1 rfl; omega
      | some ad =>
        obtain ⟨k0, k1, k2, k3⟩ := hXr.out.elem k hkn p o r c hx
        rw [hx] at HS HMF hok
        obtain ⟨hp, ho, hr8, hc⟩ := hok
        have hp : p ≤ 18446744073709551615 := hp
        have ho : o ≤ 4294967295 := ho
        have hr8 : r ≤ 255 := hr8
        have hc : c ≤ 18446744073709551615 := hc
        clear hx
        have HT : Hid (Below wr.heap.size wr (wr.alloc (.cells #[.int .u64 p, .int .u32 o, .int .u8 r, .int .u64 c] 25))) := below_alloc _ _
        have HZ : Hid (Box (wr.alloc (.cells #[.int .u64 p, .int .u32 o, .int .u8 r, .int .u64 c] 25)) wr.heap.size p o r c) := box_new _ _ _ _ _
        go_wp2_with fail
        refine (may_at p o r c _ hp ho hr8 hc).mono ?_; rintro e w3 ⟨rfl, bel3⟩
        have HB3 : Hid (Below w.heap.size w w3) := below_one (below_one HB.out HT.out) bel3
        have HZ3 : Hid (Box w3 wr.heap.size p o r c) := HZ.out.carry bel3
        have HO3 : Hid (w3.ownsRow w.heap.size 5 1 (.slice (some ⟨w.heap.size, 0, none⟩) (k * 16) (n * 16)) (k * 16) (cellsB (bytesC (xs.take k)))) := owns_carry (owns_carry HO.out HT.out) bel3
        clear bel3 HT HZ k0 k1 k2 k3 HO
        by_cases hm : p ≤ 281474976710655 ∧ o ≤ 16777215 ∧ c ≤ 281474976710655
        · have HMM : Hid ((⟨p, o, r, c⟩ : Cp).may = true) := mayD_true hm.1 hm.2.1 hm.2.2
          rw [show mayD p o c = true from HMM.out]
          obtain ⟨hp', ho', hc'⟩ := hm
          obtain ⟨k0, k1, k2, k3⟩ := HZ3.out
          go_wp2_with fail
          refine (encode_yes p o r c _ hp' ho' hr8 hc').mono ?_; rintro e w4 ⟨ge, rfl, hge, hown4, bel4⟩
          have HB4 : Hid (Below w.heap.size w w4) := below_one HB3.out bel4
          have HO4 : Hid (w4.ownsRow w.heap.size 5 1 (.slice (some ⟨w.heap.size, 0, none⟩) (k * 16) (n * 16)) (k * 16) (cellsB (bytesC (xs.take k)))) := owns_carry HO3.out bel4
          have HE4 : Hid (w4.ownsRow w3.heap.size 5 1 (.slice (some ⟨ge, 0, none⟩) 16 16) 16 (cellsB (capF p o r c))) := hown4
          clear bel4 hown4 HO3 HZ3 k0 k1 k2 k3
          go_wp2_with (at_builtin; refine wpList_append_fits _ rfl _ _ 29 rfl w.heap.size 5 i0 1 Try.underlying29 hi hz1 w.heap.size (k * 16) (n * 16) _ rfl HO4.out ⟨ge, 0, none⟩ 16 16 (cellsB (capF p o r c)) rfl (by rw [cellsB_len, capF_len]) (owns_news HE4.out) (cellsB_one _) (by omega) ?_)
          intro w5 hown5 hgrow5
          have HB5 : Hid (Below w.heap.size w w5) := HB4.out.grown hgrow5 HB4.out.size (fun k e => by cases e; exact Nat.le_refl _)
          have HO5 : Hid (w5.ownsRow w.heap.size 5 1 (.slice (some ⟨w.heap.size, 0, none⟩) ((k + 1) * 16) (n * 16)) ((k + 1) * 16) (cellsB (bytesC (xs.take (k + 1))))) := by
            rw [HS.out, bytesC_snoc, cellsB_append, show (k + 1) * 16 = k * 16 + 16 from by omega]; exact hown5
          have HM5 : Hid (mayC (xs.take (k + 1)) = true) := by rw [HS.out, mayC_snoc, HM.out, HMM.out]; rfl
          clear hown5 hgrow5 HO4 HE4 HB4
          go_wp2
          go_roundw
          case rel => exact ⟨k + 1, by omega, by go_num, by rw [show (k + 1) * 16 = k * 16 + 16 from by omega], HM5, HO5, HB5⟩
          case measure => simp [intOf]; omega
        · have HMM : Hid ((⟨p, o, r, c⟩ : Cp).may = false) := mayD_false hm
          rw [show mayD p o c = false from HMM.out]
          clear hm
          go_wp2
          go_ret2
          exact ⟨HB3.out, .inr ⟨HMF.out HMM.out, rfl⟩⟩
    · obtain rfl : k = n := by omega
      go_wp2
      go_ret2
      have hall : xs.take k = xs := List.take_of_length_le (by have := HN.out; omega)
      have hm := HM.out
      have ho := owns_at HO.out
      rw [hall] at hm ho
      exact ⟨HB.out, .inl ⟨hm, _, _, rfl, ho⟩⟩
end Go.Proofs.Ytmbjgndajlomnaa
