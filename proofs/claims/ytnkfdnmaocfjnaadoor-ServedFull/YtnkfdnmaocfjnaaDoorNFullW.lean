/-
  The walk of ServedFull.
-/
import Derived.Test.YtnkfdnmaocfjnaaDoorNAwake
import Derived.Test.YtnkfdnmaocfjnaaDoorKAlike
namespace Go.Proofs.YtnkfdnmaocfjnaaDoor
open Go.RowKit
theorem Bx.from {w w0 W : World} {g : Nat} {L : List Rq} {M : List (Nat × Ms)} (h : Bx w0 g L M W) (b : Below w.heap.size w w0) : Bx w g L M W := ⟨h.st, h.box, below_one b h.b, Nat.le_trans b.size h.g⟩
/- a request of a number alone; so many of them -/
def idM (k : Int) : Ms := ⟨0, 0, k, 0, 0, 0, 0, 0, 0, 0, none, 0, 0, []⟩
def idL (k : Nat) : List Rq := (List.range k).map fun j : Nat => (⟨0, (j : Int), false, Ms.zero⟩ : Rq)
theorem idL_len (k : Nat) : (idL k).length = k := by simp [idL]
theorem idL_at (k j : Nat) (h : j < k) : rq (idL k) j = ⟨0, (j : Int), false, Ms.zero⟩ := by
  unfold rq idL
  rw [List.getD_eq_getElem?_getD, List.getElem?_map, List.getElem?_range h]; rfl
theorem idL_succ (k : Nat) : idL k ++ [⟨0, (k : Int), false, Ms.zero⟩] = idL (k + 1) := by
  simp [idL, List.range_succ]
theorem isR_of {rp id : Int} {y : Rq} (h1 : y.p = rp) (h2 : y.i = id) : isR rp id y = true := by simp [isR, h1, h2]
theorem isR_not {rp id : Int} {y : Rq} (h : y.i ≠ id) : isR rp id y = false := by simp [isR, h]
theorem isR_nop {rp id : Int} {y : Rq} (h : y.p ≠ rp) : isR rp id y = false := by simp [isR, h]
/- one of them has a reply; it is forgotten for another one -/
def idR (k : Nat) : List Rq := (idL 32).set k ⟨0, (k : Int), true, Ms.zero⟩
def idF (k : Nat) : List Rq := (idR k).eraseIdx k ++ [⟨0, 99, false, Ms.zero⟩]
theorem idR_len (k : Nat) : (idR k).length = 32 := by unfold idR; rw [List.length_set, idL_len]
theorem idR_at (k j : Nat) (hk : k < 32) (hj : j < 32) : rq (idR k) j = if j = k then ⟨0, (k : Int), true, Ms.zero⟩ else ⟨0, (j : Int), false, Ms.zero⟩ := by
  unfold idR
  rw [rq_set _ _ k j (by rw [idL_len]; exact hk), idL_at 32 j hj]
theorem idR_ne (k j : Nat) (hk : k < 32) (hj : j < 32) : (rq (idR k) j).i ≠ 99 := by
  rw [idR_at k j hk hj]
  by_cases h : j = k
  · rw [if_pos h]; show (k : Int) ≠ 99; omega
  · rw [if_neg h]; show (j : Int) ≠ 99; omega
theorem idF_len (k : Nat) (hk : k < 32) : (idF k).length = 32 := by
  unfold idF
  rw [List.length_append, List.length_eraseIdx, idR_len, if_pos hk]; rfl
theorem idF_at (k j : Nat) (hk : k < 32) (hj : j < 32) : (rq (idF k) j).b = false ∧ (rq (idF k) j).i ≠ (k : Int) := by
  unfold idF
  rw [rq_snoc, List.length_eraseIdx, idR_len, if_pos hk]
  by_cases h1 : j = 32 - 1
  · rw [if_pos h1]; exact ⟨rfl, by show (99 : Int) ≠ _; omega⟩
  · rw [if_neg h1, rq_erase]
    by_cases h2 : j < k
    · rw [if_pos h2, idR_at k j hk hj, if_neg (by omega)]; exact ⟨rfl, by show (j : Int) ≠ _; omega⟩
    · rw [if_neg h2, idR_at k (j + 1) hk (by omega), if_neg (by omega)]; exact ⟨rfl, by show ((j + 1 : Nat) : Int) ≠ _; omega⟩
def FullRel (w : World) (g gk : Nat) (vk : Value) (wr : World) : Prop := ∃ k : Nat, k + gk = 32 ∧ vk = .int .i64 (k : Int) ∧ Bx w g (idL k) [] wr
set_option maxRecDepth 20000 in
set_option maxHeartbeats 6400000 in
theorem walk_full (q : Nat) (w : World) (hg : Glob w) :
    Calls Tryd.prog 4 #[.int .u8 (q : Int)] w fun e w' => e = .returned (.bool true) ∧ Below w.heap.size w w' := by
  have hz := Tryd.zeroServed
  have HG := hide hg
  obtain ⟨r, hr⟩ : ∃ r, q % 32 = r := ⟨_, rfl⟩
  have hri : (q : Int) % 32 = (r : Int) := by omega
  have hr32 : r < 32 := by omega
  clear hg hr
  go_enter Tryd.func4, Tryd.ntmps4
  go_wp2_with fail
  refine (awake_any _).mono ?_; rintro e w0 ⟨rfl, b0⟩
  have HR : Hid (FullRel w w0.heap.size 32 (.int .i64 0) (w0.alloc (.cells zeroC.toArray 37))) := ⟨0, rfl, rfl, (bx_zero w0).from b0⟩
  clear b0
  go_wp2
  go_loopg [4] 32 (fun gk vk wr => FullRel w w0.heap.size gk vk wr)
  case atStart => exact HR.out
  case round =>
    obtain ⟨k, hk, rfl, B⟩ := hrel
    have HB := hide B
    clear B HR
    cases gk with
    | zero =>
      obtain rfl : k = 32 := by omega
      go_wp2_with fail
      refine (take_full (idM 99) HB.out.st (idL_len 32) (fun j hj => by rw [idL_len] at hj; rw [idL_at 32 j hj]; exact isR_not (by show (j : Int) ≠ 99; omega)) (fun j hj => by rw [idL_len] at hj; rw [idL_at 32 j hj])).mono ?_; rintro e w1 ⟨rfl, b1⟩
      rw [erN_not (by decide)]
      have HB1 : Hid (Bx w w0.heap.size (idL 32) [] (w1.alloc (.cells #[.int .u64 0, .int .u64 0, .int .u32 0, .int .u16 0, .int .u16 0, .int .u64 0, .int .u32 0, .int .u8 0, .int .u64 0, .int .u64 0, .slice none 0 0] 32))) := (HB.out.grow b1).grow (below_alloc w1 _)
      clear b1
      go_wp2_with fail
      refine (reply_yes (idM (r : Int)) Ms.zero HB1.out.st r (by rw [idL_len]; exact hr32) (by rw [idL_at 32 r hr32]; exact isR_of rfl rfl) (fun j hj => by rw [idL_at 32 j (by omega)]; exact isR_not (by show (j : Int) ≠ (r : Int); omega)) (by rw [idL_at 32 r hr32]) (has_zero _) (OffG.zero _) (by show 0 ≤ _; omega)).mono ?_; rintro e w2 ⟨rfl, E2⟩
      have HB2 : Hid (Bx w w0.heap.size (idR r) [] w2) := by
        have := HB1.out.deed E2
        rw [idL_at 32 r hr32] at this
        exact this
      clear E2
      go_wp2_with fail
      refine (take_old (idM 99) HB2.out.st (idR_len r) (fun j hj => by rw [idR_len] at hj; exact isR_not (idR_ne r j hr32 hj)) r (by rw [idR_len]; exact hr32) (by rw [idR_at r r hr32 hr32, if_pos rfl]) (fun j hj => by rw [idR_at r j hr32 (by omega), if_neg (by omega)])).mono ?_; rintro e w3 ⟨rfl, E3⟩
      have HB3 : Hid (Bx w w0.heap.size (idF r) [] (w3.alloc (.cells #[.int .u64 0, .int .u64 0, .int .u32 0, .int .u16 0, .int .u16 0, .int .u64 0, .int .u32 0, .int .u8 0, .int .u64 0, .int .u64 0, .slice none 0 0] 32))) := (HB2.out.deed E3).grow (below_alloc w3 _)
      clear E3
      go_wp2_with fail
      refine (take_full (idM (r : Int)) HB3.out.st (idF_len r hr32) (fun j hj => by rw [idF_len r hr32] at hj; exact isR_not (idF_at r j hr32 hj).2) (fun j hj => by rw [idF_len r hr32] at hj; exact (idF_at r j hr32 hj).1)).mono ?_; rintro e w4 ⟨rfl, b4⟩
      rw [erN_not (by decide)]
      have HB4 : Hid (Bx w w0.heap.size (idF r) [] (w4.alloc (.cells #[.int .u64 0, .int .u64 0, .int .u32 0, .int .u16 0, .int .u16 0, .int .u64 0, .int .u32 0, .int .u8 0, .int .u64 0, .int .u64 0, .slice none 0 0] 32))) := (HB3.out.grow b4).grow (below_alloc w4 _)
      clear b4
      go_wp2_with fail
      refine (number_errno 5 _ (HG.out.grow HB4.out.b HG.out.lt)).mono ?_; rintro e w5 ⟨rfl, b5⟩
      have HB5 := hide (HB4.out.grow b5)
      clear b5
      go_wp2_with fail
      refine (number_errno 5 _ (HG.out.grow HB5.out.b HG.out.lt)).mono ?_; rintro e w6 ⟨rfl, b6⟩
      have HB6 := hide (HB5.out.grow b6)
      clear b6
      go_wp2_with fail
      refine (len_any HB6.out.st).mono ?_; rintro e w7 ⟨rfl, b7⟩
      rw [idF_len r hr32]
      have HB7 := hide (below_one HB6.out.b b7)
      clear b7
      go_wp2
      go_ret
      exact ⟨rfl, HB7.out⟩
    | succ g1 =>
      have hlt : (k : Int) < 32 := by omega
      have hwk : IntKind.u32.wrap (k : Int) = (k : Int) := by rw [IntKind.wrap_u32]; omega
      go_wp2_with fail
      refine (take_new (idM (k : Int)) HB.out.st (by rw [idL_len]; omega) (fun j hj => by rw [idL_len] at hj; rw [idL_at k j hj]; exact isR_not (by show (j : Int) ≠ (k : Int); omega))).mono ?_; rintro e w1 ⟨rfl, E1⟩
      have HB1 : Hid (Bx w w0.heap.size (idL (k + 1)) [] (w1.alloc (.cells #[.int .u64 0, .int .u64 0, .int .u32 0, .int .u16 0, .int .u16 0, .int .u64 0, .int .u32 0, .int .u8 0, .int .u64 0, .int .u64 0, .slice none 0 0] 32))) := by
        have := (HB.out.deed E1).grow (below_alloc w1 (.cells #[.int .u64 0, .int .u64 0, .int .u32 0, .int .u16 0, .int .u16 0, .int .u64 0, .int .u32 0, .int .u8 0, .int .u64 0, .int .u64 0, .slice none 0 0] 32))
        rw [← idL_succ]
        exact this
      clear E1
      go_wp2
      go_roundg g1
      case measure => omega
      case rel => exact ⟨k + 1, by omega, by go_num, HB1.out⟩
end Go.Proofs.YtnkfdnmaocfjnaaDoor
