/-
  The walk of ThreadFair.
-/
import Derived.Test.YtnfpldndnmbplaaUAwake
import Derived.Test.YtnfpldndnmbplaaQTurnsW
namespace Go.Proofs.Ytnfpldndnmbplaa
open Go.RowKit
def numT (k : Nat) : List Th := (List.range k).map fun j : Nat => ⟨(j : Int), 1, 0⟩
def numI (k : Nat) : List Int := (List.range k).map fun j : Nat => (j : Int)
theorem numT_len (k : Nat) : (numT k).length = k := by simp [numT]
theorem numI_len (k : Nat) : (numI k).length = k := by simp [numI]
theorem numT_succ (k : Nat) : numT (k + 1) = numT k ++ [⟨(k : Int), 1, 0⟩] := by simp [numT, List.range_succ]
theorem numI_succ (k : Nat) : numI (k + 1) = numI k ++ [(k : Int)] := by simp [numI, List.range_succ]
theorem numI_get (k j : Nat) (h : j < k) : (numI k).getD j 0 = (j : Int) := by
  rw [List.getD_eq_getElem?_getD]; simp [numI, h]
theorem num_inv (k : Nat) (h : k ≤ 64) : Inv (numT k) (numI k) := by
  induction k with
  | zero => exact inv_nil
  | succ k ih =>
    rw [numT_succ, numI_succ]
    have := (ih (by omega)).start (k : Int) (by rw [numT_len]; omega)
    rw [numT_len] at this
    exact this
theorem Inv.mem {T : List Th} {R R' : List Int} (h : Inv T R) (hn : R'.Nodup) (hm : ∀ x ∈ R', x ∈ R) : Inv T R' := ⟨h.few, hn, h.st, h.wt, fun x hx => h.rd x (hm x hx)⟩
theorem rotL_inv {T : List Th} {R : List Int} (h : Inv T R) (r : Nat) : Inv T (rotL R r) := by
  refine h.mem ?_ fun x hx => ?_
  · unfold rotL
    have hn := h.nd
    rw [← List.take_append_drop r R] at hn
    obtain ⟨h1, h2, h3⟩ := List.nodup_append.1 hn
    exact List.nodup_append.2 ⟨h2, h1, fun a ha b hb e => h3 b hb a ha e.symm⟩
  · unfold rotL at hx
    rcases List.mem_append.1 hx with hx | hx
    · exact List.mem_of_mem_drop hx
    · exact List.mem_of_mem_take hx
theorem fair_x (k r : Nat) (h : r < k) : takeX (rotL (numI k) r) 0 = (r : Int) := by rw [rot_x _ _ (by rw [numI_len]; exact h), numI_get k r h]
theorem fair_r (k r : Nat) (h : r < k) (hk : k ≤ 64) : turnR (rotL (numI k) r) (r : Int) 1 = rotL (numI k) ((r + 1) % k) := by
  have hl := numI_len k
  have hi := rotL_inv (num_inv k hk) r
  obtain ⟨k', e, _, _, _, _, e2, _⟩ := hi.pick 0 (by rw [rotL_len _ _ (by omega)]; omega)
  rw [fair_x k r h] at e
  obtain rfl : r = k' := by omega
  rw [← e2, rot_r _ _ (by omega)]
  have hq := rot_q (numI k) r (by omega) (by omega) (num_inv k hk).nd
  rw [numI_get k r h] at hq
  rw [hq]
  by_cases he : r + 1 = k
  · rw [he, Nat.mod_self]
    have := rot_end (numI k)
    rw [hl] at this
    rw [this]; unfold rotL; simp
  · rw [Nat.mod_eq_of_lt (by omega)]
def StRel (w : World) (g n gk : Nat) (vi : Value) (wr : World) : Prop := ∃ (i : Nat) (ao : Option Addr) (c : Nat), i + gk = n ∧ vi = .int .i64 (i : Int) ∧ Tb wr g (numT i) (numI i) ao c ∧ Below w.heap.size w wr
def FairRel (w : World) (g k m gk : Nat) (vi : Value) (wr : World) : Prop := ∃ (j : Nat) (ao : Option Addr) (c : Nat), j + gk = m ∧ vi = .int .i64 (j : Int) ∧ Tb wr g (numT k) (rotL (numI k) (j % k)) ao c ∧ Below w.heap.size w wr
set_option maxRecDepth 20000 in
set_option maxHeartbeats 1600000 in
theorem walk_fair (q p : Nat) (w : World) (hq : q ≤ 255) (hp : p ≤ 255) :
    Calls Try.prog 3 #[.int .u8 (q : Int), .int .u8 (p : Int)] w fun e w' => e = .returned (.bool true) ∧ Below w.heap.size w w' := by
  obtain ⟨s, hs⟩ : ∃ s, q % 30 = s := ⟨_, rfl⟩
  have hs1 : (q : Int) % 30 = (s : Int) := by omega
  have hs2 : s < 30 := by omega
  obtain ⟨k, hk⟩ : ∃ k, 1 + s = k := ⟨_, rfl⟩
  have hk1 : 1 + (s : Int) = (k : Int) := by omega
  have hk0 : 0 < k := by omega
  have hk2 : k ≤ 30 := by omega
  obtain ⟨t, ht⟩ : ∃ t, p % 4 = t := ⟨_, rfl⟩
  have ht1 : (p : Int) % 4 = (t : Int) := by omega
  obtain ⟨t', ht'⟩ : ∃ t', 1 + t = t' := ⟨_, rfl⟩
  have ht2 : 1 + (t : Int) = (t' : Int) := by omega
  have ht3 : t' ≤ 4 := by omega
  obtain ⟨m, hm⟩ : ∃ m, k * t' = m := ⟨_, rfl⟩
  have hm1 : (k : Int) * (t' : Int) = (m : Int) := by rw [← hm]; exact (Int.natCast_mul k t').symm
  have hm2 : m ≤ 120 := by rw [← hm]; exact Nat.le_trans (Nat.mul_le_mul hk2 ht3) (by omega)
  have zv := Try.zeroTab
  have HT0 := hide tab_new
  obtain ⟨Z, hZ⟩ : ∃ Z, tabZ = Z := ⟨_, rfl⟩
  rw [hZ] at zv HT0
  clear hZ hs hk ht ht' hm
  go_enter Try.func3, Try.ntmps3
  go_wp2_with fail
  refine (awake_any _).mono ?_; rintro e w1 ⟨rfl, b1⟩
  have HB1 := hide (below_one b1 (below_alloc w1 (.cells Z 31)))
  have HG := hide b1.size
  have H1 := hide (HT0.out w1)
  clear b1 HT0
  go_wp2_with fail
  obtain ⟨g, hg⟩ : ∃ g, w1.heap.size = g := ⟨_, rfl⟩
  rw [hg] at HG H1
  simp only [hg, hs1]
  clear hg
  go_loopg [7] k (fun gk vi wr => StRel w g k gk vi wr)
  case atStart => exact ⟨0, none, 0, by omega, rfl, H1.out, HB1.out⟩
  case round =>
    clear H1 HB1
    obtain ⟨i, ao, c, hi, rfl, t1, b1⟩ := hrel
    have H1 := hide t1
    have HB := hide b1
    have HI := hide hi
    clear t1 b1
    cases gk with
    | succ g1 =>
      have hlt : (i : Int) < (k : Int) := by omega
      clear hi
      go_wp2_with fail
      refine (start_yes (i : Int) _ H1.out (num_inv i (by have := HI.out; omega)) (by omega) (by rw [numT_len]; have := HI.out; omega)).mono ?_; rintro e w2 ⟨rfl, a2, c2, t2, f2, _⟩
      rw [numT_len, ← numT_succ, ← numI_succ] at t2
      have H2 := hide t2
      have HB2 := hide (f2.low HB.out HB.out.size HG.out)
      rw [numT_len]
      clear t2 f2
      go_wp2
      go_roundg g1
      case measure => omega
      case rel => exact ⟨i + 1, a2, c2, by have := HI.out; omega, by go_num, H2.out, HB2.out⟩
    | zero =>
      obtain rfl : i = k := by omega
      have hlt : ¬ ((i : Int) < (i : Int)) := by omega
      clear hi
      go_wp2_with fail
      go_loopg [8] m (fun gk vi wr => FairRel w g i m gk vi wr)
      case atStart => exact ⟨0, ao, c, by omega, rfl, by rw [Nat.zero_mod]; unfold rotL; simpa using H1.out, HB.out⟩
      case round =>
        rename World => wq
        clear H1 HB
        obtain ⟨j, a3, c3, hj, rfl, t3, b3⟩ := hrel
        have H3 := hide t3
        have HB3 := hide b3
        have HJ := hide hj
        clear t3 b3
        obtain ⟨r, hr⟩ : ∃ r, j % i = r := ⟨_, rfl⟩
        have hri : r < i := by rw [← hr]; exact Nat.mod_lt _ hk0
        have hr1 : (j : Int).tmod (i : Int) = (r : Int) := by rw [← hr, Int.tmod_eq_emod_of_nonneg (by omega)]; exact (Int.natCast_emod j i).symm
        have hr2 : (j : Int) % (i : Int) = (r : Int) := by rw [← hr]; exact (Int.natCast_emod j i).symm
        have hi0 : ¬ ((i : Int) = 0) := by omega
        have HR : Hid ((r + 1) % i = (j + 1) % i) := by show _ = _; rw [← hr]; simp
        rw [hr] at H3
        clear hr
        cases gk with
        | succ g2 =>
          have hlt2 : (j : Int) < (m : Int) := by omega
          clear hj
          have HRL := hide (rotL_len (numI i) r (by rw [numI_len]; omega))
          go_wp2_with fail
          refine (pick_yes 0 r _ H3.out (rotL_inv (num_inv i (by omega)) r) (by rw [HRL.out, numI_len]; omega) (fair_x i r hri)).mono ?_; rintro e w4 ⟨rfl, a4, c4, t4, f4, _⟩
          rw [fair_r i r hri (by omega), HR.out] at t4
          have H4 := hide t4
          have HB4 := hide (f4.low HB3.out HB3.out.size HG.out)
          clear t4 f4
          go_wp2
          go_roundg g2
          case measure => omega
          case rel => exact ⟨j + 1, a4, c4, by have := HJ.out; omega, by go_num, H4.out, HB4.out⟩
        | zero =>
          obtain rfl : j = m := by omega
          have hlt2 : ¬ ((j : Int) < (j : Int)) := by omega
          clear hj
          have HRL := hide ((rotL_len (numI i) r (by rw [numI_len]; omega)).trans (numI_len i))
          go_wp2_with fail
          refine (ready_any _ H3.out (by rw [HRL.out]; omega)).mono ?_; rintro e w4 ⟨a4, c4, rfl, n4, b4, _⟩
          rw [HRL.out] at n4 ⊢
          have HB4 := hide (below_one HB3.out b4)
          clear n4 b4
          go_wp2
          go_ret
          exact ⟨rfl, HB4.out⟩
end Go.Proofs.Ytnfpldndnmbplaa
