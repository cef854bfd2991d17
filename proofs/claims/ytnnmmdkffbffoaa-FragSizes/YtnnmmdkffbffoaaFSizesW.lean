/-
  The walk of FragSizes.
-/
import Derived.Test.YtnnmmdkffbffoaaFRead
namespace Go.Proofs.Ytnnmmdkffbffoaa
open Go.RowKit
def SzRel (w : World) (n s c gk : Nat) (vs vi : Value) (wq : World) : Prop := ∃ k u : Nat, k + gk = c ∧ vi = .int .i64 (k : Int) ∧ vs = .int .i64 (u : Int) ∧ u = min n (k * s) ∧ Below w.heap.size w wq
set_option maxRecDepth 20000 in
set_option maxHeartbeats 3200000 in
theorem walk_sizes (ao : Option Addr) (n cap : Nat) (zs : List Int) (z : Nat) (w : World) (hr : RowOf .u8 w ao n cap zs) (hz : z ≤ 255) :
    Calls Try.prog 4 #[.slice ao n cap, .int .u8 (z : Int)] w fun e w' => e = .returned (.bool true) ∧ Below w.heap.size w w' := by
  obtain ⟨l, hb⟩ := hr.bytes
  have HB := hide hb
  have HL := hide hb.1
  have hnc := hb.2.1
  have hcap : cap ≤ 9223372036854775807 := hb.2.2.1
  clear hr hb
  obtain ⟨s, hs⟩ : ∃ s, 1 + z = s := ⟨_, rfl⟩
  have h3 : 1 + (z : Int) = (s : Int) := by omega
  have hs1 : 1 ≤ s := by omega
  have hs2 : s ≤ 256 := by omega
  clear hs
  go_enter Try.func4, Try.ntmps4
  go_wp2_with fail
  refine (awake_any _).mono ?_; rintro e w1 ⟨rfl, b1⟩
  have HB1 := hide b1
  clear b1
  by_cases hn : s * 256 < n
  · go_wp2_with fail
    refine (split_bounds ao n cap 1 2 3 s _ hs1 (by omega) hn).mono ?_; rintro e w2 ⟨rfl, rfl⟩
    have hn2 : 256 * (s : Int) < (n : Int) := by omega
    go_wp2
    go_ret
    exact ⟨rfl, HB1.out⟩
  · go_wp2_with fail
    refine (split_yes ao n cap l 1 2 3 s _ (HB.out.carry HB1.out) hs1 (by omega) (by omega)).mono ?_; rintro e W ⟨L, rfl, P2, S2, _, b2⟩
    have HB2 := hide (below_one HB1.out b2)
    have hc := cnt_le n s hs1 (by omega)
    have hc0 := cnt_pos n s
    have HEND := hide (cnt_end n s hs1)
    have HMORE := hide (fun k h hk => cnt_more n s k hs1 h hk)
    have HIN := hide (fun k h => cnt_in n s k hs1 h)
    obtain ⟨c, hcc⟩ : ∃ c, cntF n s = c := ⟨_, rfl⟩
    rw [hcc] at P2 S2 hc hc0 HEND HMORE HIN ⊢
    have HP2 := hide P2
    have HS2 := hide S2
    obtain ⟨g, hgg⟩ : ∃ g, w1.heap.size = g := ⟨_, rfl⟩
    rw [hgg] at HP2
    simp only [hgg]
    clear P2 S2 b2 hgg HB1 hcc
    go_wp2_with fail
    go_loopg [8, 31] c (fun gk vs vi wq => SzRel W n s c gk vs vi wq)
    case atStart => exact ⟨0, 0, by omega, rfl, rfl, by omega, Below.refl _ _⟩
    case round =>
      obtain ⟨k, u, hk, rfl, rfl, hu, b⟩ := hrel
      have HBK := hide b
      have HU := hide hu
      clear b hu
      cases gk with
      | zero =>
        obtain rfl : k = c := by omega
        have hlt : ¬ ((k : Int) < (k : Int)) := by omega
        obtain rfl : u = n := by have := HU.out; have := HEND.out; omega
        have hk1 : (1 : Int) ≤ (k : Int) := by omega
        go_wp2
        go_ret
        exact ⟨rfl, below_one HB2.out HBK.out⟩
      | succ g1 =>
        have hkc : k < c := by omega
        have hlt : (k : Int) < (c : Int) := by omega
        obtain ⟨c0, c1, c2, c3, c4, c5⟩ := (HP2.out.carry HBK.out).elem k hkc
        have hbt := (HP2.out.bts k hkc).1
        rw [(HS2.out.2 k hkc).2.2.2.2.2, pc_len, ← HL.out] at hbt
        obtain ⟨y, hy⟩ : ∃ y, L.getD k Pa.zero = y := ⟨_, rfl⟩
        rw [hy] at c0 c1 c2 c3 c4 c5 hbt
        simp only [add0] at c0 c1 c2 c3 c4 c5
        obtain ⟨X, hX⟩ : ∃ X, wr.alloc (.cells #[.int .i64 y.f, .int .i64 y.t, .int .u64 y.i, .int .i64 y.x, .int .i64 y.c, .slice y.so y.sn y.sc] 27) = X := ⟨_, rfl⟩
        have hbx : BoxK X wr.heap.size y := hX ▸ boxK_new wr y
        have HB4 : Hid (Below W.heap.size W X) := below_one HBK.out (hX ▸ below_alloc wr _)
        have d5 := hbx.c5
        obtain ⟨v, hv⟩ : ∃ v, y.sn = v := ⟨_, rfl⟩
        rw [hv] at c5 d5 hbt hX
        have hin := HIN.out k hkc
        obtain ⟨p, hp⟩ : ∃ p, k * s = p := ⟨_, rfl⟩
        have hp1 : (k + 1) * s = p + s := by rw [Nat.add_mul, hp, Nat.one_mul]
        have hu := HU.out
        rw [hp] at hbt hin hu
        have HUN : Hid (u + v = min n ((k + 1) * s)) := by show _ = _; rw [hp1]; omega
        have huv : u + v ≤ 65536 := by omega
        have hvs : ¬ ((s : Int) < (v : Int)) := by omega
        have hx0 : 1 < c → ((v : Int) == 0) = false := fun h => by
          have : p < n := by
            by_cases hk0 : k = 0
            · subst hk0
              have := HMORE.out 1 h (Nat.le_refl _)
              omega
            · have := HMORE.out k hkc (by omega); rw [hp] at this; exact this
          simp; omega
        by_cases hkl : k + 1 < c
        · have h1 := HMORE.out (k + 1) hkl (by omega)
          rw [hp1] at h1
          have hl1 : (k : Int) < (c : Int) - 1 := by omega
          have hv1 : ((v : Int) != (s : Int)) = false := by simp; omega
          have hc1 : (1 : Int) < (c : Int) := by omega
          have hv0 := hx0 (by omega)
          clear hx0 hu hin hbt hp1 hp hy hbx h1 hv
          go_wp2
          go_roundg g1
          case measure => omega
          case rel => exact ⟨k + 1, u + v, by omega, by go_num, by go_num, HUN.out, HB4.out⟩
        · have hl1 : ¬ ((k : Int) < (c : Int) - 1) := by omega
          by_cases hc1 : 1 < c
          · have hc1' : (1 : Int) < (c : Int) := by omega
            have hv0 := hx0 hc1
            clear hx0 hu hin hbt hp1 hp hy hbx hv
            go_wp2
            go_roundg g1
            case measure => omega
            case rel => exact ⟨k + 1, u + v, by omega, by go_num, by go_num, HUN.out, HB4.out⟩
          · have hc1' : ¬ ((1 : Int) < (c : Int)) := by omega
            clear hx0 hu hin hbt hp1 hp hy hbx hv
            go_wp2
            go_roundg g1
            case measure => omega
            case rel => exact ⟨k + 1, u + v, by omega, by go_num, by go_num, HUN.out, HB4.out⟩
end Go.Proofs.Ytnnmmdkffbffoaa
