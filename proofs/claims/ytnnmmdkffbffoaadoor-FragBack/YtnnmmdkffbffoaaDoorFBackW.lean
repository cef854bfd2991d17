/-
  The walk of FragBack.
-/
import Derived.Test.YtnnmmdkffbffoaaDoorQNum
namespace Go.Proofs.YtnnmmdkffbffoaaDoor
open Go.RowKit
set_option maxRecDepth 20000 in
set_option maxHeartbeats 3200000 in
theorem walk_back (ao : Option Addr) (n cap : Nat) (zs : List Int) (z : Nat) (i : Int) (w : World) (hr : RowOf .u8 w ao n cap zs) (hz : z ≤ 65535) (hg : Glob w) :
    Calls Tryd.prog 4 #[.slice ao n cap, .int .u16 (z : Int), .int .u64 i] w fun e w' => e = .returned (.bool true) ∧ Below w.heap.size w w' := by
  obtain ⟨l, hb⟩ := hr.bytes
  have HB := hide hb
  have HG := hide hg
  have HL := hide hb.1
  have hnc := hb.2.1
  clear hr hb hg
  obtain ⟨r, hr⟩ : ∃ r, z % 2000 = r := ⟨_, rfl⟩
  obtain ⟨s, hs⟩ : ∃ s, 1 + r = s := ⟨_, rfl⟩
  have h1 : (z : Int) % 2000 = (r : Int) := by omega
  have h2 : (z : Int).tmod 2000 = (r : Int) := by rw [Int.tmod_eq_emod_of_nonneg (by omega)]; exact h1
  have h3 : 1 + (r : Int) = (s : Int) := by omega
  have hs1 : 1 ≤ s := by omega
  have hs2 : s ≤ 2000 := by omega
  clear hr hs
  go_enter Tryd.func4, Tryd.ntmps4
  go_wp2_with fail
  refine (awake_any _).mono ?_; rintro e w1 ⟨rfl, b1⟩
  have HB1 := hide b1
  clear b1
  by_cases hn : s * 256 < n
  · go_wp2_with fail
    refine (split_bounds ao n cap 0 1 i s _ hs1 (by omega) hn).mono ?_; rintro e w2 ⟨rfl, rfl⟩
    go_wp2_with fail
    refine (number_errno 13 _ (HG.out.carry HB1.out)).mono ?_; rintro e w3 ⟨rfl, b3⟩
    have HB3 := hide (below_one HB1.out b3)
    have hn2 : (256 : Int) < (n : Int) := by omega
    clear b3
    go_wp2
    go_ret
    exact ⟨rfl, HB3.out⟩
  · go_wp2_with fail
    refine (split_yes ao n cap l 0 1 i s _ (HB.out.carry HB1.out) hs1 (by omega) (by omega)).mono ?_; rintro e w2 ⟨L, rfl, P2, S2, _, b2⟩
    have hc := cnt_le n s hs1 (by omega)
    have hj := hide (spl_join S2 P2 (by omega) hc (cnt_pos n s))
    have hjl : Hid (joinL L = l) := spl_bytes (by rw [← HL.out]; exact S2) hs1
    have HB2 := hide (below_one HB1.out b2)
    obtain ⟨c, hcc⟩ : ∃ c, cntF n s = c := ⟨_, rfl⟩
    rw [hcc] at P2 hc ⊢
    have HP2 := hide P2
    obtain ⟨g, hgg⟩ : ∃ g, w1.heap.size = g := ⟨_, rfl⟩
    rw [hgg] at HP2
    simp only [hgg]
    clear P2 S2 b2 hcc hgg
    go_wp2_with fail
    refine (join_any _ c c L _ HP2.out).mono ?_; rintro e w3 ⟨b3, hy, _⟩
    obtain ⟨ro, rc, rfl, B3, _⟩ := hy hj.out
    rw [hjl.out] at B3 ⊢
    have HB3 := hide (below_one HB2.out b3)
    have k1 := conv_bts B3
    have k2 := conv_bts (HB.out.carry HB3.out)
    clear b3 hy B3
    go_wp2
    go_ret
    exact ⟨rfl, HB3.out⟩
end Go.Proofs.YtnnmmdkffbffoaaDoor
