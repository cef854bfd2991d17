/-
  The walk of DirectoryNeeds.
-/
import Derived.Test.YtlmnnjibggdboaaGreatDoorJm
namespace Go.Proofs.YtlmnnjibggdboaaGreatDoor
section
open Go.RowKit
theorem u16_nat {n : Int} (h : (Lit.int .u16 n).wf = true) : ∃ v : Nat, n = (v : Int) ∧ v ≤ 65535 := by
  have := bounds_u16 h; exact ⟨n.toNat, by omega, by omega⟩
set_option maxRecDepth 20000 in
set_option maxHeartbeats 3200000 in
theorem needs_100 (w : World) (hg : Glob w) :
    Calls Tryz.prog 4 #[.int .u16 100] w fun e w' => e = .returned (.bool true) ∧ Below w.heap.size w w' := by
  have HG := hide hg
  have hs : ∀ (a : Option Addr) (w : World), Calls Tryz.prog 20 #[.pointer a, .int .u16 100] w fun e w' => e = .returned (.tuple #[.int .u8 4, .bool true]) ∧ w' = w := fun a w => svc_need a 100 w (by omega)
  have HS := hide hs
  clear hg hs
  go_enter Tryz.func4, Tryz.ntmps4
  go_wp2_with fail
  refine (awake_any _ HG.out).mono ?_; rintro e w1 ⟨rfl, b1⟩
  have HB := hide b1
  clear b1
  go_wp2_with fail
  refine (HS.out _ _).mono ?_; rintro e w2 ⟨rfl, rfl⟩
  go_wp2
  go_ret
  exact ⟨rfl, below_one (below_one HB.out (below_alloc _ _)) (below_alloc _ _)⟩
set_option maxRecDepth 20000 in
set_option maxHeartbeats 3200000 in
theorem needs_101 (w : World) (hg : Glob w) :
    Calls Tryz.prog 4 #[.int .u16 101] w fun e w' => e = .returned (.bool true) ∧ Below w.heap.size w w' := by
  have HG := hide hg
  have hs : ∀ (a : Option Addr) (w : World), Calls Tryz.prog 20 #[.pointer a, .int .u16 101] w fun e w' => e = .returned (.tuple #[.int .u8 1, .bool true]) ∧ w' = w := fun a w => svc_need a 101 w (by omega)
  have HS := hide hs
  clear hg hs
  go_enter Tryz.func4, Tryz.ntmps4
  go_wp2_with fail
  refine (awake_any _ HG.out).mono ?_; rintro e w1 ⟨rfl, b1⟩
  have HB := hide b1
  clear b1
  go_wp2_with fail
  refine (HS.out _ _).mono ?_; rintro e w2 ⟨rfl, rfl⟩
  go_wp2
  go_ret
  exact ⟨rfl, below_one (below_one HB.out (below_alloc _ _)) (below_alloc _ _)⟩
set_option maxRecDepth 20000 in
set_option maxHeartbeats 3200000 in
theorem needs_102 (w : World) (hg : Glob w) :
    Calls Tryz.prog 4 #[.int .u16 102] w fun e w' => e = .returned (.bool true) ∧ Below w.heap.size w w' := by
  have HG := hide hg
  have hs : ∀ (a : Option Addr) (w : World), Calls Tryz.prog 20 #[.pointer a, .int .u16 102] w fun e w' => e = .returned (.tuple #[.int .u8 2, .bool true]) ∧ w' = w := fun a w => svc_need a 102 w (by omega)
  have HS := hide hs
  clear hg hs
  go_enter Tryz.func4, Tryz.ntmps4
  go_wp2_with fail
  refine (awake_any _ HG.out).mono ?_; rintro e w1 ⟨rfl, b1⟩
  have HB := hide b1
  clear b1
  go_wp2_with fail
  refine (HS.out _ _).mono ?_; rintro e w2 ⟨rfl, rfl⟩
  go_wp2
  go_ret
  exact ⟨rfl, below_one (below_one HB.out (below_alloc _ _)) (below_alloc _ _)⟩
set_option maxRecDepth 20000 in
set_option maxHeartbeats 3200000 in
theorem needs_103 (w : World) (hg : Glob w) :
    Calls Tryz.prog 4 #[.int .u16 103] w fun e w' => e = .returned (.bool true) ∧ Below w.heap.size w w' := by
  have HG := hide hg
  have hs : ∀ (a : Option Addr) (w : World), Calls Tryz.prog 20 #[.pointer a, .int .u16 103] w fun e w' => e = .returned (.tuple #[.int .u8 2, .bool true]) ∧ w' = w := fun a w => svc_need a 103 w (by omega)
  have HS := hide hs
  clear hg hs
  go_enter Tryz.func4, Tryz.ntmps4
  go_wp2_with fail
  refine (awake_any _ HG.out).mono ?_; rintro e w1 ⟨rfl, b1⟩
  have HB := hide b1
  clear b1
  go_wp2_with fail
  refine (HS.out _ _).mono ?_; rintro e w2 ⟨rfl, rfl⟩
  go_wp2
  go_ret
  exact ⟨rfl, below_one (below_one HB.out (below_alloc _ _)) (below_alloc _ _)⟩
set_option maxRecDepth 20000 in
set_option maxHeartbeats 3200000 in
theorem needs_104 (w : World) (hg : Glob w) :
    Calls Tryz.prog 4 #[.int .u16 104] w fun e w' => e = .returned (.bool true) ∧ Below w.heap.size w w' := by
  have HG := hide hg
  have hs : ∀ (a : Option Addr) (w : World), Calls Tryz.prog 20 #[.pointer a, .int .u16 104] w fun e w' => e = .returned (.tuple #[.int .u8 8, .bool true]) ∧ w' = w := fun a w => svc_need a 104 w (by omega)
  have HS := hide hs
  clear hg hs
  go_enter Tryz.func4, Tryz.ntmps4
  go_wp2_with fail
  refine (awake_any _ HG.out).mono ?_; rintro e w1 ⟨rfl, b1⟩
  have HB := hide b1
  clear b1
  go_wp2_with fail
  refine (HS.out _ _).mono ?_; rintro e w2 ⟨rfl, rfl⟩
  go_wp2
  go_ret
  exact ⟨rfl, below_one (below_one HB.out (below_alloc _ _)) (below_alloc _ _)⟩
set_option maxRecDepth 20000 in
set_option maxHeartbeats 3200000 in
theorem needs_105 (w : World) (hg : Glob w) :
    Calls Tryz.prog 4 #[.int .u16 105] w fun e w' => e = .returned (.bool true) ∧ Below w.heap.size w w' := by
  have HG := hide hg
  have hs : ∀ (a : Option Addr) (w : World), Calls Tryz.prog 20 #[.pointer a, .int .u16 105] w fun e w' => e = .returned (.tuple #[.int .u8 1, .bool true]) ∧ w' = w := fun a w => svc_need a 105 w (by omega)
  have HS := hide hs
  clear hg hs
  go_enter Tryz.func4, Tryz.ntmps4
  go_wp2_with fail
  refine (awake_any _ HG.out).mono ?_; rintro e w1 ⟨rfl, b1⟩
  have HB := hide b1
  clear b1
  go_wp2_with fail
  refine (HS.out _ _).mono ?_; rintro e w2 ⟨rfl, rfl⟩
  go_wp2
  go_ret
  exact ⟨rfl, below_one (below_one HB.out (below_alloc _ _)) (below_alloc _ _)⟩
set_option maxRecDepth 20000 in
set_option maxHeartbeats 3200000 in
theorem walk_needs (op : Nat) (w : World) (ho : op ≤ 65535) (hg : Glob w) :
    Calls Tryz.prog 4 #[.int .u16 (op : Int)] w fun e w' => e = .returned (.bool true) ∧ Below w.heap.size w w' := by
  have HG := hide hg
  by_cases h1 : 100 ≤ op ∧ op ≤ 105
  · have : op = 100 ∨ op = 101 ∨ op = 102 ∨ op = 103 ∨ op = 104 ∨ op = 105 := by omega
    clear h1 ho hg
    rcases this with rfl | rfl | rfl | rfl | rfl | rfl
    · exact needs_100 w HG.out
    · exact needs_101 w HG.out
    · exact needs_102 w HG.out
    · exact needs_103 w HG.out
    · exact needs_104 w HG.out
    · exact needs_105 w HG.out
  · have e0 : needB op = false := by unfold needB; simp; omega
    have e1 : needN op = 0 := by unfold needN; rw [if_neg (by omega), if_neg (by omega), if_neg (by omega), if_neg (by omega), if_neg (by omega), if_neg (by omega)]
    have HE0 := hide e0
    have HE1 := hide e1
    have HO := hide ho
    by_cases h2 : op < 100
    · have i1 : ¬ (100 : Int) ≤ (op : Int) := by omega
      clear h1 ho hg e0 e1 h2
      go_enter Tryz.func4, Tryz.ntmps4
      go_wp2_with fail
      refine (awake_any _ HG.out).mono ?_; rintro e w1 ⟨rfl, b1⟩
      have HB := hide b1
      clear b1
      go_wp2_with fail
      refine (svc_need _ op _ HO.out).mono ?_; rw [HE0.out, HE1.out]; rintro e w2 ⟨rfl, rfl⟩
      go_wp2
      go_ret
      exact ⟨rfl, below_one HB.out (below_alloc _ _)⟩
    · have i1 : (100 : Int) ≤ (op : Int) := by omega
      have i2 : ¬ (op : Int) ≤ 105 := by omega
      clear h1 ho hg e0 e1 h2
      go_enter Tryz.func4, Tryz.ntmps4
      go_wp2_with fail
      refine (awake_any _ HG.out).mono ?_; rintro e w1 ⟨rfl, b1⟩
      have HB := hide b1
      clear b1
      go_wp2_with fail
      refine (svc_need _ op _ HO.out).mono ?_; rw [HE0.out, HE1.out]; rintro e w2 ⟨rfl, rfl⟩
      go_wp2
      go_ret
      exact ⟨by simp [i2], below_one HB.out (below_alloc _ _)⟩
end
end Go.Proofs.YtlmnnjibggdboaaGreatDoor
