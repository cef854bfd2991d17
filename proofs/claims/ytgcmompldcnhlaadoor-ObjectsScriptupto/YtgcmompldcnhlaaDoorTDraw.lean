/-
  What Taken, Left, Apart, Draw and home answer, as contracts; what became of the world.
-/
import Derived.Test.YtgcmompldcnhlaaDoorTRow
import Derived.Test.YtgcmompldcnhlaaDoorBCalls
import Derived.WalkSpells
import Derived.WalkLawsBesides
import Derived.Handy
namespace Go.Proofs.YtgcmompldcnhlaaDoor
open Go.RowKit
theorem home_num (x m : Nat) : ((mixF (x : Int) 0) % (m : Int)) = ((homeF x m : Nat) : Int) := by
  have h0 := mixF_lo (x : Int) 0
  unfold homeF
  rw [Int.natCast_emod, Int.toNat_of_nonneg h0]
set_option maxHeartbeats 400000 in
theorem home_any (x m : Nat) (w : World) (hx : x ≤ 281474976710655) (hm : 0 < m) (hm2 : m ≤ 35184372087809) :
    Calls Tryd.prog 42 #[.int .u64 x, .int .i64 m] w fun e w' => e = .returned (.int .i64 (homeF x m : Nat)) ∧ ∃ q, w' = w.drewN q := by
  have HH := hide (home_num x m)
  have hl := hide (homeF_lt x m hm)
  have h0 := mixF_lo (x : Int) 0
  have h1 : mixF (x : Int) 0 ≤ 281474976710655 := by have := mixF_hi (x : Int) 0; omega
  go_enter Tryd.func42, Tryd.ntmps42
  go_wp2_with fail
  refine (mix_any x 0 w (by omega) (by omega) (by omega) (by omega)).mono ?_; rintro e w1 ⟨rfl, q, rfl⟩
  go_wp2
  rw [HH.out]
  have hl2 := hl.out
  go_ret
  exact ⟨ret_int (by go_arith), _, rfl⟩
set_option maxHeartbeats 400000 in
theorem left_any (g h : Nat) (ws : List Nat) (t k : Nat) (w : World) (T : TapeAt w g h ws t k) :
    Calls Tryd.prog 53 #[.pointer (some ⟨g, 0, none⟩)] w fun e w' => e = .returned (.int .i64 ((ws.length : Int) - t)) ∧ ∃ q, w' = w.drewN q := by
  have c0 := fun q => (T.drewN q).c0
  have c1 := fun q => (T.drewN q).c1
  have hn := T.fits
  have ht := T.some
  clear T
  generalize ws.length = n at *
  go_enter Tryd.func53, Tryd.ntmps53
  go_wp2
  go_quiet (fail)
  go_wp2
  go_ret
  exact ⟨rfl, _, rfl⟩
set_option maxHeartbeats 400000 in
theorem draw_no (g h : Nat) (ws : List Nat) (k : Nat) (w : World) (T : TapeAt w g h ws ws.length k) :
    Calls Tryd.prog 44 #[.pointer (some ⟨g, 0, none⟩)] w fun e w' => e = .returned (.tuple #[.int .u64 0, .iface 60 (.int .i64 7)]) ∧ ∃ q, w' = w.drewN q := by
  have HT := hide T
  clear T
  go_enter Tryd.func44, Tryd.ntmps44
  go_wp2_with fail
  refine (left_any g h ws _ k _ HT.out).mono ?_; rintro e w1 ⟨rfl, q, rfl⟩
  go_wp2
  go_ret2
  exact ⟨rfl, _, rfl⟩
set_option maxHeartbeats 800000 in
theorem draw_yes (g h : Nat) (ws : List Nat) (t k : Nat) (w : World) (T : TapeAt w g h ws t k) (ht : t < ws.length) :
    Calls Tryd.prog 44 #[.pointer (some ⟨g, 0, none⟩)] w fun e w' => e = .returned (.tuple #[.int .u64 (ws.getD t 0 : Nat), .nilIface]) ∧ ∃ q, w' = (w.drewN q).setCell ⟨g, 1, none⟩ (.int .i64 ((t : Int) + 1)) := by
  have HT := hide T
  have hn := T.fits
  have hz := ht
  clear T
  go_enter Tryd.func44, Tryd.ntmps44
  go_wp2_with fail
  refine (left_any g h ws _ k _ HT.out).mono ?_; rintro e w1 ⟨rfl, q, rfl⟩
  have c0 := fun j => (HT.out.drewN j).c0
  have c1 := fun j => (HT.out.drewN j).c1
  have z1 := fun j => (HT.out.drewN j).z1
  have cc := fun j => (HT.out.drewN j).row.cell t ht
  have d1 := (HT.out.drewN q).c1
  generalize ws.length = n at *
  obtain ⟨x, hx⟩ : ∃ x, ws.getD t 0 = x := ⟨_, rfl⟩
  have HX := hide hx
  rw [hx] at cc
  clear hx
  go_wp2
  go_quiet (fail)
  go_wp2
  go_ret2
  exact ⟨by rw [HX.out]; rfl, _, rfl⟩
end Go.Proofs.YtgcmompldcnhlaaDoor
