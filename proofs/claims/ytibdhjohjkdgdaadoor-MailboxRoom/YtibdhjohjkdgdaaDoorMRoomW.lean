/-
  The walk of MailboxRoom.
-/
import Derived.Test.YtibdhjohjkdgdaaDoorMAwake
namespace Go.Proofs.YtibdhjohjkdgdaaDoor
open Go.RowKit Go.Conc
def ids (n : Nat) : List Ms := (List.range n).map fun (k : Nat) => msgI (k : Int)
theorem ids_len (n : Nat) : (ids n).length = n := by simp [ids]
theorem ids_succ (n : Nat) : ids (n + 1) = ids n ++ [(msgI n).nm] := by unfold ids; rw [List.range_succ, List.map_append]; rfl
theorem ids_cons (n : Nat) : ∃ T, ids (n + 1) = msgI 0 :: T ∧ T.length = n := ⟨(ids (n + 1)).tail, by unfold ids; rw [List.range_succ_eq_map]; rfl, by rw [List.length_tail, ids_len]; rfl⟩
def RoomRelU (w : World) (b cu co n gk : Nat) (vi : Value) (wq : World) : Prop := ∃ i : Nat, i + gk = n ∧ vi = .int .i64 (i : Int) ∧ St wq b cu co n (ids i) [] ∧ Below w.heap.size w wq
def RoomRelO (w : World) (b cu co n gk : Nat) (vi : Value) (wq : World) : Prop := ∃ i : Nat, i + gk = n ∧ vi = .int .i64 (i : Int) ∧ St wq b cu co n [] (ids i) ∧ Below w.heap.size w wq
set_option maxRecDepth 20000 in
set_option maxHeartbeats 6400000 in
theorem walk_room_true (r : Nat) (w : World) (hr : r ≤ 255) (hg : Glob w) :
    Calls Tryd.prog 6 #[.int .u8 (r : Int), .bool true] w fun e w' => e = .returned (.bool true) ∧ Below w.heap.size w w' := by
  have HG := hide hg
  obtain ⟨n, hn⟩ : ∃ n, 1 + r % 64 = n := ⟨_, rfl⟩
  have hn1 : 1 + (r : Int) % 64 = (n : Int) := by omega
  have hn64 : 1 ≤ n ∧ n ≤ 64 := by omega
  clear hg hn
  go_enter Tryd.func6, Tryd.ntmps6
  go_wp2_with fail
  refine (awake_any _ HG.out).mono ?_; rintro e w0 ⟨rfl, b0⟩
  have HB0 := hide b0
  clear b0
  go_wp2_with fail
  refine (st_of n n (by unfold roomF; omega) _).mono ?_; rintro e w1 ⟨b, cu, co, rfl, x1, b1, h1, h2, h3⟩
  have HX1 := hide x1
  have H2 : Hid (w.heap.size ≤ cu) := Nat.le_trans HB0.out.size h2
  have H3 : Hid (w.heap.size ≤ co) := Nat.le_trans HB0.out.size h3
  have HB1 := hide (below_one HB0.out b1)
  clear x1 b1 h1 h2 h3
  go_wp2
  go_loopg [7] n (fun gk vi wq => RoomRelU w b cu co n gk vi wq)
  case atStart => exact ⟨0, by omega, rfl, HX1.out, HB1.out⟩
  case round =>
    obtain ⟨i, hi, rfl, st, bl⟩ := hrel
    have HS := hide st
    have HB := hide bl
    clear st bl
    cases gk with
    | zero =>
      obtain rfl : i = n := by omega
      have hlt : ¬ ((i : Int) < (i : Int)) := by omega
      go_wp2_with fail
      refine (stU_full (msgI 0) _ HS.out (msgI_has 0 _) (msgI_sn 0) (by rw [ids_len]; exact Nat.le_refl _)).mono ?_; rintro e w3 ⟨rfl, x3, f3⟩
      have HX3 := hide x3
      have HB3 := hide (two_on HB.out H2.out H3.out f3)
      clear x3 f3
      unfold errV
      go_wp2_with fail
      refine (stO_room (msgI 0) _ HX3.out (msgI_has 0 _) (msgI_sn 0) (by show 0 < _; omega)).mono ?_; rintro e w4 ⟨rfl, x4, f4⟩
      obtain ⟨T, hT, hTl⟩ := ids_cons (i - 1)
      rw [show i - 1 + 1 = i by omega] at hT
      rw [hT] at x4
      have HX4 : Hid (St w4 b cu co i (msgI 0 :: T) [msgI 0]) := x4
      have HB4 := hide (two_on HB3.out H2.out H3.out f4)
      have HTL := hide hTl
      clear x4 f4 hT hTl
      go_wp2_with fail
      refine (stU_get (msgI 0) _ HX4.out).mono ?_; rintro e w5 ⟨y5, rfl, E5⟩
      have HX5 := hide E5.st
      have HB5 := hide (two_on HB4.out H2.out H3.out E5.ft)
      clear E5
      go_wp2_with fail
      refine (number_errno 5 _ (HG.out.grow HB5.out HG.out.lt)).mono ?_; rintro e w6 ⟨rfl, b6⟩
      have HX6 := hide (HX5.out.grow b6)
      have HB6 := hide (below_one HB5.out b6)
      clear b6
      go_wp2_with fail
      refine (stU_room (msgI 0) _ HX6.out (msgI_has 0 _) (msgI_sn 0) (by have := HTL.out; omega)).mono ?_; rintro e w7 ⟨rfl, x7, f7⟩
      have HB7 := hide (two_on HB6.out H2.out H3.out f7)
      clear x7 f7
      go_wp2
      go_ret
      exact ⟨rfl, HB7.out⟩
    | succ g1 =>
      have hlt : (i : Int) < (n : Int) := by omega
      go_wp2_with fail
      refine (stU_room (msgI (i : Int)) _ HS.out (msgI_has _ _) (msgI_sn _) (by rw [ids_len]; omega)).mono ?_; rintro e w3 ⟨rfl, x3, f3⟩
      rw [← ids_succ] at x3
      have HX3 := hide x3
      have HB3 := hide (two_on HB.out H2.out H3.out f3)
      clear x3 f3
      go_wp2
      go_roundg g1
      case measure => omega
      case rel => exact ⟨i + 1, by omega, by go_num, HX3.out, HB3.out⟩
set_option maxRecDepth 20000 in
set_option maxHeartbeats 6400000 in
theorem walk_room_false (r : Nat) (w : World) (hr : r ≤ 255) (hg : Glob w) :
    Calls Tryd.prog 6 #[.int .u8 (r : Int), .bool false] w fun e w' => e = .returned (.bool true) ∧ Below w.heap.size w w' := by
  have HG := hide hg
  obtain ⟨n, hn⟩ : ∃ n, 1 + r % 64 = n := ⟨_, rfl⟩
  have hn1 : 1 + (r : Int) % 64 = (n : Int) := by omega
  have hn64 : 1 ≤ n ∧ n ≤ 64 := by omega
  clear hg hn
  go_enter Tryd.func6, Tryd.ntmps6
  go_wp2_with fail
  refine (awake_any _ HG.out).mono ?_; rintro e w0 ⟨rfl, b0⟩
  have HB0 := hide b0
  clear b0
  go_wp2_with fail
  refine (st_of n n (by unfold roomF; omega) _).mono ?_; rintro e w1 ⟨b, cu, co, rfl, x1, b1, h1, h2, h3⟩
  have HX1 := hide x1
  have H2 : Hid (w.heap.size ≤ cu) := Nat.le_trans HB0.out.size h2
  have H3 : Hid (w.heap.size ≤ co) := Nat.le_trans HB0.out.size h3
  have HB1 := hide (below_one HB0.out b1)
  clear x1 b1 h1 h2 h3
  go_wp2
  go_loopg [7] n (fun gk vi wq => RoomRelO w b cu co n gk vi wq)
  case atStart => exact ⟨0, by omega, rfl, HX1.out, HB1.out⟩
  case round =>
    obtain ⟨i, hi, rfl, st, bl⟩ := hrel
    have HS := hide st
    have HB := hide bl
    clear st bl
    cases gk with
    | zero =>
      obtain rfl : i = n := by omega
      have hlt : ¬ ((i : Int) < (i : Int)) := by omega
      go_wp2_with fail
      refine (stO_full (msgI 0) _ HS.out (msgI_has 0 _) (msgI_sn 0) (by rw [ids_len]; exact Nat.le_refl _)).mono ?_; rintro e w3 ⟨rfl, x3, f3⟩
      have HX3 := hide x3
      have HB3 := hide (two_on HB.out H2.out H3.out f3)
      clear x3 f3
      unfold errV
      go_wp2_with fail
      refine (stU_room (msgI 0) _ HX3.out (msgI_has 0 _) (msgI_sn 0) (by show 0 < _; omega)).mono ?_; rintro e w4 ⟨rfl, x4, f4⟩
      obtain ⟨T, hT, hTl⟩ := ids_cons (i - 1)
      rw [show i - 1 + 1 = i by omega] at hT
      rw [hT] at x4
      have HX4 : Hid (St w4 b cu co i [msgI 0] (msgI 0 :: T)) := x4
      have HB4 := hide (two_on HB3.out H2.out H3.out f4)
      have HTL := hide hTl
      clear x4 f4 hT hTl
      go_wp2_with fail
      refine (stU_get (msgI 0) _ HX4.out).mono ?_; rintro e w45 ⟨y4, rfl, E4⟩
      have HX45 := hide E4.st
      have HB45 := hide (two_on HB4.out H2.out H3.out E4.ft)
      clear E4
      go_wp2_with fail
      refine (stO_get (msgI 0) _ HX45.out).mono ?_; rintro e w5 ⟨y5, rfl, E5⟩
      have HX5 := hide E5.st
      have HB5 := hide (two_on HB45.out H2.out H3.out E5.ft)
      clear E5
      go_wp2_with fail
      refine (number_errno 5 _ (HG.out.grow HB5.out HG.out.lt)).mono ?_; rintro e w6 ⟨rfl, b6⟩
      have HX6 := hide (HX5.out.grow b6)
      have HB6 := hide (below_one HB5.out b6)
      clear b6
      go_wp2_with fail
      refine (stO_room (msgI 0) _ HX6.out (msgI_has 0 _) (msgI_sn 0) (by have := HTL.out; omega)).mono ?_; rintro e w7 ⟨rfl, x7, f7⟩
      have HB7 := hide (two_on HB6.out H2.out H3.out f7)
      clear x7 f7
      go_wp2
      go_ret
      exact ⟨rfl, HB7.out⟩
    | succ g1 =>
      have hlt : (i : Int) < (n : Int) := by omega
      go_wp2_with fail
      refine (stO_room (msgI (i : Int)) _ HS.out (msgI_has _ _) (msgI_sn _) (by rw [ids_len]; omega)).mono ?_; rintro e w3 ⟨rfl, x3, f3⟩
      rw [← ids_succ] at x3
      have HX3 := hide x3
      have HB3 := hide (two_on HB.out H2.out H3.out f3)
      clear x3 f3
      go_wp2
      go_roundg g1
      case measure => omega
      case rel => exact ⟨i + 1, by omega, by go_num, HX3.out, HB3.out⟩
theorem walk_room (r : Nat) (u : Bool) (w : World) (hr : r ≤ 255) (hg : Glob w) :
    Calls Tryd.prog 6 #[.int .u8 (r : Int), .bool u] w fun e w' => e = .returned (.bool true) ∧ Below w.heap.size w w' := by
  cases u
  · exact walk_room_false r w hr hg
  · exact walk_room_true r w hr hg
end Go.Proofs.YtibdhjohjkdgdaaDoor
