/-
  The walk of WireFull.
-/
import Derived.Test.YtdepjclbeocmhaaFRead
namespace Go.Proofs.Ytdepjclbeocmhaa
open Go.RowKit
def FlRel (w : World) (g c gk : Nat) (vi : Value) (wq : World) : Prop :=
  ∃ i : Nat, i + gk = c ∧ vi = .int .i64 (i : Int) ∧ St wq g NoS (ids (min i 1024)) ∧ Below w.heap.size w wq
theorem ids_full (p : Pa) : sendL (ids 1024) p = ids 1024 := by unfold sendL; rw [if_pos (by rw [ids_len]; omega)]
theorem ids_no : sendE (ids 1024) = 5 := by unfold sendE; rw [if_pos (by rw [ids_len]; omega)]
set_option maxRecDepth 20000 in
set_option maxHeartbeats 3200000 in
theorem walk_full (z : Nat) (w : World) (hz : z ≤ 255) :
    Calls Try.prog 3 #[.int .u8 (z : Int)] w fun e w' => e = .returned (.bool true) ∧ Below w.heap.size w w' := by
  obtain ⟨c, hc⟩ : ∃ c, 1024 + z = c := ⟨_, rfl⟩
  have h3 : 1024 + (z : Int) = (c : Int) := by omega
  have hc2 : c ≤ 1279 := by omega
  have hc3 : 1024 ≤ c := by omega
  clear hc
  go_enter Try.func3, Try.ntmps3
  go_wp2_with fail
  refine (awake_any _).mono ?_; rintro e W ⟨rfl, b1⟩
  have HB1 := hide b1
  clear b1
  obtain ⟨X, hX⟩ : ∃ X, W.alloc (.cells #[.slice none 0 0] 26) = X := ⟨_, rfl⟩
  have HBX : Hid (Below w.heap.size w X) := below_one HB1.out (hX ▸ below_alloc W _)
  obtain ⟨g, hg⟩ : ∃ g, W.heap.size = g := ⟨_, rfl⟩
  have HST : Hid (St X g NoS (ids 0)) := by show St _ _ _ _; rw [← hX, ← hg]; exact st_new W NoS
  have HG : Hid (w.heap.size ≤ g) := by show _ ≤ _; rw [← hg]; exact HB1.out.size
  go_wp2_with fail
  go_loopg [4] c (fun gk vi wq => FlRel w g c gk vi wq)
  case atStart => exact ⟨0, by omega, rfl, HST.out, HBX.out⟩
  case round =>
    obtain ⟨i, hi, rfl, st, b⟩ := hrel
    have HS := hide st
    have HB := hide b
    clear st b hX hg
    cases gk with
    | zero =>
      obtain rfl : i = c := by omega
      have hlt : ¬ ((i : Int) < (i : Int)) := by omega
      rw [Nat.min_eq_right hc3] at HS
      clear hi
      go_wp2_with fail
      refine (arrive_any (-1) _ HS.out noS (by rw [ids_len]; omega)).mono ?_; rintro e w1 ⟨y, rfl, E1⟩
      have hk : placeF (-1) 1024 = 1023 := by decide
      have HY : Hid (y.i = 1023) := by
        have := congrArg Pa.i E1.nm
        rw [ids_len, hk, ids_get 1024 1023 (by omega)] at this
        exact this
      have s1 := E1.st
      rw [ids_len, hk] at s1
      have HLN : Hid (((ids 1024).eraseIdx 1023).length = 1023) := by show _ = _; rw [List.length_eraseIdx, ids_len]; rfl
      have b1 := foot_on HB.out HG.out E1.ft
      obtain ⟨Y, hY⟩ : ∃ Y, w1.alloc (.cells #[.int .i64 y.f, .int .i64 y.t, .int .u64 y.i, .int .i64 y.x, .int .i64 y.c, .slice y.so y.sn y.sc] 33) = Y := ⟨_, rfl⟩
      have bY : Below w1.heap.size w1 Y := hY ▸ below_alloc w1 _
      have hbq : BoxK Y w1.heap.size y := hY ▸ boxK_new w1 y
      have HS1 := hide (s1.grow bY)
      have HB1 := hide (below_one b1 bY)
      have k2 := hbq.c2
      obtain ⟨L1, hL1⟩ : ∃ L1, (ids 1024).eraseIdx 1023 = L1 := ⟨_, rfl⟩
      rw [hL1] at HS1 HLN
      obtain ⟨yi, hyi⟩ : ∃ yi, y.i = yi := ⟨_, rfl⟩
      rw [hyi] at k2 hY HY
      obtain rfl : yi = 1023 := HY.out
      clear E1 s1 b1 bY hk hbq hL1
      go_wp2_with fail
      refine (len_any _ HS1.out).mono ?_; rintro e w3 ⟨rfl, rfl⟩
      rw [HLN.out]
      go_wp2
      go_ret
      exact ⟨rfl, HB1.out⟩
    | succ g1 =>
      have hlt : (i : Int) < (c : Int) := by omega
      have hi2 : (i : Int) ≤ 1279 := by omega
      by_cases h : i < 1024
      · have hl2 : (i : Int) < 1024 := by omega
        rw [Nat.min_eq_left (by omega)] at HS
        go_wp2_with fail
        refine (send_any (pkI i) _ HS.out noS (pkI_has i _) (pkI_sn i)).mono ?_; rintro e w1 ⟨rfl, s1, f1⟩
        rw [ids_yes i (by omega), erN_zero]
        rw [ids_send i (by omega)] at s1
        have HS1 := hide s1
        have HB1 := hide (foot_on HB.out HG.out f1)
        clear s1 f1
        go_wp2
        go_roundg g1
        case measure => omega
        case rel => exact ⟨i + 1, by omega, by go_num, by rw [Nat.min_eq_left (by omega)]; exact HS1.out, HB1.out⟩
      · have hl2 : ¬ (i : Int) < 1024 := by omega
        rw [Nat.min_eq_right (by omega)] at HS
        go_wp2_with fail
        refine (send_any (pkI i) _ HS.out noS (pkI_has i _) (pkI_sn i)).mono ?_; rintro e w1 ⟨rfl, s1, f1⟩
        rw [ids_no, erN_not (by decide)]
        rw [ids_full] at s1
        have HS1 := hide s1
        have HB1 := hide (foot_on HB.out HG.out f1)
        clear s1 f1
        go_wp2
        go_roundg g1
        case measure => omega
        case rel => exact ⟨i + 1, by omega, by go_num, by rw [Nat.min_eq_right (by omega)]; exact HS1.out, HB1.out⟩
end Go.Proofs.Ytdepjclbeocmhaa
