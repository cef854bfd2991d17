/-
  That the statements' own awake answers true: the document's examples.
-/
import Derived.Test.YtmgbcnlnikchbaaDoorHDec
import Derived.Test.YtmgbcnlnikchbaaDoorHWant
import Derived.Deep.RegionHeld
namespace Go.Proofs.YtmgbcnlnikchbaaDoor
open Go.RowKit
theorem made_list (n : Nat) : madeCells #[Value.int IntKind.u8 0] n = (cellsB (List.replicate n 0)).toArray := by
  apply Array.ext
  · simp [madeCells, cellsB]
  · intro i h1 h2
    simp [madeCells, cellsB, Nat.mod_one]
theorem bts_made (w : World) (n : Nat) (hn : n ≤ maxLen) : Bts (w.alloc (.cells (madeCells #[Value.int IntKind.u8 0] n) 5)) (some ⟨w.heap.size, 0, none⟩) n n (List.replicate n 0) := by
  rw [made_list]
  exact owns_at (own_new w (List.replicate n 0) n w.heap.size (by simp) hn (Nat.le_refl _))
theorem make_n (n : Nat) (hn : n ≤ 1048576) (w : World) : (Instr.makeSlice 27 (.int .i64 n) (.int .i64 n)).run Tryd.prog w = .ok (.slice (some ⟨w.heap.size, 0, none⟩) n n) (w.alloc (.cells (madeCells #[Value.int IntKind.u8 0] n) 5)) :=
  run_make_row' (P := Tryd.prog) 27 5 (.int .u8 0) 1 Tryd.underlying27 Tryd.info5 rfl .i64 .i64 n (by omega) (by omega) w
theorem zero_bytes : msgF Msg.zero [] = List.replicate 46 0 := by decide
theorem hencode_zero (w : World) :
    Calls Tryd.prog 9 #[.agg #[.int .u64 0, .int .u64 0, .int .u32 0, .int .u16 0, .int .u16 0, .int .u64 0, .int .u32 0, .int .u8 0, .int .u64 0, .int .u64 0, .slice none 0 0]] w fun e w' => ∃ co cc, e = .returned (.tuple #[.slice co 46 cc, .nilIface]) ∧ Bts w' co 46 cc (List.replicate 46 0) ∧ Below w.heap.size w w' := by
  have h := hencode_yes Msg.zero none 0 0 [] w (by unfold Msg.good Msg.zero; simp) (bts_nil _) (by omega)
  rw [zero_bytes] at h
  exact h
set_option maxHeartbeats 1600000 in
theorem awake_any (w : World) : Calls Tryd.prog 4 #[] w fun e w' => e = .returned (.bool true) ∧ Below w.heap.size w w' := by
  have m45 : ∀ w, (Instr.makeSlice 27 (.int .i64 45) (.int .i64 45)).run Tryd.prog w = .ok (.slice (some ⟨w.heap.size, 0, none⟩) 45 45) (w.alloc (.cells (madeCells #[Value.int IntKind.u8 0] 45) 5)) := make_n 45 (by omega)
  have m46 : ∀ w, (Instr.makeSlice 27 (.int .i64 46) (.int .i64 46)).run Tryd.prog w = .ok (.slice (some ⟨w.heap.size, 0, none⟩) 46 46) (w.alloc (.cells (madeCells #[Value.int IntKind.u8 0] 46) 5)) := make_n 46 (by omega)
  have hq : ((str (List.replicate 46 0)).toList == (str (List.replicate 46 0)).toList) = true := BEq.rfl
  generalize hL : List.replicate 46 (0 : UInt8) = L at hq
  go_enter Tryd.func4, Tryd.ntmps4
  go_wp2_with fail
  refine (hencode_zero _).mono ?_; rintro e w1 ⟨co, cc, rfl, hb1, bel1⟩
  rw [hL] at hb1
  have HB1 : Hid (Bts w1 co 46 cc L) := hb1
  have hcc : cc ≤ 9223372036854775807 := hb1.2.2.1
  have hcc2 : 46 ≤ cc := hb1.2.1
  clear hb1
  have HT1 : Hid (Below w1.heap.size w1 (w1.alloc (.cells (madeCells #[Value.int IntKind.u8 0] 45) 5))) := below_alloc _ _
  go_wp2_with fail
  refine (hdecode_no _ 45 45 (List.replicate 45 0) _ (bts_made _ _ (by decide)) (by decide)).mono ?_; rintro e w2 ⟨rfl, bel2⟩
  have b2 : Below w.heap.size w w2 := below_one (below_one bel1 HT1.out) bel2
  have HB2 : Hid (Bts w2 co 46 cc L) := (HB1.out.carry HT1.out).carry bel2
  clear HT1 HB1 bel1 bel2 m45
  have HT3 : Hid (Below w2.heap.size w2 (w2.alloc (.cells #[.int .u64 0, .int .u64 0, .int .u32 0, .int .u16 0, .int .u16 0, .int .u64 0, .int .u32 0, .int .u8 0, .int .u64 0, .int .u64 0, .slice none 0 0] 29)).drew) := (below_alloc _ _).drew
  have hB3 := HB2.out.carry HT3.out
  have b3 : Below w.heap.size w (w2.alloc (.cells #[.int .u64 0, .int .u64 0, .int .u32 0, .int .u16 0, .int .u16 0, .int .u64 0, .int .u32 0, .int .u8 0, .int .u64 0, .int .u64 0, .slice none 0 0] 29)).drew := below_one b2 HT3.out
  have cv1 := conv_bts hB3
  have cv2 := conv_bts ((HB2.out.carry (below_alloc w2 (.cells #[.int .u64 0, .int .u64 0, .int .u32 0, .int .u16 0, .int .u16 0, .int .u64 0, .int .u32 0, .int .u8 0, .int .u64 0, .int .u64 0, .slice none 0 0] 29))).carry (below_alloc _ (.cells (madeCells #[Value.int IntKind.u8 0] 46) 5))).drew
  have cv3 := conv_bts (bts_made (w2.alloc (.cells #[.int .u64 0, .int .u64 0, .int .u32 0, .int .u16 0, .int .u16 0, .int .u64 0, .int .u32 0, .int .u8 0, .int .u64 0, .int .u64 0, .slice none 0 0] 29)) 46 (by decide)).drew
  rw [hL, show (w2.alloc (.cells #[.int .u64 0, .int .u64 0, .int .u32 0, .int .u16 0, .int .u16 0, .int .u64 0, .int .u32 0, .int .u8 0, .int .u64 0, .int .u64 0, .slice none 0 0] 29)).heap.size = w2.heap.size + 1 from by simp] at cv3
  have b4 : Below w.heap.size w ((w2.alloc (.cells #[.int .u64 0, .int .u64 0, .int .u32 0, .int .u16 0, .int .u16 0, .int .u64 0, .int .u32 0, .int .u8 0, .int .u64 0, .int .u64 0, .slice none 0 0] 29)).alloc (.cells (madeCells #[Value.int IntKind.u8 0] 46) 5)).drew := below_one (below_one b2 (below_alloc _ _)) ((below_alloc _ _).drew)
  have HL : Hid _ := hL
  clear hB3 HB2 HT3 b2 hL
  go_wp2_with fail
  go_region_held (fun _ => True) (trivial) (first | (go_at_call 11; refine (is_same 8 _).mono ?_; rintro e wx ⟨rfl, rfl⟩))
  all_goals go_wp2
  all_goals go_ret
  all_goals exact ⟨rfl, b4⟩
end Go.Proofs.YtmgbcnlnikchbaaDoor
