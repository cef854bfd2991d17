/-
  That the statements' own awake answers true; what became of the world. And what string(b) answers of bytes that can be read.
-/
import Derived.Test.YtpcaipmdinbdfaaRows
import Derived.Test.YtpcaipmdinbdfaaBytes
import Derived.WalkKit
import Derived.WalkSpells
import Derived.WalkLawsBesides
import Derived.Deep.QuietTactic
import Derived.BigQuiet
import Derived.Laws.IdiomStrings
import Derived.Lib.SlBytesConst
namespace Go.Proofs.Ytpcaipmdinbdfaa
open Go.RowKit
def str (l : List UInt8) : ByteArray := ⟨l.toArray⟩
theorem str_inj {a b : List UInt8} (h : str a = str b) : a = b := by
  have := congrArg ByteArray.data h; simpa [str] using this
theorem conv_bts {w : World} {ao : Option Addr} {n cap : Nat} {l : List UInt8} (h : Bts w ao n cap l) : (convert 22 9 (.slice ao n cap)).run Try.prog w = .ok (.string (str l)) w := by
  cases ao with
  | none =>
    obtain ⟨rfl, rfl⟩ := h.none rfl
    obtain rfl : l = [] := List.eq_nil_of_length_eq_zero h.1.symm
    rw [run_convert_bytes_string w 22 9 5 none 0 0 Try.underlying22 Try.underlying5 Try.underlying9]
    simp [Conv.bytesToString]; rfl
  | some ad =>
    have e := h.1
    subst e
    exact run_convert_bytes_back (P := Try.prog) w 22 9 5 ad cap l Try.underlying22 Try.underlying5 Try.underlying9 (fun j hj => by
      rw [h.2.2.2.2 ad rfl j hj, bt_get l j hj])
theorem bts_new (w : World) (l : List UInt8) (n : Nat) (hn : n = l.length) (hm : n ≤ 9223372036854775807) (fr : Nat × Nat) : Bts (w.alloc (.cells (cellsB l).toArray 5 fr)) (some ⟨w.heap.size, 0, none⟩) n n l := by
  refine ⟨hn, Nat.le_refl _, hm, (fun h => by cases h), fun ad e j hj => ?_⟩
  obtain rfl := Option.some.inj e
  rw [addr0, cell_of_row _ _ _ _ 5 fr (heap_alloc_new _ _), List.getElem?_toArray, cellsB_get l j hj]
theorem bts_nil (w : World) : Bts w none 0 0 [] := ⟨rfl, Nat.le_refl _, by decide, fun _ => rfl, fun ad e => by cases e⟩
theorem ints_new2 (w : World) : Ints ((w.alloc (.cells #[.int .u8 1, .int .u8 2, .int .u8 3, .int .u8 4] 5)).alloc (.cells #[.int .i64 1, .int .i64 2] 3)) (some ⟨w.heap.size + 1, 0, none⟩) 2 2 [1, 2] := by
  have h := ints_two (w.alloc (.cells #[.int .u8 1, .int .u8 2, .int .u8 3, .int .u8 4] 5)) 1 2 3
  rw [show (w.alloc (.cells #[.int .u8 1, .int .u8 2, .int .u8 3, .int .u8 4] 5)).heap.size = w.heap.size + 1 from by simp] at h
  exact h
theorem ex_get : numF (([1, 2, 3] : List UInt8).drop 1 |>.take 2) = 515 := by decide
theorem ex_put : [] ++ putF 258 2 = [1, 2] := by decide
theorem ex_bytes : [] ++ putF 2 2 ++ [97, 98] = [0, 2, 97, 98] := by decide
theorem ex_skip : skipA 4 1 [1, 2] = some 4 := by decide
set_option maxHeartbeats 1600000 in
theorem awake_any (w : World) : Calls Try.prog 9 #[] w fun e w' => e = .returned (.bool true) ∧ Below w.heap.size w w' := by
  have E1 : Hid _ := ex_get
  have E2 : Hid _ := ex_put
  have E3 : Hid _ := ex_bytes
  have E4 : Hid _ := ex_skip
  go_enter Try.func9, Try.ntmps9
  go_wp2_with fail
  refine (get_yes (some ⟨w.heap.size, 0, none⟩) 3 3 1 2 [1, 2, 3] _ (bts_new w [1, 2, 3] 3 rfl (by omega) _) (by omega) (by omega) (by omega)).mono ?_; rintro e w1 ⟨rfl, bel1⟩
  rw [E1.out]
  have b1 : Below w.heap.size w w1 := (below_alloc w _).trans (bel1.mono (below_alloc w _).size)
  clear bel1
  have hcs := Go.Lib.run_convert_bytes_const (P := Try.prog) w1 22 5 #[.int .u8 97, .int .u8 98] 2 2 Try.underlying22 Try.underlying5
  go_wp2_with fail
  refine (putBytes_yes none 0 0 [] (some ⟨w1.heap.size, 0, none⟩) 2 2 [97, 98] _ (bts_nil _) (bts_new w1 [97, 98] 2 rfl (by omega) _) (by omega) (by omega)).mono ?_; rintro e w2 ⟨co, cc, rfl, hb2, bel2⟩
  have hB2 : Bts w2 co 4 cc [0, 2, 97, 98] := by have := hb2; rw [E3.out] at this; exact this
  have HB2 : Hid (Bts w2 co 4 cc [0, 2, 97, 98]) := hB2
  have b2 : Below w.heap.size w w2 := (b1.alloc b1.size _).trans (bel2.mono (b1.alloc b1.size _).size)
  clear bel2 hb2 hB2 hcs
  go_wp2_with fail
  refine (getBytes_no (some ⟨w2.heap.size, 0, none⟩) 3 3 0 [0, 2, 97] _ (bts_new w2 [0, 2, 97] 3 rfl (by omega) _) (by decide)).mono ?_; rintro e w3 ⟨rfl, bel3⟩
  have b3 : Below w.heap.size w w3 := (b2.alloc b2.size _).trans (bel3.mono (b2.alloc b2.size _).size)
  have HB3 : Hid (Bts w3 co 4 cc [0, 2, 97, 98]) := (HB2.out.carry (below_alloc w2 _)).carry bel3
  clear bel3
  go_wp2_with fail
  refine (skip_any (some ⟨w3.heap.size, 0, none⟩) 4 4 1 (some ⟨w3.heap.size + 1, 0, none⟩) 2 2 [1, 2] _ (by decide) (ints_new2 w3)).mono ?_; rintro e w4 ⟨rfl, rfl⟩
  rw [E4.out]
  simp only [skipV]
  have b4 := (b3.alloc b3.size (.cells #[.int .u8 1, .int .u8 2, .int .u8 3, .int .u8 4] 5)).alloc ((b3.alloc b3.size (.cells #[.int .u8 1, .int .u8 2, .int .u8 3, .int .u8 4] 5)).size) (.cells #[.int .i64 1, .int .i64 2] 3)
  have HB4 : Hid (Bts _ co 4 cc [0, 2, 97, 98]) := (HB3.out.carry (below_alloc w3 (.cells #[.int .u8 1, .int .u8 2, .int .u8 3, .int .u8 4] 5))).carry (below_alloc _ (.cells #[.int .i64 1, .int .i64 2] 3))
  go_wp2_with fail
  refine (put_yes none 0 0 258 2 [] _ (bts_nil _) (by omega) (by omega) (by omega) (by omega)).mono ?_; rintro e w5 ⟨rfl, hown, bel5⟩
  obtain ⟨po, pc, hv, hb5⟩ := owns_bts hown
  obtain ⟨rfl, _, rfl⟩ := Value.slice.inj hv
  have b5 : Below w.heap.size w w5 := b4.trans (bel5.mono b4.size)
  have hB5 : Bts w5 co 4 cc [0, 2, 97, 98] := HB4.out.carry bel5
  rw [E2.out] at hb5
  have hb5' : Bts w5 (some ⟨w3.heap.size + 1 + 1, 0, none⟩) 2 2 [1, 2] := by
    rw [show (((w3.alloc (.cells #[.int .u8 1, .int .u8 2, .int .u8 3, .int .u8 4] 5)).alloc (.cells #[.int .i64 1, .int .i64 2] 3))).heap.size = w3.heap.size + 1 + 1 from by simp] at hb5; exact hb5
  have c1 : (convert 22 9 (.slice (some ⟨w3.heap.size + 1 + 1, 0, none⟩) 2 2)).run Try.prog w5 = .ok (.string ⟨#[1, 2]⟩) w5 := conv_bts hb5'
  have c2 : (convert 22 9 (.slice co 4 cc)).run Try.prog w5 = .ok (.string ⟨#[0, 2, 97, 98]⟩) w5 := conv_bts hB5
  clear hown bel5 hv hb5 hb5' hB5
  go_wp2
  go_ret
  exact ⟨rfl, b5⟩
end Go.Proofs.Ytpcaipmdinbdfaa
