/-
  The statements' own first step on segments, awake: the document's examples.
-/
import Derived.Test.YtppdammgmnihgaaDoorSZeros
import Derived.Test.YtppdammgmnihgaaDoorKAlike
namespace Go.Proofs.YtppdammgmnihgaaDoor
open Go.RowKit
variable {w w' : World} {B st n : Nat} {L : Nat → Option (List UInt8)}
theorem screate_ok (size : Int) (i : Nat) (w : World) (x : St w B st n L) (hB : B ≤ w.heap.size) (hE : createE n L size = 0) (hl : lowS L = i) :
    Calls Tryd.prog 13 #[.pointer (some ⟨st, 0, none⟩), .int .i64 size] w fun e w' => e = .returned (.tuple #[.int .i64 (i : Int), .nilIface]) ∧ St w' B st n (upd L i (some (zeros size.toNat))) ∧ Keep (StP B) w w' := by
  refine (screate_any size w x hB).mono ?_
  rintro e w1 ⟨rfl, x1, k⟩
  unfold createL at x1; unfold createN
  rw [hE, hl] at *
  exact ⟨rfl, x1, k⟩
theorem screate_err (size e0 : Int) (w : World) (x : St w B st n L) (hB : B ≤ w.heap.size) (hE : createE n L size = e0) (h0 : e0 ≠ 0) :
    Calls Tryd.prog 13 #[.pointer (some ⟨st, 0, none⟩), .int .i64 size] w fun e w' => e = .returned (.tuple #[.int .i64 0, errV e0]) ∧ St w' B st n L ∧ Keep (StP B) w w' := by
  refine (screate_any size w x hB).mono ?_
  rintro e w1 ⟨rfl, x1, k⟩
  unfold createL at x1; unfold createN erS
  rw [hE, if_neg h0] at *
  rw [if_neg h0]
  exact ⟨rfl, x1, k⟩
theorem StP.low (B : Nat) : ∀ k o, k < B → StP B k o := fun _ _ h => .inl h
theorem Glob.low (h : Glob w) (k : Keep (StP B) w w') (hB : 0 < B) (hs : B ≤ w.heap.size) : Glob w' := h.grow (k.low hs (StP.low B)) hB
/- bytes in a block of their own -/
theorem bts_cells (w : World) (l : List UInt8) (C : Array Value) (z : Nat × Nat) (hC : (cellsB l).toArray = C) (hl : l.length ≤ maxLen) : Bts (w.alloc (.cells C 5 z)) (some ⟨w.heap.size, 0, none⟩) l.length l.length l := by
  subst hC
  refine ⟨rfl, Nat.le_refl _, hl, (fun e => by cases e), fun ad e j hj => ?_⟩
  obtain rfl := Option.some.inj e
  rw [add0, cell_of_row _ w.heap.size j _ _ _ (heap_alloc_new _ _)]
  simpa using cellsB_get l j hj
theorem no_store5 (C : Array Value) (z : Nat × Nat) : ¬ StoreTy (.cells C 5 z) := by
  rintro (h | h | h | h | h | h) <;> exact absurd h (by decide)
theorem off_new (w : World) (C : Array Value) (z : Nat × Nat) : Off B (w.alloc (.cells C 5 z)) (some ⟨w.heap.size, 0, none⟩) := by
  intro ad o e ho
  obtain rfl := Option.some.inj e
  rw [show ((w.alloc (.cells C 5 z)).heap[w.heap.size]?) = _ from heap_alloc_new _ _] at ho
  cases ho
  exact .inr (no_store5 _ _)
def L0 : Nat → Option (List UInt8) := fun _ => none
def L1 : Nat → Option (List UInt8) := upd L0 0 (some (zeros 65))
theorem awake_e0 : createE 2 L0 65 = 0 := by decide
theorem awake_l0 : lowS L0 = 0 := by decide
set_option maxRecDepth 100000 in
theorem awake_e1 : createE 2 L1 1 = 6 := by decide
set_option maxRecDepth 100000 in
theorem awake_left : leftL 2 L1 = 0 := by decide
theorem awake_l1 : L1 0 = some (zeros 65) := rfl
def lit10 : List UInt8 := [48, 49, 50, 51, 52, 53, 54, 55, 56, 57]
set_option maxRecDepth 20000 in
set_option maxHeartbeats 1600000 in
theorem awake_any (w : World) (hg : Glob w) :
    Calls Tryd.prog 7 #[] w fun e w' => e = .returned (.bool true) ∧ Below w.heap.size w w' := by
  have HG := hide hg
  clear hg
  go_enter Tryd.func7, Tryd.ntmps7
  go_wp2_with fail
  refine (sof_any 2 w 2 (by decide) (by omega)).mono ?_; rintro e w1 ⟨st, rfl, S1, b1⟩
  have H1 : Hid (St w1 w.heap.size st 2 L0) := S1
  have HB1 := hide b1
  clear S1 b1
  go_wp2_with fail
  refine (screate_ok 65 0 _ H1.out HB1.out.size awake_e0 awake_l0).mono ?_; rintro e w2 ⟨rfl, S2, k2⟩
  have H2 : Hid (St w2 w.heap.size st 2 L1) := S2
  have HB2 := hide (HB1.out.trans (k2.low HB1.out.size (StP.low _)))
  clear S2 k2 H1 HB1
  go_wp2_with fail
  refine (screate_err 1 6 _ H2.out HB2.out.size awake_e1 (by decide)).mono ?_; rintro e w3 ⟨rfl, S3, k3⟩
  have H3 := hide S3
  have HB3 := hide (HB2.out.trans (k3.low HB2.out.size (StP.low _)))
  clear S3 k3 H2 HB2
  unfold errV
  obtain ⟨C, hC⟩ : ∃ C : Array Value, #[.int .u8 48, .int .u8 49, .int .u8 50, .int .u8 51, .int .u8 52, .int .u8 53, .int .u8 54, .int .u8 55, .int .u8 56, .int .u8 57] = C := ⟨_, rfl⟩
  have kc := fun (w : World) => Go.Lib.run_convert_bytes_const (P := Tryd.prog) w 28 5 C 10 10 Tryd.underlying28 Tryd.underlying5
  have HC : Hid ((cellsB lit10).toArray = C) := hC
  go_wp2_with fail
  refine (twrite_no 0 (zeros 65) 60 _ 10 10 _ (H3.out.grow (below_alloc _ _)) (by decide) awake_l1 (by omega) (by decide)).mono ?_; rintro e w4 ⟨rfl, rfl⟩
  unfold errV
  have H4 := hide (H3.out.grow (below_alloc w3 (.cells C 5 (C.size, C.size + 1))))
  have HB4 := hide (HB3.out.trans ((below_alloc w3 (.cells C 5 (C.size, C.size + 1))).mono HB3.out.size))
  obtain ⟨X, hX⟩ : ∃ X, w3.alloc (.cells C 5 (C.size, C.size + 1)) = X := ⟨_, rfl⟩
  rw [hX] at H4 HB4
  rw [hX]
  go_wp2_with fail
  refine (sleft_any _ H4.out).mono ?_; rintro e w5 ⟨rfl, rfl⟩
  rw [awake_left]
  go_wp2_with fail
  refine (number_errno 6 _ (HG.out.grow HB4.out HG.out.lt)).mono ?_; rintro e w6 ⟨rfl, b6⟩
  have H6 := hide (H4.out.grow b6)
  have HB6 := hide (HB4.out.trans (b6.mono HB4.out.size))
  clear b6
  go_wp2_with fail
  refine (number_errno 13 _ (HG.out.grow HB6.out HG.out.lt)).mono ?_; rintro e w7 ⟨rfl, b7⟩
  have H7 := hide (H6.out.grow b7)
  have HB7 := hide (HB6.out.trans (b7.mono HB6.out.size))
  clear b7
  go_wp2_with fail
  refine (twrite_yes 0 55 (zeros 65) _ 10 10 lit10 _ (H7.out.grow (below_alloc _ _)) awake_l1 (bts_cells w7 lit10 C _ HC.out (by decide)) (fun _ => off_new w7 C _) (by decide)).mono ?_; rintro e w8 ⟨rfl, S8, k8⟩
  have HB8 := hide ((HB7.out.trans ((below_alloc w7 (.cells C 5 (C.size, C.size + 1))).mono HB7.out.size)).trans (k8.low (Nat.le_trans HB7.out.size (below_alloc w7 _).size) (StP.low _)))
  clear S8 k8
  go_wp2
  go_ret
  exact ⟨rfl, HB8.out⟩
end Go.Proofs.YtppdammgmnihgaaDoor
