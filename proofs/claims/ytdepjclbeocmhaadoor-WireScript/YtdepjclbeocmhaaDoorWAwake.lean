/-
  The statements' own first step, as a contract: the document's examples; packets that bear numbers alone.
-/
import Derived.Test.YtdepjclbeocmhaaDoorWLast
namespace Go.Proofs.YtdepjclbeocmhaaDoor
open Go.RowKit
variable {w w' : World} {g : Nat} {S : Nat → Prop} {L : List Pa}
def NoS : Nat → Prop := fun _ => False
theorem noS {w : World} : ∀ k, NoS k → k < w.heap.size := fun _ h => by cases h
def pkI (k : Nat) : Pa := ⟨0, 0, (k : Int), 0, 0, none, 0, 0, []⟩
theorem pkI_nm (k : Nat) : (pkI k).nm = pkI k := rfl
theorem pkI_has (k : Nat) (w : World) : (pkI k).has w := bts_nil w
theorem pkI_sn (k : Nat) : (pkI k).sn ≤ 140737488355328 := Nat.zero_le _
def ids (n : Nat) : List Pa := (List.range n).map pkI
theorem ids_len (n : Nat) : (ids n).length = n := by simp [ids]
theorem ids_get (n k : Nat) (h : k < n) : (ids n).getD k Pa.zero = pkI k := by
  unfold ids
  rw [List.getD_eq_getElem?_getD, List.getElem?_map, List.getElem?_range h]; rfl
theorem ids_send (i : Nat) (h : i < 1024) : sendL (ids i) (pkI i).nm = ids (i + 1) := by
  unfold sendL
  rw [if_neg (by rw [ids_len]; omega), pkI_nm]
  unfold ids
  rw [List.range_succ, List.map_append]; rfl
theorem ids_yes (i : Nat) (h : i < 1024) : sendE (ids i) = 0 := by unfold sendE; rw [if_neg (by rw [ids_len]; omega)]
def SdRel (w : World) (g c gk : Nat) (vi : Value) (wq : World) : Prop :=
  ∃ i : Nat, i + gk = c ∧ vi = .int .i64 (i : Int) ∧ St wq g NoS (ids i) ∧ Below w.heap.size w wq
theorem foot_on {wq wr : World} (b : Below w.heap.size w wq) (hg : w.heap.size ≤ g) (f : Foot (· = g) wq wr) : Below w.heap.size w wr := b.trans (f.below b.size (fun k e => by rw [e]; exact hg))
set_option maxRecDepth 20000 in
set_option maxHeartbeats 3200000 in
theorem awake_any (w : World) :
    Calls Tryd.prog 4 #[] w fun e w' => e = .returned (.bool true) ∧ Below w.heap.size w w' := by
  obtain ⟨X, hX⟩ : ∃ X, w.alloc (.cells #[.slice none 0 0] 27) = X := ⟨_, rfl⟩
  have HBX : Hid (Below w.heap.size w X) := hX ▸ below_alloc w _
  obtain ⟨g, hg⟩ : ∃ g, w.heap.size = g := ⟨_, rfl⟩
  have HST : Hid (St X g NoS (ids 0)) := by show St _ _ _ _; rw [← hX, ← hg]; exact st_new w NoS
  have HG : Hid (w.heap.size ≤ g) := Nat.le_of_eq hg
  go_enter Tryd.func4, Tryd.ntmps4
  go_wp2
  go_loopg [8] 3 (fun gk vi wq => SdRel w g 3 gk vi wq)
  case atStart => exact ⟨0, by omega, rfl, HST.out, HBX.out⟩
  case round =>
    obtain ⟨i, hi, rfl, st, b⟩ := hrel
    have HS := hide st
    have HB := hide b
    clear st b hX hg
    cases gk with
    | zero =>
      obtain rfl : i = 3 := by omega
      have hlt : ¬ (((3 : Nat) : Int) < 3) := by omega
      clear hi
      go_wp2_with fail
      refine (arrive_any 4 _ HS.out noS (by rw [ids_len]; omega)).mono ?_; rintro e w1 ⟨y, rfl, E1⟩
      have hy : y.i = 1 := by
        have := congrArg Pa.i E1.nm
        rw [ids_len, show placeF 4 3 = 1 from by decide, ids_get 3 1 (by omega)] at this
        exact this
      have s1 := E1.st
      rw [ids_len, show placeF 4 3 = 1 from by decide, show (ids 3).eraseIdx 1 = [pkI 0, pkI 2] from rfl] at s1
      have b1 := foot_on HB.out HG.out E1.ft
      obtain ⟨Y, hY⟩ : ∃ Y, w1.alloc (.cells #[.int .i64 y.f, .int .i64 y.t, .int .u64 y.i, .int .i64 y.x, .int .i64 y.c, .slice y.so y.sn y.sc] 33) = Y := ⟨_, rfl⟩
      have bY : Below w1.heap.size w1 Y := hY ▸ below_alloc w1 _
      have HBQ : Hid (BoxK Y w1.heap.size y) := hY ▸ boxK_new w1 y
      have HS1 := hide (s1.grow bY)
      have HB1 := hide (below_one b1 bY)
      have HLT : Hid (g < w1.heap.size) := s1.lt
      have HY := hide hy
      clear E1 s1 b1 bY hy
      go_wp2_with fail
      refine (double_any 1 _ HS1.out noS).mono ?_; rintro e w2 ⟨rfl, s2, f2⟩
      rw [show dblE [pkI 0, pkI 2] = 0 from rfl, erN_zero]
      have HB2 := hide (foot_on HB1.out HG.out f2)
      have HS2 := hide s2
      have hbq : BoxK w2 w1.heap.size y := (f2.block _ (lt_of_heap HBQ.out) (by have := HLT.out; omega)).trans HBQ.out
      have k2 := hbq.c2
      rw [HY.out] at k2
      clear s2 f2 hbq
      go_wp2_with fail
      refine (len_any _ HS2.out).mono ?_; rintro e w3 ⟨rfl, rfl⟩
      rw [show (dblL [pkI 0, pkI 2] 1).length = 3 from rfl]
      go_wp2
      go_ret
      exact ⟨rfl, HB2.out⟩
    | succ g1 =>
      have hi3 : i < 3 := by omega
      have hlt : (i : Int) < 3 := by omega
      go_wp2_with fail
      refine (send_any (pkI i) _ HS.out noS (pkI_has i _) (pkI_sn i)).mono ?_; rintro e w1 ⟨rfl, s1, f1⟩
      rw [ids_yes i (by omega), erN_zero]
      rw [ids_send i (by omega)] at s1
      have HS1 := hide s1
      have HB1 := hide (foot_on HB.out HG.out f1)
      clear s1 f1
      go_wp2
      go_roundg g1
      case measure => omega
      case rel => exact ⟨i + 1, by omega, by go_num, HS1.out, HB1.out⟩
end Go.Proofs.YtdepjclbeocmhaaDoor
