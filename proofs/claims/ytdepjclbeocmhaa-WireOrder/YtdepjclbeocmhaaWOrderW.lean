/-
  The walk of WireOrder.
-/
import Derived.Test.YtdepjclbeocmhaaFRead
namespace Go.Proofs.Ytdepjclbeocmhaa
open Go.RowKit
/- the packets from a to behind b -/
def idsB (a b : Nat) : List Pa := (List.range (b - a)).map fun j => pkI (a + j)
theorem idsB_len (a b : Nat) : (idsB a b).length = b - a := by simp [idsB]
theorem idsB_get (a b j : Nat) (h : j < b - a) : (idsB a b).getD j Pa.zero = pkI (a + j) := by
  unfold idsB
  rw [List.getD_eq_getElem?_getD, List.getElem?_map, List.getElem?_range h]; rfl
theorem idsB_all (n : Nat) : idsB 0 n = ids n := by unfold idsB ids; simp
theorem idsB_ext {a b : Nat} {L : List Pa} (hl : L.length = b - a) (h : ∀ j, j < b - a → L.getD j Pa.zero = pkI (a + j)) : L = idsB a b := by
  apply List.ext_getElem?
  intro j
  by_cases hj : j < b - a
  · have h1 := h j hj
    have h2 := idsB_get a b j hj
    rw [List.getD_eq_getElem?_getD, List.getElem?_eq_getElem (by omega)] at h1
    rw [List.getD_eq_getElem?_getD, List.getElem?_eq_getElem (by rw [idsB_len]; exact hj)] at h2
    rw [List.getElem?_eq_getElem (by omega), List.getElem?_eq_getElem (by rw [idsB_len]; exact hj)]
    simp only [Option.getD_some] at h1 h2
    rw [h1, h2]
  · rw [List.getElem?_eq_none (by omega), List.getElem?_eq_none (by rw [idsB_len]; omega)]
theorem getD_erase (L : List Pa) (k j : Nat) : (L.eraseIdx k).getD j Pa.zero = if j < k then L.getD j Pa.zero else L.getD (j + 1) Pa.zero := by
  rw [List.getD_eq_getElem?_getD, List.getElem?_eraseIdx]
  split <;> rfl
theorem idsB_front (a b : Nat) (h : a < b) : (idsB a b).eraseIdx 0 = idsB (a + 1) b := by
  apply idsB_ext
  · rw [List.length_eraseIdx, idsB_len, if_pos (by omega)]; omega
  · intro j hj
    rw [getD_erase, if_neg (by omega), idsB_get a b (j + 1) (by omega), show a + (j + 1) = a + 1 + j by omega]
theorem idsB_back (a b : Nat) (h : a < b) : (idsB a b).eraseIdx (b - a - 1) = idsB a (b - 1) := by
  apply idsB_ext
  · rw [List.length_eraseIdx, idsB_len, if_pos (by omega)]; omega
  · intro j hj
    rw [getD_erase, if_pos (by omega), idsB_get a b j (by omega)]
theorem place_front (n : Nat) : placeF 0 n = 0 := by unfold placeF; simp
theorem place_back (n : Nat) (h : 0 < n) : placeF (-1) n = n - 1 := by
  unfold placeF
  have : (-1 : Int) % (n : Int) = (n : Int) - 1 := by
    rw [Int.emod_def]
    have : (-1 : Int) / (n : Int) = -1 := by
      rw [Int.ediv_eq_iff_of_pos (by omega)]; omega
    rw [this]; omega
  omega
def OrRel (w : World) (g k : Nat) (back : Bool) (gk : Nat) (vi : Value) (wq : World) : Prop :=
  ∃ i : Nat, i + gk = k ∧ vi = .int .i64 (i : Int) ∧ St wq g NoS (if back then idsB 0 (k - i) else idsB i k) ∧ Below w.heap.size w wq
set_option maxRecDepth 20000 in
set_option maxHeartbeats 3200000 in
theorem walk_order (k : Nat) (back : Bool) (w : World) (hz : k ≤ 255) :
    Calls Try.prog 5 #[.int .u8 (k : Int), .bool back] w fun e w' => e = .returned (.bool true) ∧ Below w.heap.size w w' := by
  go_enter Try.func5, Try.ntmps5
  go_wp2_with fail
  refine (awake_any _).mono ?_; rintro e W ⟨rfl, b1⟩
  have HB1 := hide b1
  clear b1
  obtain ⟨X, hX⟩ : ∃ X, W.alloc (.cells #[.slice none 0 0] 26) = X := ⟨_, rfl⟩
  have HBX : Hid (Below w.heap.size w X) := below_one HB1.out (hX ▸ below_alloc W _)
  obtain ⟨g, hg⟩ : ∃ g, W.heap.size = g := ⟨_, rfl⟩
  have HST : Hid (St X g NoS (ids 0)) := by show St _ _ _ _; rw [← hX, ← hg]; exact st_new W NoS
  have HG : Hid (w.heap.size ≤ g) := by show _ ≤ _; rw [← hg]; exact HB1.out.size
  go_wp2_with fail
  go_loopg [7] k (fun gk vi wq => SdRel w g k gk vi wq)
  case atStart => exact ⟨0, by omega, rfl, HST.out, HBX.out⟩
  case round =>
    obtain ⟨i, hi, rfl, st, b⟩ := hrel
    have HS := hide st
    have HB := hide b
    clear st b hX hg
    cases gk with
    | zero =>
      obtain rfl : i = k := by omega
      have hlt : ¬ ((i : Int) < (i : Int)) := by omega
      clear hi
      go_wp2_with fail
      go_loopg [8] i (fun gk vi wq => OrRel w g i back gk vi wq)
      case atStart => exact ⟨0, by omega, rfl, by rw [Nat.sub_zero, ite_self, idsB_all]; exact HS.out, HB.out⟩
      case round =>
        rename World => wq
        clear HS HB
        obtain ⟨j, hj, rfl, st, b⟩ := hrel
        have HS := hide st
        have HB := hide b
        clear st b
        cases gk with
        | zero =>
          obtain rfl : j = i := by omega
          have hlt : ¬ ((j : Int) < (j : Int)) := by omega
          have HS2 : Hid (St wq g NoS []) := by
            have := HS.out
            have e : (if back = true then idsB 0 (j - j) else idsB j j) = [] := by
              cases back
              · simp [idsB]
              · simp [idsB]
            rw [e] at this; exact this
          clear hj
          go_wp2_with fail
          refine (arrive_no 0 _ HS2.out).mono ?_; rintro e w1 ⟨rfl, b1⟩
          have HS3 := hide ((HS2.out.grow b1).grow (below_alloc w1 (.cells #[.int .i64 0, .int .i64 0, .int .u64 0, .int .i64 0, .int .i64 0, .slice none 0 0] 33)))
          have HB3 := hide (below_one (HB.out.trans (b1.mono HB.out.size)) (below_alloc w1 (.cells #[.int .i64 0, .int .i64 0, .int .u64 0, .int .i64 0, .int .i64 0, .slice none 0 0] 33)))
          clear b1
          go_wp2_with fail
          refine (len_any _ HS3.out).mono ?_; rintro e w3 ⟨rfl, rfl⟩
          rw [List.length_nil]
          go_wp2
          go_ret
          exact ⟨rfl, HB3.out⟩
        | succ g1 =>
          have hlt : (j : Int) < (i : Int) := by omega
          have hji : j < i := by omega
          have hi2 : (j : Int) ≤ 255 := by omega
          cases back with
          | false =>
            rw [if_neg (by decide)] at HS
            go_wp2_with fail
            refine (arrive_any 0 _ HS.out noS (by rw [idsB_len]; omega)).mono ?_; rintro e w1 ⟨y, rfl, E1⟩
            have hk := place_front (idsB j i).length
            have HY : Hid (y.i = (j : Int)) := by
              have := congrArg Pa.i E1.nm
              rw [hk, idsB_get j i 0 (by omega)] at this
              exact this
            have s1 := E1.st
            rw [hk, idsB_front j i hji] at s1
            have b1 := foot_on HB.out HG.out E1.ft
            obtain ⟨yi, hyi⟩ : ∃ yi, y.i = yi := ⟨_, rfl⟩
            rw [hyi] at HY
            obtain rfl : yi = (j : Int) := HY.out
            obtain ⟨Y, hY⟩ : ∃ Y, w1.alloc (.cells #[.int .i64 y.f, .int .i64 y.t, .int .u64 y.i, .int .i64 y.x, .int .i64 y.c, .slice y.so y.sn y.sc] 33) = Y := ⟨_, rfl⟩
            have bY : Below w1.heap.size w1 Y := hY ▸ below_alloc w1 _
            have hbq : BoxK Y w1.heap.size y := hY ▸ boxK_new w1 y
            have HS1 := hide (s1.grow bY)
            have HB1 := hide (below_one b1 bY)
            have k2 := hbq.c2
            rw [hyi] at k2 hY
            clear E1 s1 b1 bY hk hbq
            go_wp2
            go_roundg g1
            case measure => omega
            case rel => exact ⟨j + 1, by omega, by go_num, by rw [if_neg (by decide)]; exact HS1.out, HB1.out⟩
          | true =>
            rw [if_pos rfl] at HS
            obtain ⟨m, hm⟩ : ∃ m, i - j = m := ⟨_, rfl⟩
            rw [hm] at HS
            have hm0 : 0 < m := by omega
            have hw1 : ((i : Int) - 1) - (j : Int) = ((m - 1 : Nat) : Int) := by omega
            go_wp2_with fail
            refine (arrive_any (-1) _ HS.out noS (by rw [idsB_len]; omega)).mono ?_; rintro e w1 ⟨y, rfl, E1⟩
            have hk : placeF (-1) (idsB 0 m).length = m - 0 - 1 := by rw [idsB_len, place_back _ (by omega)]
            have HY : Hid (y.i = ((m - 1 : Nat) : Int)) := by
              have := congrArg Pa.i E1.nm
              rw [hk, idsB_get 0 m (m - 0 - 1) (by omega), Nat.zero_add] at this
              exact this
            have s1 := E1.st
            rw [hk, idsB_back 0 m hm0] at s1
            have b1 := foot_on HB.out HG.out E1.ft
            obtain ⟨yi, hyi⟩ : ∃ yi, y.i = yi := ⟨_, rfl⟩
            rw [hyi] at HY
            obtain rfl : yi = ((m - 1 : Nat) : Int) := HY.out
            obtain ⟨Y, hY⟩ : ∃ Y, w1.alloc (.cells #[.int .i64 y.f, .int .i64 y.t, .int .u64 y.i, .int .i64 y.x, .int .i64 y.c, .slice y.so y.sn y.sc] 33) = Y := ⟨_, rfl⟩
            have bY : Below w1.heap.size w1 Y := hY ▸ below_alloc w1 _
            have hbq : BoxK Y w1.heap.size y := hY ▸ boxK_new w1 y
            have HS1 := hide (s1.grow bY)
            have HB1 := hide (below_one b1 bY)
            have k2 := hbq.c2
            rw [hyi] at k2 hY
            have HMM := hide hm
            clear E1 s1 b1 bY hk hbq hm
            go_wp2
            go_roundg g1
            case measure => omega
            case rel => exact ⟨j + 1, by omega, by go_num, by rw [if_pos rfl, show i - (j + 1) = m - 1 by have := HMM.out; omega]; exact HS1.out, HB1.out⟩
    | succ g1 =>
      have hlt : (i : Int) < (k : Int) := by omega
      have hi2 : (i : Int) ≤ 255 := by omega
      go_wp2_with fail
      refine (send_any (pkI i) _ HS.out noS (pkI_has i _) (pkI_sn i)).mono ?_; rintro e w1 ⟨rfl, s1, f1⟩
      rw [ids_yes i (by omega), erN_zero]
      rw [ids_send i (by omega)] at s1
      have HS1 := hide s1
      have HB1 := hide (foot_on HB.out HG.out f1)
      clear s1 f1
      go_wp2
      go_roundg g1
      case measure => omega
      case rel => exact ⟨i + 1, by omega, by go_num, HS1.out, HB1.out⟩
end Go.Proofs.Ytdepjclbeocmhaa
