/-
  What the calls that only read answer, as contracts: isWidth, Skip, Get; what became of the world.
-/
import Derived.Test.YtmgbcnlnikchbaaDoorRows
import Derived.Test.YtmgbcnlnikchbaaDoorMath
import Derived.WalkKit
import Derived.WalkSpells
import Derived.WalkLawsBesides
import Derived.Deep.QuietTactic
import Derived.BigQuiet
namespace Go.Proofs.YtmgbcnlnikchbaaDoor
open Go.RowKit
def Bts (w : World) (ao : Option Addr) (n cap : Nat) (l : List UInt8) : Prop :=
  n = l.length ∧ n ≤ cap ∧ cap ≤ maxLen ∧ (ao = none → cap = 0) ∧ ∀ ad, ao = some ad → ∀ j, j < l.length → w.cell? (ad.add j) = some (.int .u8 (bt l j))
def Ints (w : World) (ao : Option Addr) (n cap : Nat) (zs : List Int) : Prop :=
  n = zs.length ∧ n ≤ cap ∧ cap ≤ maxLen ∧ (ao = none → cap = 0) ∧ ∀ ad, ao = some ad → ∀ j, j < zs.length → w.cell? (ad.add j) = some (.int .i64 (zs.getD j 0))
theorem width_any (n : Int) (w : World) : Calls Tryd.prog 24 #[.int .i64 n] w fun e w' => e = .returned (.bool (decide (1 ≤ n ∧ n ≤ 8))) ∧ w' = w := by
  by_cases h1 : 1 ≤ n
  · by_cases h2 : n ≤ 8
    · rw [decide_eq_true (show 1 ≤ n ∧ n ≤ 8 from ⟨h1, h2⟩)]
      go_enter Tryd.func24, Tryd.ntmps24
      go_wp2
      go_ret
      exact ⟨rfl, rfl⟩
    · rw [decide_eq_false (show ¬ (1 ≤ n ∧ n ≤ 8) from by omega)]
      go_enter Tryd.func24, Tryd.ntmps24
      go_wp2
      go_ret
      exact ⟨rfl, rfl⟩
  · rw [decide_eq_false (show ¬ (1 ≤ n ∧ n ≤ 8) from by omega)]
    go_enter Tryd.func24, Tryd.ntmps24
    go_wp2
    go_ret
    exact ⟨rfl, rfl⟩
def skipA (n : Nat) (p : Int) (zs : List Int) : Option Nat := if 0 ≤ p ∧ p ≤ (n : Int) then skipF n p.toNat zs else none
def skipV : Option Nat → Value
  | none => .tuple #[.int .i64 0, .bool false]
  | some p => .tuple #[.int .i64 (p : Nat), .bool true]
theorem skipF_drop (n p k : Nat) (zs : List Int) (h : k < zs.length) : skipF n p (zs.drop k) = if 0 ≤ zs.getD k 0 ∧ zs.getD k 0 ≤ (n : Int) - p then skipF n (p + (zs.getD k 0).toNat) (zs.drop (k + 1)) else none := by
  rw [List.drop_eq_getElem_cons h]
  rw [show zs.getD k 0 = zs[k] from by rw [List.getD_eq_getElem?_getD, List.getElem?_eq_getElem h]; rfl]
  rfl
def SkipRel (n q sn : Nat) (zs : List Int) (x i : Value) : Prop := ∃ k p : Nat, k ≤ sn ∧ p ≤ n ∧ i = .int .i64 k ∧ x = .int .i64 p ∧ Hid (skipF n q zs = skipF n p (zs.drop k))
set_option maxHeartbeats 800000 in
theorem skip_any (ao : Option Addr) (n cap : Nat) (p : Int) (so : Option Addr) (sn scap : Nat) (zs : List Int) (w : World) (hn : n ≤ maxLen) (hs : Ints w so sn scap zs) :
    Calls Tryd.prog 26 #[.slice ao n cap, .int .i64 p, .slice so sn scap] w fun e w' => e = .returned (skipV (skipA n p zs)) ∧ w' = w := by
  obtain ⟨hl, hc, hm, h0, hcell⟩ := hs
  have HN : Hid _ := hl
  clear hl
  unfold maxLen at hn hm
  by_cases hp0 : 0 ≤ p
  · by_cases hpn : p ≤ (n : Int)
    · have e : skipA n p zs = skipF n p.toNat zs := if_pos ⟨hp0, hpn⟩
      rw [e]
      obtain ⟨q, rfl⟩ := Int.eq_ofNat_of_zero_le hp0
      clear e
      go_enter Tryd.func26, Tryd.ntmps26
      go_wp2
      go_loop [1, 20] (fun x i => SkipRel n q sn zs x i) (fun _ i => sn - (intOf i).toNat)
      case atStart => exact ⟨0, q, Nat.zero_le _, by omega, rfl, rfl, rfl⟩
      case round =>
        obtain ⟨k, p, hk, hp, rfl, rfl, HR⟩ := hrel
        by_cases hkn : k < sn
        · have hkl : k < zs.length := by have := HN.out; omega
          have hd := skipF_drop n p k zs hkl
          cases so with
          | none => have := h0 rfl; omega
          | some ad =>
            have hce := hcell ad rfl k hkl
            generalize hz : zs.getD k 0 = z at hce hd
            clear hcell hz
            by_cases hz0 : 0 ≤ z
            · obtain ⟨y, rfl⟩ := Int.eq_ofNat_of_zero_le hz0
              rw [Int.toNat_natCast] at hd
              have HD : Hid _ := hd
              clear hd
              by_cases hz1 : (y : Int) ≤ (n : Int) - p
              · go_wp2
                go_round
                case rel => exact ⟨_, _, _, _, _, ⟨k + 1, p + y, by omega, by omega, rfl, rfl, HR.out.trans (HD.out.trans (if_pos ⟨hz0, hz1⟩))⟩, by go_num, rfl, rfl, rfl, by go_num⟩
                case measure => simp [intOf]; omega
              · go_wp2
                go_ret2
                refine ⟨?_, rfl⟩
                rw [HR.out, HD.out, if_neg (by omega)]; rfl
            · have HD : Hid _ := hd
              clear hd
              go_wp2
              go_ret2
              refine ⟨?_, rfl⟩
              rw [HR.out, HD.out, if_neg (by omega)]; rfl
        · go_wp2
          go_ret2
          refine ⟨?_, rfl⟩
          rw [HR.out, List.drop_of_length_le (by have := HN.out; omega)]; rfl
    · have e : skipA n p zs = none := if_neg (by omega)
      rw [e]
      clear e hcell
      go_enter Tryd.func26, Tryd.ntmps26
      go_wp2
      go_ret2
      exact ⟨rfl, rfl⟩
  · have e : skipA n p zs = none := if_neg (by omega)
    rw [e]
    clear e hcell
    go_enter Tryd.func26, Tryd.ntmps26
    go_wp2
    go_ret2
    exact ⟨rfl, rfl⟩
theorem skipA_one (n : Nat) (p m : Int) : skipA n p [m] = if 0 ≤ p ∧ p ≤ (n : Int) ∧ 0 ≤ m ∧ m ≤ (n : Int) - p then some (p + m).toNat else none := by
  unfold skipA
  by_cases h : 0 ≤ p ∧ p ≤ (n : Int)
  · rw [if_pos h]
    simp only [skipF]
    by_cases h2 : 0 ≤ m ∧ m ≤ (n : Int) - p
    · rw [if_pos (by omega), if_pos ⟨h.1, h.2, h2⟩]; congr 1; omega
    · rw [if_neg (by omega), if_neg (by omega)]
  · rw [if_neg h, if_neg (by omega)]
theorem lt_of_cell {w : World} {a : Addr} {v : Value} (h : w.cell? a = some v) : a.block < w.heap.size := by
  unfold World.cell? at h
  by_cases hlt : a.block < w.heap.size
  · exact hlt
  · rw [Array.getElem?_eq_none (by omega)] at h; simp at h
theorem Bts.carry {w w' : World} {ao : Option Addr} {n cap : Nat} {l : List UInt8} (h : Bts w ao n cap l) (b : Below w.heap.size w w') : Bts w' ao n cap l := by
  refine ⟨h.1, h.2.1, h.2.2.1, h.2.2.2.1, fun ad e j hj => ?_⟩
  have hc := h.2.2.2.2 ad e j hj
  rw [b.cell (lt_of_cell hc), hc]
theorem Ints.carry {w w' : World} {ao : Option Addr} {n cap : Nat} {l : List Int} (h : Ints w ao n cap l) (b : Below w.heap.size w w') : Ints w' ao n cap l := by
  refine ⟨h.1, h.2.1, h.2.2.1, h.2.2.2.1, fun ad e j hj => ?_⟩
  have hc := h.2.2.2.2 ad e j hj
  rw [b.cell (lt_of_cell hc), hc]
theorem ints_one (w : World) (m : Int) (t : TypeId) : Ints (w.alloc (.cells #[.int .i64 m] t)) (some ⟨w.heap.size, 0, none⟩) 1 1 [m] := by
  refine ⟨rfl, by omega, by decide, (fun h => by cases h), fun ad e j hj => ?_⟩
  obtain rfl := Option.some.inj e
  have : j = 0 := by simpa using hj
  subst this
  simp [Addr.add]
theorem ints_two (w : World) (m k : Int) (t : TypeId) : Ints (w.alloc (.cells #[.int .i64 m, .int .i64 k] t)) (some ⟨w.heap.size, 0, none⟩) 2 2 [m, k] := by
  refine ⟨rfl, by omega, by decide, (fun h => by cases h), fun ad e j hj => ?_⟩
  obtain rfl := Option.some.inj e
  have : j = 0 ∨ j = 1 := by simp at hj; omega
  rcases this with rfl | rfl <;> simp [Addr.add]
theorem below_alloc (w : World) (o : Obj) : Below w.heap.size w (w.alloc o) := (Below.refl _ _).alloc (Nat.le_refl _) o
theorem or_byte (x : Nat) (c : UInt8) (hx : x ≤ 72057594037927935) : bits .or .u64 ((x : Int) * 256) (c.toNat : Int) = ((x * 256 + c.toNat : Nat) : Int) := by
  have := c.toNat_lt
  rw [show (x : Int) * 256 = ((x * 256 : Nat) : Int) from by omega, u64_or_nat _ _ (by omega) (by omega), nat_join 8 _ _ (by omega) (by omega)]
set_option maxHeartbeats 800000 in
theorem get_no (ao : Option Addr) (n cap : Nat) (p m : Int) (w : World) (hn : n ≤ maxLen) (hno : ¬ (1 ≤ m ∧ m ≤ 8 ∧ 0 ≤ p ∧ p ≤ (n : Int) ∧ m ≤ (n : Int) - p)) :
    Calls Tryd.prog 25 #[.slice ao n cap, .int .i64 p, .int .i64 m] w fun e w' => e = .returned (.tuple #[.int .u64 0, .bool false]) ∧ Below w.heap.size w w' := by
  by_cases hm : 1 ≤ m ∧ m ≤ 8
  · have hd : decide (1 ≤ m ∧ m ≤ 8) = true := decide_eq_true hm
    have hs : skipA n p [m] = none := by rw [skipA_one, if_neg (by omega)]
    go_enter Tryd.func25, Tryd.ntmps25
    go_wp2_with fail
    refine (width_any _ _).mono ?_; rintro e w1 ⟨rfl, rfl⟩
    rw [hd]
    go_wp2_with fail
    refine (skip_any _ _ _ _ _ _ _ [m] _ hn (ints_one _ _ _)).mono ?_; rintro e w2 ⟨rfl, rfl⟩
    rw [hs]
    simp only [skipV]
    go_wp2
    go_ret2
    exact ⟨rfl, below_alloc _ _⟩
  · have hd : decide (1 ≤ m ∧ m ≤ 8) = false := decide_eq_false hm
    clear hno
    go_enter Tryd.func25, Tryd.ntmps25
    go_wp2_with fail
    refine (width_any _ _).mono ?_; rintro e w1 ⟨rfl, rfl⟩
    rw [hd]
    go_wp2
    go_ret2
    exact ⟨rfl, Below.refl _ _⟩
set_option maxHeartbeats 800000 in
theorem get_yes (ao : Option Addr) (n cap p m : Nat) (l : List UInt8) (w : World) (hb : Bts w ao n cap l) (h1 : 1 ≤ m) (h8 : m ≤ 8) (hp : p + m ≤ n) :
    Calls Tryd.prog 25 #[.slice ao n cap, .int .i64 p, .int .i64 m] w fun e w' => e = .returned (.tuple #[.int .u64 (numF ((l.drop p).take m) : Nat), .bool true]) ∧ Below w.heap.size w w' := by
  obtain ⟨hl, hc, hm, h0, hcell⟩ := hb
  unfold maxLen at hm
  have HN : Hid _ := hl
  clear hl
  cases ao with
  | none => have := h0 rfl; omega
  | some ad =>
    have hd : decide (1 ≤ (m : Int) ∧ (m : Int) ≤ 8) = true := decide_eq_true (by omega)
    have hs : skipA n p [(m : Int)] = some (p + m) := by rw [skipA_one, if_pos (by omega)]; congr 1
    have HD : Hid _ := hd
    have HS : Hid _ := hs
    have HC : Hid _ := hcell ad rfl
    clear hd hs hcell h0
    go_enter Tryd.func25, Tryd.ntmps25
    go_wp2_with fail
    refine (width_any _ _).mono ?_; rintro e w1 ⟨rfl, rfl⟩
    rw [HD.out]
    go_wp2_with fail
    refine (skip_any _ _ _ _ _ _ _ [(m : Int)] _ (by unfold maxLen; omega) (ints_one _ _ _)).mono ?_; rintro e w2 ⟨rfl, rfl⟩
    rw [HS.out]
    simp only [skipV]
    go_wp2
    go_loop [10, 31] (fun x i => ∃ k : Nat, k ≤ m ∧ i = .int .i64 k ∧ x = .int .u64 (numF (((l.drop p).take m).take k) : Nat)) (fun _ i => m - (intOf i).toNat)
    case atStart => exact ⟨0, Nat.zero_le _, rfl, rfl⟩
    case round =>
      obtain ⟨k, hk, rfl, rfl⟩ := hrel
      by_cases hkn : k < m
      · have hlen : ((l.drop p).take m).length = m := by rw [List.length_take, List.length_drop]; have := HN.out; omega
        have hv := numF_take7 ((l.drop p).take m) k (by omega) (by omega)
        have hV := numF_take ((l.drop p).take m) k (by omega)
        have hg : ((l.drop p).take m).getD k 0 = l.getD (p + k) 0 := by
          simp only [List.getD_eq_getElem?_getD]; rw [List.getElem?_take, if_pos hkn, List.getElem?_drop]
        rw [hg] at hV
        have HV : Hid _ := hV
        have b0 := bt_lo l (p + k)
        have b1 := bt_hi l (p + k)
        have HO : Hid _ := or_byte (numF (((l.drop p).take m).take k)) (l.getD (p + k) 0) hv
        have hce : (w1.alloc (.cells #[.int .i64 (m : Int)] 3)).cell? ((ad.add p).add k) = some (.int .u8 (bt l (p + k))) := by
          have h1 := HC.out (p + k) (by have := HN.out; omega)
          rw [Addr.add_add, (below_alloc _ _).cell (lt_of_cell h1), h1]
        clear hlen hV hg
        generalize hx : numF (((l.drop p).take m).take k) = x at hv HV HO
        clear hx
        go_wp2
        go_round
        case rel => exact ⟨k + 1, by omega, by go_num, by rw [HV.out]; exact congrArg (Value.int .u64) HO.out⟩
        case measure => simp [intOf]; omega
      · go_wp2
        go_ret2
        exact ⟨by rw [List.take_of_length_le (l := (l.drop p).take m) (by rw [List.length_take]; omega)]; rfl, below_alloc _ _⟩
end Go.Proofs.YtmgbcnlnikchbaaDoor
