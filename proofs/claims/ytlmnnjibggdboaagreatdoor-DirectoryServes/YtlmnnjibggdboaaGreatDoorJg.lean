/-
  Plain arithmetic on lists of bytes: the number that bytes are, the high ones first; the last n bytes of a number; that each is the other's inverse; the places behind fields.
  What the calls that only read answer, as contracts: isWidth, Skip, Get; what became of the world.
  What Put answers, as a contract: new memory that holds what it should; what became of the world.
  What the calls that take one capability and make no bytes answer, as contracts: Make, May; what became of the world.
  What Encode answers of a capability, as a contract; what became of the world.
  What the statements' own Bytes answers, as a contract: the document's bytes, in new memory.
  What Decode answers, as a contract; what string(b) answers of bytes that can be read.
  What Clone, Put, PutBytes and GetBytes answer, as contracts; what became of the world.
-/
import Derived.Test.YtlmnnjibggdboaaGreatDoorJf
import Derived.WalkKit
import Derived.WalkSpells
import Derived.WalkLawsBesides
import Derived.Laws.BitsAllLaws
import Derived.Deep.QuietTactic
import Derived.BigQuiet
import Derived.Laws.StructEq
import Derived.Handy
import Derived.Deep.OwnRows
import Derived.Deep.RegionHeldLaw
import Derived.Deep.AppendLies
import Derived.Laws.IdiomStrings
import Derived.Lib.LazyBuf
import Derived.Deep.RegionHeld
namespace Go.Proofs.YtlmnnjibggdboaaGreatDoor
section
theorem bt_lo (l : List UInt8) (j : Nat) : 0 ≤ bt l j := by unfold bt; omega
theorem bt_hi (l : List UInt8) (j : Nat) : bt l j ≤ 255 := by unfold bt; have := (l.getD j 0).toNat_lt; omega
/- the number that bytes are -/
def numF (l : List UInt8) : Nat := l.foldl (fun v c => v * 256 + c.toNat) 0
theorem numF_nil : numF [] = 0 := rfl
theorem numF_snoc (l : List UInt8) (c : UInt8) : numF (l ++ [c]) = numF l * 256 + c.toNat := by unfold numF; rw [List.foldl_append]; rfl
theorem numF_take (l : List UInt8) (k : Nat) (h : k < l.length) : numF (l.take (k + 1)) = numF (l.take k) * 256 + (l.getD k 0).toNat := by
  rw [List.take_add_one, List.getElem?_eq_getElem h, List.getD_eq_getElem?_getD, List.getElem?_eq_getElem h]; exact numF_snoc _ _
theorem numF_lt (l : List UInt8) : numF l < 256 ^ l.length := by
  induction hn : l.length generalizing l with
  | zero => rw [List.eq_nil_of_length_eq_zero hn]; decide
  | succ n ih =>
    have hne : l ≠ [] := by intro e; subst e; simp at hn
    obtain ⟨m, c, rfl⟩ : ∃ m c, l = m ++ [c] := ⟨l.dropLast, l.getLast hne, (List.dropLast_concat_getLast hne).symm⟩
    have := ih m (by simp at hn; omega)
    have := c.toNat_lt
    rw [numF_snoc, Nat.pow_succ]; omega
theorem numF_le8 (l : List UInt8) (h : l.length ≤ 8) : numF l ≤ 18446744073709551615 := by
  have := numF_lt l
  have h2 : 256 ^ l.length ≤ 256 ^ 8 := Nat.pow_le_pow_right (by omega) h
  have h3 : (256 : Nat) ^ 8 = 18446744073709551616 := by decide
  omega
theorem numF_le7 (l : List UInt8) (h : l.length ≤ 7) : numF l ≤ 72057594037927935 := by
  have := numF_lt l
  have h2 : 256 ^ l.length ≤ 256 ^ 7 := Nat.pow_le_pow_right (by omega) h
  have h3 : (256 : Nat) ^ 7 = 72057594037927936 := by decide
  omega
theorem numF_take7 (l : List UInt8) (k : Nat) (h : l.length ≤ 8) (hk : k < l.length) : numF (l.take k) ≤ 72057594037927935 := numF_le7 _ (by rw [List.length_take]; omega)
/- the first k of the last n bytes of v -/
def putP (v n k : Nat) : List UInt8 := (List.range k).map fun j => UInt8.ofNat (v / 256 ^ (n - 1 - j))
def putF (v n : Nat) : List UInt8 := putP v n n
theorem putP_len (v n k : Nat) : (putP v n k).length = k := by simp [putP]
theorem putF_len (v n : Nat) : (putF v n).length = n := putP_len v n n
theorem putP_succ (v n k : Nat) : putP v n (k + 1) = putP v n k ++ [UInt8.ofNat (v / 256 ^ (n - 1 - k))] := by simp [putP, List.range_succ]
theorem numF_putP (v n k : Nat) (h : k ≤ n) : numF (putP v n k) = v / 256 ^ (n - k) % 256 ^ k := by
  induction k with
  | zero => simp only [putP]; rw [show (256 : Nat) ^ 0 = 1 from rfl, Nat.mod_one]; rfl
  | succ k ih =>
    rw [putP_succ, numF_snoc, ih (by omega), ofNat_toNat, show n - k = (n - (k + 1)) + 1 from by omega, show n - 1 - k = n - (k + 1) from by omega]
    generalize hx : v / 256 ^ (n - (k + 1)) = x
    rw [Nat.pow_succ, ← Nat.div_div_eq_div_mul, hx, Nat.pow_succ, Nat.mul_comm (256 ^ k) 256, Nat.mod_mul]
    omega
theorem numF_putF (v n : Nat) : numF (putF v n) = v % 256 ^ n := by
  unfold putF; rw [numF_putP v n n (Nat.le_refl _), Nat.sub_self]; simp
theorem putP_mod (v n k : Nat) (h : k ≤ n) : putP (v % 256 ^ n) n k = putP v n k := by
  unfold putP; apply List.map_congr_left; intro j hj
  have hj' := List.mem_range.1 hj
  apply UInt8.toNat_inj.mp
  rw [ofNat_toNat, ofNat_toNat]
  have e : (256 : Nat) ^ n = 256 ^ (n - 1 - j) * (256 * 256 ^ j) := by
    rw [← Nat.pow_succ', ← Nat.pow_add]; congr 1; omega
  rw [e, Nat.mod_mul_right_div_self, Nat.mod_mul_right_mod]
theorem putF_mod (v n : Nat) : putF (v % 256 ^ n) n = putF v n := putP_mod v n n (Nat.le_refl _)
theorem putF_inj (v w n : Nat) (hv : v < 256 ^ n) (hw : w < 256 ^ n) (h : putF v n = putF w n) : v = w := by
  have e := congrArg numF h; rw [numF_putF, numF_putF, Nat.mod_eq_of_lt hv, Nat.mod_eq_of_lt hw] at e; exact e
theorem pow_le8 (n : Nat) (h : n ≤ 8) : 256 ^ n ≤ 18446744073709551616 := by
  have h2 : 256 ^ n ≤ 256 ^ 8 := Nat.pow_le_pow_right (by omega) h
  have h3 : (256 : Nat) ^ 8 = 18446744073709551616 := by decide
  omega
/- the place behind fields of these sizes, from p on, of n bytes; none: not all there -/
def skipF (n : Nat) : Nat → List Int → Option Nat
  | p, [] => some p
  | p, z :: r => if 0 ≤ z ∧ z ≤ (n : Int) - p then skipF n (p + z.toNat) r else none
end
end Go.Proofs.YtlmnnjibggdboaaGreatDoor
namespace Go.Proofs.YtlmnnjibggdboaaGreatDoor
section
open Go.RowKit
def Ints (w : World) (ao : Option Addr) (n cap : Nat) (zs : List Int) : Prop :=
  n = zs.length ∧ n ≤ cap ∧ cap ≤ maxLen ∧ (ao = none → cap = 0) ∧ ∀ ad, ao = some ad → ∀ j, j < zs.length → w.cell? (ad.add j) = some (.int .i64 (zs.getD j 0))
theorem width_any (n : Int) (w : World) : Calls Tryz.prog 64 #[.int .i64 n] w fun e w' => e = .returned (.bool (decide (1 ≤ n ∧ n ≤ 8))) ∧ w' = w := by
  by_cases h1 : 1 ≤ n
  · by_cases h2 : n ≤ 8
    · rw [decide_eq_true (show 1 ≤ n ∧ n ≤ 8 from ⟨h1, h2⟩)]
      go_enter Tryz.func64, Tryz.ntmps64
      go_wp2
      go_ret
      exact ⟨rfl, rfl⟩
    · rw [decide_eq_false (show ¬ (1 ≤ n ∧ n ≤ 8) from by omega)]
      go_enter Tryz.func64, Tryz.ntmps64
      go_wp2
      go_ret
      exact ⟨rfl, rfl⟩
  · rw [decide_eq_false (show ¬ (1 ≤ n ∧ n ≤ 8) from by omega)]
    go_enter Tryz.func64, Tryz.ntmps64
    go_wp2
    go_ret
    exact ⟨rfl, rfl⟩
def skipA (n : Nat) (p : Int) (zs : List Int) : Option Nat := if 0 ≤ p ∧ p ≤ (n : Int) then skipF n p.toNat zs else none
def skipV : Option Nat → Value
  | none => .tuple #[.int .i64 0, .bool false]
  | some p => .tuple #[.int .i64 (p : Nat), .bool true]
theorem skipF_drop (n p k : Nat) (zs : List Int) (h : k < zs.length) : skipF n p (zs.drop k) = if 0 ≤ zs.getD k 0 ∧ zs.getD k 0 ≤ (n : Int) - p then skipF n (p + (zs.getD k 0).toNat) (zs.drop (k + 1)) else none := by
  rw [List.drop_eq_getElem_cons h]
  rw [show zs.getD k 0 = zs[k] from by rw [List.getD_eq_getElem?_getD, List.getElem?_eq_getElem h]; rfl]
  rfl
def SkipRel (n q sn : Nat) (zs : List Int) (x i : Value) : Prop := ∃ k p : Nat, k ≤ sn ∧ p ≤ n ∧ i = .int .i64 k ∧ x = .int .i64 p ∧ Hid (skipF n q zs = skipF n p (zs.drop k))
set_option maxHeartbeats 800000 in
theorem skip_any (ao : Option Addr) (n cap : Nat) (p : Int) (so : Option Addr) (sn scap : Nat) (zs : List Int) (w : World) (hn : n ≤ maxLen) (hs : Ints w so sn scap zs) :
    Calls Tryz.prog 76 #[.slice ao n cap, .int .i64 p, .slice so sn scap] w fun e w' => e = .returned (skipV (skipA n p zs)) ∧ w' = w := by
  obtain ⟨hl, hc, hm, h0, hcell⟩ := hs
  have HN : Hid _ := hl
  clear hl
  unfold maxLen at hn hm
  by_cases hp0 : 0 ≤ p
  · by_cases hpn : p ≤ (n : Int)
    · have e : skipA n p zs = skipF n p.toNat zs := if_pos ⟨hp0, hpn⟩
      rw [e]
      obtain ⟨q, rfl⟩ := Int.eq_ofNat_of_zero_le hp0
      clear e
      go_enter Tryz.func76, Tryz.ntmps76
      go_wp2
      go_loop [1, 20] (fun x i => SkipRel n q sn zs x i) (fun _ i => sn - (intOf i).toNat)
      case atStart => exact ⟨0, q, Nat.zero_le _, by omega, rfl, rfl, rfl⟩
      case round =>
        obtain ⟨k, p, hk, hp, rfl, rfl, HR⟩ := hrel
        by_cases hkn : k < sn
        · have hkl : k < zs.length := by have := HN.out; omega
          have hd := skipF_drop n p k zs hkl
          cases so with
          | none => have := h0 rfl; omega
          | some ad =>
            have hce := hcell ad rfl k hkl
            generalize hz : zs.getD k 0 = z at hce hd
            clear hcell hz
            by_cases hz0 : 0 ≤ z
            · obtain ⟨y, rfl⟩ := Int.eq_ofNat_of_zero_le hz0
              rw [Int.toNat_natCast] at hd
              have HD : Hid _ := hd
              clear hd
              by_cases hz1 : (y : Int) ≤ (n : Int) - p
              · go_wp2
                go_round
                case rel => exact ⟨_, _, _, _, _, ⟨k + 1, p + y, by omega, by omega, rfl, rfl, HR.out.trans (HD.out.trans (if_pos ⟨hz0, hz1⟩))⟩, by go_num, rfl, rfl, rfl, by go_num⟩
                case measure => simp [intOf]; omega
              · go_wp2
                go_ret2
                refine ⟨?_, rfl⟩
                rw [HR.out, HD.out, if_neg (by omega)]; rfl
            · have HD : Hid _ := hd
              clear hd
              go_wp2
              go_ret2
              refine ⟨?_, rfl⟩
              rw [HR.out, HD.out, if_neg (by omega)]; rfl
        · go_wp2
          go_ret2
          refine ⟨?_, rfl⟩
          rw [HR.out, List.drop_of_length_le (by have := HN.out; omega)]; rfl
    · have e : skipA n p zs = none := if_neg (by omega)
      rw [e]
      clear e hcell
      go_enter Tryz.func76, Tryz.ntmps76
      go_wp2
      go_ret2
      exact ⟨rfl, rfl⟩
  · have e : skipA n p zs = none := if_neg (by omega)
    rw [e]
    clear e hcell
    go_enter Tryz.func76, Tryz.ntmps76
    go_wp2
    go_ret2
    exact ⟨rfl, rfl⟩
theorem skipA_one (n : Nat) (p m : Int) : skipA n p [m] = if 0 ≤ p ∧ p ≤ (n : Int) ∧ 0 ≤ m ∧ m ≤ (n : Int) - p then some (p + m).toNat else none := by
  unfold skipA
  by_cases h : 0 ≤ p ∧ p ≤ (n : Int)
  · rw [if_pos h]
    simp only [skipF]
    by_cases h2 : 0 ≤ m ∧ m ≤ (n : Int) - p
    · rw [if_pos (by omega), if_pos ⟨h.1, h.2, h2⟩]; congr 1; omega
    · rw [if_neg (by omega), if_neg (by omega)]
  · rw [if_neg h, if_neg (by omega)]
theorem Ints.carry {w w' : World} {ao : Option Addr} {n cap : Nat} {l : List Int} (h : Ints w ao n cap l) (b : Below w.heap.size w w') : Ints w' ao n cap l := by
  refine ⟨h.1, h.2.1, h.2.2.1, h.2.2.2.1, fun ad e j hj => ?_⟩
  have hc := h.2.2.2.2 ad e j hj
  rw [b.cell (lt_of_cell hc), hc]
theorem ints_one (w : World) (m : Int) (t : TypeId) : Ints (w.alloc (.cells #[.int .i64 m] t)) (some ⟨w.heap.size, 0, none⟩) 1 1 [m] := by
  refine ⟨rfl, by omega, by decide, (fun h => by cases h), fun ad e j hj => ?_⟩
  obtain rfl := Option.some.inj e
  have : j = 0 := by simpa using hj
  subst this
  simp [Addr.add]
theorem ints_two (w : World) (m k : Int) (t : TypeId) : Ints (w.alloc (.cells #[.int .i64 m, .int .i64 k] t)) (some ⟨w.heap.size, 0, none⟩) 2 2 [m, k] := by
  refine ⟨rfl, by omega, by decide, (fun h => by cases h), fun ad e j hj => ?_⟩
  obtain rfl := Option.some.inj e
  have : j = 0 ∨ j = 1 := by simp at hj; omega
  rcases this with rfl | rfl <;> simp [Addr.add]
theorem or_byte (x : Nat) (c : UInt8) (hx : x ≤ 72057594037927935) : bits .or .u64 ((x : Int) * 256) (c.toNat : Int) = ((x * 256 + c.toNat : Nat) : Int) := by
  have := c.toNat_lt
  rw [show (x : Int) * 256 = ((x * 256 : Nat) : Int) from by omega, u64_or_nat _ _ (by omega) (by omega), nat_join 8 _ _ (by omega) (by omega)]
set_option maxHeartbeats 800000 in
theorem get_no (ao : Option Addr) (n cap : Nat) (p m : Int) (w : World) (hn : n ≤ maxLen) (hno : ¬ (1 ≤ m ∧ m ≤ 8 ∧ 0 ≤ p ∧ p ≤ (n : Int) ∧ m ≤ (n : Int) - p)) :
    Calls Tryz.prog 75 #[.slice ao n cap, .int .i64 p, .int .i64 m] w fun e w' => e = .returned (.tuple #[.int .u64 0, .bool false]) ∧ Below w.heap.size w w' := by
  by_cases hm : 1 ≤ m ∧ m ≤ 8
  · have hd : decide (1 ≤ m ∧ m ≤ 8) = true := decide_eq_true hm
    have hs : skipA n p [m] = none := by rw [skipA_one, if_neg (by omega)]
    go_enter Tryz.func75, Tryz.ntmps75
    go_wp2_with fail
    refine (width_any _ _).mono ?_; rintro e w1 ⟨rfl, rfl⟩
    rw [hd]
    go_wp2_with fail
    refine (skip_any _ _ _ _ _ _ _ [m] _ hn (ints_one _ _ _)).mono ?_; rintro e w2 ⟨rfl, rfl⟩
    rw [hs]
    simp only [skipV]
    go_wp2
    go_ret2
    exact ⟨rfl, below_alloc _ _⟩
  · have hd : decide (1 ≤ m ∧ m ≤ 8) = false := decide_eq_false hm
    clear hno
    go_enter Tryz.func75, Tryz.ntmps75
    go_wp2_with fail
    refine (width_any _ _).mono ?_; rintro e w1 ⟨rfl, rfl⟩
    rw [hd]
    go_wp2
    go_ret2
    exact ⟨rfl, Below.refl _ _⟩
set_option maxHeartbeats 800000 in
theorem get_yes (ao : Option Addr) (n cap p m : Nat) (l : List UInt8) (w : World) (hb : Bts w ao n cap l) (h1 : 1 ≤ m) (h8 : m ≤ 8) (hp : p + m ≤ n) :
    Calls Tryz.prog 75 #[.slice ao n cap, .int .i64 p, .int .i64 m] w fun e w' => e = .returned (.tuple #[.int .u64 (numF ((l.drop p).take m) : Nat), .bool true]) ∧ Below w.heap.size w w' := by
  obtain ⟨hl, hc, hm, h0, hcell⟩ := hb
  unfold maxLen at hm
  have HN : Hid _ := hl
  clear hl
  cases ao with
  | none => have := h0 rfl; omega
  | some ad =>
    have hd : decide (1 ≤ (m : Int) ∧ (m : Int) ≤ 8) = true := decide_eq_true (by omega)
    have hs : skipA n p [(m : Int)] = some (p + m) := by rw [skipA_one, if_pos (by omega)]; congr 1
    have HD : Hid _ := hd
    have HS : Hid _ := hs
    have HC : Hid _ := hcell ad rfl
    clear hd hs hcell h0
    go_enter Tryz.func75, Tryz.ntmps75
    go_wp2_with fail
    refine (width_any _ _).mono ?_; rintro e w1 ⟨rfl, rfl⟩
    rw [HD.out]
    go_wp2_with fail
    refine (skip_any _ _ _ _ _ _ _ [(m : Int)] _ (by unfold maxLen; omega) (ints_one _ _ _)).mono ?_; rintro e w2 ⟨rfl, rfl⟩
    rw [HS.out]
    simp only [skipV]
    go_wp2
    go_loop [10, 31] (fun x i => ∃ k : Nat, k ≤ m ∧ i = .int .i64 k ∧ x = .int .u64 (numF (((l.drop p).take m).take k) : Nat)) (fun _ i => m - (intOf i).toNat)
    case atStart => exact ⟨0, Nat.zero_le _, rfl, rfl⟩
    case round =>
      obtain ⟨k, hk, rfl, rfl⟩ := hrel
      by_cases hkn : k < m
      · have hlen : ((l.drop p).take m).length = m := by rw [List.length_take, List.length_drop]; have := HN.out; omega
        have hv := numF_take7 ((l.drop p).take m) k (by omega) (by omega)
        have hV := numF_take ((l.drop p).take m) k (by omega)
        have hg : ((l.drop p).take m).getD k 0 = l.getD (p + k) 0 := by
          simp only [List.getD_eq_getElem?_getD]; rw [List.getElem?_take, if_pos hkn, List.getElem?_drop]
        rw [hg] at hV
        have HV : Hid _ := hV
        have b0 := bt_lo l (p + k)
        have b1 := bt_hi l (p + k)
        have HO : Hid _ := or_byte (numF (((l.drop p).take m).take k)) (l.getD (p + k) 0) hv
        have hce : (w1.alloc (.cells #[.int .i64 (m : Int)] 3)).cell? ((ad.add p).add k) = some (.int .u8 (bt l (p + k))) := by
          have h1 := HC.out (p + k) (by have := HN.out; omega)
          rw [Addr.add_add, (below_alloc _ _).cell (lt_of_cell h1), h1]
        clear hlen hV hg
        generalize hx : numF (((l.drop p).take m).take k) = x at hv HV HO
        clear hx
        go_wp2
        go_round
        case rel => exact ⟨k + 1, by omega, by go_num, by rw [HV.out]; exact congrArg (Value.int .u64) HO.out⟩
        case measure => simp [intOf]; omega
      · go_wp2
        go_ret2
        exact ⟨by rw [List.take_of_length_le (l := (l.drop p).take m) (by rw [List.length_take]; omega)]; rfl, below_alloc _ _⟩
end
end Go.Proofs.YtlmnnjibggdboaaGreatDoor
namespace Go.Proofs.YtlmnnjibggdboaaGreatDoor
section
open Go.RowKit
theorem addr0 (g j : Nat) : Addr.add ⟨g, 0, none⟩ j = ⟨g, j, none⟩ := by unfold Addr.add; simp; exact fun h => h.symm
def PutRel (w : World) (n m v : Nat) (l : List UInt8) (x i : Value) (wr : World) : Prop :=
  ∃ d, d ≤ m ∧ i = .int .i64 ((d : Int) - 1) ∧ x = .slice (some ⟨w.heap.size, 0, none⟩) (n + (m - d)) (n + m) ∧
    Hid (wr.ownsRow w.heap.size 5 1 (.slice (some ⟨w.heap.size, 0, none⟩) (n + (m - d)) (n + m)) (n + (m - d)) (cellsB (l ++ putP v m (m - d)))) ∧ Hid (Below w.heap.size w wr)
theorem cell_new (wr : World) (x : Value) (t : TypeId) : ∀ j u, [x][j]? = some u → (wr.alloc (.cells #[x] t)).cell? (Addr.add ⟨wr.heap.size, 0, none⟩ j) = some u := by
  intro j u hj
  have h0 : j = 0 := by have := (List.getElem?_eq_some_iff.1 hj).1; simpa using this
  subst h0
  simp at hj; subst hj; simp [Addr.add]
theorem one_new {k : IntKind} (x : Int) : ∀ u ∈ [Value.int k x], u.oneCell' = true := by intro u hu; simp at hu; subst hu; rfl
theorem byte_of (v d : Nat) : (v : Int) / 2 ^ (8 * d) % 256 = ((UInt8.ofNat (v / 256 ^ d)).toNat : Int) := by
  rw [ofNat_toNat, show (256 : Nat) ^ d = 2 ^ (8 * d) from by rw [Nat.pow_mul], show (2 : Int) ^ (8 * d) = ((2 ^ (8 * d) : Nat) : Int) from by rw [Int.natCast_pow]; rfl, ← Int.natCast_ediv]
  generalize v / 2 ^ (8 * d) = x
  omega
theorem put_step (v m d n : Nat) (l : List UInt8) (h : d + 1 ≤ m) : n + (m - (d + 1)) + 1 = n + (m - d) ∧ cellsB (l ++ putP v m (m - (d + 1))) ++ [.int .u8 ((v : Int) / 2 ^ (8 * d) % 256)] = cellsB (l ++ putP v m (m - d)) := by
  refine ⟨by omega, ?_⟩
  rw [byte_of, show m - d = (m - (d + 1)) + 1 from by omega, putP_succ, ← List.append_assoc, cellsB_append (l ++ _), show m - 1 - (m - (d + 1)) = d from by omega]
  rfl
set_option maxHeartbeats 800000 in
theorem put_yes (ao : Option Addr) (n cap v m : Nat) (l : List UInt8) (w : World) (hb : Bts w ao n cap l) (hr : n ≤ 140737488421888) (h1 : 1 ≤ m) (h8 : m ≤ 8) (_hv : v ≤ 18446744073709551615) :
    Calls Tryz.prog 43 #[.slice ao n cap, .int .u64 v, .int .i64 m] w fun e w' => e = .returned (.slice (some ⟨w.heap.size, 0, none⟩) (n + m) (n + m)) ∧
      w'.ownsRow w.heap.size 5 1 (.slice (some ⟨w.heap.size, 0, none⟩) (n + m) (n + m)) (n + m) (cellsB (l ++ putF v m)) ∧ Below w.heap.size w w' := by
  have HB : Hid (Bts w ao n cap l) := hb
  clear hb
  have HD : Hid (decide (1 ≤ (m : Int) ∧ (m : Int) ≤ 8) = true) := decide_eq_true (by omega)
  obtain ⟨i0, hi, hz0, hz1, hz2⟩ := info_parts Tryz.info5
  have hcm : cap ≤ 9223372036854775807 := HB.out.2.2.1
  go_enter Tryz.func43, Tryz.ntmps43
  go_wp2_with fail
  refine (width_any _ _).mono ?_; rintro e w1 ⟨rfl, rfl⟩
  rw [HD.out]
  go_wp2_with (at_make; refine wpList_make_own _ rfl _ _ 23 rfl w1.heap.size 5 i0 (.int .u8 0) 1 Tryz.underlying23 hi hz0 hz1 _ _ _ (n + m) rfl rfl (by omega) ?b2 ?b3 (Nat.le_refl _) ?_)
  case b2 => rw [hz2]; omega
  case b3 => unfold maxLen; omega
  intro w2 hown2 hgrow2
  have bel2 : Below w1.heap.size w1 w2 := (Below.refl _ _).grown hgrow2 (Nat.le_refl _) (fun k e => by cases e)
  have HB2 : Hid (Bts w2 ao n cap l) := HB.out.carry bel2
  go_wp2_with (at_builtin; refine wpList_append_fits_any _ rfl _ _ 23 rfl w1.heap.size 5 i0 1 Tryz.underlying23 hi hz1 w1.heap.size 0 (n + m) [] rfl hown2 ao n cap (cellsB l) rfl (by rw [cellsB_len]; have := HB.out.1; omega) HB2.out.none HB2.out.news (cellsB_one l) (by omega) ?_)
  intro w3 hown3 hgrow3
  have bel3 : Below w1.heap.size w1 w3 := bel2.grown hgrow3 bel2.size (fun k e => by cases e; exact Nat.le_refl _)
  go_wp2
  clear hown2 hgrow2 hgrow3 HB2
  go_loopw [7, 8] (fun x i wr => PutRel w1 n m v l x i wr) (fun _ i _ => (intOf i + 1).toNat)
  case atStart => exact ⟨m, Nat.le_refl _, rfl, by rw [Nat.sub_self]; rfl, by rw [Nat.sub_self]; simp only [putP, List.range_zero, List.map_nil, List.append_nil]; exact hown3, bel3⟩
  case round =>
    obtain ⟨d, hd, rfl, rfl, HO, HL⟩ := hrel
    cases d with
    | zero =>
      go_wp2
      go_ret
      exact ⟨rfl, HO.out, HL.out⟩
    | succ d =>
      rw [show ((d + 1 : Nat) : Int) - 1 = (d : Int) from by omega]
      have hst := put_step v m d n l hd
      have HE1 : Hid _ := hst.1
      have HE2 : Hid _ := hst.2
      clear hst
      have hown := HO.out
      have hsz := HL.out.size
      go_wp2_with (at_builtin; refine wpList_append_fits _ rfl _ _ 23 rfl w1.heap.size 5 i0 1 Tryz.underlying23 hi hz1 w1.heap.size (n + (m - (d + 1))) (n + m) _ rfl (hown.alloc _) ⟨wr.heap.size, 0, none⟩ 1 1 [.int .u8 ((v : Int) / 2 ^ (8 * d) % 256)] rfl rfl (cell_new _ _ _) (one_new _) (by omega) ?_)
      intro w4 hown4 hgrow4
      have bel4 : Below w1.heap.size w1 w4 := (HL.out.alloc hsz _).grown hgrow4 (by have := (below_alloc wr (Obj.cells #[.int .u8 ((v : Int) / 2 ^ (8 * d) % 256)] 5)).size; omega) (fun k e => by cases e; exact Nat.le_refl _)
      rw [HE2.out] at hown4
      have HO4 : Hid _ := hown4
      have HL4 : Hid (Below w1.heap.size w1 w4) := bel4
      clear hown4 hgrow4 bel4 hown
      go_wp2
      go_roundw
      case rel => exact ⟨d, by omega, rfl, by rw [HE1.out], by rw [← HE1.out]; exact HO4.out, HL4⟩
      case measure => simp [intOf]
end
end Go.Proofs.YtlmnnjibggdboaaGreatDoor
namespace Go.Proofs.YtlmnnjibggdboaaGreatDoor
section
open Go.RowKit
theorem and48 (a : Nat) (h : a ≤ 18446744073709551615) : bits .and .u64 (a : Int) 281474976710655 = ((a % 281474976710656 : Nat) : Int) := by
  have := u64_and_nat a 281474976710655 (by omega) (by omega)
  rw [show (281474976710655 : Int) = ((281474976710655 : Nat) : Int) from rfl, this, show (281474976710655 : Nat) = 2 ^ 48 - 1 from by decide, Nat.and_two_pow_sub_one_eq_mod]
theorem and24 (a : Nat) (h : a ≤ 4294967295) : bits .and .u32 (a : Int) 16777215 = ((a % 16777216 : Nat) : Int) := by
  have := u32_and_nat a 16777215 (by omega) (by omega)
  rw [show (16777215 : Int) = ((16777215 : Nat) : Int) from rfl, this, show (16777215 : Nat) = 2 ^ 24 - 1 from by decide, Nat.and_two_pow_sub_one_eq_mod]
theorem neq_cap (p o r c p' o' r' c' : Int) (w : World) : (binOp .neq 40 (.agg #[.int .u64 p, .int .u32 o, .int .u8 r, .int .u64 c]) (.agg #[.int .u64 p', .int .u32 o', .int .u8 r', .int .u64 c'])).run Tryz.prog w = .ok (.bool (!decide (p = p' ∧ o = o' ∧ r = r' ∧ c = c'))) w := by
  have hS : Tryz.prog.underlying 40 = some (.struct (Tryz.prog.fieldsOf 40)) := by kernel_rfl
  have hp : Tryz.prog.stoodInHeld 40 = false := by kernel_rfl
  rw [run_neq_struct, show (10000 : Nat) = 9999 + 1 from rfl, run_equalIn_agg w 9999 40 _ _ hS hp]
  simp only [Program.fieldsOf, Tryz.underlying40]
  have u1 := Tryz.underlying32
  have u2 := Tryz.underlying38
  have u3 := Tryz.underlying5
  go_simp
  by_cases h1 : p = p' <;> by_cases h2 : o = o' <;> by_cases h3 : r = r' <;> by_cases h4 : c = c' <;> simp [h1, h2, h3, h4]
set_option maxHeartbeats 400000 in
theorem make_any (p o r c : Nat) (w : World) (hp : p ≤ 18446744073709551615) (ho : o ≤ 4294967295) (_hr : r ≤ 255) (hc : c ≤ 18446744073709551615) :
    Calls Tryz.prog 21 #[.agg #[.int .u64 p, .int .u32 o, .int .u8 r, .int .u64 c]] w fun e w' => e = .returned (.agg #[.int .u64 (p % 281474976710656 : Nat), .int .u32 (o % 16777216 : Nat), .int .u8 r, .int .u64 (c % 281474976710656 : Nat)]) ∧
      w' = (w.alloc (.cells #[.int .u64 p, .int .u32 o, .int .u8 r, .int .u64 c] 40)).alloc (.cells #[.int .u64 (p % 281474976710656 : Nat), .int .u32 (o % 16777216 : Nat), .int .u8 r, .int .u64 (c % 281474976710656 : Nat)] 40) := by
  have h1 := and48 p hp
  have h2 := and24 o ho
  have h3 := and48 c hc
  generalize p % 281474976710656 = p' at h1 ⊢
  generalize o % 16777216 = o' at h2 ⊢
  generalize c % 281474976710656 = c' at h3 ⊢
  go_enter Tryz.func21, Tryz.ntmps21
  go_wp2
  go_returns
  exact ⟨rfl, rfl⟩
set_option maxHeartbeats 400000 in
theorem may_any (p o r c : Nat) (w : World) (hp : p ≤ 18446744073709551615) (ho : o ≤ 4294967295) (_hr : r ≤ 255) (hc : c ≤ 18446744073709551615) :
    Calls Tryz.prog 42 #[.agg #[.int .u64 p, .int .u32 o, .int .u8 r, .int .u64 c]] w fun e w' => e = .returned (.bool (decide (p ≤ 281474976710655 ∧ o ≤ 16777215 ∧ c ≤ 281474976710655))) ∧
      w' = w.alloc (.cells #[.int .u64 p, .int .u32 o, .int .u8 r, .int .u64 c] 40) := by
  by_cases h1 : p ≤ 281474976710655
  · by_cases h2 : c ≤ 281474976710655
    · by_cases h3 : o ≤ 16777215
      · rw [decide_eq_true (show p ≤ 281474976710655 ∧ o ≤ 16777215 ∧ c ≤ 281474976710655 from ⟨h1, h3, h2⟩)]
        go_enter Tryz.func42, Tryz.ntmps42
        go_wp2
        go_ret
        refine ⟨?_, rfl⟩
        rw [decide_eq_true (show (o : Int) < 16777216 from by omega)]; rfl
      · rw [decide_eq_false (show ¬ (p ≤ 281474976710655 ∧ o ≤ 16777215 ∧ c ≤ 281474976710655) from by omega)]
        go_enter Tryz.func42, Tryz.ntmps42
        go_wp2
        go_ret
        refine ⟨?_, rfl⟩
        rw [decide_eq_false (show ¬ (o : Int) < 16777216 from by omega)]; rfl
    · rw [decide_eq_false (show ¬ (p ≤ 281474976710655 ∧ o ≤ 16777215 ∧ c ≤ 281474976710655) from by omega)]
      go_enter Tryz.func42, Tryz.ntmps42
      go_wp2
      go_ret
      exact ⟨rfl, rfl⟩
  · rw [decide_eq_false (show ¬ (p ≤ 281474976710655 ∧ o ≤ 16777215 ∧ c ≤ 281474976710655) from by omega)]
    go_enter Tryz.func42, Tryz.ntmps42
    go_wp2
    go_ret
    exact ⟨rfl, rfl⟩
/- may the capability be? -/
def mayD (p o c : Nat) : Bool := decide (p ≤ 281474976710655 ∧ o ≤ 16777215 ∧ c ≤ 281474976710655)
end
end Go.Proofs.YtlmnnjibggdboaaGreatDoor
namespace Go.Proofs.YtlmnnjibggdboaaGreatDoor
section
open Go.RowKit
/- a capability's bytes -/
def capF (p o r c : Nat) : List UInt8 := putF p 6 ++ putF o 3 ++ putF r 1 ++ putF c 6
theorem capF_len (p o r c : Nat) : (capF p o r c).length = 16 := by simp [capF, putF_len]
theorem own_new (w : World) (l : List UInt8) (n base : Nat) (hn : n = l.length) (hm : n ≤ maxLen) (hb : base ≤ w.heap.size) : (w.alloc (.cells (cellsB l).toArray 5)).ownsRow base 5 1 (.slice (some ⟨w.heap.size, 0, none⟩) n n) n (cellsB l) :=
  ⟨by rw [cellsB_len, hn, Nat.mul_one], Or.inr ⟨w.heap.size, n, (cellsB l).toArray, rfl, hb, heap_alloc_new _ _, Nat.le_refl _, hm, by rw [List.size_toArray, cellsB_len, hn, Nat.mul_one], by rw [List.take_of_length_le (by rw [cellsB_len, hn]; simp)]⟩⟩
/- where a capability's four cells lie -/
theorem put_to (ao : Option Addr) (n cap v m N : Nat) (l : List UInt8) (w : World) (hb : Bts w ao n cap l) (hN : n + m = N) (hr : n ≤ 140737488421888) (h1 : 1 ≤ m) (h8 : m ≤ 8) (hv : v ≤ 18446744073709551615) :
    Calls Tryz.prog 43 #[.slice ao n cap, .int .u64 v, .int .i64 m] w fun e w' => e = .returned (.slice (some ⟨w.heap.size, 0, none⟩) N N) ∧
      w'.ownsRow w.heap.size 5 1 (.slice (some ⟨w.heap.size, 0, none⟩) N N) N (cellsB (l ++ putF v m)) ∧ Below w.heap.size w w' := by
  subst hN; exact put_yes ao n cap v m l w hb hr h1 h8 hv
theorem owns_at {w : World} {base g n cap : Nat} {l : List UInt8} (h : w.ownsRow base 5 1 (.slice (some ⟨g, 0, none⟩) n cap) n (cellsB l)) : Bts w (some ⟨g, 0, none⟩) n cap l := by
  obtain ⟨ao, c, e, hb⟩ := owns_bts h
  obtain ⟨rfl, _, rfl⟩ := Value.slice.inj e
  exact hb
theorem owns_le {w : World} {base base' size n : Nat} {e : TypeId} {v : Value} {xs : List Value} (h : w.ownsRow base e size v n xs) (hb : base' ≤ base) : w.ownsRow base' e size v n xs := by
  refine ⟨h.1, ?_⟩
  rcases h.2 with h0 | ⟨g, cap, cur, hv, hg, h2⟩
  · exact .inl h0
  · exact .inr ⟨g, cap, cur, hv, Nat.le_trans hb hg, h2⟩
set_option maxHeartbeats 800000 in
theorem encode_yes (p o r c : Nat) (w : World) (hp : p ≤ 281474976710655) (ho : o ≤ 16777215) (hr : r ≤ 255) (hc : c ≤ 281474976710655) :
    Calls Tryz.prog 23 #[.agg #[.int .u64 p, .int .u32 o, .int .u8 r, .int .u64 c]] w fun e w' => ∃ g, e = .returned (.slice (some ⟨g, 0, none⟩) 16 16) ∧ w.heap.size ≤ g ∧
      w'.ownsRow w.heap.size 5 1 (.slice (some ⟨g, 0, none⟩) 16 16) 16 (cellsB (capF p o r c)) ∧ Below w.heap.size w w' := by
  have HD : Hid (decide (p ≤ 281474976710655 ∧ o ≤ 16777215 ∧ c ≤ 281474976710655) = true) := decide_eq_true ⟨hp, ho, hc⟩
  go_enter Tryz.func23, Tryz.ntmps23
  go_wp2_with fail
  refine (may_any p o r c _ (by omega) (by omega) hr (by omega)).mono ?_; rintro e w1 ⟨rfl, hw1⟩
  have bel1 : Below w.heap.size w w1 := by rw [hw1]; go_grown
  have hx1 : Box w1 w.heap.size p o r c := by rw [hw1]; exact (box_new w p o r c).carry (below_alloc _ _)
  have HX1 : Hid (Box w1 w.heap.size p o r c) := hx1
  rw [HD.out]
  obtain ⟨k0, k1, k2, k3⟩ := hx1
  clear hw1
  go_wp2_with fail
  refine (put_to none 0 0 p 6 6 [] _ (bts_nil _) rfl (by omega) (by omega) (by omega) (by omega)).mono ?_; rintro e w2 ⟨rfl, hown2, bel2⟩
  have b2 : Below w.heap.size w w2 := bel1.trans (bel2.mono bel1.size)
  have HB2 : Hid (Bts w2 (some ⟨w1.heap.size, 0, none⟩) 6 6 ([] ++ putF p 6)) := owns_at hown2
  have HX2 : Hid (Box w2 w.heap.size p o r c) := HX1.out.carry bel2
  clear hown2 bel2 k0 k1 k2 k3 bel1 HX1
  obtain ⟨k0, k1, k2, k3⟩ := HX2.out
  go_wp2_with fail
  refine (put_to _ 6 6 o 3 9 _ _ HB2.out rfl (by omega) (by omega) (by omega) (by omega)).mono ?_; rintro e w3 ⟨rfl, hown3, bel3⟩
  have b3 : Below w.heap.size w w3 := b2.trans (bel3.mono b2.size)
  have HB3 : Hid (Bts w3 (some ⟨w2.heap.size, 0, none⟩) 9 9 ([] ++ putF p 6 ++ putF o 3)) := owns_at hown3
  have HX3 : Hid (Box w3 w.heap.size p o r c) := HX2.out.carry bel3
  clear hown3 bel3 k0 k1 k2 k3 b2 HX2
  obtain ⟨k0, k1, k2, k3⟩ := HX3.out
  go_wp2_with fail
  refine (put_to _ 9 9 r 1 10 _ _ HB3.out rfl (by omega) (by omega) (by omega) (by omega)).mono ?_; rintro e w4 ⟨rfl, hown4, bel4⟩
  have b4 : Below w.heap.size w w4 := b3.trans (bel4.mono b3.size)
  have HB4 : Hid (Bts w4 (some ⟨w3.heap.size, 0, none⟩) 10 10 ([] ++ putF p 6 ++ putF o 3 ++ putF r 1)) := owns_at hown4
  have HX4 : Hid (Box w4 w.heap.size p o r c) := HX3.out.carry bel4
  clear hown4 bel4 k0 k1 k2 k3 b3 HX3
  obtain ⟨k0, k1, k2, k3⟩ := HX4.out
  go_wp2_with fail
  refine (put_to _ 10 10 c 6 16 _ _ HB4.out rfl (by omega) (by omega) (by omega) (by omega)).mono ?_; rintro e w5 ⟨rfl, hown5, bel5⟩
  have b5 : Below w.heap.size w w5 := b4.trans (bel5.mono b4.size)
  have HO : Hid (w5.ownsRow w4.heap.size 5 1 (.slice (some ⟨w4.heap.size, 0, none⟩) 16 16) 16 (cellsB (capF p o r c))) := hown5
  clear hown5 bel5 k0 k1 k2 k3 HX4
  go_wp2
  go_ret
  exact ⟨_, rfl, b4.size, owns_le HO.out b4.size, b5⟩
set_option maxHeartbeats 800000 in
theorem encode_no (p o r c : Nat) (w : World) (hp : p ≤ 18446744073709551615) (ho : o ≤ 4294967295) (hr : r ≤ 255) (hc : c ≤ 18446744073709551615) (hno : ¬ (p ≤ 281474976710655 ∧ o ≤ 16777215 ∧ c ≤ 281474976710655)) :
    Calls Tryz.prog 23 #[.agg #[.int .u64 p, .int .u32 o, .int .u8 r, .int .u64 c]] w fun e w' => e = .returned (.slice none 0 0) ∧ Below w.heap.size w w' := by
  have HD : Hid (decide (p ≤ 281474976710655 ∧ o ≤ 16777215 ∧ c ≤ 281474976710655) = false) := decide_eq_false hno
  clear hno
  go_enter Tryz.func23, Tryz.ntmps23
  go_wp2_with fail
  refine (may_any p o r c _ (by omega) (by omega) hr (by omega)).mono ?_; rintro e w1 ⟨rfl, hw1⟩
  have bel1 : Below w.heap.size w w1 := by rw [hw1]; go_grown
  rw [HD.out]
  clear hw1
  go_wp2
  go_ret
  exact ⟨rfl, bel1⟩
end
end Go.Proofs.YtlmnnjibggdboaaGreatDoor
namespace Go.Proofs.YtlmnnjibggdboaaGreatDoor
section
open Go.RowKit
theorem Box.grown {w w' : World} {g p o r c : Nat} {row : Option Nat} (h : Box w g p o r c) (hg : w.grownBy w' row) (hne : some g ≠ row) : Box w' g p o r c := by
  obtain ⟨h0, h1, h2, h3⟩ := h
  exact ⟨by rw [hg.cell_far _ (lt_of_cell h0) hne, h0], by rw [hg.cell_far _ (lt_of_cell h1) hne, h1], by rw [hg.cell_far _ (lt_of_cell h2) hne, h2], by rw [hg.cell_far _ (lt_of_cell h3) hne, h3]⟩
/- what is owned stays owned where nothing that was there is turned -/
theorem owns_carry {w w' : World} {base : Nat} {e : TypeId} {size : Nat} {v : Value} {n : Nat} {xs : List Value} (h : w.ownsRow base e size v n xs) (b : Below w.heap.size w w') : w'.ownsRow base e size v n xs := by
  refine ⟨h.1, ?_⟩
  rcases h.2 with ⟨hv, hn⟩ | ⟨g, cap, cur, hv, hb, hg, h1, h2, h3, h4⟩
  · exact .inl ⟨hv, hn⟩
  · have hlt : g < w.heap.size := by
      by_cases hlt : g < w.heap.size
      · exact hlt
      · rw [Array.getElem?_eq_none (by omega)] at hg; cases hg
    exact .inr ⟨g, cap, cur, hv, hb, (b.block g hlt).trans hg, h1, h2, h3, h4⟩
theorem owns_lt {w : World} {base : Nat} {e : TypeId} {size : Nat} {v : Value} {n : Nat} {xs : List Value} (h : w.ownsRow base e size v n xs) : ∀ g, v.ownBlock = some g → base ≤ g ∧ g < w.heap.size := by
  intro g0 e
  rcases h.2 with ⟨rfl, hn⟩ | ⟨g, cap, cur, rfl, hb, hg, h1, h2, h3, h4⟩
  · cases e
  · have hlt : g < w.heap.size := by
      by_cases hlt : g < w.heap.size
      · exact hlt
      · rw [Array.getElem?_eq_none (by omega)] at hg; cases hg
    obtain rfl : g = g0 := Option.some.inj e
    exact ⟨hb, hlt⟩
theorem owns_news {w : World} {base g n cap : Nat} {l : List UInt8} (h : w.ownsRow base 5 1 (.slice (some ⟨g, 0, none⟩) n cap) n (cellsB l)) : ∀ j u, (cellsB l)[j]? = some u → w.cell? ((⟨g, 0, none⟩ : Addr).add j) = some u := (owns_at h).news _ rfl
end
end Go.Proofs.YtlmnnjibggdboaaGreatDoor
namespace Go.Proofs.YtlmnnjibggdboaaGreatDoor
section
open Go.RowKit
theorem num6 (l : List UInt8) (k : Nat) : numF ((l.drop k).take 6) ≤ 281474976710655 := by
  have := numF_lt ((l.drop k).take 6)
  have h2 : 256 ^ ((l.drop k).take 6).length ≤ 256 ^ 6 := Nat.pow_le_pow_right (by omega) (by rw [List.length_take]; omega)
  have h3 : (256 : Nat) ^ 6 = 281474976710656 := by decide
  omega
theorem num3 (l : List UInt8) (k : Nat) : numF ((l.drop k).take 3) ≤ 16777215 := by
  have := numF_lt ((l.drop k).take 3)
  have h2 : 256 ^ ((l.drop k).take 3).length ≤ 256 ^ 3 := Nat.pow_le_pow_right (by omega) (by rw [List.length_take]; omega)
  have h3 : (256 : Nat) ^ 3 = 16777216 := by decide
  omega
theorem num1 (l : List UInt8) (k : Nat) : numF ((l.drop k).take 1) ≤ 255 := by
  have := numF_lt ((l.drop k).take 1)
  have h2 : 256 ^ ((l.drop k).take 1).length ≤ 256 ^ 1 := Nat.pow_le_pow_right (by omega) (by rw [List.length_take]; omega)
  have h3 : (256 : Nat) ^ 1 = 256 := by decide
  omega
def Free (w : World) (g : Nat) : Prop := w.frozen? ⟨g, 0, none⟩ = false ∧ w.frozen? ⟨g, 1, none⟩ = false ∧ w.frozen? ⟨g, 2, none⟩ = false ∧ w.frozen? ⟨g, 3, none⟩ = false
theorem free_new (w : World) (cs : Array Value) : Free (w.alloc (.cells cs 40)) w.heap.size := by
  refine ⟨?_, ?_, ?_, ?_⟩ <;> simp
theorem Free.carry {w w' : World} {g p o r c : Nat} (h : Free w g) (hx : Box w g p o r c) (b : Below w.heap.size w w') : Free w' g := by
  obtain ⟨h0, h1, h2, h3⟩ := h
  have hlt := lt_of_cell hx.1
  exact ⟨by rw [b.frozen (p := ⟨g, 0, none⟩) hlt, h0], by rw [b.frozen (p := ⟨g, 1, none⟩) hlt, h1], by rw [b.frozen (p := ⟨g, 2, none⟩) hlt, h2], by rw [b.frozen (p := ⟨g, 3, none⟩) hlt, h3]⟩
set_option maxHeartbeats 800000 in
theorem decode_yes (ao : Option Addr) (cap : Nat) (l : List UInt8) (w : World) (hb : Bts w ao 16 cap l) (p o r c : Nat) (hp : numF ((l.drop 0).take 6) = p) (ho : numF ((l.drop 6).take 3) = o) (hr : numF ((l.drop 9).take 1) = r) (hc : numF ((l.drop 10).take 6) = c) :
    Calls Tryz.prog 63 #[.slice ao 16 cap] w fun e w' => e = .returned (.tuple #[.agg #[.int .u64 p, .int .u32 o, .int .u8 r, .int .u64 c], .bool true]) ∧ Below w.heap.size w w' := by
  have HB : Hid (Bts w ao 16 cap l) := hb
  have p1 := num6 l 0
  have o1 := num3 l 6
  have r1 := num1 l 9
  have c1 := num6 l 10
  rw [hp] at p1
  rw [ho] at o1
  rw [hr] at r1
  rw [hc] at c1
  have HP : Hid _ := hp
  have HO : Hid _ := ho
  have HR : Hid _ := hr
  have HC : Hid _ := hc
  have HT : Hid (Below w.heap.size w (w.alloc (.cells #[.int .u64 0, .int .u32 0, .int .u8 0, .int .u64 0] 40))) := below_alloc _ _
  have HX : Hid (Box (w.alloc (.cells #[.int .u64 0, .int .u32 0, .int .u8 0, .int .u64 0] 40)) w.heap.size 0 0 0 0) := box_new w 0 0 0 0
  have HZ : Hid (Free (w.alloc (.cells #[.int .u64 0, .int .u32 0, .int .u8 0, .int .u64 0] 40)) w.heap.size) := free_new w _
  clear hp ho hr hc hb
  go_enter Tryz.func63, Tryz.ntmps63
  go_wp2_with fail
  refine (get_yes ao 16 cap 0 6 l _ (HB.out.carry HT.out) (by omega) (by omega) (by omega)).mono ?_; rintro e w1 ⟨rfl, bel1⟩
  rw [HP.out]
  have b1 : Below w.heap.size w w1 := HT.out.trans (bel1.mono HT.out.size)
  have HB1 : Hid (Bts w1 ao 16 cap l) := (HB.out.carry HT.out).carry bel1
  have HX1 : Hid (Box w1 w.heap.size 0 0 0 0) := HX.out.carry bel1
  have HZ1 : Hid (Free w1 w.heap.size) := HZ.out.carry HX.out bel1
  clear bel1 HX HZ HT
  go_wp2_with fail
  refine (get_yes ao 16 cap 6 3 l _ HB1.out (by omega) (by omega) (by omega)).mono ?_; rintro e w2 ⟨rfl, bel2⟩
  rw [HO.out]
  have b2 : Below w.heap.size w w2 := b1.trans (bel2.mono b1.size)
  have HB2 : Hid (Bts w2 ao 16 cap l) := HB1.out.carry bel2
  have HX2 : Hid (Box w2 w.heap.size 0 0 0 0) := HX1.out.carry bel2
  have HZ2 : Hid (Free w2 w.heap.size) := HZ1.out.carry HX1.out bel2
  clear bel2 HX1 HZ1 HB1 b1
  go_wp2_with fail
  refine (get_yes ao 16 cap 9 1 l _ HB2.out (by omega) (by omega) (by omega)).mono ?_; rintro e w3 ⟨rfl, bel3⟩
  rw [HR.out]
  have b3 : Below w.heap.size w w3 := b2.trans (bel3.mono b2.size)
  have HB3 : Hid (Bts w3 ao 16 cap l) := HB2.out.carry bel3
  have HX3 : Hid (Box w3 w.heap.size 0 0 0 0) := HX2.out.carry bel3
  have HZ3 : Hid (Free w3 w.heap.size) := HZ2.out.carry HX2.out bel3
  clear bel3 HX2 HZ2 HB2 b2
  go_wp2_with fail
  refine (get_yes ao 16 cap 10 6 l _ HB3.out (by omega) (by omega) (by omega)).mono ?_; rintro e w4 ⟨rfl, bel4⟩
  rw [HC.out]
  have b4 : Below w.heap.size w w4 := b3.trans (bel4.mono b3.size)
  have HX4 : Hid (Box w4 w.heap.size 0 0 0 0) := HX3.out.carry bel4
  have HZ4 : Hid (Free w4 w.heap.size) := HZ3.out.carry HX3.out bel4
  clear bel4 HX3 HZ3 HB3 b3
  obtain ⟨k0, k1, k2, k3⟩ := HX4.out
  obtain ⟨z0, z1, z2, z3⟩ := HZ4.out
  go_wp2
  refine bodyPost_ret (by simp [results, Tryz.results63, go_sem, k0, k1, k2, k3]; rfl) rfl ?_
  exact ⟨rfl, (((b4.setCell (Nat.le_refl _) _).setCell (Nat.le_refl _) _).setCell (Nat.le_refl _) _).setCell (Nat.le_refl _) _⟩
set_option maxHeartbeats 800000 in
theorem decode_no (ao : Option Addr) (n cap : Nat) (w : World) (_hn : n ≤ 9223372036854775807) (hne : n ≠ 16) :
    Calls Tryz.prog 63 #[.slice ao n cap] w fun e w' => e = .returned (.tuple #[.agg #[.int .u64 0, .int .u32 0, .int .u8 0, .int .u64 0], .bool false]) ∧ Below w.heap.size w w' := by
  have hne' : ¬ (n : Int) = 16 := by omega
  go_enter Tryz.func63, Tryz.ntmps63
  go_wp2
  go_returns
  exact ⟨rfl, below_alloc _ _⟩
end
end Go.Proofs.YtlmnnjibggdboaaGreatDoor
namespace Go.Proofs.YtlmnnjibggdboaaGreatDoor
section
open Go.RowKit
/- memory that was not there -/
theorem owns_new8 {w w' : World} {base n cap : Nat} {co : Option Addr} {xs : List Value} (h : w'.ownsRow base 5 1 (.slice co n cap) n xs) (hb : w.heap.size ≤ base) : New w co := by
  intro ad e
  rcases h.2 with ⟨hv, _⟩ | ⟨g, cap', cur, hv, hg, _⟩
  · cases hv; cases e
  · cases hv; cases e; exact Nat.le_trans hb hg
set_option maxHeartbeats 800000 in
theorem put_no (ao : Option Addr) (n cap : Nat) (v : Int) (m : Int) (l : List UInt8) (w : World) (hb : Bts w ao n cap l) (hr : n ≤ 140737488355328) (hm : ¬ (1 ≤ m ∧ m ≤ 8)) :
    Calls Tryz.prog 43 #[.slice ao n cap, .int .u64 v, .int .i64 m] w fun e w' => ∃ co cc, e = .returned (.slice co n cc) ∧ Bts w' co n cc l ∧ New w co ∧ Below w.heap.size w w' := by
  have HB : Hid (Bts w ao n cap l) := hb
  clear hb
  have HD : Hid (decide (1 ≤ (m : Int) ∧ (m : Int) ≤ 8) = false) := decide_eq_false hm
  go_enter Tryz.func43, Tryz.ntmps43
  go_wp2_with fail
  refine (width_any _ _).mono ?_; rintro e w1 ⟨rfl, rfl⟩
  rw [HD.out]
  go_wp2_with fail
  refine (clone_any _ _ _ l _ HB.out hr).mono ?_; rintro e w2 ⟨co, cc, rfl, hb2, hnew, bel⟩
  have HW : Hid (New w1 co) := hnew
  clear hnew
  have HB2 : Hid (Bts w2 co n cc l) := hb2
  clear hb2
  go_wp2
  go_ret
  exact ⟨co, cc, rfl, HB2.out, HW.out, bel⟩
theorem Bts.add {w : World} {ad : Addr} {n cap : Nat} {l : List UInt8} (h : Bts w (some ad) n cap l) (p q : Nat) (hq : q ≤ n - p) : Bts w (some (ad.add p)) q (cap - p) ((l.drop p).take q) := by
  obtain ⟨h1, h2, h3, h4, h5⟩ := h
  have hlen : ((l.drop p).take q).length = q := by rw [List.length_take, List.length_drop]; omega
  refine ⟨hlen.symm, by omega, by omega, (fun e => by cases e), fun a e j hj => ?_⟩
  obtain rfl := Option.some.inj e
  rw [hlen] at hj
  rw [Addr.add_add, h5 ad rfl (p + j) (by omega)]
  have hg : ((l.drop p).take q).getD j 0 = l.getD (p + j) 0 := by
    simp only [List.getD_eq_getElem?_getD]; rw [List.getElem?_take, if_pos hj, List.getElem?_drop]
  unfold bt; rw [hg]
theorem bts_zero (w : World) (ad : Addr) : Bts w (some ad) 0 0 [] := ⟨rfl, Nat.le_refl _, by decide, fun _ => rfl, fun _ _ j hj => by simp at hj⟩
theorem add_two (ad : Addr) (p : Nat) : ad.add (p + 2) = { block := ad.block, off := ad.off + (p + 1 + 1) } := by unfold Addr.add; rw [if_neg (by omega)]
theorem skipA_two (n : Nat) (p m : Nat) (hp : p + 2 ≤ n) : skipA n p [2, (m : Int)] = if p + 2 + m ≤ n then some (p + 2 + m) else none := by
  unfold skipA
  rw [if_pos (by omega)]
  simp only [skipF]
  rw [if_pos (by omega)]
  by_cases h : p + 2 + m ≤ n
  · rw [if_pos (by omega), if_pos h]; congr 1
  · rw [if_neg (by omega), if_neg h]
theorem num2 (l : List UInt8) (p : Nat) : numF ((l.drop p).take 2) ≤ 65535 := by
  have := numF_lt ((l.drop p).take 2)
  have h2 : 256 ^ ((l.drop p).take 2).length ≤ 256 ^ 2 := Nat.pow_le_pow_right (by omega) (by rw [List.length_take]; omega)
  have h3 : (256 : Nat) ^ 2 = 65536 := by decide
  omega
set_option maxHeartbeats 800000 in
theorem getBytes_no (ao : Option Addr) (n cap : Nat) (p : Int) (l : List UInt8) (w : World) (hb : Bts w ao n cap l) (hno : ¬ (0 ≤ p ∧ p + 2 ≤ (n : Int) ∧ p + 2 + numF ((l.drop p.toNat).take 2) ≤ (n : Int))) :
    Calls Tryz.prog 61 #[.slice ao n cap, .int .i64 p] w fun e w' => e = .returned (.tuple #[.slice none 0 0, .int .i64 0, .bool false]) ∧ Below w.heap.size w w' := by
  have HB : Hid (Bts w ao n cap l) := hb
  clear hb
  have hn : n ≤ 9223372036854775807 := Nat.le_trans HB.out.2.1 HB.out.2.2.1
  by_cases h : 0 ≤ p ∧ p + 2 ≤ (n : Int)
  · obtain ⟨q, rfl⟩ := Int.eq_ofNat_of_zero_le h.1
    rw [Int.toNat_natCast] at hno
    have h2 := num2 l q
    generalize hx : numF ((l.drop q).take 2) = x at hno h2
    have HX : Hid _ := hx
    have HS : Hid (skipA n q [2, (x : Int)] = none) := by show skipA n q [2, (x : Int)] = none; rw [skipA_two n q x (by omega), if_neg (by omega)]
    clear hx
    go_enter Tryz.func61, Tryz.ntmps61
    go_wp2_with fail
    refine (get_yes ao n cap q 2 l _ HB.out (by omega) (by omega) (by omega)).mono ?_; rintro e w1 ⟨rfl, bel1⟩
    rw [HX.out]
    go_wp2_with fail
    refine (skip_any _ _ _ _ _ _ _ [2, (x : Int)] _ hn (ints_two _ _ _ _)).mono ?_; rintro e w2 ⟨rfl, rfl⟩
    rw [HS.out]
    simp only [skipV]
    go_wp2
    go_ret3
    exact ⟨rfl, bel1.alloc bel1.size _⟩
  · clear hno
    go_enter Tryz.func61, Tryz.ntmps61
    go_wp2_with fail
    refine (get_no ao n cap p 2 _ hn (by omega)).mono ?_; rintro e w1 ⟨rfl, bel1⟩
    go_wp2
    go_ret3
    exact ⟨rfl, bel1⟩
set_option maxHeartbeats 800000 in
theorem getBytes_yes (ao : Option Addr) (n cap p : Nat) (l : List UInt8) (w : World) (hb : Bts w ao n cap l) (hp : p + 2 ≤ n) (x : Nat) (hx : numF ((l.drop p).take 2) = x) (hx2 : p + 2 + x ≤ n) :
    Calls Tryz.prog 61 #[.slice ao n cap, .int .i64 p] w fun e w' => ∃ co cc, e = .returned (.tuple #[.slice co x cc, .int .i64 (p + 2 + x : Nat), .bool true]) ∧ Bts w' co x cc ((l.drop (p + 2)).take x) ∧ New w co ∧ Below w.heap.size w w' := by
  have HB : Hid (Bts w ao n cap l) := hb
  clear hb
  have h2 := num2 l p
  rw [hx] at h2
  have HX : Hid _ := hx
  clear hx
  have HS : Hid (skipA n p [2, (x : Int)] = some (p + 2 + x)) := by show skipA n p [2, (x : Int)] = _; rw [skipA_two n p x (by omega), if_pos (by omega)]
  have hcm : cap ≤ 9223372036854775807 := HB.out.2.2.1
  have hnc : n ≤ cap := HB.out.2.1
  cases ao with
  | none => have := HB.out.none rfl; omega
  | some ad =>
    by_cases hcp : cap = p + 2
    · obtain rfl : x = 0 := by omega
      obtain rfl : n = p + 2 := by omega
      subst hcp
      go_enter Tryz.func61, Tryz.ntmps61
      go_wp2_with fail
      refine (get_yes (some ad) (p + 2) (p + 2) p 2 l _ HB.out (by omega) (by omega) (by omega)).mono ?_; rintro e w1 ⟨rfl, bel1⟩
      rw [HX.out]
      go_wp2_with fail
      refine (skip_any _ _ _ _ _ _ _ [2, ((0 : Nat) : Int)] _ (by unfold maxLen; omega) (ints_two _ _ _ _)).mono ?_; rintro e w2 ⟨rfl, rfl⟩
      rw [HS.out]
      simp only [skipV]
      go_wp2_with fail
      refine (clone_any (some ad) 0 0 [] _ (bts_zero _ _) (by omega)).mono ?_; rintro e w3 ⟨co, cc, rfl, hb3, hnew, bel3⟩
      have HB3 : Hid (Bts w3 co 0 cc []) := hb3
      have HW : Hid (New w co) := hnew.le (bel1.alloc bel1.size _).size
      clear hb3 hnew
      go_wp2
      go_ret3
      exact ⟨co, cc, rfl, HB3.out, HW.out, (bel1.alloc bel1.size _).trans (bel3.mono (bel1.alloc bel1.size _).size)⟩
    go_enter Tryz.func61, Tryz.ntmps61
    go_wp2_with fail
    refine (get_yes (some ad) n cap p 2 l _ HB.out (by omega) (by omega) (by omega)).mono ?_; rintro e w1 ⟨rfl, bel1⟩
    rw [HX.out]
    go_wp2_with fail
    refine (skip_any _ _ _ _ _ _ _ [2, (x : Int)] _ (by unfold maxLen; omega) (ints_two _ _ _ _)).mono ?_; rintro e w2 ⟨rfl, rfl⟩
    rw [HS.out]
    simp only [skipV]
    go_wp2_with fail
    rw [← add_two]
    refine (clone_any (some (ad.add (p + 2))) x (cap - (p + 2)) ((l.drop (p + 2)).take x) _ ((HB.out.carry (bel1.alloc bel1.size _)).add (p + 2) x (by omega)) (by omega)).mono ?_; rintro e w3 ⟨co, cc, rfl, hb3, hnew, bel3⟩
    have HB3 : Hid (Bts w3 co x cc ((l.drop (p + 2)).take x)) := hb3
    have HW : Hid (New w co) := hnew.le (bel1.alloc bel1.size _).size
    clear hb3 hnew
    go_wp2
    go_ret3
    exact ⟨co, cc, rfl, HB3.out, HW.out, (bel1.alloc bel1.size _).trans (bel3.mono (bel1.alloc bel1.size _).size)⟩
set_option maxHeartbeats 800000 in
theorem putBytes_no (ao : Option Addr) (n cap : Nat) (so : Option Addr) (sn scap : Nat) (w : World) (hs : 65535 < sn) (_hm : sn ≤ maxLen) :
    Calls Tryz.prog 24 #[.slice ao n cap, .slice so sn scap] w fun e w' => e = .returned (.tuple #[.slice none 0 0, .bool false]) ∧ w' = w := by
  unfold maxLen at _hm
  go_enter Tryz.func24, Tryz.ntmps24
  go_wp2
  go_ret2
  exact ⟨rfl, rfl⟩
set_option maxRecDepth 20000 in
set_option maxHeartbeats 800000 in
theorem putBytes_yes (ao : Option Addr) (n cap : Nat) (l : List UInt8) (so : Option Addr) (sn scap : Nat) (s : List UInt8) (w : World) (hb : Bts w ao n cap l) (hs : Bts w so sn scap s) (h64 : sn ≤ 65535) (hr : n + 2 + sn ≤ 140737488355328) :
    Calls Tryz.prog 24 #[.slice ao n cap, .slice so sn scap] w fun e w' => ∃ co cc, e = .returned (.tuple #[.slice co (n + 2 + sn) cc, .bool true]) ∧ Bts w' co (n + 2 + sn) cc (l ++ putF sn 2 ++ s) ∧ New w co ∧ Below w.heap.size w w' := by
  have HB : Hid (Bts w ao n cap l) := hb
  have HS : Hid (Bts w so sn scap s) := hs
  clear hb hs
  obtain ⟨i0, hi, hz0, hz1, hz2⟩ := info_parts Tryz.info5
  have hcm : scap ≤ 9223372036854775807 := HS.out.2.2.1
  cases so with
  | none =>
    obtain ⟨rfl, rfl⟩ := HS.out.none rfl
    obtain rfl : s = [] := List.eq_nil_of_length_eq_zero HS.out.1.symm
    go_enter Tryz.func24, Tryz.ntmps24
    go_wp2_with fail
    refine (put_yes ao n cap 0 2 l _ HB.out (by omega) (by omega) (by omega) (by omega)).mono ?_; rintro e w1 ⟨rfl, hown, bel1⟩
    have HO : Hid _ := hown
    clear hown
    go_wp2
    go_ret2
    obtain ⟨co, cc, hv, hb2⟩ := owns_bts HO.out
    obtain ⟨rfl, _, rfl⟩ := Value.slice.inj hv
    refine ⟨_, _, rfl, ?_, owns_new8 HO.out (Nat.le_refl _), bel1⟩
    rw [List.append_nil]; exact hb2
  | some sd =>
    go_enter Tryz.func24, Tryz.ntmps24
    go_wp2_with fail
    refine (put_yes ao n cap sn 2 l _ HB.out (by omega) (by omega) (by omega) (by omega)).mono ?_; rintro e w1 ⟨rfl, hown, bel1⟩
    have HO : Hid _ := hown
    clear hown
    go_wp2_with (at_builtin; refine wpList_append_own _ rfl _ _ 23 rfl w.heap.size 5 i0 (.int .u8 0) 1 1 Tryz.underlying23 hi hz0 hz1 hz2 rfl (by decide) _ (n + 2) _ rfl HO.out sd sn scap (cellsB s) rfl (by rw [cellsB_len]; have := HS.out.1; omega) ?c1 (cellsB_one s) (by unfold maxLen; omega) (by omega) bel1.size ?_)
    case c1 => exact (HS.out.carry bel1).news sd rfl
    intro v' w2 hown2 hgrow2 _
    rw [← cellsB_append] at hown2
    obtain ⟨co, cc, rfl, hb2⟩ := owns_bts hown2
    have HW : Hid (New w co) := owns_new8 hown2 (Nat.le_refl _)
    have bel2 : Below w.heap.size w w2 := bel1.grown hgrow2 bel1.size (fun k e => by cases e; exact Nat.le_refl _)
    have HB2 : Hid (Bts w2 co (n + 2 + sn) cc (l ++ putF sn 2 ++ s)) := hb2
    clear hown2 hgrow2 hb2
    go_wp2
    go_ret2
    exact ⟨co, cc, rfl, HB2.out, HW.out, bel2⟩
end
end Go.Proofs.YtlmnnjibggdboaaGreatDoor
