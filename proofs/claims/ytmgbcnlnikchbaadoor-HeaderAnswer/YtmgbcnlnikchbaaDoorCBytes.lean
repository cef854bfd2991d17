/-
  What Clone, Put, PutBytes and GetBytes answer, as contracts; what became of the world.
-/
import Derived.Test.YtmgbcnlnikchbaaDoorRows
import Derived.Test.YtmgbcnlnikchbaaDoorPut
import Derived.WalkKit
import Derived.WalkSpells
import Derived.WalkLawsBesides
import Derived.Deep.QuietTactic
import Derived.BigQuiet
import Derived.Lib.LazyBuf
import Derived.Deep.RegionHeld
namespace Go.Proofs.YtmgbcnlnikchbaaDoor
open Go.RowKit
theorem own_empty (w : World) : (w.alloc (.cells #[] 5)).ownsRow w.heap.size 5 1 (.slice (some ⟨w.heap.size, 0, none⟩) 0 0) 0 [] :=
  ⟨rfl, Or.inr ⟨w.heap.size, 0, #[], rfl, Nat.le_refl _, heap_alloc_new _ _, Nat.le_refl _, by decide, rfl, rfl⟩⟩
/- memory that was not there -/
def New (w : World) (co : Option Addr) : Prop := ∀ ad, co = some ad → w.heap.size ≤ ad.block
theorem new_none (w : World) : New w none := fun _ e => by cases e
theorem New.le {w w' : World} {co : Option Addr} (h : New w' co) (hs : w.heap.size ≤ w'.heap.size) : New w co := fun ad e => Nat.le_trans hs (h ad e)
theorem owns_new {w w' : World} {base n cap : Nat} {co : Option Addr} {xs : List Value} (h : w'.ownsRow base 5 1 (.slice co n cap) n xs) (hb : w.heap.size ≤ base) : New w co := by
  intro ad e
  rcases h.2 with ⟨hv, _⟩ | ⟨g, cap', cur, hv, hg, _⟩
  · cases hv; cases e
  · cases hv; cases e; exact Nat.le_trans hb hg
theorem Bts.set {w : World} {ao : Option Addr} {n cap : Nat} {l : List UInt8} (h : Bts w ao n cap l) (p : Addr) (v : Value) (hp : ∀ ad, ao = some ad → ad.block ≠ p.block) : Bts (w.setCell p v) ao n cap l := by
  refine ⟨h.1, h.2.1, h.2.2.1, h.2.2.2.1, fun ad e j hj => ?_⟩
  have hc := h.2.2.2.2 ad e j hj
  have hb : (ad.add j).block = ad.block := by unfold Addr.add; split <;> rfl
  rw [World.cell?_setCell_far _ _ _ _ (by rw [hb]; exact fun x => hp ad e x.symm), hc]
set_option maxHeartbeats 800000 in
theorem clone_any (ao : Option Addr) (n cap : Nat) (l : List UInt8) (w : World) (hb : Bts w ao n cap l) (hr : n ≤ 140737488355328) :
    Calls Tryd.prog 12 #[.slice ao n cap] w fun e w' => ∃ co cc, e = .returned (.slice co n cc) ∧ Bts w' co n cc l ∧ New w co ∧ Below w.heap.size w w' := by
  have HB : Hid (Bts w ao n cap l) := hb
  clear hb
  cases ao with
  | none =>
    obtain ⟨rfl, rfl⟩ := HB.out.none rfl
    have he := run_eql_slice_nil (P := Tryd.prog) w 27 5 none 0 0 Tryd.underlying27
    go_enter Tryd.func12, Tryd.ntmps12
    go_wp2
    go_ret
    exact ⟨none, 0, rfl, HB.out, new_none _, Below.refl _ _⟩
  | some ad =>
    obtain ⟨i0, hi, hz0, hz1, hz2⟩ := info_parts Tryd.info5
    have hcm : cap ≤ 9223372036854775807 := HB.out.2.2.1
    have he := run_eql_slice_nil (P := Tryd.prog) w 27 5 (some ad) n cap Tryd.underlying27
    go_enter Tryd.func12, Tryd.ntmps12
    go_wp2_with (at_builtin; refine wpList_append_own _ rfl _ _ 27 rfl w.heap.size 5 i0 (.int .u8 0) 1 1 Tryd.underlying27 hi hz0 hz1 hz2 rfl (by decide) _ 0 [] rfl (own_empty w) ad n cap (cellsB l) rfl (by rw [cellsB_len]; have := HB.out.1; omega) ?c1 (cellsB_one l) (by unfold maxLen; omega) (by omega) ?c5 ?_)
    case c1 => exact (HB.out.carry (below_alloc w _)).news ad rfl
    case c5 => exact (below_alloc w _).size
    intro v' w2 hown2 hgrow2 _
    obtain ⟨co, cc, rfl, hb2⟩ := owns_bts hown2
    have HW : Hid (New w co) := owns_new hown2 (Nat.le_refl _)
    have bel2 : Below w.heap.size w w2 := (below_alloc w (Obj.cells #[] 5)).grown hgrow2 (below_alloc w _).size (fun k e => by cases e; exact Nat.le_refl _)
    have HB2 : Hid (Bts w2 co n cc l) := hb2
    clear hown2 hgrow2 hb2
    go_wp2
    go_ret
    exact ⟨co, cc, rfl, HB2.out, HW.out, bel2⟩
set_option maxHeartbeats 800000 in
theorem put_no (ao : Option Addr) (n cap : Nat) (v : Int) (m : Int) (l : List UInt8) (w : World) (hb : Bts w ao n cap l) (hr : n ≤ 140737488355328) (hm : ¬ (1 ≤ m ∧ m ≤ 8)) :
    Calls Tryd.prog 15 #[.slice ao n cap, .int .u64 v, .int .i64 m] w fun e w' => ∃ co cc, e = .returned (.slice co n cc) ∧ Bts w' co n cc l ∧ New w co ∧ Below w.heap.size w w' := by
  have HB : Hid (Bts w ao n cap l) := hb
  clear hb
  have HD : Hid (decide (1 ≤ (m : Int) ∧ (m : Int) ≤ 8) = false) := decide_eq_false hm
  go_enter Tryd.func15, Tryd.ntmps15
  go_wp2_with fail
  refine (width_any _ _).mono ?_; rintro e w1 ⟨rfl, rfl⟩
  rw [HD.out]
  go_wp2_with fail
  refine (clone_any _ _ _ l _ HB.out hr).mono ?_; rintro e w2 ⟨co, cc, rfl, hb2, hnew, bel⟩
  have HW : Hid (New w1 co) := hnew
  clear hnew
  have HB2 : Hid (Bts w2 co n cc l) := hb2
  clear hb2
  go_wp2
  go_ret
  exact ⟨co, cc, rfl, HB2.out, HW.out, bel⟩
theorem Bts.add {w : World} {ad : Addr} {n cap : Nat} {l : List UInt8} (h : Bts w (some ad) n cap l) (p q : Nat) (hq : q ≤ n - p) : Bts w (some (ad.add p)) q (cap - p) ((l.drop p).take q) := by
  obtain ⟨h1, h2, h3, h4, h5⟩ := h
  have hlen : ((l.drop p).take q).length = q := by rw [List.length_take, List.length_drop]; omega
  refine ⟨hlen.symm, by omega, by omega, (fun e => by cases e), fun a e j hj => ?_⟩
  obtain rfl := Option.some.inj e
  rw [hlen] at hj
  rw [Addr.add_add, h5 ad rfl (p + j) (by omega)]
  have hg : ((l.drop p).take q).getD j 0 = l.getD (p + j) 0 := by
    simp only [List.getD_eq_getElem?_getD]; rw [List.getElem?_take, if_pos hj, List.getElem?_drop]
  unfold bt; rw [hg]
theorem bts_zero (w : World) (ad : Addr) : Bts w (some ad) 0 0 [] := ⟨rfl, Nat.le_refl _, by decide, fun _ => rfl, fun _ _ j hj => by simp at hj⟩
theorem add_two (ad : Addr) (p : Nat) : ad.add (p + 2) = { block := ad.block, off := ad.off + (p + 1 + 1) } := by unfold Addr.add; rw [if_neg (by omega)]
theorem skipA_two (n : Nat) (p m : Nat) (hp : p + 2 ≤ n) : skipA n p [2, (m : Int)] = if p + 2 + m ≤ n then some (p + 2 + m) else none := by
  unfold skipA
  rw [if_pos (by omega)]
  simp only [skipF]
  rw [if_pos (by omega)]
  by_cases h : p + 2 + m ≤ n
  · rw [if_pos (by omega), if_pos h]; congr 1
  · rw [if_neg (by omega), if_neg h]
theorem num2 (l : List UInt8) (p : Nat) : numF ((l.drop p).take 2) ≤ 65535 := by
  have := numF_lt ((l.drop p).take 2)
  have h2 : 256 ^ ((l.drop p).take 2).length ≤ 256 ^ 2 := Nat.pow_le_pow_right (by omega) (by rw [List.length_take]; omega)
  have h3 : (256 : Nat) ^ 2 = 65536 := by decide
  omega
set_option maxHeartbeats 800000 in
theorem getBytes_no (ao : Option Addr) (n cap : Nat) (p : Int) (l : List UInt8) (w : World) (hb : Bts w ao n cap l) (hno : ¬ (0 ≤ p ∧ p + 2 ≤ (n : Int) ∧ p + 2 + numF ((l.drop p.toNat).take 2) ≤ (n : Int))) :
    Calls Tryd.prog 18 #[.slice ao n cap, .int .i64 p] w fun e w' => e = .returned (.tuple #[.slice none 0 0, .int .i64 0, .bool false]) ∧ Below w.heap.size w w' := by
  have HB : Hid (Bts w ao n cap l) := hb
  clear hb
  have hn : n ≤ 9223372036854775807 := Nat.le_trans HB.out.2.1 HB.out.2.2.1
  by_cases h : 0 ≤ p ∧ p + 2 ≤ (n : Int)
  · obtain ⟨q, rfl⟩ := Int.eq_ofNat_of_zero_le h.1
    rw [Int.toNat_natCast] at hno
    have h2 := num2 l q
    generalize hx : numF ((l.drop q).take 2) = x at hno h2
    have HX : Hid _ := hx
    have HS : Hid (skipA n q [2, (x : Int)] = none) := by show skipA n q [2, (x : Int)] = none; rw [skipA_two n q x (by omega), if_neg (by omega)]
    clear hx
    go_enter Tryd.func18, Tryd.ntmps18
    go_wp2_with fail
    refine (get_yes ao n cap q 2 l _ HB.out (by omega) (by omega) (by omega)).mono ?_; rintro e w1 ⟨rfl, bel1⟩
    rw [HX.out]
    go_wp2_with fail
    refine (skip_any _ _ _ _ _ _ _ [2, (x : Int)] _ hn (ints_two _ _ _ _)).mono ?_; rintro e w2 ⟨rfl, rfl⟩
    rw [HS.out]
    simp only [skipV]
    go_wp2
    go_ret3
    exact ⟨rfl, bel1.alloc bel1.size _⟩
  · clear hno
    go_enter Tryd.func18, Tryd.ntmps18
    go_wp2_with fail
    refine (get_no ao n cap p 2 _ hn (by omega)).mono ?_; rintro e w1 ⟨rfl, bel1⟩
    go_wp2
    go_ret3
    exact ⟨rfl, bel1⟩
set_option maxHeartbeats 800000 in
theorem getBytes_yes (ao : Option Addr) (n cap p : Nat) (l : List UInt8) (w : World) (hb : Bts w ao n cap l) (hp : p + 2 ≤ n) (x : Nat) (hx : numF ((l.drop p).take 2) = x) (hx2 : p + 2 + x ≤ n) :
    Calls Tryd.prog 18 #[.slice ao n cap, .int .i64 p] w fun e w' => ∃ co cc, e = .returned (.tuple #[.slice co x cc, .int .i64 (p + 2 + x : Nat), .bool true]) ∧ Bts w' co x cc ((l.drop (p + 2)).take x) ∧ New w co ∧ Below w.heap.size w w' := by
  have HB : Hid (Bts w ao n cap l) := hb
  clear hb
  have h2 := num2 l p
  rw [hx] at h2
  have HX : Hid _ := hx
  clear hx
  have HS : Hid (skipA n p [2, (x : Int)] = some (p + 2 + x)) := by show skipA n p [2, (x : Int)] = _; rw [skipA_two n p x (by omega), if_pos (by omega)]
  have hcm : cap ≤ 9223372036854775807 := HB.out.2.2.1
  have hnc : n ≤ cap := HB.out.2.1
  cases ao with
  | none => have := HB.out.none rfl; omega
  | some ad =>
    by_cases hcp : cap = p + 2
    · obtain rfl : x = 0 := by omega
      obtain rfl : n = p + 2 := by omega
      subst hcp
      go_enter Tryd.func18, Tryd.ntmps18
      go_wp2_with fail
      refine (get_yes (some ad) (p + 2) (p + 2) p 2 l _ HB.out (by omega) (by omega) (by omega)).mono ?_; rintro e w1 ⟨rfl, bel1⟩
      rw [HX.out]
      go_wp2_with fail
      refine (skip_any _ _ _ _ _ _ _ [2, ((0 : Nat) : Int)] _ (by unfold maxLen; omega) (ints_two _ _ _ _)).mono ?_; rintro e w2 ⟨rfl, rfl⟩
      rw [HS.out]
      simp only [skipV]
      go_wp2_with fail
      refine (clone_any (some ad) 0 0 [] _ (bts_zero _ _) (by omega)).mono ?_; rintro e w3 ⟨co, cc, rfl, hb3, hnew, bel3⟩
      have HB3 : Hid (Bts w3 co 0 cc []) := hb3
      have HW : Hid (New w co) := hnew.le (bel1.alloc bel1.size _).size
      clear hb3 hnew
      go_wp2
      go_ret3
      exact ⟨co, cc, rfl, HB3.out, HW.out, (bel1.alloc bel1.size _).trans (bel3.mono (bel1.alloc bel1.size _).size)⟩
    go_enter Tryd.func18, Tryd.ntmps18
    go_wp2_with fail
    refine (get_yes (some ad) n cap p 2 l _ HB.out (by omega) (by omega) (by omega)).mono ?_; rintro e w1 ⟨rfl, bel1⟩
    rw [HX.out]
    go_wp2_with fail
    refine (skip_any _ _ _ _ _ _ _ [2, (x : Int)] _ (by unfold maxLen; omega) (ints_two _ _ _ _)).mono ?_; rintro e w2 ⟨rfl, rfl⟩
    rw [HS.out]
    simp only [skipV]
    go_wp2_with fail
    rw [← add_two]
    refine (clone_any (some (ad.add (p + 2))) x (cap - (p + 2)) ((l.drop (p + 2)).take x) _ ((HB.out.carry (bel1.alloc bel1.size _)).add (p + 2) x (by omega)) (by omega)).mono ?_; rintro e w3 ⟨co, cc, rfl, hb3, hnew, bel3⟩
    have HB3 : Hid (Bts w3 co x cc ((l.drop (p + 2)).take x)) := hb3
    have HW : Hid (New w co) := hnew.le (bel1.alloc bel1.size _).size
    clear hb3 hnew
    go_wp2
    go_ret3
    exact ⟨co, cc, rfl, HB3.out, HW.out, (bel1.alloc bel1.size _).trans (bel3.mono (bel1.alloc bel1.size _).size)⟩
set_option maxHeartbeats 800000 in
theorem putBytes_no (ao : Option Addr) (n cap : Nat) (so : Option Addr) (sn scap : Nat) (w : World) (hs : 65535 < sn) (_hm : sn ≤ maxLen) :
    Calls Tryd.prog 17 #[.slice ao n cap, .slice so sn scap] w fun e w' => e = .returned (.tuple #[.slice none 0 0, .bool false]) ∧ w' = w := by
  unfold maxLen at _hm
  go_enter Tryd.func17, Tryd.ntmps17
  go_wp2
  go_ret2
  exact ⟨rfl, rfl⟩
set_option maxRecDepth 20000 in
set_option maxHeartbeats 800000 in
theorem putBytes_yes (ao : Option Addr) (n cap : Nat) (l : List UInt8) (so : Option Addr) (sn scap : Nat) (s : List UInt8) (w : World) (hb : Bts w ao n cap l) (hs : Bts w so sn scap s) (h64 : sn ≤ 65535) (hr : n + 2 + sn ≤ 140737488355328) :
    Calls Tryd.prog 17 #[.slice ao n cap, .slice so sn scap] w fun e w' => ∃ co cc, e = .returned (.tuple #[.slice co (n + 2 + sn) cc, .bool true]) ∧ Bts w' co (n + 2 + sn) cc (l ++ putF sn 2 ++ s) ∧ New w co ∧ Below w.heap.size w w' := by
  have HB : Hid (Bts w ao n cap l) := hb
  have HS : Hid (Bts w so sn scap s) := hs
  clear hb hs
  obtain ⟨i0, hi, hz0, hz1, hz2⟩ := info_parts Tryd.info5
  have hcm : scap ≤ 9223372036854775807 := HS.out.2.2.1
  cases so with
  | none =>
    obtain ⟨rfl, rfl⟩ := HS.out.none rfl
    obtain rfl : s = [] := List.eq_nil_of_length_eq_zero HS.out.1.symm
    go_enter Tryd.func17, Tryd.ntmps17
    go_wp2_with fail
    refine (put_yes ao n cap 0 2 l _ HB.out (by omega) (by omega) (by omega) (by omega)).mono ?_; rintro e w1 ⟨rfl, hown, bel1⟩
    have HO : Hid _ := hown
    clear hown
    go_wp2
    go_ret2
    obtain ⟨co, cc, hv, hb2⟩ := owns_bts HO.out
    obtain ⟨rfl, _, rfl⟩ := Value.slice.inj hv
    refine ⟨_, _, rfl, ?_, owns_new HO.out (Nat.le_refl _), bel1⟩
    rw [List.append_nil]; exact hb2
  | some sd =>
    go_enter Tryd.func17, Tryd.ntmps17
    go_wp2_with fail
    refine (put_yes ao n cap sn 2 l _ HB.out (by omega) (by omega) (by omega) (by omega)).mono ?_; rintro e w1 ⟨rfl, hown, bel1⟩
    have HO : Hid _ := hown
    clear hown
    go_wp2_with (at_builtin; refine wpList_append_own _ rfl _ _ 27 rfl w.heap.size 5 i0 (.int .u8 0) 1 1 Tryd.underlying27 hi hz0 hz1 hz2 rfl (by decide) _ (n + 2) _ rfl HO.out sd sn scap (cellsB s) rfl (by rw [cellsB_len]; have := HS.out.1; omega) ?c1 (cellsB_one s) (by unfold maxLen; omega) (by omega) bel1.size ?_)
    case c1 => exact (HS.out.carry bel1).news sd rfl
    intro v' w2 hown2 hgrow2 _
    rw [← cellsB_append] at hown2
    obtain ⟨co, cc, rfl, hb2⟩ := owns_bts hown2
    have HW : Hid (New w co) := owns_new hown2 (Nat.le_refl _)
    have bel2 : Below w.heap.size w w2 := bel1.grown hgrow2 bel1.size (fun k e => by cases e; exact Nat.le_refl _)
    have HB2 : Hid (Bts w2 co (n + 2 + sn) cc (l ++ putF sn 2 ++ s)) := hb2
    clear hown2 hgrow2 hb2
    go_wp2
    go_ret2
    exact ⟨co, cc, rfl, HB2.out, HW.out, bel2⟩
end Go.Proofs.YtmgbcnlnikchbaaDoor
