/-
  The statements' own tape (spread), as a contract.
-/
import Derived.Test.YtgcmompldcnhlaaDoorIAwake
namespace Go.Proofs.YtgcmompldcnhlaaDoor
open Go.RowKit
def sprE (j : Nat) : Nat := 65536 * (j + 1) + 23040
def sprL (n : Nat) : List Nat := (List.range n).map sprE
theorem sprL_len (n : Nat) : (sprL n).length = n := by simp [sprL]
theorem sprL_succ (n : Nat) : sprL (n + 1) = sprL n ++ [sprE n] := by simp [sprL, List.range_succ]
theorem sprL_get {n j : Nat} (h : j < n) : (sprL n).getD j 0 = sprE j := by
  unfold sprL
  rw [List.getD_eq_getElem?_getD, List.getElem?_map, List.getElem?_range h]; rfl
theorem sprL_word (n j : Nat) (h : n ≤ 1000) : (sprL n).getD j 0 ≤ 281474976710655 := by
  by_cases e : j < n
  · rw [sprL_get e]; unfold sprE; omega
  · rw [List.getD_eq_getElem?_getD, List.getElem?_eq_none (by rw [sprL_len]; omega)]; simp
theorem sprL_cut (n : Nat) (h : n ≤ 1000) : cutN (sprL n) = sprL n := by
  unfold cutN sprL
  rw [List.map_map]
  refine List.map_congr_left fun j hj => ?_
  have := List.mem_range.1 hj
  show sprE j % _ = sprE j
  unfold sprE; omega
def cellsN (l : List Nat) : List Value := l.map fun x : Nat => Value.int .u64 (x : Int)
theorem owns_u64s {w : World} {B n : Nat} {v : Value} {l : List Nat} (h : w.ownsRow B 22 1 v n (cellsN l)) (hb : ∀ j, l.getD j 0 ≤ 18446744073709551615) : ∃ ao cap, v = .slice ao n cap ∧ U64s w ao n cap l := by
  obtain ⟨ao, cap, rfl, h1, h2, h3, h4, h5⟩ := owns_lies h
  refine ⟨ao, cap, rfl, by simpa [cellsN] using h1.symm, h2, h3, h4, fun ad e j hj => h5 ad e j _ ?_, hb⟩
  unfold cellsN
  rw [List.getElem?_map, List.getD_eq_getElem?_getD, List.getElem?_eq_getElem hj]; rfl
theorem spr_or (j : Nat) (h : j < 1000) : bits .or .u64 (((j + 1 : Nat) : Int) * 65536) 23040 = ((sprE j : Nat) : Int) := by
  have e1 : ((j + 1 : Nat) : Int) * 65536 = (((j + 1) * 65536 : Nat) : Int) := by omega
  rw [e1, u64_or _ _ (by omega) (by omega) (by omega) (by omega)]
  show ((((j + 1) * 65536) ||| 23040 : Nat) : Int) = _
  rw [show (j + 1) * 65536 = 2 ^ 16 * (j + 1) by omega, ← Nat.two_pow_add_eq_or_of_lt (by omega : 23040 < 2 ^ 16)]
  unfold sprE
  omega
theorem below_foot_own {B n : Nat} {w0 w w' : World} {e : TypeId} {v : Value} {xs : List Value} {sz : Nat} (b : Below B w0 w) (h : w.ownsRow B e sz v n xs) (f : Foot (fun k => v.ownBlock = some k) w w') (hB : B ≤ w.heap.size) : Below B w0 w' :=
  b.trans (f.below hB fun _ e => (owns_block h e).choose_spec.2)
def SprRel (w : World) (n gk : Nat) (vo vk : Value) (wr : World) : Prop := ∃ i q : Nat, i + gk = n ∧ i + 1 = q ∧ vk = .int .i64 (q : Int) ∧ wr.ownsRow w.heap.size 22 1 vo i (cellsN (sprL i)) ∧ Below w.heap.size w wr
set_option maxHeartbeats 1600000 in
theorem spread_any (n : Nat) (w : World) (hn : n ≤ 1000) :
    Calls Tryd.prog 15 #[.int .i64 (n : Int)] w fun e w' => ∃ ao cap, e = .returned (.slice ao n cap) ∧ U64s w' ao n cap (sprL n) ∧ Below w.heap.size w w' := by
  have hn2 : (n : Int) ≤ 1000 := by omega
  have HN := hide hn
  clear hn
  go_enter Tryd.func15, Tryd.ntmps15
  go_wp2
  go_loopg [3, 4] n (fun gk vo vk wr => SprRel w n gk vo vk wr)
  case atStart => exact ⟨0, 1, by omega, rfl, rfl, owns_nil _ _ _ _, Below.refl _ _⟩
  case round =>
    obtain ⟨i, q, hi, hq, rfl, ho, b⟩ := hrel
    have HQ := hide hq
    have HO := hide ho
    have HB := hide b
    clear ho b
    cases gk with
    | zero =>
      obtain rfl : i = n := by omega
      have hlt : ¬ ((q : Int) ≤ (i : Int)) := by omega
      clear hq hi
      obtain ⟨ao, cap, rfl, hu⟩ := owns_u64s HO.out (fun j => by have := sprL_word i j HN.out; omega)
      have HU := hide hu
      clear hu
      go_wp2
      go_ret
      exact ⟨ao, cap, rfl, HU.out, HB.out⟩
    | succ g1 =>
      have hlt : (q : Int) ≤ (n : Int) := by omega
      have hor := spr_or i (by have := HN.out; omega)
      rw [hq] at hor
      obtain ⟨x, hx⟩ : ∃ x, sprE i = x := ⟨_, rfl⟩
      rw [hx] at hor
      have HXE := hide hx
      have HI := hide hi
      obtain ⟨v', w', hr, ho', hf, -⟩ := app_elem (s := 23) (ty := 23) #[.int .u64 (x : Int)] Tryd.underlying23 Tryd.tinfo22 rfl (by omega) rfl (by intro u hu; simp at hu; subst hu; rfl) (by omega) (by unfold maxLen; omega) HO.out HB.out.size
      have HR := hide hr
      have HO2 := hide ho'
      have HB2 := hide (below_foot_own HB.out HO.out hf HB.out.size)
      clear hq hi hx hr ho' hf
      go_wp2_with (at_builtin; refine wpList_append_run rfl _ _ _ rfl _ _ _ _ rfl rfl HR.out ?_)
      go_roundg g1
      case measure => have := HI.out; omega
      case rel =>
        refine ⟨i + 1, q + 1, by have := HI.out; omega, by have := HQ.out; omega, by go_num, ?_, HB2.out⟩
        rw [sprL_succ, HXE.out, cellsN, List.map_append]
        exact HO2.out
end Go.Proofs.YtgcmompldcnhlaaDoor
