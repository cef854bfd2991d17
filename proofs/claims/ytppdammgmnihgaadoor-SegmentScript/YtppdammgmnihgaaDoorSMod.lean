/-
  The statement's model of segments in memory: which are there, their bytes, how many pages there are; what left answers.
-/
import Derived.Test.YtppdammgmnihgaaDoorSCopy
namespace Go.Proofs.YtppdammgmnihgaaDoor
open Go.RowKit
/- the cells of a model -/
def thereV (L : Nat → Option (List UInt8)) : List Value := (List.range 64).map fun i => Value.bool (L i).isSome
def slotsV (sl : Nat → Value) : List Value := (List.range 64).map fun i => sl i
def boxM (n : Nat) (L : Nat → Option (List UInt8)) (sl : Nat → Value) : Array Value := (thereV L ++ slotsV sl ++ [Value.int .i64 (n : Int)]).toArray
theorem thereV_len (L : Nat → Option (List UInt8)) : (thereV L).length = 64 := by simp [thereV]
theorem slotsV_len (sl : Nat → Value) : (slotsV sl).length = 64 := by simp [slotsV]
structure ModAt (w : World) (B mo n : Nat) (L : Nat → Option (List UInt8)) (sl : Nat → Value) : Prop where
  box : w.heap[mo]? = some (.cells (boxM n L sl) 31 (0, 0))
  low : B ≤ mo
  nil : ∀ i, L i = none → sl i = .slice none 0 0
  row : ∀ i l, L i = some l → w.ownsRow B 5 1 (sl i) l.length (cellsB l)
  apart : ∀ i l j l' r, L i = some l → L j = some l' → (sl i).ownBlock = some r → (sl j).ownBlock = some r → i = j
variable {w w' : World} {B mo st n : Nat} {L : Nat → Option (List UInt8)} {sl : Nat → Value}
theorem ModAt.ct (x : ModAt w B mo n L sl) (i : Nat) (h : i < 64) : w.cell? ⟨mo, i, none⟩ = some (.bool (L i).isSome) := by
  rw [cell_of_row w mo i _ _ _ x.box]
  simp only [boxM, List.getElem?_toArray]
  rw [List.append_assoc, List.getElem?_append_left (by rw [thereV_len]; exact h)]
  simp [thereV, List.getElem?_range h]
theorem ModAt.cs (x : ModAt w B mo n L sl) (i : Nat) (h : i < 64) : w.cell? ⟨mo, 64 + i, none⟩ = some (sl i) := by
  rw [cell_of_row w mo (64 + i) _ _ _ x.box]
  simp only [boxM, List.getElem?_toArray]
  rw [List.append_assoc, List.getElem?_append_right (by rw [thereV_len]; omega), thereV_len, List.getElem?_append_left (by rw [slotsV_len]; omega)]
  simp [slotsV, List.getElem?_range h]
theorem ModAt.cp (x : ModAt w B mo n L sl) : w.cell? ⟨mo, 128, none⟩ = some (.int .i64 (n : Int)) := by
  rw [cell_of_row w mo 128 _ _ _ x.box]
  simp only [boxM, List.getElem?_toArray]
  rw [List.getElem?_append_right (by rw [List.length_append, thereV_len, slotsV_len]; omega), List.length_append, thereV_len, slotsV_len]; rfl
theorem ModAt.z (x : ModAt w B mo n L sl) (j : Nat) : w.frozen? ⟨mo, j, none⟩ = false := frozen_of_row w mo j _ _ x.box
/- a slot's value is a slice of so many bytes -/
theorem ModAt.form (x : ModAt w B mo n L sl) (i : Nat) (l : List UInt8) (h : L i = some l) : ∃ co cc, sl i = .slice co l.length cc ∧ cc ≤ 9223372036854775807 ∧ l.length ≤ cc := by
  obtain ⟨co, cc, e, b⟩ := owns_bts (x.row i l h); exact ⟨co, cc, e, b.2.2.1, b.2.1⟩
theorem ModAt.keep {P : Nat → Obj → Prop} (x : ModAt w B mo n L sl) (k : Keep P w w') (h1 : ∀ c, P mo (.cells c 31 (0, 0))) (h2 : ∀ i l r c, L i = some l → (sl i).ownBlock = some r → P r (.cells c 5 (0, 0))) : ModAt w' B mo n L sl :=
  ⟨k.block _ _ x.box (h1 _), x.low, x.nil, fun i l h => ownsRow_keep k (x.row i l h) fun g c _ e => h2 i l g c h e, x.apart⟩
theorem no_store31 (C : Array Value) (z : Nat × Nat) : ¬ StoreTy (.cells C 31 z) := by
  rintro (h | h | h | h | h | h) <;> exact absurd h (by decide)
theorem ModAt.store {B' : Nat} (x : ModAt w B mo n L sl) (k : Keep (StP B') w w') : ModAt w' B mo n L sl :=
  x.keep k (fun _ => .inr (no_store31 _ _)) (fun _ _ _ _ _ _ => .inr (no_store5 _ _))
theorem ModAt.grow (x : ModAt w B mo n L sl) (h : Below w.heap.size w w') : ModAt w' B mo n L sl := x.keep (keep_below (fun _ _ => True) h) (fun _ => trivial) fun _ _ _ _ _ _ => trivial
theorem thereV_upd (L : Nat → Option (List UInt8)) (i : Nat) (o : Option (List UInt8)) : thereV (upd L i o) = (thereV L).set i (.bool o.isSome) := by
  apply List.ext_getElem?
  intro j
  unfold thereV
  by_cases hj : j < 64
  · rw [List.getElem?_set]
    simp only [List.getElem?_map, List.getElem?_range hj, Option.map_some, List.length_map, List.length_range]
    by_cases e : i = j
    · subst e; rw [if_pos rfl, if_pos hj, upd_same]
    · rw [if_neg e, upd_other _ _ _ _ (fun x => e x.symm)]
  · rw [List.getElem?_eq_none (by simp; omega), List.getElem?_eq_none (by simp; omega)]
theorem slotsV_upd (sl : Nat → Value) (i : Nat) (v : Value) : slotsV (upd sl i v) = (slotsV sl).set i v := by
  apply List.ext_getElem?
  intro j
  unfold slotsV
  by_cases hj : j < 64
  · rw [List.getElem?_set]
    simp only [List.getElem?_map, List.getElem?_range hj, Option.map_some, List.length_map, List.length_range]
    by_cases e : i = j
    · subst e; rw [if_pos rfl, if_pos hj, upd_same]
    · rw [if_neg e, upd_other _ _ _ _ (fun x => e x.symm)]
  · rw [List.getElem?_eq_none (by simp; omega), List.getElem?_eq_none (by simp; omega)]
theorem boxM_there (n : Nat) (L : Nat → Option (List UInt8)) (sl : Nat → Value) (i : Nat) (h : i < 64) (o : Option (List UInt8)) : (boxM n L sl).setIfInBounds i (.bool o.isSome) = boxM n (upd L i o) sl := by
  unfold boxM
  rw [thereV_upd]
  simp only [List.setIfInBounds_toArray]
  rw [List.append_assoc, List.set_append_left _ _ (by rw [thereV_len]; exact h), List.append_assoc]
theorem boxM_slot (n : Nat) (L : Nat → Option (List UInt8)) (sl : Nat → Value) (i : Nat) (h : i < 64) (v : Value) : (boxM n L sl).setIfInBounds (64 + i) v = boxM n L (upd sl i v) := by
  unfold boxM
  rw [slotsV_upd]
  simp only [List.setIfInBounds_toArray]
  rw [List.append_assoc, List.set_append_right _ _ (by rw [thereV_len]; omega), thereV_len, List.set_append_left _ _ (by rw [slotsV_len]; omega), show 64 + i - 64 = i by omega, List.append_assoc]
/- a segment's slot is laid anew, its mark too: what was made newly, or nothing -/
theorem ModAt.put {X : World} (x : ModAt w B mo n L sl) (i : Nat) (o : Option (List UInt8)) (v : Value) (hb : X.heap[mo]? = some (.cells (boxM n (upd L i o) (upd sl i v)) 31 (0, 0)))
    (k : Keep (fun j _ => j ≠ mo) w X) (hn : o = none → v = .slice none 0 0) (hr : ∀ l, o = some l → X.ownsRow B 5 1 v l.length (cellsB l)) (hw : ∀ r, v.ownBlock = some r → w.heap.size ≤ r) : ModAt X B mo n (upd L i o) (upd sl i v) := by
  have ne : ∀ j l r, L j = some l → (sl j).ownBlock = some r → r ≠ mo ∧ r < w.heap.size := by
    intro j l r h e
    obtain ⟨_, cur, hg⟩ := row5_is (x.row j l h) e
    exact ⟨tyne hg x.box (by decide), lt_of_heap hg⟩
  refine ⟨hb, x.low, fun j h => ?_, fun j l h => ?_, fun j l j' l' r h h' e e' => ?_⟩
  · by_cases ej : j = i
    · subst ej; rw [upd_same] at h ⊢; exact hn h
    · rw [upd_other _ _ _ _ ej] at h ⊢; exact x.nil j h
  · by_cases ej : j = i
    · subst ej; rw [upd_same] at h ⊢; exact hr l h
    · rw [upd_other _ _ _ _ ej] at h ⊢
      exact ownsRow_keep k (x.row j l h) fun g c _ e => (ne j l g h e).1
  · by_cases ej : j = i
    · by_cases ej' : j' = i
      · omega
      · subst ej; rw [upd_other _ _ _ _ ej'] at h' e'; rw [upd_same] at e
        have h1 := hw r e; have h2 := (ne j' l' r h' e').2; omega
    · by_cases ej' : j' = i
      · subst ej'; rw [upd_other _ _ _ _ ej] at h e; rw [upd_same] at e'
        have h1 := hw r e'; have h2 := (ne j l r h e).2; omega
      · rw [upd_other _ _ _ _ ej] at h e; rw [upd_other _ _ _ _ ej'] at h' e'
        exact x.apart j l j' l' r h h' e e'
def MLeft (L : Nat → Option (List UInt8)) (n gk : Nat) (vn vi : Value) : Prop := ∃ k v : Nat, k + gk = 64 ∧ vi = .int .i64 k ∧ vn = .int .i64 (v : Int) ∧ v ≤ n ∧ Hid (v + sumF (fun i => lens (L i)) k = n)
theorem sumF_le_of (f : Nat → Nat) (k m : Nat) (h : k ≤ m) : sumF f k ≤ sumF f m := by
  induction m with
  | zero => obtain rfl : k = 0 := by omega
            exact Nat.le_refl _
  | succ m ih =>
    by_cases e : k = m + 1
    · subst e; exact Nat.le_refl _
    · have := ih (by omega); rw [sumF]; omega
set_option maxRecDepth 20000 in
set_option maxHeartbeats 1600000 in
theorem mleft_any (w : World) (x : ModAt w B mo n L sl) (hn : n ≤ 4096) (hs : sumF (fun i => lens (L i)) 64 ≤ n) :
    Calls Tryd.prog 11 #[.pointer (some ⟨mo, 0, none⟩)] w fun e w' => e = .returned (.int .i64 (leftL n L : Int)) ∧ w' = w := by
  have H := hide x
  have cp := x.cp
  have HS := hide hs
  clear x hs
  obtain ⟨z, hz⟩ : ∃ z, leftL n L = z := ⟨_, rfl⟩
  rw [hz]
  have HZ := hide hz
  clear hz
  go_enter Tryd.func11, Tryd.ntmps11
  go_wp2
  go_loopg [3, 9] 64 (fun gk vn vi wr => MLeft L n gk vn vi ∧ wr = w)
  case atStart => exact ⟨⟨0, n, by omega, rfl, rfl, Nat.le_refl _, by show _ = _; rw [sumF]; omega⟩, rfl⟩
  case round =>
    obtain ⟨⟨k, v, hk, rfl, rfl, hv, HV⟩, rfl⟩ := hrel
    cases gk with
    | zero =>
      obtain rfl : k = 64 := by omega
      go_wp2
      go_ret
      refine ⟨?_, rfl⟩
      have h1 := HV.out
      have h2 : leftL n L = v := by unfold leftL; omega
      rw [← HZ.out, h2]; rfl
    | succ g1 =>
      have hlt : ((k : Int) < 64) := by omega
      have hk64 : k < 64 := by omega
      have ct := H.out.ct k hk64
      have cs := H.out.cs k hk64
      have hsum : Hid (sumF (fun i => lens (L i)) (k + 1) ≤ n) := Nat.le_trans (sumF_le_of _ _ _ (by omega)) HS.out
      cases hL : L k with
      | none =>
        rw [hL] at ct
        have HK : Hid (sumF (fun i => lens (L i)) (k + 1) = sumF (fun i => lens (L i)) k) := by show _ = _; rw [sumF, hL]; rfl
        replace ct : wr.cell? ⟨mo, k, none⟩ = some (.bool false) := ct
        clear hL cs
        go_wp2
        go_roundg g1
        case measure => omega
        case rel => exact ⟨⟨k + 1, v, by omega, by go_num, rfl, hv, by show _ = _; rw [HK.out]; exact HV.out⟩, rfl⟩
      | some l =>
        rw [hL] at ct
        obtain ⟨co, cc, e, hcc, hlc⟩ := H.out.form k l hL
        rw [e] at cs
        have HK : Hid (sumF (fun i => lens (L i)) (k + 1) = sumF (fun i => lens (L i)) k + need l.length) := by show _ = _; rw [sumF, hL]; rfl
        replace ct : wr.cell? ⟨mo, k, none⟩ = some (.bool true) := ct
        obtain ⟨m, hm⟩ : ∃ m, l.length = m := ⟨_, rfl⟩
        rw [hm] at cs hlc HK
        obtain ⟨d, hd⟩ : ∃ d, need m = d := ⟨_, rfl⟩
        rw [hd] at HK
        have hdv : d ≤ v := by have h1 := HV.out; have h2 := HK.out; have h3 := hsum.out; omega
        have hm2 : m ≤ 262144 := by unfold need at hd; omega
        have hnd : ((m : Int) + 63) / 64 = (d : Int) := by rw [← hd]; unfold need; omega
        have hnt : ((m : Int) + 63).tdiv 64 = (d : Int) := by rw [Int.tdiv_eq_ediv_of_nonneg (by omega)]; exact hnd
        have hvd : (v : Int) - (d : Int) = ((v - d : Nat) : Int) := by omega
        clear hL hm hd e
        go_wp2
        go_roundg g1
        case measure => omega
        case rel => exact ⟨⟨k + 1, v - d, by omega, by go_num, rfl, by omega, by show _ = _; rw [HK.out]; have := HV.out; omega⟩, rfl⟩
end Go.Proofs.YtppdammgmnihgaaDoor
