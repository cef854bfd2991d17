/-
  copy into a part of a row of bytes that the call owns; what of a store stays when such a row turns.
-/
import Derived.Test.YtppdammgmnihgaaDoorSAwake
namespace Go.Proofs.YtppdammgmnihgaaDoor
open Go.RowKit
variable {w w' : World} {B st n : Nat} {L : Nat → Option (List UInt8)}
theorem row5_keep {w w' : World} {B base n : Nat} {v : Value} {xs : List Value} (r : w.ownsRow base 5 1 v n xs) (k : Keep (StP B) w w') : w'.ownsRow base 5 1 v n xs :=
  ownsRow_keep k r fun _ _ _ _ => .inr (no_store5 _ _)
theorem row5_grow {w w' : World} {base n : Nat} {v : Value} {xs : List Value} (r : w.ownsRow base 5 1 v n xs) (k : Below w.heap.size w w') : w'.ownsRow base 5 1 v n xs :=
  ownsRow_keep (keep_below (fun _ _ => True) k) r fun _ _ _ _ => trivial
theorem row5_bts {w : World} {base n cc : Nat} {co : Option Addr} {l : List UInt8} (r : w.ownsRow base 5 1 (.slice co n cc) n (cellsB l)) : Bts w co n cc l := by
  obtain ⟨ao, cap, e, h⟩ := owns_bts r; cases e; exact h
theorem row5_is {w : World} {base n : Nat} {v : Value} {xs : List Value} {g : Nat} (r : w.ownsRow base 5 1 v n xs) (h : v.ownBlock = some g) : base ≤ g ∧ ∃ cur, w.heap[g]? = some (.cells cur 5 (0, 0)) := by
  rcases r.2 with ⟨rfl, _⟩ | ⟨g', cap, cur, rfl, hb, hg, _⟩
  · cases h
  · cases h; exact ⟨hb, cur, hg⟩
/- a row of bytes turns, and no store -/
theorem foot_store {w w' : World} {base n : Nat} {v : Value} {xs : List Value} (r : w.ownsRow base 5 1 v n xs) (f : Foot (fun k => v.ownBlock = some k) w w') : Keep (fun _ o => StoreTy o) w w' :=
  keep_foot f fun k o ho hs e => by
    obtain ⟨_, cur, hg⟩ := row5_is r e
    rw [hg] at ho; cases ho; exact no_store5 _ _ hs
theorem St.row {w w' : World} {base m : Nat} {v : Value} {xs : List Value} (x : St w B st n L) (r : w.ownsRow base 5 1 v m xs) (f : Foot (fun k => v.ownBlock = some k) w w') : St w' B st n L :=
  x.keep (foot_store r f) fun _ _ h => h
theorem foot_low {w w' : World} {base m : Nat} {v : Value} {xs : List Value} (r : w.ownsRow base 5 1 v m xs) (f : Foot (fun k => v.ownBlock = some k) w w') (hB : base ≤ w.heap.size) : Below base w w' :=
  f.below hB fun _ e => (row5_is r e).1
theorem take_splice (cur W d : List Value) (p n : Nat) (h : cur.take n = W) (hn : n ≤ cur.length) (hd : p + d.length ≤ n) : (cur.take p ++ d ++ cur.drop (p + d.length)).take n = splice W p d := by
  subst h
  unfold splice
  apply List.ext_getElem?
  intro j
  simp only [List.getElem?_take, List.getElem?_append, List.length_take, List.length_append, List.getElem?_drop]
  have m1 : min p cur.length = p := by omega
  have m2 : min p (min n cur.length) = p := by omega
  simp only [m1, m2]
  by_cases h1 : j < p
  · simp [h1, show j < n by omega, show j < p + d.length by omega]
  · by_cases h2 : j < p + d.length
    · simp [h1, h2, show j < n by omega, show j - p < d.length by omega]
    · by_cases h3 : j < n
      · simp [h1, h2, h3, show ¬ j - p < d.length by omega, show p + d.length + (j - p - d.length) < n by omega]
        congr 1; omega
      · simp [h1, h3, show ¬ j - p < d.length by omega, show ¬ p + d.length + (j - p - d.length) < n by omega]
theorem copy_own {w : World} {base n cc p : Nat} {co so : Option Addr} {k sc : Nat} {W d : List UInt8} (r : w.ownsRow base 5 1 (.slice co n cc) n (cellsB W)) (hb : Bts w so k sc d) (hk : p + k ≤ n) :
    ∃ w', (Builtin.copy_ #[28, 28] 3 #[.slice (tailA co p cc) (n - p) (cc - p), .slice so k sc]).run Tryd.prog w = .ok (goInt k) w' ∧ w'.ownsRow base 5 1 (.slice co n cc) n (cellsB (splice W p d)) ∧ Foot (fun j => (Value.slice co n cc).ownBlock = some j) w w' := by
  have hd := hb.1
  by_cases h0 : k = 0
  · subst h0
    obtain rfl : d = [] := List.eq_nil_of_length_eq_zero hd.symm
    rw [splice_nil]
    exact ⟨w, run_copy_none (P := Tryd.prog) w 28 28 3 5 _ _ _ _ _ _ Tryd.underlying28 Tryd.oneByte (Nat.zero_min _), r, Foot.refl _ _⟩
  · obtain ⟨ad, rfl⟩ := hb.addr (by omega)
    rcases r.2 with ⟨_, e⟩ | ⟨g, cap, cur, e, hbg, hg, hnc, hcm, hcs, htake⟩
    · omega
    · have e1 := (Value.slice.inj e).1
      have e3 := (Value.slice.inj e).2.2
      subst e1; subst e3
      have hta : tailA (some ⟨g, 0, none⟩) p cc = some ⟨g, p, none⟩ := by
        unfold tailA; rw [if_neg (by omega)]; simp only [Option.map_some, add0]
      have hlen : (cellsB d).length = k := by rw [cellsB_len]; exact hd.symm
      have := run_copy_row (P := Tryd.prog) w 28 28 3 5 g p (n - p) (cc - p) ad k sc cur 5 (cellsB d) Tryd.underlying28 Tryd.oneByte hg
        (by rw [hlen]; show k = min k (n - p); omega) (hb.news ad rfl) (by rw [hlen]; omega) (cellsB_one d)
      rw [hta, this, hlen]
      rw [Nat.mul_one] at htake
      refine ⟨_, rfl, ⟨?_, .inr ⟨g, cc, _, rfl, hbg, setRow_heap w g cur _ _ _ hg, hnc, hcm, ?_, ?_⟩⟩, (foot_row w g _).mono fun j e => by rw [e]; rfl⟩
      · have hr1 := r.1
        rw [cellsB_len] at hr1 ⊢
        rw [length_splice _ _ _ (by omega)]; exact hr1
      · simp only [List.size_toArray, List.length_append, List.length_take, List.length_drop, Array.length_toList, hlen]; omega
      · rw [Nat.mul_one, cellsB_splice]
        have := take_splice cur.toList (cellsB W) (cellsB d) p n htake (by simp; omega) (by omega)
        rw [hlen] at this
        exact this
theorem upd_upd {α : Type} (f : Nat → α) (i : Nat) (u v : α) : upd (upd f i u) i v = upd f i v := by
  funext j
  by_cases e : j = i
  · subst e; rw [upd_same, upd_same]
  · rw [upd_other _ _ _ _ e, upd_other _ _ _ _ e, upd_other _ _ _ _ e]
theorem cellsB_more (W : List UInt8) (x : Nat) : cellsB W ++ List.replicate x (.int .u8 0) = cellsB (W ++ zeros x) := by rw [cellsB_append, cellsB_zeros]
end Go.Proofs.YtppdammgmnihgaaDoor
