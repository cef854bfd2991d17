/-
  What the calls on a store of segments answer, told by the segments' bytes alone, as contracts.
-/
import Derived.Test.YtppdammgmnihgaaDoorSOf
namespace Go.Proofs.YtppdammgmnihgaaDoor
open Go.RowKit
variable {w w' : World} {B st m a b n : Nat} {gl : List Bool} {bs : List UInt8} {c : Cel} {sg : Nat → Option Cel} {L : Nat → Option (List UInt8)}
theorem lowS_none (L : Nat → Option (List UInt8)) (h : lowS L < 64) : L (lowS L) = none := by
  have hl : (List.range 64).length = 64 := List.length_range
  have := List.findIdx_getElem (p := fun i => (L i).isNone) (xs := List.range 64) (w := by rw [hl]; exact h)
  rw [List.getElem_range] at this
  exact Option.isNone_iff_eq_none.1 this
theorem need_mono {x y : Nat} (h : x ≤ y) : need x ≤ need y := by unfold need; omega
theorem View.set {L : Nat → Option (List UInt8)} (V : View bs sg L) (i : Nat) (d : Cel) : View bs (upd sg i (some d)) (upd L i (some (cont bs d.pgs d.size))) := by
  intro j
  by_cases e : j = i
  · subst e; rw [upd_same, upd_same]; rfl
  · rw [upd_other _ _ _ _ e, upd_other _ _ _ _ e]; exact V j
/- what Create answers, and what it leaves -/
def createN (n : Nat) (L : Nat → Option (List UInt8)) (size : Int) : Nat := if createE n L size = 0 then lowS L else 0
def createL (n : Nat) (L : Nat → Option (List UInt8)) (size : Int) : Nat → Option (List UInt8) := if createE n L size = 0 then upd L (lowS L) (some (zeros size.toNat)) else L
theorem screate_any (size : Int) (w : World) (x : St w B st n L) (hB : B ≤ w.heap.size) :
    Calls Tryd.prog 13 #[.pointer (some ⟨st, 0, none⟩), .int .i64 size] w fun e w' => e = .returned (.tuple #[.int .i64 (createN n L size : Int), erS (createE n L size)]) ∧ St w' B st n (createL n L size) ∧ Keep (StP B) w w' := by
  unfold createN createL
  by_cases h0 : size < 0 ∨ 262144 < size
  · have e : createE n L size = 4 := if_pos h0
    rw [e]
    exact (create_arg size w h0).mono fun e w1 ⟨h1, h2⟩ => by subst h1; subst h2; exact ⟨rfl, x, Keep.refl _ _⟩
  · obtain ⟨s, rfl⟩ := Int.eq_ofNat_of_zero_le (show 0 ≤ size by omega)
    obtain ⟨m, a, b, gl, bs, sg, x, v⟩ := x
    have hs : s ≤ 262144 := by omega
    have hlow := lowC_low v
    by_cases h1 : lowS L = 64
    · have e : createE n L (s : Int) = 5 := by unfold createE; rw [if_neg h0, if_pos h1]
      rw [e]
      exact (create_full s w x hs (by rw [hlow]; exact h1)).mono fun e w1 ⟨h1, h2⟩ => by subst h1; subst h2; exact ⟨rfl, ⟨m, a, b, gl, bs, sg, x, v⟩, Keep.refl _ _⟩
    · have hl := lowS_le L
      by_cases h2 : leftL n L < need s
      · have e : createE n L (s : Int) = 6 := by unfold createE; rw [if_neg h0, if_neg h1, if_pos (by exact h2)]
        rw [e]
        exact (create_mem s w x hB hs (by rw [hlow]; omega) (by rw [v.left x.good]; exact h2)).mono fun e w1 ⟨h1, h2⟩ => by subst h1; exact ⟨rfl, ⟨m, a, b, gl, bs, sg, x.grow h2, v⟩, keep_below _ h2⟩
      · have e : createE n L (s : Int) = 0 := by unfold createE; rw [if_neg h0, if_neg h1, if_neg (by exact h2)]
        have hsn : sg (lowS L) = none := by
          have := lowS_none L (by omega); rw [v] at this; exact Option.map_eq_none_iff.1 this
        rw [e]
        refine (create_yes s (lowS L) w x hB hs hlow (by omega) hsn (by rw [v.left x.good]; omega)).mono ?_
        rintro e w1 ⟨rfl, d, x1, hc, k⟩
        refine ⟨rfl, ⟨m, a, b, _, bs, _, x1, ?_⟩, k⟩
        have := v.set (lowS L) d
        rw [hc] at this
        exact this
theorem sgrow_none (id size : Int) (w : World) (x : St w B st n L) (hn : pickF L id = none) :
    Calls Tryd.prog 16 #[.pointer (some ⟨st, 0, none⟩), .int .i64 id, .int .i64 size] w fun e w' => e = .returned (errV 12) ∧ w' = w := by
  obtain ⟨m, a, b, gl, bs, sg, x, v⟩ := x
  exact grow_none id size w x (by rw [v.pick] at hn; exact Option.map_eq_none_iff.1 hn)
/- what Grow answers of a segment, and what it leaves -/
def growE (n : Nat) (L : Nat → Option (List UInt8)) (l : List UInt8) (size : Int) : Int := if size < (l.length : Int) ∨ 262144 < size then 4 else if leftL n L < need size.toNat - need l.length then 6 else 0
def growL (n : Nat) (L : Nat → Option (List UInt8)) (i : Nat) (l : List UInt8) (size : Int) : Nat → Option (List UInt8) := if growE n L l size = 0 then upd L i (some (l ++ zeros (size.toNat - l.length))) else L
theorem sgrow_any (i : Nat) (l : List UInt8) (size : Int) (w : World) (x : St w B st n L) (hB : B ≤ w.heap.size) (hi : L i = some l) :
    Calls Tryd.prog 16 #[.pointer (some ⟨st, 0, none⟩), .int .i64 (i : Int), .int .i64 size] w fun e w' => e = .returned (erS (growE n L l size)) ∧ St w' B st n (growL n L i l size) ∧ Keep (StP B) w w' := by
  obtain ⟨m, a, b, gl, bs, sg, x, v⟩ := x
  have hi0 := hi
  rw [v i] at hi
  obtain ⟨c, hc, rfl⟩ := Option.map_eq_some_iff.1 hi
  unfold growL
  have hlen := cont_len bs c.pgs c.size
  obtain ⟨l, hl⟩ : ∃ l, cont bs c.pgs c.size = l := ⟨_, rfl⟩
  rw [hl] at hlen ⊢
  by_cases h0 : size < (l.length : Int) ∨ 262144 < size
  · have e : growE n L l size = 4 := if_pos h0
    rw [e]
    exact (grow_arg i size w x hc (by rw [← hlen]; exact h0)).mono fun e w1 ⟨h1, h2⟩ => by subst h1; subst h2; exact ⟨rfl, ⟨m, a, b, gl, bs, sg, x, v⟩, Keep.refl _ _⟩
  · obtain ⟨s, rfl⟩ := Int.eq_ofNat_of_zero_le (show 0 ≤ size by omega)
    have hs : c.size ≤ s ∧ s ≤ 262144 := by rw [← hlen]; omega
    have hk : c.pgs.length + (need s - need l.length) = need s := by
      have := need_mono hs.1
      rw [x.good.num i c hc, hlen]; omega
    by_cases h2 : leftL n L < need s - need l.length
    · have e : growE n L l (s : Int) = 6 := by unfold growE; rw [if_neg h0, if_pos (by exact h2)]
      rw [e]
      exact (grow_mem i s _ w x hc hs.1 hs.2 hk (by rw [v.left x.good]; exact h2)).mono fun e w1 ⟨h1, h2⟩ => by subst h1; subst h2; exact ⟨rfl, ⟨m, a, b, gl, bs, sg, x, v⟩, Keep.refl _ _⟩
    · have e : growE n L l (s : Int) = 0 := by unfold growE; rw [if_neg h0, if_neg (by exact h2)]
      rw [e]
      refine (grow_yes i s _ w x hB hc hs.1 hs.2 hk (by rw [v.left x.good]; omega)).mono ?_
      rintro e w1 ⟨rfl, d, x1, hd, k⟩
      refine ⟨rfl, ⟨m, a, b, _, bs, _, x1, ?_⟩, k⟩
      have := v.set i d
      rw [hd, hl, ← hlen] at this
      exact this
theorem sdelete_none (id : Int) (w : World) (x : St w B st n L) (hn : pickF L id = none) :
    Calls Tryd.prog 15 #[.pointer (some ⟨st, 0, none⟩), .int .i64 id] w fun e w' => e = .returned (errV 12) ∧ w' = w := by
  obtain ⟨m, a, b, gl, bs, sg, x, v⟩ := x
  exact delete_none id w x (by rw [v.pick] at hn; exact Option.map_eq_none_iff.1 hn)
theorem sdelete_yes (i : Nat) (l : List UInt8) (w : World) (x : St w B st n L) (hi : L i = some l) :
    Calls Tryd.prog 15 #[.pointer (some ⟨st, 0, none⟩), .int .i64 (i : Int)] w fun e w' => e = .returned .nilIface ∧ St w' B st n (upd L i none) ∧ Keep (StP B) w w' := by
  obtain ⟨m, a, b, gl, bs, sg, x, v⟩ := x
  rw [v i] at hi
  obtain ⟨c, hc, rfl⟩ := Option.map_eq_some_iff.1 hi
  refine (delete_yes i w x hc).mono ?_
  rintro e w1 ⟨rfl, x1, ho, k⟩
  refine ⟨rfl, ⟨m, a, b, _, _, _, x1, fun j => ?_⟩, k⟩
  by_cases e : j = i
  · subst e; rw [upd_same, upd_same]; rfl
  · rw [upd_other _ _ _ _ e, upd_other _ _ _ _ e, v j]
    cases hj : sg j with
    | none => rfl
    | some d => simp only [Option.map_some]; rw [ho j d e hj]
theorem tread_none (id p l : Int) (w : World) (x : St w B st n L) (hn : pickF L id = none) :
    Calls Tryd.prog 12 #[.pointer (some ⟨st, 0, none⟩), .int .i64 id, .int .i64 p, .int .i64 l] w fun e w' => e = .returned (.tuple #[.slice none 0 0, errV 12]) ∧ w' = w := by
  obtain ⟨m, a, b, gl, bs, sg, x, v⟩ := x
  exact sread_none id p l w x (by rw [v.pick] at hn; exact Option.map_eq_none_iff.1 hn)
theorem tread_no (i : Nat) (l : List UInt8) (p q : Int) (w : World) (x : St w B st n L) (hi : L i = some l) (hp : -9223372036854775808 ≤ p ∧ p ≤ 9223372036854775807) (hn : inS l.length p q = false) :
    Calls Tryd.prog 12 #[.pointer (some ⟨st, 0, none⟩), .int .i64 (i : Int), .int .i64 p, .int .i64 q] w fun e w' => e = .returned (.tuple #[.slice none 0 0, errV 13]) ∧ w' = w := by
  obtain ⟨m, a, b, gl, bs, sg, x, v⟩ := x
  rw [v i] at hi
  obtain ⟨c, hc, rfl⟩ := Option.map_eq_some_iff.1 hi
  rw [cont_len] at hn
  exact sread_no i p q w x hc hp hn
theorem tread_yes (i p q : Nat) (l : List UInt8) (w : World) (x : St w B st n L) (hi : L i = some l) (hn : p + q ≤ l.length) :
    Calls Tryd.prog 12 #[.pointer (some ⟨st, 0, none⟩), .int .i64 (i : Int), .int .i64 (p : Int), .int .i64 (q : Int)] w fun e w' =>
      ∃ co cc, e = .returned (.tuple #[.slice co q cc, .nilIface]) ∧ w'.ownsRow w.heap.size 5 1 (.slice co q cc) q (cellsB (pieceF l p q)) ∧ Below w.heap.size w w' := by
  obtain ⟨m, a, b, gl, bs, sg, x, v⟩ := x
  rw [v i] at hi
  obtain ⟨c, hc, rfl⟩ := Option.map_eq_some_iff.1 hi
  rw [cont_len] at hn
  exact sread_yes i p q w x hc hn
theorem twrite_none (id p : Int) (so : Option Addr) (sn sc : Nat) (w : World) (x : St w B st n L) (hs : sn ≤ maxLen) (hn : pickF L id = none) :
    Calls Tryd.prog 14 #[.pointer (some ⟨st, 0, none⟩), .int .i64 id, .int .i64 p, .slice so sn sc] w fun e w' => e = .returned (errV 12) ∧ w' = w := by
  obtain ⟨m, a, b, gl, bs, sg, x, v⟩ := x
  exact swrite_none id p so sn sc w x hs (by rw [v.pick] at hn; exact Option.map_eq_none_iff.1 hn)
theorem twrite_no (i : Nat) (l : List UInt8) (p : Int) (so : Option Addr) (sn sc : Nat) (w : World) (x : St w B st n L) (hs : sn ≤ maxLen) (hi : L i = some l) (hp : -9223372036854775808 ≤ p ∧ p ≤ 9223372036854775807) (hn : inS l.length p sn = false) :
    Calls Tryd.prog 14 #[.pointer (some ⟨st, 0, none⟩), .int .i64 (i : Int), .int .i64 p, .slice so sn sc] w fun e w' => e = .returned (errV 13) ∧ w' = w := by
  obtain ⟨m, a, b, gl, bs, sg, x, v⟩ := x
  rw [v i] at hi
  obtain ⟨c, hc, rfl⟩ := Option.map_eq_some_iff.1 hi
  rw [cont_len] at hn
  exact swrite_no i p so sn sc w x hs hc hp hn
theorem twrite_yes (i p : Nat) (l : List UInt8) (so : Option Addr) (sn sc : Nat) (d : List UInt8) (w : World) (x : St w B st n L) (hi : L i = some l) (hb : Bts w so sn sc d) (ho : 0 < sn → Off B w so) (hn : p + sn ≤ l.length) :
    Calls Tryd.prog 14 #[.pointer (some ⟨st, 0, none⟩), .int .i64 (i : Int), .int .i64 (p : Int), .slice so sn sc] w fun e w' => e = .returned .nilIface ∧ St w' B st n (upd L i (some (splice l p d))) ∧ Keep (StP B) w w' := by
  obtain ⟨m, a, b, gl, bs, sg, x, v⟩ := x
  rw [v i] at hi
  obtain ⟨c, hc, rfl⟩ := Option.map_eq_some_iff.1 hi
  rw [cont_len] at hn
  refine (swrite_yes i p so sn sc d w x hc hb ho hn).mono ?_
  rintro e w1 ⟨rfl, bs', x1, h1, h2, k⟩
  refine ⟨rfl, ⟨m, a, b, _, _, _, x1, fun j => ?_⟩, k⟩
  by_cases e : j = i
  · subst e; rw [upd_same, hc]; simp only [Option.map_some]; rw [h1]
  · rw [upd_other _ _ _ _ e, v j]
    cases hj : sg j with
    | none => rfl
    | some d => simp only [Option.map_some]; rw [h2 j d e hj]
end Go.Proofs.YtppdammgmnihgaaDoor
