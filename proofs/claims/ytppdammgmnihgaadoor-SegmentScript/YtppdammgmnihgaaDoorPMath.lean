/-
  Plain facts on pages: which is the lowest that is free, how many are, the bytes of all of them in one row.
-/
import Derived.Test.YtppdammgmnihgaaDoorRows
import Derived.Laws.CopyOwn
namespace Go.Proofs.YtppdammgmnihgaaDoor
/- the lowest page that is not given out; as many as there are, if there is none -/
def lowF (gl : List Bool) : Nat := gl.findIdx fun b => !b
theorem lowF_le (gl : List Bool) : lowF gl ≤ gl.length := List.findIdx_le_length
theorem lowF_free (gl : List Bool) (h : lowF gl < gl.length) : gl.getD (lowF gl) true = false := by
  have := List.findIdx_getElem (w := h)
  rw [List.getD_eq_getElem?_getD, List.getElem?_eq_getElem h]
  have e : gl[lowF gl] = gl[List.findIdx (fun b => !b) gl] := rfl
  simpa [e] using this
theorem lowF_below (gl : List Bool) (i : Nat) (h : i < lowF gl) : gl.getD i true = true := by
  have hl : i < gl.length := Nat.lt_of_lt_of_le h (lowF_le gl)
  have := List.not_of_lt_findIdx (p := fun b => !b) (xs := gl) h
  rw [List.getD_eq_getElem?_getD, List.getElem?_eq_getElem hl]
  simpa using this
theorem lowF_is (gl : List Bool) (k : Nat) (hk : k ≤ gl.length) (h1 : ∀ i, i < k → gl.getD i true = true) (h2 : k < gl.length → gl.getD k true = false) : lowF gl = k := by
  rcases Nat.lt_trichotomy (lowF gl) k with h | h | h
  · have := lowF_free gl (by omega); rw [h1 _ h] at this; cases this
  · exact h
  · have := lowF_below gl k h; rw [h2 (by have := lowF_le gl; omega)] at this; cases this
theorem getD_set (gl : List Bool) (k i : Nat) (b d : Bool) : (gl.set k b).getD i d = if k = i ∧ i < gl.length then b else gl.getD i d := by
  simp only [List.getD_eq_getElem?_getD, List.getElem?_set]
  by_cases h : k = i
  · subst h
    by_cases h2 : k < gl.length
    · simp [h2]
    · simp [h2]
  · simp [h]
theorem lowF_set_false (gl : List Bool) (k : Nat) (h : k < gl.length) : lowF (gl.set k false) = min (lowF gl) k := by
  refine lowF_is _ _ (by simp; omega) (fun i hi => ?_) (fun hlt => ?_)
  · rw [getD_set, if_neg (by omega)]; exact lowF_below gl i (by omega)
  · rw [getD_set]
    by_cases e : k = min (lowF gl) k
    · rw [if_pos ⟨e, by omega⟩]
    · rw [if_neg (by omega)]
      have e2 : min (lowF gl) k = lowF gl := by omega
      rw [e2]; exact lowF_free gl (by omega)
/- how many are free -/
def leftF (gl : List Bool) : Nat := gl.count false
theorem leftF_take (gl : List Bool) (k : Nat) (h : k < gl.length) : leftF (gl.take (k + 1)) = leftF (gl.take k) + if gl.getD k true = false then 1 else 0 := by
  unfold leftF
  rw [List.take_add_one, List.getElem?_eq_getElem h, List.count_append, List.getD_eq_getElem?_getD, List.getElem?_eq_getElem h]
  cases gl[k] <;> simp
theorem leftF_le (gl : List Bool) : leftF gl ≤ gl.length := List.count_le_length
/- the first k of n are given out -/
def upF (n k : Nat) : List Bool := List.replicate k true ++ List.replicate (n - k) false
theorem upF_len (n k : Nat) (h : k ≤ n) : (upF n k).length = n := by simp [upF]; omega
theorem upF_zero (n : Nat) : upF n 0 = List.replicate n false := by simp [upF]
theorem upF_get (n k i : Nat) (d : Bool) (h : i < n) (hk : k ≤ n) : (upF n k).getD i d = decide (i < k) := by
  simp only [upF, List.getD_eq_getElem?_getD, List.getElem?_append, List.length_replicate, List.getElem?_replicate]
  by_cases hi : i < k
  · simp [hi]
  · simp [hi]; rw [if_pos (by omega)]; rfl
theorem upF_low (n k : Nat) (h : k ≤ n) : lowF (upF n k) = k :=
  lowF_is _ _ (by rw [upF_len n k h]; exact h) (fun i hi => by rw [upF_get n k i _ (by omega) h]; simpa using hi) (fun hk => by rw [upF_len n k h] at hk; rw [upF_get n k k _ hk h]; simp)
theorem upF_left (n k : Nat) : leftF (upF n k) = n - k := by
  simp [leftF, upF, List.count_append, List.count_replicate]
theorem same_bools (a b : List Bool) (hl : a.length = b.length) (h : ∀ i, i < a.length → a.getD i true = b.getD i true) : a = b := by
  apply List.ext_getElem hl
  intro i h1 h2
  have := h i h1
  simpa [List.getD_eq_getElem?_getD, List.getElem?_eq_getElem h1, List.getElem?_eq_getElem h2] using this
theorem upF_set (n k : Nat) (h : k < n) : (upF n k).set k true = upF n (k + 1) := by
  refine same_bools _ _ (by rw [List.length_set, upF_len n k (by omega), upF_len n (k + 1) (by omega)]) (fun i hi => ?_)
  rw [List.length_set, upF_len n k (by omega)] at hi
  rw [getD_set, upF_len n k (by omega), upF_get n k i _ hi (by omega), upF_get n (k + 1) i _ hi (by omega)]
  by_cases e : k = i
  · rw [if_pos ⟨e, hi⟩]; simp; omega
  · rw [if_neg (fun x => e x.1)]; congr 1; apply propext; omega
/- bytes laid over others -/
theorem splice_get {α : Type} (L : List α) (off : Nat) (cs : List α) (i : Nat) (d : α) (h : off + cs.length ≤ L.length) :
    (splice L off cs).getD i d = if off ≤ i ∧ i < off + cs.length then cs.getD (i - off) d else L.getD i d := by
  have hm : min off L.length = off := by omega
  simp only [splice, List.getD_eq_getElem?_getD, List.getElem?_append, List.length_take, List.getElem?_take, List.getElem?_drop, hm]
  by_cases h1 : i < off
  · simp only [if_pos h1]; rw [if_neg (by omega)]
  · rw [if_neg h1]
    by_cases h2 : i < off + cs.length
    · rw [if_pos (show i - off < cs.length by omega), if_pos (by omega)]
    · rw [if_neg (show ¬ i - off < cs.length by omega), if_neg (by omega)]; congr 2; omega
theorem splice_map {α β : Type} (f : α → β) (L : List α) (off : Nat) (cs : List α) : (splice L off cs).map f = splice (L.map f) off (cs.map f) := by
  simp [splice, List.map_take, List.map_drop]
theorem splice_nil {α : Type} (L : List α) (off : Nat) : splice L off [] = L := by simp [splice]
/- a piece of a row -/
def pieceF (bs : List UInt8) (p n : Nat) : List UInt8 := (bs.drop p).take n
theorem pieceF_len (bs : List UInt8) (p n : Nat) (h : p + n ≤ bs.length) : (pieceF bs p n).length = n := by simp [pieceF]; omega
theorem pieceF_get (bs : List UInt8) (p n i : Nat) (h : i < n) : (pieceF bs p n).getD i 0 = bs.getD (p + i) 0 := by
  simp only [pieceF, List.getD_eq_getElem?_getD, List.getElem?_take, List.getElem?_drop, if_pos h]
theorem same_row (a b : List UInt8) (hl : a.length = b.length) (h : ∀ i, i < a.length → a.getD i 0 = b.getD i 0) : a = b := by
  apply List.ext_getElem hl
  intro i h1 h2
  have := h i h1
  simpa [List.getD_eq_getElem?_getD, List.getElem?_eq_getElem h1, List.getElem?_eq_getElem h2] using this
def zeros (n : Nat) : List UInt8 := List.replicate n 0
theorem zeros_len (n : Nat) : (zeros n).length = n := by simp [zeros]
theorem zeros_get (n i : Nat) : (zeros n).getD i 0 = 0 := by
  simp only [zeros, List.getD_eq_getElem?_getD, List.getElem?_replicate]; split <;> rfl
/- what is not given out is 0 -/
def Clean (gl : List Bool) (bs : List UInt8) : Prop := ∀ k, k < gl.length → gl.getD k true = false → ∀ j, j < 64 → bs.getD (k * 64 + j) 0 = 0
theorem clean_new (n : Nat) : Clean (List.replicate n false) (zeros (n * 64)) := fun _ _ _ _ _ => zeros_get _ _
theorem Clean.give {gl : List Bool} {bs : List UInt8} (h : Clean gl bs) (k : Nat) : Clean (gl.set k true) bs := by
  intro i hi hf j hj
  rw [List.length_set] at hi
  rw [getD_set] at hf
  split at hf
  · cases hf
  · exact h i hi hf j hj
theorem Clean.back {gl : List Bool} {bs : List UInt8} (h : Clean gl bs) (k : Nat) (hk : k < gl.length) (hb : bs.length = gl.length * 64) : Clean (gl.set k false) (splice bs (k * 64) (zeros 64)) := by
  intro i hi hf j hj
  rw [List.length_set] at hi
  rw [splice_get _ _ _ _ _ (by rw [zeros_len]; omega), zeros_len]
  by_cases e : k = i
  · subst e; rw [if_pos (by omega)]; exact zeros_get _ _
  · rw [getD_set, if_neg (by omega)] at hf
    rw [if_neg (by omega)]; exact h i hi hf j hj
theorem Clean.lay {gl : List Bool} {bs : List UInt8} (h : Clean gl bs) (k at_ : Nat) (l : List UInt8) (hg : gl.getD k true = true) (hk : k < gl.length) (ha : at_ + l.length ≤ 64) (hb : bs.length = gl.length * 64) : Clean gl (splice bs (k * 64 + at_) l) := by
  intro i hi hf j hj
  rw [splice_get _ _ _ _ _ (by omega)]
  by_cases e : k = i
  · subst e; rw [hg] at hf; cases hf
  · rw [if_neg (by omega)]; exact h i hi hf j hj
end Go.Proofs.YtppdammgmnihgaaDoor
