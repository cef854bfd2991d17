/-
  Plain facts on pages: which is the lowest that is free, how many are, the bytes of all of them in one row.
  Bytes of slices in memory, what stays of them when other memory turns; blocks that turned and blocks that did not; string(b); slices.Clone of bytes.
  A memory of pages: its cells, the row that tells which are given out, the row of all bytes; what stays of them when other memory turns.
  What the calls on a memory of pages answer, as contracts: has, wrong, Alloc, Free, Left, Read, Write; what became of the world.
  What the calls that turn a memory of pages answer, as contracts: Alloc, Free, Read, Write; what became of the world.
  What Read and Write answer of a memory of pages, as contracts; what became of the world.
  What Of answers, as a contract: a memory of so many pages, none given out; what became of the world.
-/
import Derived.Test.YtpbkjmkdciiccaaGreatDoorRows
import Derived.Laws.CopyOwn
import Derived.Test.YtpbkjmkdciiccaaGreatDoorJf
import Derived.WalkKit
import Derived.WalkSpells
import Derived.WalkLawsBesides
import Derived.Below
import Derived.Deep.OwnRows
import Derived.Deep.QuietTactic
import Derived.BigQuiet
import Derived.Lib.LazyBuf
import Derived.Laws.IdiomStrings
import Derived.WalkMore
import Derived.Deep.LoopGhost
namespace Go.Proofs.YtpbkjmkdciiccaaGreatDoor
section
/- the lowest page that is not given out; as many as there are, if there is none -/
def lowF (gl : List Bool) : Nat := gl.findIdx fun b => !b
theorem lowF_le (gl : List Bool) : lowF gl ≤ gl.length := List.findIdx_le_length
theorem lowF_free (gl : List Bool) (h : lowF gl < gl.length) : gl.getD (lowF gl) true = false := by
  have := List.findIdx_getElem (w := h)
  rw [List.getD_eq_getElem?_getD, List.getElem?_eq_getElem h]
  have e : gl[lowF gl] = gl[List.findIdx (fun b => !b) gl] := rfl
  simpa [e] using this
theorem lowF_below (gl : List Bool) (i : Nat) (h : i < lowF gl) : gl.getD i true = true := by
  have hl : i < gl.length := Nat.lt_of_lt_of_le h (lowF_le gl)
  have := List.not_of_lt_findIdx (p := fun b => !b) (xs := gl) h
  rw [List.getD_eq_getElem?_getD, List.getElem?_eq_getElem hl]
  simpa using this
theorem lowF_is (gl : List Bool) (k : Nat) (hk : k ≤ gl.length) (h1 : ∀ i, i < k → gl.getD i true = true) (h2 : k < gl.length → gl.getD k true = false) : lowF gl = k := by
  rcases Nat.lt_trichotomy (lowF gl) k with h | h | h
  · have := lowF_free gl (by omega); rw [h1 _ h] at this; cases this
  · exact h
  · have := lowF_below gl k h; rw [h2 (by have := lowF_le gl; omega)] at this; cases this
theorem getD_set (gl : List Bool) (k i : Nat) (b d : Bool) : (gl.set k b).getD i d = if k = i ∧ i < gl.length then b else gl.getD i d := by
  simp only [List.getD_eq_getElem?_getD, List.getElem?_set]
  by_cases h : k = i
  · subst h
    by_cases h2 : k < gl.length
    · simp [h2]
    · simp [h2]
  · simp [h]
theorem lowF_set_false (gl : List Bool) (k : Nat) (h : k < gl.length) : lowF (gl.set k false) = min (lowF gl) k := by
  refine lowF_is _ _ (by simp; omega) (fun i hi => ?_) (fun hlt => ?_)
  · rw [getD_set, if_neg (by omega)]; exact lowF_below gl i (by omega)
  · rw [getD_set]
    by_cases e : k = min (lowF gl) k
    · rw [if_pos ⟨e, by omega⟩]
    · rw [if_neg (by omega)]
      have e2 : min (lowF gl) k = lowF gl := by omega
      rw [e2]; exact lowF_free gl (by omega)
/- how many are free -/
def leftF (gl : List Bool) : Nat := gl.count false
theorem leftF_take (gl : List Bool) (k : Nat) (h : k < gl.length) : leftF (gl.take (k + 1)) = leftF (gl.take k) + if gl.getD k true = false then 1 else 0 := by
  unfold leftF
  rw [List.take_add_one, List.getElem?_eq_getElem h, List.count_append, List.getD_eq_getElem?_getD, List.getElem?_eq_getElem h]
  cases gl[k] <;> simp
theorem leftF_le (gl : List Bool) : leftF gl ≤ gl.length := List.count_le_length
/- the first k of n are given out -/
def upF (n k : Nat) : List Bool := List.replicate k true ++ List.replicate (n - k) false
theorem upF_len (n k : Nat) (h : k ≤ n) : (upF n k).length = n := by simp [upF]; omega
theorem upF_zero (n : Nat) : upF n 0 = List.replicate n false := by simp [upF]
theorem upF_get (n k i : Nat) (d : Bool) (h : i < n) (hk : k ≤ n) : (upF n k).getD i d = decide (i < k) := by
  simp only [upF, List.getD_eq_getElem?_getD, List.getElem?_append, List.length_replicate, List.getElem?_replicate]
  by_cases hi : i < k
  · simp [hi]
  · simp [hi]; rw [if_pos (by omega)]; rfl
theorem upF_low (n k : Nat) (h : k ≤ n) : lowF (upF n k) = k :=
  lowF_is _ _ (by rw [upF_len n k h]; exact h) (fun i hi => by rw [upF_get n k i _ (by omega) h]; simpa using hi) (fun hk => by rw [upF_len n k h] at hk; rw [upF_get n k k _ hk h]; simp)
theorem upF_left (n k : Nat) : leftF (upF n k) = n - k := by
  simp [leftF, upF, List.count_append, List.count_replicate]
theorem same_bools (a b : List Bool) (hl : a.length = b.length) (h : ∀ i, i < a.length → a.getD i true = b.getD i true) : a = b := by
  apply List.ext_getElem hl
  intro i h1 h2
  have := h i h1
  simpa [List.getD_eq_getElem?_getD, List.getElem?_eq_getElem h1, List.getElem?_eq_getElem h2] using this
theorem upF_set (n k : Nat) (h : k < n) : (upF n k).set k true = upF n (k + 1) := by
  refine same_bools _ _ (by rw [List.length_set, upF_len n k (by omega), upF_len n (k + 1) (by omega)]) (fun i hi => ?_)
  rw [List.length_set, upF_len n k (by omega)] at hi
  rw [getD_set, upF_len n k (by omega), upF_get n k i _ hi (by omega), upF_get n (k + 1) i _ hi (by omega)]
  by_cases e : k = i
  · rw [if_pos ⟨e, hi⟩]; simp; omega
  · rw [if_neg (fun x => e x.1)]; congr 1; apply propext; omega
/- bytes laid over others -/
theorem splice_get {α : Type} (L : List α) (off : Nat) (cs : List α) (i : Nat) (d : α) (h : off + cs.length ≤ L.length) :
    (splice L off cs).getD i d = if off ≤ i ∧ i < off + cs.length then cs.getD (i - off) d else L.getD i d := by
  have hm : min off L.length = off := by omega
  simp only [splice, List.getD_eq_getElem?_getD, List.getElem?_append, List.length_take, List.getElem?_take, List.getElem?_drop, hm]
  by_cases h1 : i < off
  · simp only [if_pos h1]; rw [if_neg (by omega)]
  · rw [if_neg h1]
    by_cases h2 : i < off + cs.length
    · rw [if_pos (show i - off < cs.length by omega), if_pos (by omega)]
    · rw [if_neg (show ¬ i - off < cs.length by omega), if_neg (by omega)]; congr 2; omega
theorem splice_map {α β : Type} (f : α → β) (L : List α) (off : Nat) (cs : List α) : (splice L off cs).map f = splice (L.map f) off (cs.map f) := by
  simp [splice, List.map_take, List.map_drop]
theorem splice_nil {α : Type} (L : List α) (off : Nat) : splice L off [] = L := by simp [splice]
/- a piece of a row -/
def pieceF (bs : List UInt8) (p n : Nat) : List UInt8 := (bs.drop p).take n
theorem pieceF_len (bs : List UInt8) (p n : Nat) (h : p + n ≤ bs.length) : (pieceF bs p n).length = n := by simp [pieceF]; omega
theorem pieceF_get (bs : List UInt8) (p n i : Nat) (h : i < n) : (pieceF bs p n).getD i 0 = bs.getD (p + i) 0 := by
  simp only [pieceF, List.getD_eq_getElem?_getD, List.getElem?_take, List.getElem?_drop, if_pos h]
theorem same_row (a b : List UInt8) (hl : a.length = b.length) (h : ∀ i, i < a.length → a.getD i 0 = b.getD i 0) : a = b := by
  apply List.ext_getElem hl
  intro i h1 h2
  have := h i h1
  simpa [List.getD_eq_getElem?_getD, List.getElem?_eq_getElem h1, List.getElem?_eq_getElem h2] using this
def zeros (n : Nat) : List UInt8 := List.replicate n 0
theorem zeros_len (n : Nat) : (zeros n).length = n := by simp [zeros]
theorem zeros_get (n i : Nat) : (zeros n).getD i 0 = 0 := by
  simp only [zeros, List.getD_eq_getElem?_getD, List.getElem?_replicate]; split <;> rfl
/- what is not given out is 0 -/
def Clean (gl : List Bool) (bs : List UInt8) : Prop := ∀ k, k < gl.length → gl.getD k true = false → ∀ j, j < 64 → bs.getD (k * 64 + j) 0 = 0
theorem clean_new (n : Nat) : Clean (List.replicate n false) (zeros (n * 64)) := fun _ _ _ _ _ => zeros_get _ _
theorem Clean.give {gl : List Bool} {bs : List UInt8} (h : Clean gl bs) (k : Nat) : Clean (gl.set k true) bs := by
  intro i hi hf j hj
  rw [List.length_set] at hi
  rw [getD_set] at hf
  split at hf
  · cases hf
  · exact h i hi hf j hj
theorem Clean.back {gl : List Bool} {bs : List UInt8} (h : Clean gl bs) (k : Nat) (hk : k < gl.length) (hb : bs.length = gl.length * 64) : Clean (gl.set k false) (splice bs (k * 64) (zeros 64)) := by
  intro i hi hf j hj
  rw [List.length_set] at hi
  rw [splice_get _ _ _ _ _ (by rw [zeros_len]; omega), zeros_len]
  by_cases e : k = i
  · subst e; rw [if_pos (by omega)]; exact zeros_get _ _
  · rw [getD_set, if_neg (by omega)] at hf
    rw [if_neg (by omega)]; exact h i hi hf j hj
theorem Clean.lay {gl : List Bool} {bs : List UInt8} (h : Clean gl bs) (k at_ : Nat) (l : List UInt8) (hg : gl.getD k true = true) (hk : k < gl.length) (ha : at_ + l.length ≤ 64) (hb : bs.length = gl.length * 64) : Clean gl (splice bs (k * 64 + at_) l) := by
  intro i hi hf j hj
  rw [splice_get _ _ _ _ _ (by omega)]
  by_cases e : k = i
  · subst e; rw [hg] at hf; cases hf
  · rw [if_neg (by omega)]; exact h i hi hf j hj
end
end Go.Proofs.YtpbkjmkdciiccaaGreatDoor
namespace Go.Proofs.YtpbkjmkdciiccaaGreatDoor
section
open Go.RowKit
theorem addN (g o j : Nat) : Addr.add ⟨g, o, none⟩ j = ⟨g, o + j, none⟩ := by
  unfold Addr.add
  split
  · subst_vars; rfl
  · rfl
theorem foot_row (w : World) (g : Nat) (cs : Array Value) : Foot (fun k => k = g) w (w.setRow g cs) := ⟨rfl, rfl, rfl, by simp [World.setRow], fun k _ hn => setRow_other w g k cs (fun e => hn e)⟩
theorem bt_lo (l : List UInt8) (j : Nat) : 0 ≤ bt l j := by unfold bt; omega
theorem bt_hi (l : List UInt8) (j : Nat) : bt l j ≤ 255 := by unfold bt; have := (l.getD j 0).toNat_lt; omega
theorem cellsB_splice (l r : List UInt8) (p : Nat) : cellsB (splice l p r) = splice (cellsB l) p (cellsB r) := splice_map _ _ _ _
theorem cellsB_zeros (n : Nat) : cellsB (zeros n) = List.replicate n (.int .u8 0) := by simp [cellsB, zeros]
theorem owns_newB {w w' : World} {base n cap : Nat} {co : Option Addr} {xs : List Value} (h : w'.ownsRow base 5 1 (.slice co n cap) n xs) (hb : w.heap.size ≤ base) : New w co := by
  intro ad e
  rcases h.2 with ⟨hv, _⟩ | ⟨g, cap', cur, hv, hg, _⟩
  · cases hv; cases e
  · cases hv; cases e; exact Nat.le_trans hb hg
set_option maxHeartbeats 800000 in
theorem pclone_any (ao : Option Addr) (n cap : Nat) (l : List UInt8) (w : World) (hb : Bts w ao n cap l) (hr : n ≤ 140737488355328) :
    Calls Tryz.prog 86 #[.slice ao n cap] w fun e w' => ∃ co cc, e = .returned (.slice co n cc) ∧ Bts w' co n cc l ∧ New w co ∧ Below w.heap.size w w' := by
  have HB : Hid (Bts w ao n cap l) := hb
  clear hb
  cases ao with
  | none =>
    obtain ⟨rfl, rfl⟩ := HB.out.none rfl
    have he := run_eql_slice_nil (P := Tryz.prog) w 23 5 none 0 0 Tryz.underlying23
    go_enter Tryz.func86, Tryz.ntmps86
    go_wp2
    go_ret
    exact ⟨none, 0, rfl, HB.out, new_none _, Below.refl _ _⟩
  | some ad =>
    obtain ⟨i0, hi, hz0, hz1, hz2⟩ := info_parts Tryz.info5
    have hcm : cap ≤ 9223372036854775807 := HB.out.2.2.1
    have he := run_eql_slice_nil (P := Tryz.prog) w 23 5 (some ad) n cap Tryz.underlying23
    go_enter Tryz.func86, Tryz.ntmps86
    go_wp2_with (at_builtin; refine wpList_append_own _ rfl _ _ 23 rfl w.heap.size 5 i0 (.int .u8 0) 1 1 Tryz.underlying23 hi hz0 hz1 hz2 rfl (by decide) _ 0 [] rfl (own_empty w) ad n cap (cellsB l) rfl (by rw [cellsB_len]; have := HB.out.1; omega) ?c1 (cellsB_one l) (by unfold maxLen; omega) (by omega) ?c5 ?_)
    case c1 => exact (HB.out.carry (below_alloc w _)).news ad rfl
    case c5 => exact (below_alloc w _).size
    intro v' w2 hown2 hgrow2 _
    obtain ⟨co, cc, rfl, hb2⟩ := owns_bts hown2
    have HW : Hid (New w co) := owns_newB hown2 (Nat.le_refl _)
    have bel2 : Below w.heap.size w w2 := (below_alloc w (Obj.cells #[] 5)).grown hgrow2 (below_alloc w _).size (fun k e => by cases e; exact Nat.le_refl _)
    have HB2 : Hid (Bts w2 co n cc l) := hb2
    clear hown2 hgrow2 hb2
    go_wp2
    go_ret
    exact ⟨co, cc, rfl, HB2.out, HW.out, bel2⟩
end
end Go.Proofs.YtpbkjmkdciiccaaGreatDoor
namespace Go.Proofs.YtpbkjmkdciiccaaGreatDoor
section
open Go.RowKit
def boolsV (gl : List Bool) : Array Value := (gl.map Value.bool).toArray
/- a row of truths that fills a block -/
def RowT (w : World) (g : Nat) (gl : List Bool) : Prop := w.heap[g]? = some (.cells (gl.map Value.bool).toArray 4 (0, 0))
theorem RowT.cell {w : World} {g : Nat} {gl : List Bool} (h : RowT w g gl) (j : Nat) (hj : j < gl.length) : w.cell? ⟨g, j, none⟩ = some (.bool (gl.getD j true)) := by
  rw [cell_of_row w g j _ _ _ h]; simp [List.getElem?_eq_getElem hj, List.getD_eq_getElem?_getD]
theorem RowT.frozen {w : World} {g : Nat} {gl : List Bool} (h : RowT w g gl) (j : Nat) : w.frozen? ⟨g, j, none⟩ = false := frozen_of_row w g j _ _ h
theorem RowT.set {w : World} {g : Nat} {gl : List Bool} (h : RowT w g gl) (j : Nat) (v : Bool) : RowT (w.setCell ⟨g, j, none⟩ (.bool v)) g (gl.set j v) := by
  have := heap_setCell_same w g j _ 4 (.bool v) h
  rw [RowT, this]
  congr 2
  simp [List.map_set]
theorem row_bools (w : World) (n : Nat) : RowT (w.alloc (.cells (madeCells #[.bool false] n) 4)) w.heap.size (List.replicate n false) := by
  rw [RowT, heap_alloc_new]
  congr 2
  apply Array.ext'
  rw [toList_madeCells_one]; simp
theorem RowT.foot {S : Nat → Prop} {w w' : World} {g : Nat} {gl : List Bool} (h : RowT w g gl) (b : Foot S w w') (hS : ¬ S g) : RowT w' g gl := (b.block g (lt_of_heap h) hS).trans h
/- all bytes of all pages in a block -/
def RowP (w : World) (g : Nat) (bs : List UInt8) : Prop := w.heap[g]? = some (.cells (cellsB bs).toArray 179 (0, 0))
theorem RowP.foot {S : Nat → Prop} {w w' : World} {g : Nat} {bs : List UInt8} (h : RowP w g bs) (b : Foot S w w') (hS : ¬ S g) : RowP w' g bs := (b.block g (lt_of_heap h) hS).trans h
theorem RowP.cell {w : World} {g : Nat} {bs : List UInt8} (h : RowP w g bs) (j : Nat) (hj : j < bs.length) : w.cell? ⟨g, j, none⟩ = some (.int .u8 (bt bs j)) := by
  rw [cell_of_row w g j _ _ _ h]; simpa using cellsB_get bs j hj
/- a piece of a page, as a slice -/
theorem RowP.piece {w : World} {g : Nat} {bs : List UInt8} (h : RowP w g bs) (p n cap : Nat) (hp : p + n ≤ bs.length) (hc : n ≤ cap) (hm : cap ≤ maxLen) : Bts w (some ⟨g, p, none⟩) n cap (pieceF bs p n) := by
  refine ⟨(pieceF_len bs p n hp).symm, hc, hm, (fun e => by cases e), fun ad e j hj => ?_⟩
  obtain rfl := Option.some.inj e
  rw [pieceF_len bs p n hp] at hj
  rw [addN, h.cell (p + j) (by omega)]
  unfold bt; rw [pieceF_get bs p n j hj]
structure MemAt (w : World) (m a b n : Nat) (gl : List Bool) (bs : List UInt8) : Prop where
  box : w.heap[m]? = some (.cells #[.slice (some ⟨a, 0, none⟩) n n, .slice (some ⟨b, 0, none⟩) n n] 140 (0, 0))
  giv : RowT w a gl
  byt : RowP w b bs
  num : gl.length = n
  few : n ≤ 4096
  len : bs.length = n * 64
  clean : Clean gl bs
variable {w w' : World} {m a b n : Nat} {gl : List Bool} {bs : List UInt8}
theorem MemAt.c0 (x : MemAt w m a b n gl bs) : w.cell? ⟨m, 0, none⟩ = some (.slice (some ⟨a, 0, none⟩) n n) := by rw [cell_of_row w m 0 _ _ _ x.box]; rfl
theorem MemAt.c1 (x : MemAt w m a b n gl bs) : w.cell? ⟨m, 1, none⟩ = some (.slice (some ⟨b, 0, none⟩) n n) := by rw [cell_of_row w m 1 _ _ _ x.box]; rfl
theorem MemAt.ma (x : MemAt w m a b n gl bs) : m ≠ a := by intro e; have := x.giv; rw [RowT, ← e, x.box] at this; simp at this
theorem MemAt.mb (x : MemAt w m a b n gl bs) : m ≠ b := by intro e; have := x.byt; rw [RowP, ← e, x.box] at this; simp at this
theorem MemAt.ab (x : MemAt w m a b n gl bs) : a ≠ b := by
  intro e
  have h1 := x.byt
  have h2 := x.giv
  rw [RowP] at h1; rw [RowT, e, h1] at h2; simp at h2
theorem MemAt.drewN (x : MemAt w m a b n gl bs) (q : Nat) : MemAt (w.drewN q) m a b n gl bs := ⟨x.box, x.giv, x.byt, x.num, x.few, x.len, x.clean⟩
theorem MemAt.foot {S : Nat → Prop} (x : MemAt w m a b n gl bs) (f : Foot S w w') (hm : ¬ S m) (ha : ¬ S a) (hb : ¬ S b) : MemAt w' m a b n gl bs :=
  ⟨(f.block m (lt_of_heap x.box) hm).trans x.box, x.giv.foot f ha, x.byt.foot f hb, x.num, x.few, x.len, x.clean⟩
theorem MemAt.grow (x : MemAt w m a b n gl bs) (f : Below w.heap.size w w') : MemAt w' m a b n gl bs := x.foot (below_foot (fun _ => False) f) id id id
/- a page is given out, or taken back -/
theorem MemAt.give (x : MemAt w m a b n gl bs) (k : Nat) : MemAt (w.setCell ⟨a, k, none⟩ (.bool true)) m a b n (gl.set k true) bs :=
  ⟨by rw [heap_setCell_other w ⟨a, k, none⟩ m _ x.ma]; exact x.box, x.giv.set k true, by rw [RowP, heap_setCell_other w ⟨a, k, none⟩ b _ x.ab.symm]; exact x.byt, by rw [List.length_set]; exact x.num, x.few, x.len, x.clean.give k⟩
/- the bytes of pages are laid anew -/
theorem MemAt.lay (x : MemAt w m a b n gl bs) (bs' : List UInt8) (hl : bs'.length = n * 64) (hc : Clean gl bs') : MemAt (w.setRow b (cellsB bs').toArray) m a b n gl bs' :=
  ⟨by rw [setRow_other w b m _ x.mb]; exact x.box, by rw [RowT, setRow_other w b a _ x.ab]; exact x.giv, setRow_heap w b _ _ _ _ x.byt, x.num, x.few, hl, hc⟩
/- what a call on a memory may turn -/
def MemS (a b : Nat) (k : Nat) : Prop := k = a ∨ k = b
end
end Go.Proofs.YtpbkjmkdciiccaaGreatDoor
namespace Go.Proofs.YtpbkjmkdciiccaaGreatDoor
section
open Go.RowKit
def IdxRel (gl : List Bool) (n gk : Nat) (i : Value) : Prop := ∃ k : Nat, k + gk = n ∧ i = .int .i64 k ∧ Hid (∀ i, i < k → gl.getD i true = true)
set_option maxHeartbeats 800000 in
theorem pindex_any (a n : Nat) (gl : List Bool) (w : World) (h : RowT w a gl) (hn : gl.length = n) (hm : n ≤ 4096) :
    Calls Tryz.prog 95 #[.slice (some ⟨a, 0, none⟩) n n, .bool false] w fun e w' => e = .returned (.int .i64 (if lowF gl < n then (lowF gl : Int) else -1)) ∧ w' = w := by
  have H := hide h
  have HN := hide hn
  clear h hn
  obtain ⟨z, hz⟩ : ∃ z : Int, (if lowF gl < n then (lowF gl : Int) else -1) = z := ⟨_, rfl⟩
  rw [hz]
  have HZ := hide hz
  clear hz
  go_enter Tryz.func95, Tryz.ntmps95
  go_wp2
  go_loopg [8] n (fun gk i wr => IdxRel gl n gk i ∧ wr = w)
  case atStart => exact ⟨⟨0, by omega, rfl, fun i hi => by omega⟩, rfl⟩
  case round =>
    obtain ⟨⟨k, hk, rfl, HK⟩, rfl⟩ := hrel
    cases gk with
    | zero =>
      have hlt : ¬ ((k : Int) < (n : Int)) := by omega
      go_wp2
      go_ret
      refine ⟨?_, rfl⟩
      rw [← HZ.out, lowF_is gl k (by rw [HN.out]; omega) HK.out (fun h => by rw [HN.out] at h; omega), if_neg (by omega)]; rfl
    | succ g1 =>
      have hlt : ((k : Int) < (n : Int)) := by omega
      have hkl : k < gl.length := by rw [HN.out]; omega
      have hc := H.out.cell k hkl
      cases hb : gl.getD k true with
      | true =>
        rw [hb] at hc
        have HB := hide hb
        clear hb
        go_wp2
        go_roundg g1
        case measure => omega
        case rel => exact ⟨⟨k + 1, by omega, by go_num, fun i hi => by
          by_cases e : i = k
          · rw [e]; exact HB.out
          · exact HK.out i (by omega)⟩, rfl⟩
      | false =>
        rw [hb] at hc
        have HB := hide hb
        clear hb
        go_wp2
        go_ret
        refine ⟨?_, rfl⟩
        rw [← HZ.out, lowF_is gl k (by rw [HN.out]; omega) HK.out (fun _ => HB.out), if_pos (by omega)]; rfl
/- is page k given out -/
def hasF (gl : List Bool) (k : Int) : Bool := decide (0 ≤ k ∧ k < (gl.length : Int)) && gl.getD k.toNat false
theorem hasF_nat (gl : List Bool) (k : Nat) : hasF gl (k : Int) = (decide (k < gl.length) && gl.getD k true) := by
  unfold hasF
  by_cases h : k < gl.length
  · simp [h, List.getD_eq_getElem?_getD]
  · simp [h]
theorem hasF_yes {gl : List Bool} {k : Int} (h : hasF gl k = true) : ∃ j : Nat, k = (j : Int) ∧ j < gl.length ∧ gl.getD j true = true := by
  unfold hasF at h
  simp only [Bool.and_eq_true, decide_eq_true_eq] at h
  obtain ⟨⟨h1, h2⟩, h3⟩ := h
  refine ⟨k.toNat, by omega, by omega, ?_⟩
  have hl : k.toNat < gl.length := by omega
  simpa [List.getD_eq_getElem?_getD, List.getElem?_eq_getElem hl] using h3
set_option maxHeartbeats 800000 in
theorem phas_any (m a b n : Nat) (gl : List Bool) (bs : List UInt8) (k : Int) (w : World) (M : MemAt w m a b n gl bs) :
    Calls Tryz.prog 82 #[.pointer (some ⟨m, 0, none⟩), .int .i64 k] w fun e w' => e = .returned (.bool (hasF gl k)) ∧ w' = w := by
  have H := hide M
  have hn : n ≤ 4096 := M.few
  have c0 := M.c0
  obtain ⟨z, hz⟩ : ∃ z, hasF gl k = z := ⟨_, rfl⟩
  rw [hz]
  have HZ := hide hz
  clear hz M
  by_cases h0 : 0 ≤ k
  · obtain ⟨j, rfl⟩ := Int.eq_ofNat_of_zero_le h0
    by_cases h1 : (j : Int) < (n : Int)
    · have hj : j < gl.length := by rw [H.out.num]; omega
      have hc := H.out.giv.cell j hj
      obtain ⟨y, hy⟩ : ∃ y, gl.getD j true = y := ⟨_, rfl⟩
      rw [hy] at hc
      have HY := hide hy
      clear hy
      go_enter Tryz.func82, Tryz.ntmps82
      go_wp2
      go_ret
      refine ⟨?_, rfl⟩
      rw [← HZ.out, hasF_nat, HY.out, decide_eq_true hj]; simp
    · go_enter Tryz.func82, Tryz.ntmps82
      go_wp2
      go_ret
      refine ⟨?_, rfl⟩
      rw [← HZ.out, hasF_nat, decide_eq_false (by rw [H.out.num]; omega)]; simp
  · go_enter Tryz.func82, Tryz.ntmps82
    go_wp2
    go_ret
    refine ⟨?_, rfl⟩
    rw [← HZ.out]; unfold hasF; rw [decide_eq_false (by omega)]; simp
/- what Read and Write tell of a page and a piece of it -/
def errV (a : Int) : Value := .iface 43 (.int .i64 a)
def fitsF (at_ n : Int) : Bool := decide (0 ≤ at_ ∧ 0 ≤ n ∧ n ≤ 64 - at_)
def wrongV (gl : List Bool) (k at_ n : Int) : Value := if hasF gl k then (if fitsF at_ n then .nilIface else errV 13) else errV 4
set_option maxHeartbeats 800000 in
theorem wrong_any (m a b n : Nat) (gl : List Bool) (bs : List UInt8) (k p l : Int) (w : World) (M : MemAt w m a b n gl bs) (hp : -9223372036854775808 ≤ p ∧ p ≤ 9223372036854775807) :
    Calls Tryz.prog 85 #[.pointer (some ⟨m, 0, none⟩), .int .i64 k, .int .i64 p, .int .i64 l] w fun e w' => e = .returned (wrongV gl k p l) ∧ w' = w := by
  have H := hide M
  clear M
  obtain ⟨z, hz⟩ : ∃ z, wrongV gl k p l = z := ⟨_, rfl⟩
  rw [hz]
  have HZ := hide hz
  clear hz
  unfold wrongV at HZ
  cases hh : hasF gl k with
  | false =>
    have HH := hide hh
    have HE := HZ.out
    rw [hh] at HE
    simp only [Bool.false_eq_true, if_false] at HE
    subst HE
    clear hh HZ
    unfold errV
    go_enter Tryz.func85, Tryz.ntmps85
    go_wp2_with fail
    refine (phas_any m a b n gl bs k _ H.out).mono ?_; rintro e w1 ⟨rfl, rfl⟩
    rw [HH.out]
    go_wp2
    go_ret
    exact ⟨rfl, rfl⟩
  | true =>
    have HH := hide hh
    have HE := HZ.out
    rw [hh] at HE
    simp only [if_true] at HE
    clear hh HZ
    by_cases h0 : 0 ≤ p
    · by_cases h1 : 0 ≤ l
      · by_cases h2 : l ≤ 64 - p
        · rw [show fitsF p l = true from decide_eq_true ⟨h0, h1, h2⟩, if_pos rfl] at HE
          subst HE
          go_enter Tryz.func85, Tryz.ntmps85
          go_wp2_with fail
          refine (phas_any m a b n gl bs k _ H.out).mono ?_; rintro e w1 ⟨rfl, rfl⟩
          rw [HH.out]
          go_wp2
          go_ret
          exact ⟨rfl, rfl⟩
        · rw [show fitsF p l = false from decide_eq_false (by omega)] at HE
          simp only [Bool.false_eq_true, if_false] at HE
          subst HE
          unfold errV
          go_enter Tryz.func85, Tryz.ntmps85
          go_wp2_with fail
          refine (phas_any m a b n gl bs k _ H.out).mono ?_; rintro e w1 ⟨rfl, rfl⟩
          rw [HH.out]
          go_wp2
          go_ret
          exact ⟨rfl, rfl⟩
      · rw [show fitsF p l = false from decide_eq_false (by omega)] at HE
        simp only [Bool.false_eq_true, if_false] at HE
        subst HE
        unfold errV
        go_enter Tryz.func85, Tryz.ntmps85
        go_wp2_with fail
        refine (phas_any m a b n gl bs k _ H.out).mono ?_; rintro e w1 ⟨rfl, rfl⟩
        rw [HH.out]
        go_wp2
        go_ret
        exact ⟨rfl, rfl⟩
    · rw [show fitsF p l = false from decide_eq_false (by omega)] at HE
      simp only [Bool.false_eq_true, if_false] at HE
      subst HE
      unfold errV
      go_enter Tryz.func85, Tryz.ntmps85
      go_wp2_with fail
      refine (phas_any m a b n gl bs k _ H.out).mono ?_; rintro e w1 ⟨rfl, rfl⟩
      rw [HH.out]
      go_wp2
      go_ret
      exact ⟨rfl, rfl⟩
def LeftRel (gl : List Bool) (n gk : Nat) (s i : Value) : Prop := ∃ k c : Nat, k + gk = n ∧ i = .int .i64 k ∧ s = .int .i64 c ∧ c ≤ k ∧ Hid (leftF (gl.take k) = c)
set_option maxHeartbeats 800000 in
theorem pleft_any (m a b n : Nat) (gl : List Bool) (bs : List UInt8) (w : World) (M : MemAt w m a b n gl bs) :
    Calls Tryz.prog 83 #[.pointer (some ⟨m, 0, none⟩)] w fun e w' => e = .returned (.int .i64 (leftF gl : Int)) ∧ w' = w := by
  have H := hide M
  have hn : n ≤ 4096 := M.few
  have c0 := M.c0
  clear M
  obtain ⟨z, hz⟩ : ∃ z, leftF gl = z := ⟨_, rfl⟩
  rw [hz]
  have HZ := hide hz
  clear hz
  go_enter Tryz.func83, Tryz.ntmps83
  go_wp2
  go_loopg [3, 11] n (fun gk s i wr => LeftRel gl n gk s i ∧ wr = w)
  case atStart => exact ⟨⟨0, 0, by omega, rfl, rfl, by omega, rfl⟩, rfl⟩
  case round =>
    obtain ⟨⟨k, c, hk, rfl, rfl, hck, HC⟩, rfl⟩ := hrel
    cases gk with
    | zero =>
      have hlt : ¬ ((k : Int) < (n : Int)) := by omega
      go_wp2
      go_ret
      refine ⟨?_, rfl⟩
      rw [← HZ.out, ← HC.out, List.take_of_length_le (by rw [H.out.num]; omega)]; rfl
    | succ g1 =>
      have hlt : ((k : Int) < (n : Int)) := by omega
      have hkl : k < gl.length := by rw [H.out.num]; omega
      have hc := H.out.giv.cell k hkl
      have HT := hide (leftF_take gl k hkl)
      cases hb : gl.getD k true with
      | true =>
        rw [hb] at hc HT
        clear hb
        go_wp2
        go_roundg g1
        case measure => omega
        case rel => exact ⟨⟨k + 1, c, by omega, by go_num, rfl, by omega, by show _ = _; rw [HT.out, HC.out]; rfl⟩, rfl⟩
      | false =>
        rw [hb] at hc HT
        clear hb
        go_wp2
        go_roundg g1
        case measure => omega
        case rel => exact ⟨⟨k + 1, c + 1, by omega, by go_num, by go_num, by omega, by show _ = _; rw [HT.out, HC.out]; rfl⟩, rfl⟩
end
end Go.Proofs.YtpbkjmkdciiccaaGreatDoor
namespace Go.Proofs.YtpbkjmkdciiccaaGreatDoor
section
open Go.RowKit
set_option maxHeartbeats 800000 in
theorem alloc_no (m a b n : Nat) (gl : List Bool) (bs : List UInt8) (w : World) (M : MemAt w m a b n gl bs) (hl : lowF gl = n) :
    Calls Tryz.prog 84 #[.pointer (some ⟨m, 0, none⟩)] w fun e w' => e = .returned (.tuple #[.int .i64 0, errV 6]) ∧ w' = w := by
  have H := hide M
  have c0 := M.c0
  have HL := hide (show (if lowF gl < n then (lowF gl : Int) else -1) = -1 from if_neg (by omega))
  clear M hl
  unfold errV
  go_enter Tryz.func84, Tryz.ntmps84
  go_wp2_with fail
  refine (pindex_any a n gl _ H.out.giv H.out.num H.out.few).mono ?_; rintro e w1 ⟨rfl, rfl⟩
  rw [HL.out]
  go_wp2
  go_ret2
  exact ⟨rfl, rfl⟩
set_option maxHeartbeats 800000 in
theorem alloc_yes (m a b n k : Nat) (gl : List Bool) (bs : List UInt8) (w : World) (M : MemAt w m a b n gl bs) (hl : lowF gl = k) (hk : k < n) :
    Calls Tryz.prog 84 #[.pointer (some ⟨m, 0, none⟩)] w fun e w' => e = .returned (.tuple #[.int .i64 (k : Int), .nilIface]) ∧ MemAt w' m a b n (gl.set k true) bs ∧ Foot (MemS a b) w w' := by
  have H := hide M
  have c0 := M.c0
  have hn : n ≤ 4096 := M.few
  have HL := hide (show (if lowF gl < n then (lowF gl : Int) else -1) = (k : Int) by rw [hl, if_pos hk])
  have hkl : k < gl.length := by rw [M.num]; exact hk
  have hc := M.giv.cell k hkl
  have hf := M.giv.frozen k
  clear M hl
  go_enter Tryz.func84, Tryz.ntmps84
  go_wp2_with fail
  refine (pindex_any a n gl _ H.out.giv H.out.num H.out.few).mono ?_; rintro e w1 ⟨rfl, rfl⟩
  rw [HL.out]
  go_wp2
  go_ret2
  exact ⟨rfl, H.out.give k, (foot_set _ _ _).mono fun _ e => .inl e⟩
theorem Tryz.zeroPage (w : World) : (zeroValue 179).run Tryz.prog w = .ok (.agg (List.replicate 64 (.int .u8 0)).toArray) w := by kernel_rfl
theorem Tryz.sizePage : (Tryz.prog.info? 179).map (·.size) = some 64 := by kernel_rfl
def pageC : Array Value := (List.replicate 64 (Value.int .u8 0)).toArray
theorem store_page (w : World) (b k : Nat) (bs : List UInt8) (h : RowP w b bs) (hk : k * 64 + 64 ≤ bs.length) :
    (storeCells ⟨b, k * 64, none⟩ pageC.toList).run Tryz.prog w = .ok () (w.setRow b (cellsB (splice bs (k * 64) (zeros 64))).toArray) := by
  have hst := run_storeCells_at Tryz.prog b (k * 64) 179 (List.replicate 64 (.int .u8 0)) 0 (cellsB bs).toArray w h (by simp [cellsB_len]; exact hk) (by intro v hv; obtain rfl := (List.mem_replicate.1 hv).2; rfl)
  rw [cellsB_splice, cellsB_zeros]
  simp only [splice, List.length_replicate] at hst ⊢
  simpa [pageC] using hst
theorem MemAt.take {w : World} {m a b n k : Nat} {gl : List Bool} {bs : List UInt8} (x : MemAt w m a b n gl bs) (hk : k < gl.length) :
    MemAt ((w.setCell ⟨a, k, none⟩ (.bool false)).setRow b (cellsB (splice bs (k * 64) (zeros 64))).toArray) m a b n (gl.set k false) (splice bs (k * 64) (zeros 64)) := by
  have hl : (splice bs (k * 64) (zeros 64)).length = n * 64 := by rw [length_splice _ _ _ (by rw [zeros_len]; have := x.len; have := x.num; omega)]; exact x.len
  refine ⟨?_, ?_, ?_, by rw [List.length_set]; exact x.num, x.few, hl, x.clean.back k hk (by rw [x.num]; exact x.len)⟩
  · rw [setRow_other _ b m _ x.mb, heap_setCell_other w ⟨a, k, none⟩ m _ x.ma]; exact x.box
  · rw [RowT, setRow_other _ b a _ x.ab]; exact x.giv.set k false
  · exact setRow_heap _ b (cellsB bs).toArray _ _ _ (by rw [heap_setCell_other w ⟨a, k, none⟩ b _ x.ab.symm]; exact x.byt)
set_option maxHeartbeats 800000 in
theorem free_no (m a b n : Nat) (gl : List Bool) (bs : List UInt8) (k : Int) (w : World) (M : MemAt w m a b n gl bs) (hh : hasF gl k = false) :
    Calls Tryz.prog 65 #[.pointer (some ⟨m, 0, none⟩), .int .i64 k] w fun e w' => e = .returned (errV 4) ∧ w' = w := by
  have H := hide M
  have HH := hide hh
  clear M hh
  unfold errV
  go_enter Tryz.func65, Tryz.ntmps65
  go_wp2_with fail
  refine (phas_any m a b n gl bs k _ H.out).mono ?_; rintro e w1 ⟨rfl, rfl⟩
  rw [HH.out]
  go_wp2
  go_ret
  exact ⟨rfl, rfl⟩
set_option maxHeartbeats 800000 in
theorem free_yes (m a b n k : Nat) (gl : List Bool) (bs : List UInt8) (w : World) (M : MemAt w m a b n gl bs) (hk : k < n) (hg : gl.getD k true = true) :
    Calls Tryz.prog 65 #[.pointer (some ⟨m, 0, none⟩), .int .i64 (k : Int)] w fun e w' => e = .returned .nilIface ∧ MemAt w' m a b n (gl.set k false) (splice bs (k * 64) (zeros 64)) ∧ Foot (MemS a b) w w' := by
  have H := hide M
  have c0 := M.c0
  have hn : n ≤ 4096 := M.few
  have hkl : k < gl.length := by rw [M.num]; exact hk
  have HH := hide (show hasF gl (k : Int) = true by rw [hasF_nat, decide_eq_true hkl, hg]; rfl)
  have hc := M.giv.cell k hkl
  have hf := M.giv.frozen k
  have hbl : k * 64 + 64 ≤ bs.length := by have := M.len; omega
  obtain ⟨Z, hZ⟩ : ∃ Z, pageC = Z := ⟨_, rfl⟩
  have zp : ∀ w, (zeroValue 179).run Tryz.prog w = .ok (.agg pageC) w := Tryz.zeroPage
  rw [hZ] at zp
  have zs : Z.size = 64 := by rw [← hZ]; rfl
  obtain ⟨X, hX⟩ : ∃ X, w.setCell ⟨a, k, none⟩ (.bool false) = X := ⟨_, rfl⟩
  have x1 : X.cell? ⟨m, 1, none⟩ = some (.slice (some ⟨b, 0, none⟩) n n) := by
    rw [← hX]; exact ((foot_set w ⟨a, k, none⟩ _).cell ⟨m, 1, none⟩ (lt_of_heap M.box) M.ma).trans M.c1
  have hst := store_page X b k bs (by rw [← hX]; rw [RowP, heap_setCell_other w ⟨a, k, none⟩ b _ M.ab.symm]; exact M.byt) hbl
  rw [hZ] at hst
  have HM := hide (MemAt.take M hkl)
  rw [hX] at HM
  have HF : Hid (Foot (MemS a b) w X) := by rw [← hX]; exact (foot_set _ _ _).mono fun _ e => .inl e
  clear M hg hZ
  go_enter Tryz.func65, Tryz.ntmps65
  go_wp2_with fail
  refine (phas_any m a b n gl bs _ _ H.out).mono ?_; rintro e w1 ⟨rfl, rfl⟩
  rw [HH.out]
  go_wp2
  go_ret
  exact ⟨rfl, HM.out, HF.out.then ((foot_row X b _).mono fun _ e => .inr e)⟩
end
end Go.Proofs.YtpbkjmkdciiccaaGreatDoor
namespace Go.Proofs.YtpbkjmkdciiccaaGreatDoor
section
open Go.RowKit
/- a piece of a page as a slice: where it begins -/
def cutA (b o p : Nat) : Addr := if p = 64 then ⟨b, o, none⟩ else ⟨b, o + p, none⟩
theorem cut_lh (w : World) (b o p l : Nat) (h : p + l ≤ 64) : (Instr.sliceAt 179 (.pointer (some ⟨b, o, none⟩)) (some (.int .i64 (p : Int))) (some (.int .i64 ((p : Int) + (l : Int)))) none).run Tryz.prog w = .ok (.slice (some (cutA b o p)) l (64 - p)) w := by
  have ht : Tryz.prog.underlying 179 = some (.array (Tryz.prog.arrayLen 179) (Tryz.prog.elem 179)) := by simp [Program.arrayLen, Program.elem, Tryz.underlying179]
  have h64 : Tryz.prog.arrayLen 179 = 64 := by simp [Program.arrayLen, Tryz.underlying179]
  have he : Tryz.prog.elem 179 = 5 := by simp [Program.elem, Tryz.underlying179]
  rw [run_sliceAt_array_lh (P := Tryz.prog) w 179 ⟨b, o, none⟩ ht .i64 .i64 (p : Int) ((p : Int) + (l : Int)) (by omega) (by omega) (by rw [h64]; omega), he, Tryz.sizeByte]
  simp only [Result.andThen, slicedAt, h64, cutA, addN, Nat.mul_one, Int.toNat_natCast]
  rw [show ((p : Int) + (l : Int)).toNat = p + l by omega, show p + l - p = l by omega]
  by_cases e : p = 64
  · subst e; rfl
  · rw [if_neg (by omega), if_neg e]
theorem cut_l (w : World) (b o p : Nat) (h : p ≤ 64) : (Instr.sliceAt 179 (.pointer (some ⟨b, o, none⟩)) (some (.int .i64 (p : Int))) none none).run Tryz.prog w = .ok (.slice (some (cutA b o p)) (64 - p) (64 - p)) w := by
  have ht : Tryz.prog.underlying 179 = some (.array (Tryz.prog.arrayLen 179) (Tryz.prog.elem 179)) := by simp [Program.arrayLen, Program.elem, Tryz.underlying179]
  have h64 : Tryz.prog.arrayLen 179 = 64 := by simp [Program.arrayLen, Tryz.underlying179]
  have he : Tryz.prog.elem 179 = 5 := by simp [Program.elem, Tryz.underlying179]
  rw [run_sliceAt_array_l (P := Tryz.prog) w 179 ⟨b, o, none⟩ ht .i64 (p : Int) (by omega) (by rw [h64]; omega), he, Tryz.sizeByte]
  simp only [Result.andThen, slicedAt, h64, cutA, addN, Nat.mul_one, Int.toNat_natCast]
  by_cases e : p = 64
  · subst e; rfl
  · rw [if_neg (by omega), if_neg e]
theorem cut_bts {w : World} {b : Nat} {bs : List UInt8} (h : RowP w b bs) (k p l : Nat) (hk : k * 64 + 64 ≤ bs.length) (hl : p + l ≤ 64) : Bts w (some (cutA b (k * 64) p)) l (64 - p) (pieceF bs (k * 64 + p) l) := by
  unfold cutA
  by_cases e : p = 64
  · subst e
    obtain rfl : l = 0 := by omega
    rw [if_pos rfl]
    refine ⟨by simp [pieceF], by omega, by unfold maxLen; omega, (fun e => by cases e), fun ad e j hj => ?_⟩
    simp [pieceF] at hj
  · rw [if_neg e]
    exact h.piece (k * 64 + p) l (64 - p) (by omega) (by omega) (by unfold maxLen; omega)
theorem Tryz.oneByte : (Tryz.prog.info? 5).map (·.size) = some 1 := by kernel_rfl
theorem copy_page {w : World} {b : Nat} {bs : List UInt8} (h : RowP w b bs) (k p : Nat) (hk : k * 64 + 64 ≤ bs.length) {so : Option Addr} {sn sc : Nat} {l : List UInt8} (hb : Bts w so sn sc l) (hl : p + sn ≤ 64) :
    (Builtin.copy_ #[23, 23] 3 #[.slice (some (cutA b (k * 64) p)) (64 - p) (64 - p), .slice so sn sc]).run Tryz.prog w = .ok (goInt sn) (w.setRow b (cellsB (splice bs (k * 64 + p) l)).toArray) := by
  have hll := hb.1
  by_cases h0 : sn = 0
  · subst h0
    obtain rfl : l = [] := List.eq_nil_of_length_eq_zero hll.symm
    rw [splice_nil, setRow_self w b _ _ _ h]
    exact run_copy_none (P := Tryz.prog) w 23 23 3 5 _ _ _ _ _ _ Tryz.underlying23 Tryz.oneByte (Nat.zero_min _)
  · cases so with
    | none => have := hb.none rfl; omega
    | some ad =>
      have hc : cutA b (k * 64) p = ⟨b, k * 64 + p, none⟩ := by unfold cutA; rw [if_neg (by omega)]
      have hlen : (cellsB l).length = sn := by rw [cellsB_len]; exact hll.symm
      have := run_copy_row (P := Tryz.prog) w 23 23 3 5 b (k * 64 + p) (64 - p) (64 - p) ad sn sc (cellsB bs).toArray 179 (cellsB l) Tryz.underlying23 Tryz.oneByte h
        (by rw [hlen]; show sn = min sn (64 - p); omega) (hb.news ad rfl) (by rw [hlen]; simp [cellsB_len]; omega) (cellsB_one l)
      rw [hc, this, hlen, cellsB_splice, splice, hlen, List.append_assoc]
theorem hasF_is {gl : List Bool} {k : Nat} (hk : k < gl.length) (hg : gl.getD k true = true) : hasF gl (k : Int) = true := by rw [hasF_nat, decide_eq_true hk, hg]; rfl
theorem wrongV_has {gl : List Bool} {k : Int} (p l : Int) (h : hasF gl k = false) : wrongV gl k p l = errV 4 := by unfold wrongV; rw [h]; rfl
theorem wrongV_fits {gl : List Bool} {k p l : Int} (h : hasF gl k = true) (h2 : fitsF p l = false) : wrongV gl k p l = errV 13 := by unfold wrongV; rw [h, h2]; rfl
set_option maxHeartbeats 800000 in
theorem read_no (m a b n : Nat) (gl : List Bool) (bs : List UInt8) (k p l z : Int) (w : World) (M : MemAt w m a b n gl bs) (hp : -9223372036854775808 ≤ p ∧ p ≤ 9223372036854775807) (hw : wrongV gl k p l = errV z) :
    Calls Tryz.prog 70 #[.pointer (some ⟨m, 0, none⟩), .int .i64 k, .int .i64 p, .int .i64 l] w fun e w' => e = .returned (.tuple #[.slice none 0 0, errV z]) ∧ w' = w := by
  have H := hide M
  have HW := hide hw
  clear M hw
  unfold errV at *
  go_enter Tryz.func70, Tryz.ntmps70
  go_wp2_with fail
  refine (wrong_any m a b n gl bs k p l _ H.out hp).mono ?_; rintro e w1 ⟨rfl, rfl⟩
  rw [HW.out]
  go_wp2
  go_ret2
  exact ⟨rfl, rfl⟩
set_option maxHeartbeats 800000 in
theorem write_no (m a b n : Nat) (gl : List Bool) (bs : List UInt8) (k p z : Int) (so : Option Addr) (sn sc : Nat) (w : World) (M : MemAt w m a b n gl bs) (hp : -9223372036854775808 ≤ p ∧ p ≤ 9223372036854775807) (_hs : sn ≤ maxLen) (hw : wrongV gl k p (sn : Int) = errV z) :
    Calls Tryz.prog 71 #[.pointer (some ⟨m, 0, none⟩), .int .i64 k, .int .i64 p, .slice so sn sc] w fun e w' => e = .returned (errV z) ∧ w' = w := by
  have H := hide M
  have HW := hide hw
  unfold maxLen at _hs
  clear M hw
  unfold errV at *
  go_enter Tryz.func71, Tryz.ntmps71
  go_wp2_with fail
  refine (wrong_any m a b n gl bs k p sn _ H.out hp).mono ?_; rintro e w1 ⟨rfl, rfl⟩
  rw [HW.out]
  go_wp2
  go_ret
  exact ⟨rfl, rfl⟩
set_option maxHeartbeats 1600000 in
theorem read_yes (m a b n k p l : Nat) (gl : List Bool) (bs : List UInt8) (w : World) (M : MemAt w m a b n gl bs) (hk : k < n) (hg : gl.getD k true = true) (hl : p + l ≤ 64) :
    Calls Tryz.prog 70 #[.pointer (some ⟨m, 0, none⟩), .int .i64 (k : Int), .int .i64 (p : Int), .int .i64 (l : Int)] w fun e w' =>
      ∃ co cc, e = .returned (.tuple #[.slice co l cc, .nilIface]) ∧ Bts w' co l cc (pieceF bs (k * 64 + p) l) ∧ New w co ∧ Below w.heap.size w w' := by
  have H := hide M
  have c1 := M.c1
  have hn : n ≤ 4096 := M.few
  have HW := hide (show wrongV gl (k : Int) (p : Int) (l : Int) = .nilIface by
    unfold wrongV; rw [hasF_is (by rw [M.num]; exact hk) hg, show fitsF p l = true from decide_eq_true (by omega)]; rfl)
  have hbl : k * 64 + 64 ≤ bs.length := by have := M.len; omega
  have HL := hide hbl
  clear M hg hbl
  have hcut := cut_lh w b (k * 64) p l hl
  go_enter Tryz.func70, Tryz.ntmps70
  go_wp2_with fail
  refine (wrong_any m a b n gl bs _ _ _ _ H.out (by omega)).mono ?_; rintro e w1 ⟨rfl, rfl⟩
  rw [HW.out]
  go_wp2_with fail
  refine (pclone_any _ _ _ _ _ (cut_bts H.out.byt k p l HL.out hl) (by omega)).mono ?_; rintro e w2 ⟨co, cc, rfl, hb2, hnew, bel⟩
  have HB := hide hb2
  have HN := hide hnew
  clear hb2 hnew
  go_wp2
  go_ret2
  exact ⟨co, cc, rfl, HB.out, HN.out, bel⟩
set_option maxHeartbeats 1600000 in
theorem write_yes (m a b n k p : Nat) (gl : List Bool) (bs : List UInt8) (so : Option Addr) (sn sc : Nat) (l : List UInt8) (w : World) (M : MemAt w m a b n gl bs) (hk : k < n) (hg : gl.getD k true = true) (hb : Bts w so sn sc l) (hl : p + sn ≤ 64) :
    Calls Tryz.prog 71 #[.pointer (some ⟨m, 0, none⟩), .int .i64 (k : Int), .int .i64 (p : Int), .slice so sn sc] w fun e w' =>
      e = .returned .nilIface ∧ MemAt w' m a b n gl (splice bs (k * 64 + p) l) ∧ Foot (MemS a b) w w' := by
  have H := hide M
  have HB := hide hb
  have c1 := M.c1
  have hn : n ≤ 4096 := M.few
  have HW := hide (show wrongV gl (k : Int) (p : Int) (sn : Int) = .nilIface by
    unfold wrongV; rw [hasF_is (by rw [M.num]; exact hk) hg, show fitsF p sn = true from decide_eq_true (by omega)]; rfl)
  have hbl : k * 64 + 64 ≤ bs.length := by have := M.len; omega
  have HL := hide hbl
  have HG := hide hg
  clear M hg hbl hb
  have hcut := cut_l w b (k * 64) p (by omega)
  have hsc : sn ≤ 9223372036854775807 := by omega
  have hcopy := copy_page H.out.byt k p HL.out HB.out hl
  obtain ⟨bs', hbs⟩ : ∃ x, splice bs (k * 64 + p) l = x := ⟨_, rfl⟩
  rw [hbs] at hcopy
  rw [hbs]
  have hll := HB.out.1
  have HM : Hid (MemAt (w.setRow b (cellsB bs').toArray) m a b n gl bs') :=
    H.out.lay bs' (by rw [← hbs, length_splice _ _ _ (by have := HL.out; omega)]; exact H.out.len) (by rw [← hbs]; exact H.out.clean.lay k p l HG.out (by rw [H.out.num]; exact hk) (by omega) (by rw [H.out.num]; exact H.out.len))
  obtain ⟨X, hX⟩ : ∃ X, w.setRow b (cellsB bs').toArray = X := ⟨_, rfl⟩
  have HF : Hid (Foot (MemS a b) w X) := by rw [← hX]; exact (foot_row w b _).mono fun _ e => .inr e
  rw [hX] at HM hcopy
  clear hX hbs hll
  go_enter Tryz.func71, Tryz.ntmps71
  go_wp2_with fail
  refine (wrong_any m a b n gl bs _ _ _ _ H.out (by omega)).mono ?_; rintro e w1 ⟨rfl, rfl⟩
  rw [HW.out]
  go_wp2
  go_ret
  exact ⟨rfl, HM.out, HF.out⟩
end
end Go.Proofs.YtpbkjmkdciiccaaGreatDoor
namespace Go.Proofs.YtpbkjmkdciiccaaGreatDoor
section
open Go.RowKit
theorem Tryz.infoT : (Tryz.prog.info? 4).map (fun i => (i.zero, i.size, i.bytes)) = some (some (.bool false), 1, 1) := by kernel_rfl
theorem Tryz.infoP : (Tryz.prog.info? 179).map (fun i => (i.zero, i.size, i.bytes)) = some (some (.agg pageC), 64, 64) := by kernel_rfl
set_option maxRecDepth 100000 in
theorem make_bools (c : Int) (n : Nat) (hc : c = (n : Int)) (hn : n ≤ 4096) (w : World) :
    (Instr.makeSlice 137 (.int .i64 c) (.int .i64 c)).run Tryz.prog w = .ok (.slice (some ⟨w.heap.size, 0, none⟩) n n) (w.alloc (.cells (boolsV (List.replicate n false)) 4)) := by
  subst hc
  have := run_make_row' (P := Tryz.prog) 137 4 (.bool false) 1 Tryz.underlying137 Tryz.infoT rfl .i64 .i64 n (by omega) (by omega) w
  rw [this]
  congr 2
  apply congrArg (fun x => Obj.cells x 4 (0, 0))
  apply Array.ext'
  rw [toList_madeCells_one]; simp [boolsV]
theorem page_get (j : Nat) (h : j < 64) : pageC[j]! = .int .u8 0 := by
  have h' : j < pageC.size := h
  rw [getElem!_pos pageC j h']
  simp only [pageC, List.getElem_toArray, List.getElem_replicate]
theorem made_pages (k : Nat) : madeCells pageC k = (cellsB (zeros k)).toArray := by
  apply Array.ext'
  rw [cellsB_zeros]
  apply List.ext_getElem?
  intro j
  have hs : pageC.size = 64 := rfl
  by_cases hj : j < k
  · have hm : j % 64 < 64 := Nat.mod_lt _ (by omega)
    simp only [madeCells, hs, Array.toList_map, Array.toList_range, List.getElem?_map, List.getElem?_range hj, Option.map_some, List.getElem?_replicate, if_pos hj, page_get _ hm]
  · simp [madeCells, hj]
set_option maxRecDepth 100000 in
theorem make_pages (c : Int) (n : Nat) (hc : c = (n : Int)) (hn : n ≤ 4096) (w : World) :
    (Instr.makeSlice 138 (.int .i64 c) (.int .i64 c)).run Tryz.prog w = .ok (.slice (some ⟨w.heap.size, 0, none⟩) n n) (w.alloc (.cells (cellsB (zeros (n * 64))).toArray 179)) := by
  subst hc
  obtain ⟨i, hi, hzz⟩ := Option.map_eq_some_iff.1 Tryz.infoP
  simp only [Prod.mk.injEq] at hzz
  obtain ⟨hz, hs, hb⟩ := hzz
  rw [run_make (P := Tryz.prog) w 138 179 i (.agg pageC) Tryz.underlying138 hi hz .i64 .i64 n n (by omega) (Int.le_refl _) (by rw [hb]; omega) (by omega)]
  simp only [Int.toNat_natCast, hs]
  rw [show (Value.agg pageC).cells = pageC from rfl, made_pages]
def clampF (z : Int) : Nat := (min (max z 0) 4096).toNat
theorem clampF_le (z : Int) : clampF z ≤ 4096 := by unfold clampF; omega
theorem clampF_low {z : Int} (h : z ≤ 0) : clampF z = 0 := by unfold clampF; omega
theorem clampF_high {z : Int} (h : 4096 ≤ z) : clampF z = 4096 := by unfold clampF; omega
theorem clampF_in {z : Int} (h : 0 ≤ z) (h2 : z ≤ 4096) : z = (clampF z : Int) := by unfold clampF; omega
theorem boolsV_len (n : Nat) : (List.replicate n false).length = n := by simp
theorem size_alloc (w : World) (o : Obj) : (w.alloc o).heap.size = w.heap.size + 1 := by simp
theorem alloc3 (w : World) (o1 o2 o3 : Obj) : (((w.alloc o1).alloc o2).alloc o3).heap[w.heap.size]? = some o1 ∧ (((w.alloc o1).alloc o2).alloc o3).heap[w.heap.size + 1]? = some o2 ∧ (((w.alloc o1).alloc o2).alloc o3).heap[w.heap.size + 1 + 1]? = some o3 := by
  have s1 := size_alloc w o1
  have s2 := size_alloc (w.alloc o1) o2
  refine ⟨?_, ?_, ?_⟩
  · rw [Below.heap_alloc _ _ _ (by omega), Below.heap_alloc _ _ _ (by omega)]; exact heap_alloc_new _ _
  · rw [Below.heap_alloc _ _ _ (by omega), ← s1]; exact heap_alloc_new _ _
  · rw [← s1, ← s2]; exact heap_alloc_new _ _
theorem below3 (w : World) (o1 o2 o3 : Obj) : Below w.heap.size w (((w.alloc o1).alloc o2).alloc o3) :=
  below_one (below_one (below_alloc w o1) (below_alloc _ o2)) (below_alloc _ o3)
/- a new memory of pages: none of its blocks was there -/
structure NewMem (w w' : World) (m a b n : Nat) : Prop where
  mem : MemAt w' m a b n (List.replicate n false) (zeros (n * 64))
  hm : w.heap.size ≤ m
  ha : w.heap.size ≤ a
  hb : w.heap.size ≤ b
  bel : Below w.heap.size w w'
theorem new_mem1 (w : World) (n : Nat) (hn : n ≤ 4096) (T C : Array Value) (hT : boolsV (List.replicate n false) = T) (hC : (cellsB (zeros (n * 64))).toArray = C) (q : Nat) :
    NewMem w ((((w.alloc (.cells T 4)).alloc (.cells C 179)).alloc (.cells #[.slice (some ⟨w.heap.size, 0, none⟩) n n, .slice (some ⟨w.heap.size + 1, 0, none⟩) n n] 140)).drewN q) (w.heap.size + 1 + 1) w.heap.size (w.heap.size + 1) n := by
  subst hT; subst hC
  obtain ⟨h1, h2, h3⟩ := alloc3 w (.cells (boolsV (List.replicate n false)) 4) (.cells (cellsB (zeros (n * 64))).toArray 179) (.cells #[.slice (some ⟨w.heap.size, 0, none⟩) n n, .slice (some ⟨w.heap.size + 1, 0, none⟩) n n] 140)
  exact ⟨MemAt.drewN ⟨h3, h1, h2, by simp, hn, zeros_len _, clean_new n⟩ q, by omega, by omega, by omega, below_drewN (below3 _ _ _ _) q⟩
theorem new_mem2 (w : World) (n : Nat) (hn : n ≤ 4096) (T C : Array Value) (hT : boolsV (List.replicate n false) = T) (hC : (cellsB (zeros (n * 64))).toArray = C) (q : Nat) :
    NewMem w ((((w.alloc (.cells C 179)).alloc (.cells T 4)).alloc (.cells #[.slice (some ⟨w.heap.size + 1, 0, none⟩) n n, .slice (some ⟨w.heap.size, 0, none⟩) n n] 140)).drewN q) (w.heap.size + 1 + 1) (w.heap.size + 1) w.heap.size n := by
  subst hT; subst hC
  obtain ⟨h1, h2, h3⟩ := alloc3 w (.cells (cellsB (zeros (n * 64))).toArray 179) (.cells (boolsV (List.replicate n false)) 4) (.cells #[.slice (some ⟨w.heap.size + 1, 0, none⟩) n n, .slice (some ⟨w.heap.size, 0, none⟩) n n] 140)
  exact ⟨MemAt.drewN ⟨h3, h2, h1, by simp, hn, zeros_len _, clean_new n⟩ q, by omega, by omega, by omega, below_drewN (below3 _ _ _ _) q⟩
set_option maxHeartbeats 1600000 in
theorem pof_any (z : Int) (w : World) (n : Nat) (hn : clampF z = n) (hz : -9223372036854775808 ≤ z ∧ z ≤ 9223372036854775807) :
    Calls Tryz.prog 32 #[.int .i64 z] w fun e w' => ∃ m a b, e = .returned (.pointer (some ⟨m, 0, none⟩)) ∧ NewMem w w' m a b n := by
  have h40 : n ≤ 4096 := hn ▸ clampF_le z
  obtain ⟨T, hT⟩ : ∃ T, boolsV (List.replicate n false) = T := ⟨_, rfl⟩
  obtain ⟨C, hC⟩ : ∃ C, (cellsB (zeros (n * 64))).toArray = C := ⟨_, rfl⟩
  have HT := hide hT
  have HC := hide hC
  have H40 := hide h40
  by_cases h0 : z ≤ 0
  · have mb := make_bools 0 n (by rw [← hn, clampF_low h0]; rfl) h40
    have mp := make_pages 0 n (by rw [← hn, clampF_low h0]; rfl) h40
    rw [hT] at mb
    rw [hC] at mp
    clear hT hC hn h40
    by_cases h1 : z = 0
    · subst h1
      go_enter Tryz.func32, Tryz.ntmps32
      go_wp2_with fail
      go_region
      all_goals go_wp2
      all_goals go_ret
      · exact ⟨_, _, _, rfl, new_mem1 w n H40.out T C HT.out HC.out 1⟩
      · exact ⟨_, _, _, rfl, new_mem2 w n H40.out T C HT.out HC.out 1⟩
    · have h2 : z < 0 := by omega
      have h3 : ¬ (0 < z) := by omega
      go_enter Tryz.func32, Tryz.ntmps32
      go_wp2_with fail
      go_region
      all_goals go_wp2
      all_goals go_ret
      · exact ⟨_, _, _, rfl, new_mem1 w n H40.out T C HT.out HC.out 1⟩
      · exact ⟨_, _, _, rfl, new_mem2 w n H40.out T C HT.out HC.out 1⟩
  · have h2 : ¬ (z < 0) := by omega
    have h3 : 0 < z := by omega
    by_cases h4 : 4096 ≤ z
    · have mb := make_bools 4096 n (by rw [← hn, clampF_high h4]; rfl) h40
      have mp := make_pages 4096 n (by rw [← hn, clampF_high h4]; rfl) h40
      rw [hT] at mb
      rw [hC] at mp
      clear hT hC hn h40
      by_cases h5 : z = 4096
      · subst h5
        go_enter Tryz.func32, Tryz.ntmps32
        go_wp2_with fail
        go_region
        all_goals go_wp2
        all_goals go_ret
        · exact ⟨_, _, _, rfl, new_mem1 w n H40.out T C HT.out HC.out 1⟩
        · exact ⟨_, _, _, rfl, new_mem2 w n H40.out T C HT.out HC.out 1⟩
      · have h6 : ¬ (z < 4096) := by omega
        have h7 : 4096 < z := by omega
        go_enter Tryz.func32, Tryz.ntmps32
        go_wp2_with fail
        go_region
        all_goals go_wp2
        all_goals go_ret
        · exact ⟨_, _, _, rfl, new_mem1 w n H40.out T C HT.out HC.out 1⟩
        · exact ⟨_, _, _, rfl, new_mem2 w n H40.out T C HT.out HC.out 1⟩
    · have h6 : z < 4096 := by omega
      have h7 : ¬ (4096 < z) := by omega
      have mb := make_bools z n (by rw [← hn]; exact clampF_in (by omega) (by omega)) h40
      have mp := make_pages z n (by rw [← hn]; exact clampF_in (by omega) (by omega)) h40
      rw [hT] at mb
      rw [hC] at mp
      clear hT hC hn h40
      go_enter Tryz.func32, Tryz.ntmps32
      go_wp2_with fail
      go_region
      all_goals go_wp2
      all_goals go_ret
      · exact ⟨_, _, _, rfl, new_mem1 w n H40.out T C HT.out HC.out 1⟩
      · exact ⟨_, _, _, rfl, new_mem2 w n H40.out T C HT.out HC.out 1⟩
end
end Go.Proofs.YtpbkjmkdciiccaaGreatDoor
