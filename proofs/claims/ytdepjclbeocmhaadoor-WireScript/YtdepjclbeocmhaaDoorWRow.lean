/-
  A wire in memory: its packets, their data; what stays of it when other memory turns.
-/
import Derived.Test.YtdepjclbeocmhaaDoorWCon
namespace Go.Proofs.YtdepjclbeocmhaaDoor
open Go.RowKit
/- which packet a pick tells -/
def placeF (p : Int) (n : Nat) : Nat := (p % (n : Int)).toNat
theorem placeF_lt (p : Int) (n : Nat) (h : 0 < n) : placeF p n < n := by
  unfold placeF
  have h1 := Int.emod_nonneg p (show (n : Int) ≠ 0 by omega)
  have h2 := Int.emod_lt_of_pos p (show (0 : Int) < (n : Int) by omega)
  omega
theorem placeF_is (p : Int) (n : Nat) (h : 0 < n) : ((placeF p n : Nat) : Int) = p % (n : Int) := by
  unfold placeF
  have h1 := Int.emod_nonneg p (show (n : Int) ≠ 0 by omega)
  omega
def erN (k : Int) : Value := if k = 0 then .nilIface else .iface 37 (.int .i64 k)
theorem erN_zero : erN 0 = .nilIface := rfl
theorem erN_not {k : Int} (h : k ≠ 0) : erN k = .iface 37 (.int .i64 k) := if_neg h
structure Wr (w : World) (g : Nat) (bo : Option Addr) (bc : Nat) (K : List Pa) : Prop where
  box : w.heap[g]? = some (.cells #[.slice bo K.length bc] 27 (0, 0))
  row : Pks w bo K.length bc K
  far : FarK (· = g) bo K.length K
  few : K.length ≤ 1024
  low : ∀ x ∈ K, x.sn ≤ 140737488355328
variable {w w' : World} {g : Nat} {bo : Option Addr} {bc : Nat} {K : List Pa}
theorem Wr.lt (x : Wr w g bo bc K) : g < w.heap.size := lt_of_heap x.box
theorem Wr.c0 (x : Wr w g bo bc K) : w.cell? ⟨g, 0, none⟩ = some (.slice bo K.length bc) := by rw [cell_of_row w g _ _ _ _ x.box]; rfl
theorem Wr.z (x : Wr w g bo bc K) : w.frozen? ⟨g, 0, none⟩ = false := frozen_of_row w g 0 _ _ x.box
theorem Wr.foot {S : Nat → Prop} (x : Wr w g bo bc K) (f : Foot S w w') (hg : ¬ S g) (hS : FarK S bo K.length K) : Wr w' g bo bc K :=
  ⟨(f.block g x.lt hg).trans x.box, x.row.foot f hS, x.far, x.few, x.low⟩
theorem farK_no (bo : Option Addr) (n : Nat) (K : List Pa) : FarK (fun _ => False) bo n K := ⟨fun _ _ _ => id, fun _ _ _ _ _ => id⟩
theorem farK_nil (S : Nat → Prop) (bo : Option Addr) : FarK S bo 0 [] := ⟨(fun h => by cases h), fun _ h => by cases h⟩
theorem Wr.grow (x : Wr w g bo bc K) (b : Below w.heap.size w w') : Wr w' g bo bc K := x.foot (below_foot (fun _ => False) b) id (farK_no _ _ _)
theorem Wr.drewN (x : Wr w g bo bc K) (q : Nat) : Wr (w.drewN q) g bo bc K := x.grow (below_d w q)
theorem wr_new (w : World) : Wr (w.alloc (.cells #[.slice none 0 0] 27)) w.heap.size none 0 [] :=
  ⟨heap_alloc_new _ _, pks_nil _, farK_nil _ _, by simp, fun _ h => by cases h⟩
/- what a deed leaves -/
structure WrEnd (w : World) (g : Nat) (bo : Option Addr) (K : List Pa) (ao : Option Addr) (c : Nat) (N : List Pa) (w' : World) : Prop where
  wr : Wr w' g ao c N
  ft : Foot (· = g) w w'
  far : ∀ S : Nat → Prop, FarK S bo K.length K → (∀ k, S k → k < w.heap.size) → FarK S ao N.length N
theorem wr_end (x : Wr w g bo bc K) {w5 : World} {ao : Option Addr} {n c : Nat} {N : List Pa} (hA : Lies 6 w5 ao n c (cellsK N)) (b : Below w.heap.size w w5) (hn : New w ao) (hN : ∀ p ∈ N, p ∈ K ∨ (p.has w5 ∧ New w p.so ∧ p.sn ≤ 140737488355328)) (hf : N.length ≤ 1024) :
    WrEnd w g bo K ao c N (w5.setCell ⟨g, 0, none⟩ (.slice ao n c)) := by
  have hl := hA.1
  rw [cellsK_len] at hl
  obtain rfl : N.length = n := by omega
  have hg : ∀ k, k = g → k < w.heap.size := fun k e => by rw [e]; exact x.lt
  have far : ∀ S : Nat → Prop, FarK S bo K.length K → (∀ k, S k → k < w.heap.size) → FarK S ao N.length N := fun S h1 h2 => ⟨OffO.new hn h2, fun p hp => by
    rcases hN p hp with h | ⟨_, h, _⟩
    · exact h1.2 p h
    · exact OffO.new h h2⟩
  have fg := far _ x.far hg
  have ft := foot_set w5 ⟨g, 0, none⟩ (.slice ao N.length c)
  have x5 := x.grow b
  refine ⟨⟨?_, ⟨hA.foot ft fg.1, fun p hp => Bts.footN ?_ ft (fg.2 p hp)⟩, fg, hf, fun p hp => ?_⟩, (below_foot _ b).then ft, far⟩
  · rw [heap_setCell_same w5 g 0 _ _ _ x5.box]; rfl
  · rcases hN p hp with h | ⟨h, _⟩
    · exact x5.row.2 p h
    · exact h
  · rcases hN p hp with h | ⟨_, _, h⟩
    · exact x.low p h
    · exact h
/- what the packets are, without where they lie -/
def St (w : World) (g : Nat) (S : Nat → Prop) (L : List Pa) : Prop := ∃ bo bc K, Wr w g bo bc K ∧ FarK S bo K.length K ∧ K.map Pa.nm = L
variable {S T : Nat → Prop} {L : List Pa}
theorem St.grow (h : St w g S L) (b : Below w.heap.size w w') : St w' g S L := by
  obtain ⟨bo, bc, K, h1, h2, h3⟩ := h
  exact ⟨bo, bc, K, h1.grow b, h2, h3⟩
theorem St.lt (h : St w g S L) : g < w.heap.size := by
  obtain ⟨bo, bc, K, h1, _⟩ := h; exact h1.lt
theorem St.few (h : St w g S L) : L.length ≤ 1024 := by
  obtain ⟨bo, bc, K, h1, _, rfl⟩ := h; rw [List.length_map]; exact h1.few
theorem St.foot (h : St w g S L) (f : Foot S w w') (hg : ¬ S g) : St w' g S L := by
  obtain ⟨bo, bc, K, h1, h2, h3⟩ := h
  exact ⟨bo, bc, K, h1.foot f hg h2, h2, h3⟩
theorem St.either (h : St w g S L) (hT : ∀ k, T k → S k ∨ w.heap.size ≤ k) : St w g T L := by
  obtain ⟨bo, bc, K, h1, h2, h3⟩ := h
  exact ⟨bo, bc, K, h1, h2.either h1.row hT, h3⟩
theorem st_new (w : World) (S : Nat → Prop) : St (w.alloc (.cells #[.slice none 0 0] 27)) w.heap.size S [] :=
  ⟨none, 0, [], wr_new w, farK_nil _ _, rfl⟩
theorem WrEnd.st {ao : Option Addr} {c : Nat} {N : List Pa} (h : WrEnd w g bo K ao c N w') (hf : FarK S bo K.length K) (hS : ∀ k, S k → k < w.heap.size) : St w' g S (N.map Pa.nm) := ⟨ao, c, N, h.wr, h.far S hf hS, rfl⟩
theorem nm_len (p : Pa) : p.nm.l = p.l := rfl
theorem getD_nm (K : List Pa) (k : Nat) : (K.map Pa.nm).getD k Pa.zero = (K.getD k Pa.zero).nm := by
  rw [List.getD_eq_getElem?_getD, List.getD_eq_getElem?_getD, List.getElem?_map]
  cases K[k]? <;> rfl
end Go.Proofs.YtdepjclbeocmhaaDoor
