/-
  A gather in memory: its messages, their packets; what stays of it when other memory turns.
-/
import Derived.Test.YtdfakeddhoolcaaGMath
import Derived.Test.YtdfakeddhoolcaaGConM
import Derived.Test.YtdfakeddhoolcaaGConP
namespace Go.Proofs.Ytdfakeddhoolcaa
open Go.RowKit
/- where so many elements lie is no block of which S holds -/
def OffO (S : Nat → Prop) (n : Nat) (ao : Option Addr) : Prop := 0 < n → ∀ ad, ao = some ad → ¬ S ad.block
theorem OffO.new {S : Nat → Prop} {w : World} {n : Nat} {ao : Option Addr} (h : New w ao) (hS : ∀ k, S k → k < w.heap.size) : OffO S n ao := fun _ ad e x => by
  have := h ad e; have := hS _ x; omega
theorem OffO.tail {S : Nat → Prop} {sz n k cap : Nat} {ao : Option Addr} (h : OffO S n ao) (hk : k ≤ n) : OffO S (n - k) (tailG sz ao k cap) := fun hn ad e => by
  unfold tailG at e
  split at e
  · exact h (by omega) ad e
  · obtain ⟨a0, rfl, rfl⟩ := Option.map_eq_some_iff.1 e
    rw [add_block]; exact h (by omega) a0 rfl
theorem Bts.footN {S : Nat → Prop} {w w' : World} {ao : Option Addr} {n cap : Nat} {l : List UInt8} (h : Bts w ao n cap l) (b : Foot S w w') (hS : OffO S n ao) : Bts w' ao n cap l := by
  refine ⟨h.1, h.2.1, h.2.2.1, h.2.2.2.1, fun ad e j hj => ?_⟩
  have hc := h.2.2.2.2 ad e j hj
  have hl := lt_of_cell hc
  have h1 := h.1
  rw [b.cell _ hl (by rw [add_block]; exact hS (by omega) ad e), hc]
theorem Bts.lt {w : World} {ao : Option Addr} {n cap : Nat} {l : List UInt8} (h : Bts w ao n cap l) (hn : 0 < n) (ad : Addr) (e : ao = some ad) : ad.block < w.heap.size := by
  have h1 := h.1
  have := lt_of_cell (h.2.2.2.2 ad e 0 (by omega))
  rw [add_block] at this; exact this
def FarK (S : Nat → Prop) (ao : Option Addr) (n : Nat) (L : List Pa) : Prop := OffO S n ao ∧ ∀ x ∈ L, OffO S x.sn x.so
theorem Pks.foot {S : Nat → Prop} {w w' : World} {ao : Option Addr} {n cap : Nat} {L : List Pa} (h : Pks w ao n cap L) (f : Foot S w w') (hS : FarK S ao n L) : Pks w' ao n cap L :=
  ⟨h.1.foot f hS.1, fun x hx => Bts.footN (h.2 x hx) f (hS.2 x hx)⟩
theorem Pks.far {S : Nat → Prop} {w : World} {ao : Option Addr} {n cap : Nat} {L : List Pa} (h : Pks w ao n cap L) (hS : ∀ k, S k → w.heap.size ≤ k) : FarK S ao n L :=
  ⟨fun hn ad e x => by have := h.1.lt (by omega) hn ad e; have := hS _ x; omega, fun y hy hn ad e x => by have := Bts.lt (h.2 y hy) hn ad e; have := hS _ x; omega⟩
structure Mg where
  a : Option Addr
  n : Nat
  c : Nat
  L : List Pa
def Mg.zero : Mg := ⟨none, 0, 0, []⟩
def Mg.v (m : Mg) : Value := .slice m.a m.n m.c
def cellsM (Ms : List Mg) : List Value := Ms.map Mg.v
theorem cellsM_len (Ms : List Mg) : (cellsM Ms).length = Ms.length := by simp [cellsM]
theorem cellsM_one (Ms : List Mg) : ∀ u ∈ cellsM Ms, u.oneCell' = true := by
  intro u hu
  obtain ⟨m, _, rfl⟩ := List.mem_map.1 hu
  rfl
theorem getM_mem (Ms : List Mg) (k : Nat) (h : k < Ms.length) : Ms.getD k Mg.zero ∈ Ms := by
  rw [List.getD_eq_getElem?_getD, List.getElem?_eq_getElem h]; exact List.getElem_mem h
def FarG (S : Nat → Prop) (bo : Option Addr) (Ms : List Mg) : Prop := OffO S Ms.length bo ∧ ∀ m ∈ Ms, FarK S m.a m.n m.L
structure Gt (w : World) (g : Nat) (bo : Option Addr) (bc : Nat) (Ms : List Mg) : Prop where
  box : w.heap[g]? = some (.cells #[.slice bo Ms.length bc] 27 (0, 0))
  row : Lies 1 w bo Ms.length bc (cellsM Ms)
  has : ∀ m ∈ Ms, Pks w m.a m.n m.c m.L
  far : FarG (· = g) bo Ms
variable {w w' : World} {g : Nat} {bo : Option Addr} {bc : Nat} {Ms : List Mg}
theorem Gt.lt (x : Gt w g bo bc Ms) : g < w.heap.size := lt_of_heap x.box
theorem Gt.c0 (x : Gt w g bo bc Ms) : w.cell? ⟨g, 0, none⟩ = some (.slice bo Ms.length bc) := by rw [cell_of_row w g _ _ _ _ x.box]; rfl
theorem Gt.z (x : Gt w g bo bc Ms) : w.frozen? ⟨g, 0, none⟩ = false := frozen_of_row w g 0 _ _ x.box
theorem Gt.foot {S : Nat → Prop} (x : Gt w g bo bc Ms) (f : Foot S w w') (hg : ¬ S g) (hS : FarG S bo Ms) : Gt w' g bo bc Ms :=
  ⟨(f.block g x.lt hg).trans x.box, x.row.foot f hS.1, fun m hm => (x.has m hm).foot f (hS.2 m hm), x.far⟩
theorem Gt.grow (x : Gt w g bo bc Ms) (b : Below w.heap.size w w') : Gt w' g bo bc Ms := x.foot (below_foot (fun _ => False) b) id ⟨fun _ _ _ => id, fun _ _ => ⟨fun _ _ _ => id, fun _ _ _ _ _ => id⟩⟩
theorem Gt.drewN (x : Gt w g bo bc Ms) (q : Nat) : Gt (w.drewN q) g bo bc Ms := x.grow (below_d w q)
theorem Gt.put (x : Gt w g bo bc Ms) {ao : Option Addr} {n c : Nat} {Ns : List Mg} (hA : Lies 1 w ao n c (cellsM Ns)) (hN : ∀ m ∈ Ns, Pks w m.a m.n m.c m.L) (hf : FarG (· = g) ao Ns) : Gt (w.setCell ⟨g, 0, none⟩ (.slice ao n c)) g ao c Ns := by
  have hl := hA.1
  rw [cellsM_len, Nat.mul_one] at hl
  subst hl
  refine ⟨?_, hA.foot (foot_set w ⟨g, 0, none⟩ _) hf.1, fun m hm => (hN m hm).foot (foot_set w ⟨g, 0, none⟩ _) (hf.2 m hm), hf⟩
  rw [heap_setCell_same w g 0 _ _ _ x.box]; rfl
theorem gt_new (w : World) : Gt (w.alloc (.cells #[.slice none 0 0] 27)) w.heap.size none 0 [] :=
  ⟨heap_alloc_new _ _, lies_nil 1 _, (fun _ h => by cases h), ⟨(fun h => by cases h), fun _ h => by cases h⟩⟩
theorem Gt.elem {ad : Addr} (x : Gt w g (some ad) bc Ms) (k : Nat) (hk : k < Ms.length) : w.cell? (ad.add k) = some (.slice (Ms.getD k Mg.zero).a (Ms.getD k Mg.zero).n (Ms.getD k Mg.zero).c) := by
  refine x.row.2.2.2.2 ad rfl k _ ?_
  unfold cellsM
  rw [List.getElem?_map, List.getD_eq_getElem?_getD, List.getElem?_eq_getElem hk]; rfl
theorem FarG.old {S : Nat → Prop} (x : Gt w g bo bc Ms) (hS : ∀ k, S k → w.heap.size ≤ k) : FarG S bo Ms :=
  ⟨fun hn ad e y => by have := x.row.lt (by omega) hn ad e; have := hS _ y; omega, fun m hm => (x.has m hm).far hS⟩
/- what the messages are, without where they lie -/
def absM (Ms : List Mg) : List (List Pa) := Ms.map fun m => m.L.map Pa.nm
def St (w : World) (g : Nat) (S : Nat → Prop) (G : List (List Pa)) : Prop := ∃ bo bc Ms, Gt w g bo bc Ms ∧ FarG S bo Ms ∧ absM Ms = G
theorem St.grow {S : Nat → Prop} {G : List (List Pa)} (h : St w g S G) (b : Below w.heap.size w w') : St w' g S G := by
  obtain ⟨bo, bc, Ms, h1, h2, h3⟩ := h
  exact ⟨bo, bc, Ms, h1.grow b, h2, h3⟩
theorem St.lt {S : Nat → Prop} {G : List (List Pa)} (h : St w g S G) : g < w.heap.size := by
  obtain ⟨bo, bc, Ms, h1, _⟩ := h; exact h1.lt
theorem St.foot {S : Nat → Prop} {G : List (List Pa)} (h : St w g S G) (f : Foot S w w') (hg : ¬ S g) : St w' g S G := by
  obtain ⟨bo, bc, Ms, h1, h2, h3⟩ := h
  exact ⟨bo, bc, Ms, h1.foot f hg h2, h2, h3⟩
theorem St.other {S S' : Nat → Prop} {G : List (List Pa)} (h : St w g S G) (hS : ∀ k, S' k → w.heap.size ≤ k) : St w g S' G := by
  obtain ⟨bo, bc, Ms, h1, _, h3⟩ := h
  exact ⟨bo, bc, Ms, h1, FarG.old h1 hS, h3⟩
theorem st_new (w : World) (S : Nat → Prop) : St (w.alloc (.cells #[.slice none 0 0] 27)) w.heap.size S [] :=
  ⟨none, 0, [], gt_new w, ⟨(fun h => by cases h), fun _ h => by cases h⟩, rfl⟩
set_option maxHeartbeats 800000 in
theorem waiting_any {S : Nat → Prop} {G : List (List Pa)} (w : World) (x : St w g S G) :
    Calls Try.prog 11 #[.pointer (some ⟨g, 0, none⟩)] w fun e w' => e = .returned (.int .i64 (G.length : Int)) ∧ w' = w := by
  obtain ⟨bo, bc, Ms, x, _, rfl⟩ := x
  have c := x.c0
  have e : (absM Ms).length = Ms.length := by simp [absM]
  rw [e]
  clear x e
  go_enter Try.func11, Try.ntmps11
  go_wp2
  go_ret
  exact ⟨rfl, rfl⟩
set_option maxHeartbeats 800000 in
theorem forget_any {S : Nat → Prop} {G : List (List Pa)} (w : World) (x : St w g S G) :
    Calls Try.prog 12 #[.pointer (some ⟨g, 0, none⟩)] w fun e w' => e = .returned (.tuple #[]) ∧ St w' g S [] ∧ Foot (· = g) w w' := by
  obtain ⟨bo, bc, Ms, x, _, rfl⟩ := x
  have c := x.c0
  have z := x.z
  have HP := hide (x.put (Ns := []) (lies_nil 1 w) (fun _ h => by cases h) ⟨(fun h => by cases h), fun _ h => by cases h⟩)
  clear x
  go_enter Try.func12, Try.ntmps12
  go_wp2
  go_returns
  exact ⟨rfl, ⟨_, _, _, HP.out, ⟨(fun h => by cases h), fun _ h => by cases h⟩, rfl⟩, foot_set w ⟨g, 0, none⟩ _⟩
end Go.Proofs.Ytdfakeddhoolcaa
