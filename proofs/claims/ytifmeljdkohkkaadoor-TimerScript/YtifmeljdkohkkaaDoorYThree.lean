/-
  Three own rows of numbers beside one another: one is appended to one of them.
-/
import Derived.Test.YtifmeljdkohkkaaDoorYAct
namespace Go.Proofs.YtifmeljdkohkkaaDoor
open Go.RowKit
theorem TS.numI {w0 w : World} {g a b n c : Nat} {now : Int} {rv vl : Value} {L : List Al} {I J : List Int} {ao : Option Addr} (x : TS w0 w g a b now rv (.slice ao n c) vl L I J) : Nums w ao n c I := by
  obtain ⟨_, _, e, l⟩ := owns_lies x.oi
  cases e; exact l
theorem TS.numJ {w0 w : World} {g a b n c : Nat} {now : Int} {rv vi : Value} {L : List Al} {I J : List Int} {ao : Option Addr} (x : TS w0 w g a b now rv vi (.slice ao n c) L I J) : Nums w ao n c J := by
  obtain ⟨_, _, e, l⟩ := owns_lies x.ol
  cases e; exact l
theorem app_at {ty : TypeId} {V : World} {B n : Nat} {v : Value} {L : List Int} {q : Addr} {x : Int} (h : V.ownsRow B 3 1 v n (cellsI L)) (hx : Nums V (some q) 1 1 [x]) (hn : n ≤ 17592186044400) (hB : B ≤ V.heap.size) :
    ∃ o c w', (Builtin.append_ #[28, 28] ty #[v, .slice (some q) 1 1]).run Tryd.prog V = .ok (.slice o (n + 1) c) w' ∧ w'.ownsRow B 3 1 (.slice o (n + 1) c) (n + 1) (cellsI (L ++ [x])) ∧ Foot (fun k => v.ownBlock = some k) V w' ∧ Moved V v (.slice o (n + 1) c) := by
  obtain ⟨i0, hi0, hz0, hz1, hz2⟩ := info_parts Tryd.infoN
  obtain ⟨v', w', hr, ho, hg, _, hm⟩ := run_append_own_at (P := Tryd.prog) V B 28 ty 3 i0 _ 1 8 Tryd.underlying28 hi0 hz0 hz1 hz2 rfl (by omega) v n _ h q 1 1 (cellsI [x]) rfl (hx.2.2.2.2 q rfl) (cellsI_one [x]) (by unfold maxLen; omega) (by omega) hB
  obtain ⟨o, c, rfl⟩ := owns_slice ho
  refine ⟨o, c, w', hr, by rw [cellsI_append]; exact ho, grown_foot hg, fun k e => ?_⟩
  rcases hm with hm | hm
  · exact .inl (by rw [← hm]; exact e)
  · rw [hm] at e; cases e; exact .inr (Nat.le_refl _)
def Apart (u v : Value) : Prop := ∀ k, u.ownBlock = some k → v.ownBlock ≠ some k
theorem Apart.symm {u v : Value} (h : Apart u v) : Apart v u := fun k e1 e2 => h k e2 e1
theorem Apart.moved {V : World} {u v v' : Value} (h : Apart u v) (hu : ∀ k, u.ownBlock = some k → k < V.heap.size) (m : Moved V v v') : Apart u v' := fun k e1 e2 => by
  rcases m k e2 with m | m
  · exact h k e1 m
  · have := hu k e1; omega
theorem apart_nil (v : Value) : Apart (.slice none 0 0) v := fun _ e => by cases e
theorem Nums.far {V V' : World} {S : Nat → Prop} {q : Addr} {x : Int} (h : Nums V (some q) 1 1 [x]) (f : Foot S V V') (hS : ¬ S q.block) : Nums V' (some q) 1 1 [x] :=
  ⟨h.1, h.2.1, h.2.2.1, h.2.2.2.1, fun ad e j u hu => by
    cases e
    have := h.2.2.2.2 q rfl j u hu
    rw [f.cell (q.add j) (lt_of_cell this) (by rw [add_block]; exact hS), this]⟩
structure R3 (Y V : World) (u v x : Value) (A B C : List Int) : Prop where
  a : V.ownsRow Y.heap.size 3 1 u A.length (cellsI A)
  b : V.ownsRow Y.heap.size 3 1 v B.length (cellsI B)
  c : V.ownsRow Y.heap.size 3 1 x C.length (cellsI C)
  ab : Apart u v
  ac : Apart u x
  bc : Apart v x
  bel : Below Y.heap.size Y V
variable {Y V V' : World} {u v x : Value} {A B C : List Int} {q : Addr} {y : Int}
theorem r3_nil (Y : World) : R3 Y Y (.slice none 0 0) (.slice none 0 0) (.slice none 0 0) [] [] [] := ⟨owns_nil _ _ _ _, owns_nil _ _ _ _, owns_nil _ _ _ _, apart_nil _, apart_nil _, apart_nil _, Below.refl _ _⟩
theorem R3.grow (h : R3 Y V u v x A B C) (b : Below V.heap.size V V') : R3 Y V' u v x A B C := ⟨owns_grow h.a b, owns_grow h.b b, owns_grow h.c b, h.ab, h.ac, h.bc, h.bel.trans (b.mono h.bel.size)⟩
/- what an append leaves: the row's own block has turned, none other -/
def AppEnd (V : World) (v : Value) (V' : World) (v' : Value) : Prop := Foot (fun k => v.ownBlock = some k) V V' ∧ Moved V v v'
theorem R3.appA {ty : TypeId} (h : R3 Y V u v x A B C) (hx : Nums V (some q) 1 1 [y]) (hn : A.length ≤ 1000) : ∃ o c V', (Builtin.append_ #[28, 28] ty #[u, .slice (some q) 1 1]).run Tryd.prog V = .ok (.slice o (A.length + 1) c) V' ∧ R3 Y V' (.slice o (A.length + 1) c) v x (A ++ [y]) B C ∧ AppEnd V u V' (.slice o (A.length + 1) c) := by
  obtain ⟨o, c, V', hr, ho, f, m⟩ := app_at (ty := ty) h.a hx (by omega) h.bel.size
  refine ⟨o, c, V', hr, ⟨by rw [List.length_append]; exact ho, owns_foot h.b f (fun k e e2 => h.ab k e2 e), owns_foot h.c f (fun k e e2 => h.ac k e2 e), (h.ab.symm.moved (fun k e => (owns_lt h.b e).1) m).symm, (h.ac.symm.moved (fun k e => (owns_lt h.c e).1) m).symm, h.bc, h.bel.trans (f.below h.bel.size (fun k e => (owns_lt h.a e).2))⟩, f, m⟩
theorem R3.appB {ty : TypeId} (h : R3 Y V u v x A B C) (hx : Nums V (some q) 1 1 [y]) (hn : B.length ≤ 1000) : ∃ o c V', (Builtin.append_ #[28, 28] ty #[v, .slice (some q) 1 1]).run Tryd.prog V = .ok (.slice o (B.length + 1) c) V' ∧ R3 Y V' u (.slice o (B.length + 1) c) x A (B ++ [y]) C ∧ AppEnd V v V' (.slice o (B.length + 1) c) := by
  obtain ⟨o, c, V', hr, ho, f, m⟩ := app_at (ty := ty) h.b hx (by omega) h.bel.size
  refine ⟨o, c, V', hr, ⟨owns_foot h.a f (fun k e e2 => h.ab k e e2), by rw [List.length_append]; exact ho, owns_foot h.c f (fun k e e2 => h.bc k e2 e), h.ab.moved (fun k e => (owns_lt h.a e).1) m, h.ac, (h.bc.symm.moved (fun k e => (owns_lt h.c e).1) m).symm, h.bel.trans (f.below h.bel.size (fun k e => (owns_lt h.b e).2))⟩, f, m⟩
theorem R3.appC {ty : TypeId} (h : R3 Y V u v x A B C) (hx : Nums V (some q) 1 1 [y]) (hn : C.length ≤ 1000) : ∃ o c V', (Builtin.append_ #[28, 28] ty #[x, .slice (some q) 1 1]).run Tryd.prog V = .ok (.slice o (C.length + 1) c) V' ∧ R3 Y V' u v (.slice o (C.length + 1) c) A B (C ++ [y]) ∧ AppEnd V x V' (.slice o (C.length + 1) c) := by
  obtain ⟨o, c, V', hr, ho, f, m⟩ := app_at (ty := ty) h.c hx (by omega) h.bel.size
  refine ⟨o, c, V', hr, ⟨owns_foot h.a f (fun k e e2 => h.ac k e e2), owns_foot h.b f (fun k e e2 => h.bc k e e2), by rw [List.length_append]; exact ho, h.ab, h.ac.moved (fun k e => (owns_lt h.a e).1) m, h.bc.moved (fun k e => (owns_lt h.b e).1) m, h.bel.trans (f.below h.bel.size (fun k e => (owns_lt h.c e).2))⟩, f, m⟩
theorem nums_one (w : World) (y : Int) : Nums (w.alloc (.cells #[.int .i64 y] 3)) (some ⟨w.heap.size, 0, none⟩) 1 1 [y] := nums_alloc w [y] _ _ 1 rfl rfl (by omega)
theorem Nums.old {q : Addr} (h : Nums V (some q) 1 1 [y]) : q.block < V.heap.size := by
  have := lt_of_cell (h.elem 0 (by omega))
  rw [add_block] at this; exact this
end Go.Proofs.YtifmeljdkohkkaaDoor
