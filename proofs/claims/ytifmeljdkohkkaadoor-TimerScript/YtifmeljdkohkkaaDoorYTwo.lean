/-
  The statement's two rows beside the clock: a number is appended to each, in whatever order the memory for the numbers is made.
-/
import Derived.Test.YtifmeljdkohkkaaDoorYThree
namespace Go.Proofs.YtifmeljdkohkkaaDoor
open Go.RowKit
structure P2 (w0 W : World) (v1 v2 : Value) (E : World) (u1 u2 : Value) (A B : List Int) : Prop where
  r : R3 w0 E u1 u2 (.slice none 0 0) A B []
  f : Foot (TSS v1 v2) W E
  m1 : Moved W v1 u1
  m2 : Moved W v2 u2
variable {w0 W E E' : World} {v1 v2 u1 u2 : Value} {A B : List Int} {q : Addr} {y : Int} {g a b : Nat} {now : Int} {rv : Value} {L : List Al}
theorem TS.two (x : TS w0 W g a b now rv v1 v2 L A B) : P2 w0 W v1 v2 W v1 v2 A B :=
  ⟨⟨x.oi, x.ol, owns_nil _ _ _ _, x.ap, (apart_nil _).symm, (apart_nil _).symm, x.bel⟩, Foot.refl _ _, fun _ e => .inl e, fun _ e => .inl e⟩
theorem P2.grow (x : P2 w0 W v1 v2 E u1 u2 A B) (bl : Below E.heap.size E E') : P2 w0 W v1 v2 E' u1 u2 A B := ⟨x.r.grow bl, x.f.then (below_foot _ bl), x.m1, x.m2⟩
theorem P2.appA {ty : TypeId} (x : P2 w0 W v1 v2 E u1 u2 A B) (hx : Nums E (some q) 1 1 [y]) (hn : A.length ≤ 1000) : ∃ o c E', (Builtin.append_ #[28, 28] ty #[u1, .slice (some q) 1 1]).run Tryd.prog E = .ok (.slice o (A.length + 1) c) E' ∧ P2 w0 W v1 v2 E' (.slice o (A.length + 1) c) u2 (A ++ [y]) B ∧ AppEnd E u1 E' (.slice o (A.length + 1) c) := by
  obtain ⟨o, c, E', hr, r, f, m⟩ := x.r.appA (ty := ty) hx hn
  refine ⟨o, c, E', hr, ⟨r, x.f.trans f (fun j e => (x.m1 j e).imp .inl id), fun k e => ?_, x.m2⟩, f, m⟩
  rcases m k e with m | m
  · exact x.m1 k m
  · exact .inr (Nat.le_trans x.f.size m)
theorem P2.appB {ty : TypeId} (x : P2 w0 W v1 v2 E u1 u2 A B) (hx : Nums E (some q) 1 1 [y]) (hn : B.length ≤ 1000) : ∃ o c E', (Builtin.append_ #[28, 28] ty #[u2, .slice (some q) 1 1]).run Tryd.prog E = .ok (.slice o (B.length + 1) c) E' ∧ P2 w0 W v1 v2 E' u1 (.slice o (B.length + 1) c) A (B ++ [y]) ∧ AppEnd E u2 E' (.slice o (B.length + 1) c) := by
  obtain ⟨o, c, E', hr, r, f, m⟩ := x.r.appB (ty := ty) hx hn
  refine ⟨o, c, E', hr, ⟨r, x.f.trans f (fun j e => (x.m2 j e).imp .inr id), x.m1, fun k e => ?_⟩, f, m⟩
  rcases m k e with m | m
  · exact x.m2 k m
  · exact .inr (Nat.le_trans x.f.size m)
/- what is known behind both appends, ahead of the stores -/
structure SetDone (w0 W V : World) (g a b : Nat) (now : Int) (rv v1 v2 s1 s2 : Value) (L : List Al) (A B : List Int) : Prop where
  fin : TS w0 ((V.setCell ⟨a, 0, none⟩ s1).setCell ⟨b, 0, none⟩ s2) g a b now rv s1 s2 L A B
  ca : V.cell? ⟨a, 0, none⟩ = some v1
  za : V.frozen? ⟨a, 0, none⟩ = false
  cb : (V.setCell ⟨a, 0, none⟩ s1).cell? ⟨b, 0, none⟩ = some v2
  zb : (V.setCell ⟨a, 0, none⟩ s1).frozen? ⟨b, 0, none⟩ = false
theorem P2.done (x : TS w0 W g a b now rv v1 v2 L A B) {A' B' : List Int} (p : P2 w0 W v1 v2 E u1 u2 A' B') : SetDone w0 W E g a b now rv v1 v2 u1 u2 L A' B' := by
  obtain ⟨s1, s2, s3, s4, s5⟩ := x.stores p.f u1
  exact ⟨x.rows p.f p.r.a p.r.b p.r.ab, s1, s3, s4, s5⟩
theorem P2.cells (x : TS w0 W g a b now rv v1 v2 L A B) {A' B' : List Int} (p : P2 w0 W v1 v2 E u1 u2 A' B') : E.cell? ⟨a, 0, none⟩ = some v1 ∧ E.cell? ⟨b, 0, none⟩ = some v2 := by
  obtain ⟨s1, s2, _⟩ := x.stores p.f u1
  exact ⟨s1, s2⟩
theorem far_new {s : Value} (h : Nums E (some q) 1 1 [y]) (f : AppEnd E u1 E' s) (hq : W.heap.size ≤ q.block) (hu : ∀ k, u1.ownBlock = some k → k < W.heap.size) : Nums E' (some q) 1 1 [y] :=
  h.far f.1 (fun e => by have := hu _ e; omega)
end Go.Proofs.YtifmeljdkohkkaaDoor
