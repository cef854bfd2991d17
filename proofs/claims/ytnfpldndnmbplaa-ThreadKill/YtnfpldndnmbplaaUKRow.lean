/-
  A table of threads and two own rows of numbers in one memory: what stays of each when another turns. A slice of truths, and of bytes, that came in.
-/
import Derived.Test.YtnfpldndnmbplaaUAwake
import Derived.Test.YtnfpldndnmbplaaUKMath
import Derived.Test.YtnfpldndnmbplaaQRead
import Derived.Deep.Grids
namespace Go.Proofs.Ytnfpldndnmbplaa
open Go.RowKit Go.Deep
structure KP (w0 w : World) (B g : Nat) (T : List Th) (R : List Int) (ao : Option Addr) (c : Nat) (v v' : Value) (n n' : Nat) (L L' : List Int) : Prop where
  tb : Tb w g T R ao c
  o : w.ownsRow B 3 1 v n (cellsI L)
  o' : w.ownsRow B 3 1 v' n' (cellsI L')
  f : OffV R.length ao v
  f' : OffV R.length ao v'
  ap : ∀ k, v.ownBlock = some k → v'.ownBlock ≠ some k
  bel : Below B w0 w
  low : B ≤ g
  big : B ≤ w0.heap.size
variable {w0 w w' : World} {B g : Nat} {T : List Th} {R : List Int} {ao : Option Addr} {c : Nat} {v v' : Value} {n n' : Nat} {L L' : List Int}
theorem KP.size (x : KP w0 w B g T R ao c v v' n n' L L') : B ≤ w.heap.size := Nat.le_trans x.big x.bel.size
theorem KP.swap (x : KP w0 w B g T R ao c v v' n n' L L') : KP w0 w B g T R ao c v' v n' n L' L := ⟨x.tb, x.o', x.o, x.f', x.f, fun k e h => x.ap k h e, x.bel, x.low, x.big⟩
theorem KP.grow (x : KP w0 w B g T R ao c v v' n n' L L') (b : Below w.heap.size w w') : KP w0 w' B g T R ao c v v' n n' L L' := ⟨x.tb.grow b, owns_below x.o b, owns_below x.o' b, x.f, x.f', x.ap, x.bel.trans (b.mono x.size), x.low, x.big⟩
theorem KP.table {T' : List Th} {R' : List Int} (x : KP w0 w B g T R ao c v v' n n' L L') (h : TbEnd w g T' R' ao R.length w') : ∃ a' c', KP w0 w' B g T' R' a' c' v v' n n' L L' := by
  obtain ⟨a', c', t, f, k⟩ := h
  refine ⟨a', c', t, owns_foot x.o f (fun j e h => x.tb.off x.o (by decide) (e.trans (by rw [h]))), owns_foot x.o' f (fun j e h => x.tb.off x.o' (by decide) (e.trans (by rw [h]))), x.f.queue k (own_lt x.o), x.f'.queue k (own_lt x.o'), x.ap, f.low x.bel x.size x.low, x.low, x.big⟩
theorem KP.app {ty : TypeId} (x : KP w0 w B g T R ao c v v' n n' L L') (z : Int) (hn : n ≤ 17592186044400) :
    ∃ u W, (Builtin.append_ #[28, 28] ty #[v, .slice (some ⟨w.heap.size, 0, none⟩) 1 1]).run Try.prog (w.alloc (.cells #[.int .i64 z] 3)) = .ok u W ∧ KP w0 W B g T R ao c u v' (n + 1) n' (L ++ [z]) L' := by
  obtain ⟨u, W, hr, o, f, m⟩ := app_one (ty := ty) z x.o hn x.size
  refine ⟨u, W, hr, x.tb.foot f (fun h => x.tb.off x.o (by decide) h) (fun h0 ad e h => x.f h0 ad e h), o, owns_foot x.o' f (fun j e h => x.ap j h e), x.f.moved x.tb m, x.f', fun k e h => ?_, x.bel.trans (f.below x.size fun j e => (owns_lt x.o e).2), x.low, x.big⟩
  rcases m with m | ⟨j, m, hj⟩
  · exact x.ap k (by rw [← m]; exact e) h
  · rw [m] at e; cases e; have := (owns_lt x.o' h).1; omega
/- a slice of truths -/
def Bls (w : World) (ao : Option Addr) (n cap : Nat) (xs : List Bool) : Prop :=
  n = xs.length ∧ n ≤ cap ∧ cap ≤ maxLen ∧ (ao = none → cap = 0) ∧ ∀ ad, ao = some ad → ∀ j, j < n → w.cell? (ad.add j) = some (.bool (xs.getD j false))
theorem Bls.carry {w w' : World} {ao : Option Addr} {n cap : Nat} {xs : List Bool} (h : Bls w ao n cap xs) {B : Nat} (b : Below B w w') (hB : w.heap.size ≤ B) : Bls w' ao n cap xs :=
  ⟨h.1, h.2.1, h.2.2.1, h.2.2.2.1, fun ad e j hj => by
    have := h.2.2.2.2 ad e j hj
    rw [b.cell (Nat.lt_of_lt_of_le (lt_of_cell this) hB), this]⟩
theorem bytesB : Try.prog.bytesOf 4 = 1 := by kernel_rfl
theorem bytesOf5 : Try.prog.bytesOf 5 = 1 := by kernel_rfl
theorem open_bls {H : Type} {enc : TypeId × Value → H} {w : World} {a : Option Addr} {len cap fuel : Nat} {x : DataW H × List MemPlace} (hf : DataW.trod enc Try.prog w 0 (fun _ => true) true fuel 39 [.slice a len cap] = some x) :
    ∃ xs, Bls w a len cap xs ∧ (x.1 = .nil ∧ cap = 0 ∨ ∃ els sp, x.1 = .slice els sp ∧ els.length + sp.length = cap) := by
  rcases open_bools Try.underlying39 Try.underlying4 (by kernel_rfl) hf with ⟨hcs, hx⟩ | ⟨ad, l, c, Q, hcs, _, hl, hm, hx, hel⟩
  · simp at hcs
    obtain ⟨rfl, rfl, rfl⟩ := hcs
    exact ⟨[], ⟨rfl, Nat.le_refl _, by decide, fun _ => rfl, (fun ad e => by cases e)⟩, .inl ⟨by rw [hx], rfl⟩⟩
  · simp at hcs
    obtain ⟨rfl, rfl, rfl⟩ := hcs
    refine ⟨(List.range len).map Q, ⟨by simp, hl, hm, (fun e => by cases e), fun ad' e j hj => ?_⟩, .inr ⟨_, _, by rw [hx]; rfl, by simp; omega⟩⟩
    obtain rfl := Option.some.inj e
    rw [hel j (by omega), List.getD_eq_getElem?_getD, List.getElem?_map, List.getElem?_range hj]; rfl
theorem Bls.there {w : World} {ao : Option Addr} {n cap : Nat} {xs : List Bool} (h : Bls w ao n cap xs) {k : Nat} (hk : k < n) : ∃ ad, ao = some ad := by
  cases ao with
  | none => have := h.2.2.2.1 rfl; have := h.2.1; omega
  | some ad => exact ⟨ad, rfl⟩
/- a slice of bytes -/
def Oct (w : World) (ao : Option Addr) (n cap : Nat) (zs : List Int) : Prop := n ≤ cap ∧ cap ≤ maxLen ∧ (ao = none → n = 0) ∧ ∀ ad, ao = some ad → ∀ j, j < n → w.cell? (ad.add j) = some (.int .u8 (zs.getD j 0)) ∧ 0 ≤ zs.getD j 0 ∧ zs.getD j 0 ≤ 255
theorem RowOf.oct {w : World} {a : Option Addr} {len cap : Nat} {zs : List Int} (h : RowOf .u8 w a len cap zs) : Oct w a len cap zs := by
  rcases h with ⟨rfl, rfl, rfl, rfl⟩ | ⟨x, rfl, h1, h2, h3, h4, h5⟩
  · exact ⟨Nat.le_refl _, Nat.zero_le _, fun _ => rfl, fun _ e => by cases e⟩
  · refine ⟨h1, h2, (fun e => by cases e), fun ad e j hj => ?_⟩
    obtain rfl := Option.some.inj e
    refine ⟨h4 j (by omega), ?_⟩
    have hm : zs.getD j 0 ∈ zs := by
      rw [List.getD_eq_getElem?_getD, List.getElem?_eq_getElem (by omega)]; exact List.getElem_mem _
    have := bounds_u8 (h5 _ hm)
    exact ⟨by omega, by omega⟩
theorem Oct.carry {w w' : World} {ao : Option Addr} {n cap : Nat} {zs : List Int} (h : Oct w ao n cap zs) {B : Nat} (b : Below B w w') (hB : w.heap.size ≤ B) : Oct w' ao n cap zs :=
  ⟨h.1, h.2.1, h.2.2.1, fun ad e j hj => by
    obtain ⟨h1, h2⟩ := h.2.2.2 ad e j hj
    exact ⟨by rw [b.cell (Nat.lt_of_lt_of_le (lt_of_cell h1) hB), h1], h2⟩⟩
theorem Oct.there {w : World} {ao : Option Addr} {n cap : Nat} {zs : List Int} (h : Oct w ao n cap zs) {k : Nat} (hk : k < n) : ∃ ad, ao = some ad := by
  cases ao with
  | none => have := h.2.2.1 rfl; omega
  | some ad => exact ⟨ad, rfl⟩
end Go.Proofs.Ytnfpldndnmbplaa
