/-
  slices.IndexFunc over a Served's requests, at any function value that asks; served's find: contracts.
-/
import Derived.Test.YtnkfdnmaocfjnaaDoorNCalls
namespace Go.Proofs.YtnkfdnmaocfjnaaDoor
open Go.RowKit
variable {w w' : World} {g : Nat} {T L : List Rq}
/- F asks q of one, with fs beside it, in a world of which I holds, and changes nothing -/
structure AsksR (F : Nat) (fs : Array Value) (I : World → Prop) (q : Rq → Bool) : Prop where
  enter : ∀ (xs : Array Value) (w : World), (callFunc F xs).run Tryd.prog w = .ok (.enter F xs) w
  grow : ∀ (w w' : World), I w → Below w.heap.size w w' → I w'
  call : ∀ (y : Rq) (w : World), I w →
    Calls Tryd.prog F (#[.agg #[.int .u64 y.p, .int .u32 y.i, .bool y.b, .int .u64 y.m.ta, .int .u64 y.m.rp, .int .u32 y.m.id, .int .u16 y.m.op, .int .u16 y.m.st, .int .u64 y.m.p, .int .u32 y.m.o, .int .u8 y.m.r, .int .u64 y.m.c, .int .u64 y.m.ar, .slice y.m.so y.m.sn y.m.sc]] ++ fs) w fun e w' => e = .returned (.bool (q y)) ∧ Below w.heap.size w w'
def IdxIs (q : Rq → Bool) (L : List Rq) (r : Int) : Prop := (r = -1 ∧ ∀ j, j < L.length → q (rq L j) = false) ∨ ∃ i : Nat, i < L.length ∧ r = (i : Int) ∧ q (rq L i) = true ∧ ∀ j, j < i → q (rq L j) = false
theorem IdxIs.none {q : Rq → Bool} {r : Int} (h : IdxIs q L r) (hn : ∀ j, j < L.length → q (rq L j) = false) : r = -1 := by
  rcases h with ⟨h, _⟩ | ⟨i, hi, _, hq, _⟩
  · exact h
  · rw [hn i hi] at hq; cases hq
theorem IdxIs.some {q : Rq → Bool} {r : Int} (h : IdxIs q L r) (k : Nat) (hk : k < L.length) (hq : q (rq L k) = true) (hn : ∀ j, j < k → q (rq L j) = false) : r = (k : Int) := by
  rcases h with ⟨_, h⟩ | ⟨i, hi, he, hqi, hni⟩
  · rw [h k hk] at hq; cases hq
  · have h1 : ¬ k < i := fun e => by rw [hni k e] at hq; cases hq
    have h2 : ¬ i < k := fun e => by rw [hn i e] at hqi; cases hqi
    omega
def IdxRel (w : World) (q : Rq → Bool) (L : List Rq) (n gk : Nat) (vi : Value) (wr : World) : Prop := ∃ i : Nat, i + gk = n ∧ vi = .int .i64 (i : Int) ∧ (∀ j, j < i → q (rq L j) = false) ∧ Below w.heap.size w wr
set_option maxRecDepth 20000 in
set_option maxHeartbeats 1600000 in
theorem index_any (F : Nat) (fs : Array Value) (I : World → Prop) (q : Rq → Bool) (x : Sv w g T) (hI : I w) (hF : AsksR F fs I q) (n : Nat) (hn : n = T.length) :
    Calls Tryd.prog 17 #[.slice (some ⟨g, 0, none⟩) n 32, .func (.func F) #[] fs] w fun e w' => ∃ r, e = .returned (.int .i64 r) ∧ IdxIs q T r ∧ Below w.heap.size w w' := by
  have h32 : n ≤ 32 := by have := x.few; omega
  have HLEN := hide hn
  have HX := hide x
  have HI := hide hI
  have HFF := hide hF
  have hent := hF.enter
  clear x hI hF hn
  go_enter Tryd.func17, Tryd.ntmps17
  go_wp2
  go_loopg [8] n (fun gk vi wr => IdxRel w q T n gk vi wr)
  case atStart => exact ⟨0, by omega, rfl, fun j hj => by omega, Below.refl _ _⟩
  case round =>
    obtain ⟨i, hi, rfl, hno, b⟩ := hrel
    have HN := hide hno
    have HB := hide b
    clear hno b
    cases gk with
    | zero =>
      have hlt : ¬ ((i : Int) < (n : Int)) := by omega
      go_wp2
      go_ret
      exact ⟨_, rfl, .inl ⟨rfl, fun j hj => HN.out j (by have := HLEN.out; omega)⟩, HB.out⟩
    | succ g1 =>
      have hin : i < n := by omega
      have hlt : (i : Int) < (n : Int) := by omega
      obtain ⟨y, hy⟩ : ∃ y, rq T i = y := ⟨_, rfl⟩
      obtain ⟨k0, k1, k2, k3, k4, k5, k6, k7, k8, k9, k10, k11, k12, k13⟩ := (HX.out.grow HB.out).at i (by have := HLEN.out; omega) y hy
      have HY := hide hy
      clear hy
      go_wp2_with fail
      refine (HFF.out.call y _ (HFF.out.grow _ _ HI.out HB.out)).mono ?_; rintro e w1 ⟨rfl, b1⟩
      obtain ⟨r, hr⟩ : ∃ r, q y = r := ⟨_, rfl⟩
      have HR := hide hr
      rw [hr]
      have HB1 := hide (below_one HB.out b1)
      clear b1 hr
      cases r with
      | true =>
        go_wp2
        go_ret
        exact ⟨_, rfl, .inr ⟨i, by have := HLEN.out; omega, rfl, by rw [HY.out]; exact HR.out, HN.out⟩, HB1.out⟩
      | false =>
        go_wp2
        go_roundg g1
        case measure => omega
        case rel =>
          refine ⟨i + 1, by omega, by go_num, fun j hj => ?_, HB1.out⟩
          by_cases e : j = i
          · rw [e, HY.out]; exact HR.out
          · exact HN.out j (by omega)
end Go.Proofs.YtnkfdnmaocfjnaaDoor
