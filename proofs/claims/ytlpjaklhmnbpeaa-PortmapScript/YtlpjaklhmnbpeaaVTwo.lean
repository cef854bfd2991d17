/-
  The variables of a script's round: a port's and a node's, beside a map and a row; the row that is laid anew at the end of a deed.
-/
import Derived.Test.YtlpjaklhmnbpeaaVScr
import Derived.Test.YtlpjaklhmnbpeaaVAct
import Derived.Test.YtlpjaklhmnbpeaaYTill
namespace Go.Proofs.Ytlpjaklhmnbpeaa
open Go.RowKit
/- a port and a node in two new variables -/
structure PN (X W : World) (hp hn : Nat) (p n : Int) : Prop where
  cp : W.cell? ⟨hp, 0, none⟩ = some (.int .u64 p)
  cn : W.cell? ⟨hn, 0, none⟩ = some (.int .i64 n)
  lp : X.heap.size ≤ hp
  ln : X.heap.size ≤ hn
  bel : Below X.heap.size X W
theorem two_new (D : World) (a b : Obj) : (((D.alloc a).alloc b).drew).heap[D.heap.size]? = some a ∧ (((D.alloc a).alloc b).drew).heap[D.heap.size + 1]? = some b := by
  have s : (D.alloc a).heap.size = D.heap.size + 1 := by simp
  show ((D.alloc a).alloc b).heap[D.heap.size]? = some a ∧ ((D.alloc a).alloc b).heap[D.heap.size + 1]? = some b
  refine ⟨?_, by rw [← s]; exact heap_alloc_new _ _⟩
  rw [(below_alloc (D.alloc a) b).block _ (by omega)]; exact heap_alloc_new _ _
theorem below_two (X : World) (a b : Obj) : Below X.heap.size X ((X.alloc a).alloc b).drew := below_drewN (below_one (below_alloc _ _) (below_alloc _ _)) 1
theorem pn_a (X : World) (p n : Int) : PN X ((X.alloc (.cells #[.int .u64 p] 29)).alloc (.cells #[.int .i64 n] 3)).drew X.heap.size (X.heap.size + 1) p n := by
  obtain ⟨h1, h2⟩ := two_new X (.cells #[.int .u64 p] 29) (.cells #[.int .i64 n] 3)
  exact ⟨by rw [cell_of_row _ _ _ _ _ _ h1]; rfl, by rw [cell_of_row _ _ _ _ _ _ h2]; rfl, Nat.le_refl _, Nat.le_succ _, below_two _ _ _⟩
theorem pn_b (X : World) (p n : Int) : PN X ((X.alloc (.cells #[.int .i64 n] 3)).alloc (.cells #[.int .u64 p] 29)).drew (X.heap.size + 1) X.heap.size p n := by
  obtain ⟨h1, h2⟩ := two_new X (.cells #[.int .i64 n] 3) (.cells #[.int .u64 p] 29)
  exact ⟨by rw [cell_of_row _ _ _ _ _ _ h2]; rfl, by rw [cell_of_row _ _ _ _ _ _ h1]; rfl, Nat.le_succ _, Nat.le_refl _, below_two _ _ _⟩
/- a map, a row, and both variables -/
structure Sv (w0 w : World) (g r hp hn : Nat) (age : Int) (rv vr : Value) (L M : List Pl) (p n : Int) : Prop where
  sc : Sc w0 w g r age rv vr L M
  cp : w.cell? ⟨hp, 0, none⟩ = some (.int .u64 p)
  cn : w.cell? ⟨hn, 0, none⟩ = some (.int .i64 n)
  pg : hp ≠ g
  pr : hp ≠ r
  ng : hn ≠ g
  nr : hn ≠ r
variable {w0 w w' : World} {g r hp hn : Nat} {age : Int} {rv vr : Value} {L M : List Pl} {p n : Int}
theorem sv_new {X : World} (x : Sc w0 X g r age rv vr L M) (h : PN X w hp hn p n) : Sv w0 w g r hp hn age rv vr L M p n := by
  have h1 := x.pm.lt
  have h2 := x.rl
  have h3 := h.lp
  have h4 := h.ln
  exact ⟨x.grow h.bel, h.cp, h.cn, by omega, by omega, by omega, by omega⟩
theorem Sv.map {L' : List Pl} (x : Sv w0 w g r hp hn age rv vr L M p n) (h : PmEnd w w0.heap.size g age L' w') : ∃ rv', Sv w0 w' g r hp hn age rv' vr L' M p n := by
  obtain ⟨rv', y⟩ := x.sc.map h
  obtain ⟨_, _, f⟩ := h
  exact ⟨rv', y, by rw [f.cell _ (lt_of_cell x.cp) x.pg, x.cp], by rw [f.cell _ (lt_of_cell x.cn) x.ng, x.cn], x.pg, x.pr, x.ng, x.nr⟩
theorem Sv.keep {M' : List Pl} (x : Sv w0 w g r hp hn age rv vr L M p n) (h : KeepEnd w0 w g r age rv L M' w') : ∃ v, Sv w0 w' g r hp hn age rv v L M' p n := by
  obtain ⟨v, y, f⟩ := h
  exact ⟨v, y, by rw [f.cell _ (lt_of_cell x.cp) x.pr, x.cp], by rw [f.cell _ (lt_of_cell x.cn) x.nr, x.cn], x.pg, x.pr, x.ng, x.nr⟩
/- the same, where the row may have lost its head -/
structure Sl (w0 w : World) (g r hp hn : Nat) (age : Int) (rv : Value) (ao : Option Addr) (m c : Nat) (L M : List Pl) (p n : Int) : Prop where
  pm : Pm w w0.heap.size g age rv L
  br : w.heap[r]? = some (.cells #[.slice ao m c] 27 (0, 0))
  li : Lies 3 w ao m c (cellsV M)
  lr : w0.heap.size ≤ r
  bel : Below w0.heap.size w0 w
  cp : w.cell? ⟨hp, 0, none⟩ = some (.int .u64 p)
  cn : w.cell? ⟨hn, 0, none⟩ = some (.int .i64 n)
variable {ao : Option Addr} {m c : Nat}
theorem Sl.cr (x : Sl w0 w g r hp hn age rv ao m c L M p n) : w.cell? ⟨r, 0, none⟩ = some (.slice ao m c) := by rw [cell_of_row w r _ _ _ _ x.br]; rfl
theorem Sl.zr (x : Sl w0 w g r hp hn age rv ao m c L M p n) : w.frozen? ⟨r, 0, none⟩ = false := frozen_of_row w r 0 _ _ x.br
theorem Sl.grow (x : Sl w0 w g r hp hn age rv ao m c L M p n) (b : Below w.heap.size w w') : Sl w0 w' g r hp hn age rv ao m c L M p n :=
  ⟨x.pm.grow b, (b.block r (lt_of_heap x.br)).trans x.br, x.li.carry b (Nat.le_refl _), x.lr, x.bel.trans (b.mono x.bel.size), by rw [b.cell (lt_of_cell x.cp), x.cp], by rw [b.cell (lt_of_cell x.cn), x.cn]⟩
theorem Sv.sl (x : Sv w0 w g r hp hn age rv (.slice ao m c) L M p n) : Sl w0 w g r hp hn age rv ao m c L M p n := by
  obtain ⟨bo, bc, e, l⟩ := owns_lies x.sc.ow
  cases e
  exact ⟨x.sc.pm, x.sc.br, l, x.sc.lr, x.sc.bel, x.cp, x.cn⟩
/- its head is cut off -/
theorem Sv.cut (x : Sv w0 w g r hp hn age rv (.slice ao m c) L M p n) (hm : 1 ≤ m) : Sl w0 (w.setCell ⟨r, 0, none⟩ (.slice (tailG 3 ao 1 c) (m - 1) (c - 1))) g r hp hn age rv (tailG 3 ao 1 c) (m - 1) (c - 1) L (M.drop 1) p n := by
  have s := x.sl
  have hf := foot_set w ⟨r, 0, none⟩ (.slice (tailG 3 ao 1 c) (m - 1) (c - 1))
  have li : Lies 3 w (tailG 3 ao 1 c) (m - 1) (c - 1) (cellsV (M.drop 1)) := by
    have := s.li.tail 1 hm
    rw [show (cellsV M).drop (1 * 3) = cellsV (M.drop 1) from (cellsV_drop M 1).symm] at this; exact this
  refine ⟨pm_put s.pm s.br _, ?_, li.foot hf (fun _ ad e e2 => ?_), s.lr, s.bel.trans (hf.below s.bel.size (fun k e => by rw [e]; exact s.lr)), by rw [hf.cell _ (lt_of_cell x.cp) x.pr, x.cp], by rw [hf.cell _ (lt_of_cell x.cn) x.nr, x.cn]⟩
  · rw [heap_setCell_same w r 0 _ _ _ s.br]; rfl
  · have hb : ∃ a0, ao = some a0 ∧ a0.block = r := by
      unfold tailG at e
      split at e
      · exact ⟨ad, e, e2⟩
      · obtain ⟨a0, rfl, rfl⟩ := Option.map_eq_some_iff.1 e
        exact ⟨a0, rfl, by rw [← add_block a0 (1 * 3)]; exact e2⟩
    obtain ⟨a0, rfl, h0⟩ := hb
    rcases x.sc.ow.2 with ⟨h1, _⟩ | ⟨k, cp, cur, h1, h2, h3, _⟩
    · cases h1
    · cases h1
      subst h0
      exact two_types h3 s.br (by decide) rfl
/- append(append(nil, row...), one), the row first or the one first -/
def NewR (W : World) (y : Pl) (M : List Pl) (v : Value) (m : Nat) (w2 : World) : Prop := Below W.heap.size W w2 ∧ w2.ownsRow W.heap.size 31 3 v m (cellsV (M ++ [y]))
theorem apps_a {W : World} (y : Pl) (h : Lies 3 W ao m c (cellsV M)) (hm : m ≤ 1000) :
    ∃ v1 w1 na nc w2, (Builtin.append_ #[27, 27] 27 #[.slice none 0 0, .slice ao m c]).run Try.prog W = .ok v1 w1 ∧ Below W.heap.size W w1 ∧
      (Builtin.append_ #[27, 27] 27 #[v1, .slice (some ⟨w1.heap.size, 0, none⟩) 1 1]).run Try.prog (w1.alloc (.cells #[.int .u64 y.p, .int .i64 y.n, .int .i64 y.a] 31)) = .ok (.slice na (m + 1) nc) w2 ∧ NewR W y M (.slice na (m + 1) nc) (m + 1) w2 := by
  obtain ⟨v1, w1, r1, o1, g1⟩ := app_row (ty := 27) (show W.ownsRow W.heap.size 31 3 (.slice none 0 0) 0 (cellsV []) from owns_nil _ _ _ _) h (by omega) (Nat.le_refl _)
  have b1 : Below W.heap.size W w1 := (grown_foot g1).below (Nat.le_refl _) (fun k e => by cases e)
  have bA := below_alloc w1 (.cells #[.int .u64 y.p, .int .i64 y.n, .int .i64 y.a] 31)
  rw [Nat.zero_add, List.nil_append] at o1
  obtain ⟨v2, w2, r2, o2, g2⟩ := app_row (ty := 27) (owns_grow o1 bA) (lies_one w1 y) (by omega) (Nat.le_trans b1.size bA.size)
  have b2 := below_grown (below_one b1 bA) (Nat.le_trans b1.size bA.size) (owns_grow o1 bA) g2
  obtain ⟨na, nc, rfl⟩ := owns_slice o2
  exact ⟨v1, w1, na, nc, w2, r1, b1, r2, b2, o2⟩
theorem apps_b {W : World} (y : Pl) (h : Lies 3 W ao m c (cellsV M)) (hm : m ≤ 1000) :
    ∃ v1 w1 na nc w2, (Builtin.append_ #[27, 27] 27 #[.slice none 0 0, .slice ao m c]).run Try.prog (W.alloc (.cells #[.int .u64 y.p, .int .i64 y.n, .int .i64 y.a] 31)) = .ok v1 w1 ∧ Below W.heap.size W w1 ∧
      (Builtin.append_ #[27, 27] 27 #[v1, .slice (some ⟨W.heap.size, 0, none⟩) 1 1]).run Try.prog w1 = .ok (.slice na (m + 1) nc) w2 ∧ NewR W y M (.slice na (m + 1) nc) (m + 1) w2 := by
  obtain ⟨X, hX⟩ : ∃ X, W.alloc (.cells #[.int .u64 y.p, .int .i64 y.n, .int .i64 y.a] 31) = X := ⟨_, rfl⟩
  have bA : Below W.heap.size W X := hX ▸ below_alloc W _
  have hL1 : Lies 3 X (some ⟨W.heap.size, 0, none⟩) 1 1 (cellsV [y]) := hX ▸ lies_one W y
  rw [hX]
  obtain ⟨v1, w1, r1, o1, g1⟩ := app_row (ty := 27) (show X.ownsRow W.heap.size 31 3 (.slice none 0 0) 0 (cellsV []) from owns_nil _ _ _ _) (h.carry bA (Nat.le_refl _)) (by omega) bA.size
  have bX : Below X.heap.size X w1 := (grown_foot g1).below (Nat.le_refl _) (fun k e => by cases e)
  rw [Nat.zero_add, List.nil_append] at o1
  obtain ⟨v2, w2, r2, o2, g2⟩ := app_row (ty := 27) o1 (hL1.carry bX (Nat.le_refl _)) (by omega) (below_one bA bX).size
  have b2 := below_grown (below_one bA bX) (below_one bA bX).size o1 g2
  obtain ⟨na, nc, rfl⟩ := owns_slice o2
  exact ⟨v1, w1, na, nc, w2, r1, below_one bA bX, r2, b2, o2⟩
/- it is stored -/
theorem Sl.store {W w2 : World} {v : Value} {k : Nat} {y : Pl} (x : Sl w0 W g r hp hn age rv ao m c L M p n) (h : NewR W y M v k w2) : Sc w0 (w2.setCell ⟨r, 0, none⟩ v) g r age rv v L (M ++ [y]) := by
  have x1 := x.grow h.1
  exact row_put x1.pm x1.br x1.lr x1.bel (owns_base h.2 x.bel.size)
set_option maxHeartbeats 800000 in
theorem kp2_asks (g : Nat) (c : Int) : AsksOf 12 g (.int .u64 c) (fun y => !isP c y) := by
  refine ⟨fun xs w => by kernel_rfl, ?_⟩
  intro y w hc
  have hg := lt_of_cell hc
  replace hg : g < w.heap.size := hg
  obtain ⟨r, hr⟩ : ∃ r, (y.p != c) = r := ⟨_, rfl⟩
  rw [show (!isP c y) = r from hr]
  go_enter Try.func12, Try.ntmps12
  go_wp2
  go_ret
  exact ⟨rfl, below_alloc _ _⟩
set_option maxHeartbeats 800000 in
theorem kp3_asks (g : Nat) (c : Int) : AsksOf 14 g (.int .u64 c) (fun y => !isP c y) := by
  refine ⟨fun xs w => by kernel_rfl, ?_⟩
  intro y w hc
  have hg := lt_of_cell hc
  replace hg : g < w.heap.size := hg
  obtain ⟨r, hr⟩ : ∃ r, (y.p != c) = r := ⟨_, rfl⟩
  rw [show (!isP c y) = r from hr]
  go_enter Try.func14, Try.ntmps14
  go_wp2
  go_ret
  exact ⟨rfl, below_alloc _ _⟩
set_option maxHeartbeats 800000 in
theorem kp4_asks (g : Nat) (c : Int) : AsksOf 16 g (.int .i64 c) (fun y => !isN c y) := by
  refine ⟨fun xs w => by kernel_rfl, ?_⟩
  intro y w hc
  have hg := lt_of_cell hc
  replace hg : g < w.heap.size := hg
  obtain ⟨r, hr⟩ : ∃ r, (y.n != c) = r := ⟨_, rfl⟩
  rw [show (!isN c y) = r from hr]
  go_enter Try.func16, Try.ntmps16
  go_wp2
  go_ret
  exact ⟨rfl, below_alloc _ _⟩
end Go.Proofs.Ytlpjaklhmnbpeaa
