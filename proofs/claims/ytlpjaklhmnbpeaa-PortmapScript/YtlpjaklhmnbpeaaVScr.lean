/-
  A map and the statement's own row of places in a variable: what stays of each when the other turns; the statement's keep, as a contract.
-/
import Derived.Test.YtlpjaklhmnbpeaaVAwake
import Derived.Test.YtlpjaklhmnbpeaaVInv
namespace Go.Proofs.Ytlpjaklhmnbpeaa
open Go.RowKit
theorem Try.infoL : (Try.prog.info? 31).map (fun i => (i.zero, i.size, i.bytes)) = some (some (.agg #[.int .u64 0, .int .i64 0, .int .i64 0]), 3, 24) := by kernel_rfl
theorem Try.sizeOfL (w : World) : (sizeOf 31).run Try.prog w = .ok 3 w := by kernel_rfl
/- append of places to an own row of the statement's -/
theorem app_row {ty : TypeId} {W : World} {B n m c : Nat} {v : Value} {uo : Option Addr} {L M : List Pl} (hown : W.ownsRow B 31 3 v n (cellsV L)) (hM : Lies 3 W uo m c (cellsV M)) (hn : n + m ≤ 1000000) (hB : B ≤ W.heap.size) :
    ∃ v' w', (Builtin.append_ #[27, 27] ty #[v, .slice uo m c]).run Try.prog W = .ok v' w' ∧ w'.ownsRow B 31 3 v' (n + m) (cellsV (L ++ M)) ∧ W.grownBy w' v.ownBlock := by
  obtain ⟨i0, hi0, hz0, hz1, hz2⟩ := info_parts Try.infoL
  cases uo with
  | none =>
    obtain rfl : c = 0 := hM.2.2.2.1 rfl
    obtain rfl : m = 0 := by have := hM.2.1; omega
    obtain rfl : M = [] := List.eq_nil_of_length_eq_zero (by have := hM.1; rw [cellsV_len] at this; omega)
    obtain ⟨ao, ac, rfl, hl⟩ := owns_lies hown
    exact ⟨_, W, app_none (ty := ty) W Try.underlying27 hi0 ao n ac hl.2.1 hl.2.2.2.1, by rw [List.append_nil]; exact hown, World.grownBy.refl _ _⟩
  | some ad =>
    obtain ⟨v', w3, hr, hown3, hgr3, _, _⟩ := run_append_own_at (P := Try.prog) W B 27 ty 31 i0 _ 3 24 Try.underlying27 hi0 hz0 hz1 hz2 rfl (by omega) v n _ hown ad m c (cellsV M) hM.1 (fun j u hu => hM.2.2.2.2 ad rfl j u hu) (cellsV_one M) (by unfold maxLen; omega) (by omega) hB
    exact ⟨v', w3, hr, by rw [cellsV_append]; exact hown3, hgr3⟩
theorem lies_one (W : World) (y : Pl) : Lies 3 (W.alloc (.cells #[.int .u64 y.p, .int .i64 y.n, .int .i64 y.a] 31)) (some ⟨W.heap.size, 0, none⟩) 1 1 (cellsV [y]) := lies_alloc rfl rfl (by omega)
/- a map and the row -/
structure Sc (w0 w : World) (g r : Nat) (age : Int) (rv vr : Value) (L M : List Pl) : Prop where
  pm : Pm w w0.heap.size g age rv L
  br : w.heap[r]? = some (.cells #[vr] 27 (0, 0))
  ow : OwnV 31 w w0.heap.size vr M
  lr : w0.heap.size ≤ r
  bel : Below w0.heap.size w0 w
variable {w0 w w' : World} {g r : Nat} {age : Int} {rv vr : Value} {L M : List Pl}
theorem Sc.cr (x : Sc w0 w g r age rv vr L M) : w.cell? ⟨r, 0, none⟩ = some vr := by rw [cell_of_row w r _ _ _ _ x.br]; rfl
theorem Sc.zr (x : Sc w0 w g r age rv vr L M) : w.frozen? ⟨r, 0, none⟩ = false := frozen_of_row w r 0 _ _ x.br
theorem Sc.rg (x : Sc w0 w g r age rv vr L M) : r ≠ g := two_types x.br x.pm.box (by decide)
theorem Sc.rl (x : Sc w0 w g r age rv vr L M) : r < w.heap.size := lt_of_heap x.br
theorem Sc.size (x : Sc w0 w g r age rv vr L M) : w0.heap.size ≤ w.heap.size := x.bel.size
theorem Sc.grow (x : Sc w0 w g r age rv vr L M) (b : Below w.heap.size w w') : Sc w0 w' g r age rv vr L M :=
  ⟨x.pm.grow b, (b.block r x.rl).trans x.br, x.ow.grow b, x.lr, x.bel.trans (b.mono x.size)⟩
/- the map turned -/
theorem Sc.map {L' : List Pl} (x : Sc w0 w g r age rv vr L M) (h : PmEnd w w0.heap.size g age L' w') : ∃ rv', Sc w0 w' g r age rv' vr L' M := by
  obtain ⟨rv', t, f⟩ := h
  refine ⟨rv', t, (f.block r x.rl x.rg).trans x.br, owns_foot x.ow f (fun k e e2 => ?_), x.lr, x.bel.trans (f.below x.size (fun k e => by rw [e]; exact x.pm.low))⟩
  subst e2
  obtain ⟨cur, hh⟩ := owns_type x.ow e
  exact two_types hh x.pm.box (by decide) rfl
/- a new row is stored -/
theorem pm_put (x : Pm w w0.heap.size g age rv L) {b : Value} (br : w.heap[r]? = some (.cells #[b] 27 (0, 0))) (v : Value) : Pm (w.setCell ⟨r, 0, none⟩ v) w0.heap.size g age rv L := by
  refine x.foot (foot_set w ⟨r, 0, none⟩ v) (fun e => ?_) (fun k e e2 => ?_)
  · exact two_types br x.box (by decide) e.symm
  · obtain ⟨cur, hh⟩ := owns_type x.row e
    exact two_types hh br (by decide) e2
theorem row_put {w1 : World} {b v : Value} {n : Nat} {M' : List Pl} (pm : Pm w1 w0.heap.size g age rv L) (br : w1.heap[r]? = some (.cells #[b] 27 (0, 0))) (lr : w0.heap.size ≤ r) (bel : Below w0.heap.size w0 w1) (h : w1.ownsRow w0.heap.size 31 3 v n (cellsV M')) :
    Sc w0 (w1.setCell ⟨r, 0, none⟩ v) g r age rv v L M' := by
  have hn : n = M'.length := by have := h.1; rw [cellsV_len] at this; omega
  subst hn
  refine ⟨pm_put pm br v, ?_, owns_foot h (foot_set w1 ⟨r, 0, none⟩ v) (fun k e e2 => ?_), lr, bel.trans ((foot_set w1 ⟨r, 0, none⟩ v).below bel.size (fun k e => by rw [e]; exact lr))⟩
  · rw [heap_setCell_same w1 r 0 _ _ v br]; rfl
  · obtain ⟨cur, hh⟩ := owns_type h e
    exact two_types hh br (by decide) e2
theorem Sc.row {w1 : World} {v : Value} {n b : Nat} {M' : List Pl} (x : Sc w0 w g r age rv vr L M) (bl : Below w.heap.size w w1) (h : w1.ownsRow b 31 3 v n (cellsV M')) (hb : w0.heap.size ≤ b) :
    Sc w0 (w1.setCell ⟨r, 0, none⟩ v) g r age rv v L M' ∧ Foot (fun k => k = r) w (w1.setCell ⟨r, 0, none⟩ v) := by
  have x1 := x.grow bl
  exact ⟨row_put x1.pm x1.br x1.lr x1.bel (owns_base h hb), (below_foot _ bl).then (foot_set w1 ⟨r, 0, none⟩ v)⟩
/- at the start -/
theorem sc_new {w1 : World} (p : Pm w1 g g age rv []) (hg : w0.heap.size ≤ g) (hrv : rv = .slice none 0 0) (bl : Below w0.heap.size w0 w1) : Sc w0 (w1.alloc (.cells #[.slice none 0 0] 27)) g w1.heap.size age rv (.slice none 0 0) [] [] := by
  have p1 := p.grow (below_alloc w1 (.cells #[.slice none 0 0] 27))
  exact ⟨⟨p1.box, by rw [hrv]; exact own_nilV _ _ _, hg⟩, heap_alloc_new _ _, own_nilV _ _ _, bl.size, below_one bl (below_alloc _ _)⟩
def KeepEnd (w0 w : World) (g r : Nat) (age : Int) (rv : Value) (L M : List Pl) (w' : World) : Prop := ∃ v, Sc w0 w' g r age rv v L M ∧ Foot (fun k => k = r) w w'
def KeepRel (w : World) (q : Pl → Bool) (M : List Pl) (n gk : Nat) (vo vi : Value) (wr : World) : Prop := ∃ i : Nat, i + gk = n ∧ vi = .int .i64 (i : Int) ∧ OwnV 31 wr w.heap.size vo (dropQ q (M.take i)) ∧ Below w.heap.size w wr
set_option maxRecDepth 20000 in
set_option maxHeartbeats 3200000 in
theorem keep_any (F h : Nat) (q : Pl → Bool) (c : Value) (w : World) (x : Sc w0 w g r age rv vr L M) (hM : M.length ≤ 1000) (hc : w.cell? ⟨h, 0, none⟩ = some c) (hF : AsksOf F h c (fun y => !q y)) :
    Calls Try.prog 10 #[.func (.func F) #[] #[.pointer (some ⟨h, 0, none⟩)], .pointer (some ⟨r, 0, none⟩)] w fun e w' => e = .returned (.tuple #[]) ∧ KeepEnd w0 w g r age rv L (dropQ q M) w' := by
  have HX := hide x
  have k0 := x.cr
  obtain ⟨ao, cap, rfl, hnc, hcap⟩ := x.ow.form
  obtain ⟨n, hn⟩ : ∃ n, M.length = n := ⟨_, rfl⟩
  rw [hn] at hnc hM k0
  have HLEN := hide hn
  have HC := hide hc
  have HHL : Hid (h < w.heap.size) := lt_of_cell hc
  have hent := hF.enter
  have HFF := hide hF
  have HM := hide hM
  clear x hn hc hF hM
  go_enter Try.func10, Try.ntmps10
  go_wp2
  go_loopg [3, 8] n (fun gk vo vi wr => KeepRel w q M n gk vo vi wr)
  case atStart => exact ⟨0, by omega, rfl, own_nilV _ _ _, Below.refl _ _⟩
  case round =>
    obtain ⟨i, hi, rfl, ho, b⟩ := hrel
    obtain ⟨oo, oc, rfl, honc, hocap⟩ := OwnV.form ho
    have HO := hide ho
    have HB := hide b
    have HI := hide hi
    obtain ⟨on, hon⟩ : ∃ on, (dropQ q (M.take i)).length = on := ⟨_, rfl⟩
    rw [hon] at honc ⊢
    have HON := hide hon
    clear ho b hon
    cases gk with
    | zero =>
      obtain rfl : i = n := by omega
      have hlt : ¬ ((i : Int) < (i : Int)) := by omega
      have x1 := HX.out.grow HB.out
      have c1 := x1.cr
      have z1 := x1.zr
      have ho := HO.out
      rw [List.take_of_length_le (by rw [HLEN.out]; omega), show (dropQ q M).length = on from by have := HON.out; rw [List.take_of_length_le (by rw [HLEN.out]; omega)] at this; exact this] at ho
      have HE := hide (HX.out.row HB.out ho HX.out.size)
      rw [HLEN.out] at c1
      clear hi x1 ho k0
      go_wp2
      go_returns
      exact ⟨rfl, _, HE.out⟩
    | succ g1 =>
      have hlt : (i : Int) < (n : Int) := by omega
      obtain ⟨hh, ac, e, c0, c1, c2, _⟩ := ((HX.out.grow HB.out).ow).elem i (by rw [HLEN.out]; omega)
      obtain ⟨rfl, rfl⟩ : ao = some ⟨hh, 0, none⟩ ∧ cap = ac := by cases e; exact ⟨rfl, rfl⟩
      obtain ⟨y, hy⟩ : ∃ y, M.getD i Pl.zero = y := ⟨_, rfl⟩
      rw [hy] at c0 c1 c2
      have HY := hide hy
      have HIN : Hid (i < M.length) := by show _ < _; rw [HLEN.out]; omega
      obtain ⟨X, hX⟩ : ∃ X, wr.alloc (.cells #[.int .u64 y.p, .int .i64 y.n, .int .i64 y.a] 31) = X := ⟨_, rfl⟩
      have d0 : X.cell? ⟨wr.heap.size, 0, none⟩ = some (.int .u64 y.p) := by rw [← hX]; simp
      have d1 : X.cell? ⟨wr.heap.size, 1, none⟩ = some (.int .i64 y.n) := by rw [← hX]; simp
      have d2 : X.cell? ⟨wr.heap.size, 2, none⟩ = some (.int .i64 y.a) := by rw [← hX]; simp
      have HBX := hide (hX ▸ below_alloc wr _ : Below wr.heap.size wr X)
      have HGC : Hid (X.cell? ⟨h, 0, none⟩ = some c) := by
        show _ = _
        rw [(below_one HB.out HBX.out).cell HHL.out, HC.out]
      have HD := hide (And.intro d0 (And.intro d1 d2))
      clear hi hy e k0
      go_wp2_with fail
      refine (HFF.out.call y _ HGC.out).mono ?_; rintro e w2 ⟨rfl, b2⟩
      have hsz : wr.heap.size < X.heap.size := lt_of_cell HD.out.1
      have k0 : w2.cell? ⟨wr.heap.size, 0, none⟩ = some (.int .u64 y.p) := by rw [b2.cell hsz, HD.out.1]
      have k1 : w2.cell? ⟨wr.heap.size, 1, none⟩ = some (.int .i64 y.n) := by rw [b2.cell hsz, HD.out.2.1]
      have k2 : w2.cell? ⟨wr.heap.size, 2, none⟩ = some (.int .i64 y.a) := by rw [b2.cell hsz, HD.out.2.2]
      have HB2 := hide (below_one HB.out (below_one HBX.out b2))
      have HO2 := hide (OwnV.grow HO.out (below_one HBX.out b2))
      obtain ⟨qq, hq⟩ : ∃ b, q y = b := ⟨_, rfl⟩
      have HQ := hide hq
      simp only [hq]
      clear hq b2 hsz d0 d1 d2 c0 c1 c2 hX HO
      cases qq with
      | true =>
        rw [show (!true) = false from rfl]
        go_wp2
        go_roundg g1
        case measure => omega
        case rel =>
          refine ⟨i + 1, by have := HI.out; omega, by go_num, ?_, HB2.out⟩
          rw [dropQ_snoc q M i HIN.out, HY.out, if_pos HQ.out, List.append_nil, ← HON.out]
          exact HO2.out
      | false =>
        rw [show (!false) = true from rfl]
        have ho2 := HO2.out
        unfold OwnV at ho2
        rw [HON.out] at ho2
        have honL : on ≤ 1000 := by rw [← HON.out]; exact Nat.le_trans (dropQ_len _ _) (by rw [List.length_take]; have := HM.out; have := HLEN.out; omega)
        obtain ⟨v', w3, hr, ho3, hg3⟩ := app_row (ty := 27) (owns_grow ho2 (below_alloc w2 (.cells #[.int .u64 y.p, .int .i64 y.n, .int .i64 y.a] 31))) (lies_one w2 y) (by omega) (Nat.le_trans HB2.out.size (below_alloc w2 _).size)
        have HB3 := hide (below_grown (below_one HB2.out (below_alloc w2 _)) (Nat.le_trans HB2.out.size (below_alloc w2 _).size) (owns_grow ho2 (below_alloc w2 (.cells #[.int .u64 y.p, .int .i64 y.n, .int .i64 y.a] 31))) hg3)
        have HO3 := hide ho3
        have HR := hide hr
        clear hr ho3 hg3 ho2 honL
        go_wp2_with (at_builtin; refine wpList_append_run rfl _ _ _ rfl _ _ _ _ rfl rfl HR.out ?_)
        go_wp2
        go_roundg g1
        case measure => omega
        case rel =>
          refine ⟨i + 1, by have := HI.out; omega, by go_num, ?_, HB3.out⟩
          rw [dropQ_snoc q M i HIN.out, HY.out, if_neg (by rw [HQ.out]; decide)]
          show World.ownsRow _ _ _ _ _ _ _
          rw [show (dropQ q (M.take i) ++ [y]).length = on + 1 from by rw [List.length_append, HON.out]; rfl]
          exact HO3.out
end Go.Proofs.Ytlpjaklhmnbpeaa
