/-
  A clock and the statement's two rows (who is set, and how long it still takes), each row in a variable: what stays of each when the others turn.
-/
import Derived.Test.YtifmeljdkohkkaaDoorYRead
import Derived.Test.YtifmeljdkohkkaaDoorQNum
import Derived.Test.YtifmeljdkohkkaaDoorYTill
namespace Go.Proofs.YtifmeljdkohkkaaDoor
open Go.RowKit
structure TS (w0 w : World) (g a b : Nat) (now : Int) (rv vi vl : Value) (L : List Al) (I J : List Int) : Prop where
  tm : Tm w w0.heap.size g now rv L
  ba : w.heap[a]? = some (.cells #[vi] 28 (0, 0))
  bb : w.heap[b]? = some (.cells #[vl] 28 (0, 0))
  oi : w.ownsRow w0.heap.size 3 1 vi I.length (cellsI I)
  ol : w.ownsRow w0.heap.size 3 1 vl J.length (cellsI J)
  ap : ∀ k, vi.ownBlock = some k → vl.ownBlock ≠ some k
  ab : a ≠ b
  la : w0.heap.size ≤ a
  lb : w0.heap.size ≤ b
  bel : Below w0.heap.size w0 w
variable {w0 w w' : World} {g a b : Nat} {now : Int} {rv vi vl : Value} {L : List Al} {I J : List Int}
theorem TS.ca (x : TS w0 w g a b now rv vi vl L I J) : w.cell? ⟨a, 0, none⟩ = some vi := by rw [cell_of_row w a _ _ _ _ x.ba]; rfl
theorem TS.cb (x : TS w0 w g a b now rv vi vl L I J) : w.cell? ⟨b, 0, none⟩ = some vl := by rw [cell_of_row w b _ _ _ _ x.bb]; rfl
theorem TS.za (x : TS w0 w g a b now rv vi vl L I J) : w.frozen? ⟨a, 0, none⟩ = false := frozen_of_row w a 0 _ _ x.ba
theorem TS.zb (x : TS w0 w g a b now rv vi vl L I J) : w.frozen? ⟨b, 0, none⟩ = false := frozen_of_row w b 0 _ _ x.bb
theorem TS.ag (x : TS w0 w g a b now rv vi vl L I J) : a ≠ g := two_types x.ba x.tm.box (by decide)
theorem TS.bg (x : TS w0 w g a b now rv vi vl L I J) : b ≠ g := two_types x.bb x.tm.box (by decide)
theorem TS.size (x : TS w0 w g a b now rv vi vl L I J) : w0.heap.size ≤ w.heap.size := x.bel.size
theorem TS.foot {S : Nat → Prop} (x : TS w0 w g a b now rv vi vl L I J) (f : Foot S w w') (hg : ¬ S g) (hr : ∀ k, rv.ownBlock = some k → ¬ S k) (ha : ¬ S a) (hb : ¬ S b) (hi : ∀ k, vi.ownBlock = some k → ¬ S k) (hl : ∀ k, vl.ownBlock = some k → ¬ S k) (hS : ∀ k, S k → w0.heap.size ≤ k) : TS w0 w' g a b now rv vi vl L I J :=
  ⟨x.tm.foot f hg hr, (f.block a (lt_of_heap x.ba) ha).trans x.ba, (f.block b (lt_of_heap x.bb) hb).trans x.bb, owns_foot x.oi f hi, owns_foot x.ol f hl, x.ap, x.ab, x.la, x.lb, x.bel.trans (f.below x.size hS)⟩
theorem TS.grow (x : TS w0 w g a b now rv vi vl L I J) (bl : Below w.heap.size w w') : TS w0 w' g a b now rv vi vl L I J :=
  x.foot (below_foot (fun _ => False) bl) id (fun _ _ => id) id id (fun _ _ => id) (fun _ _ => id) (fun _ h => h.elim)
/- the clock turned -/
theorem TS.clock {now' : Int} {L' : List Al} (x : TS w0 w g a b now rv vi vl L I J) (h : TmEnd w w0.heap.size g now' L' w') : ∃ rv', TS w0 w' g a b now' rv' vi vl L' I J := by
  obtain ⟨rv', t, f⟩ := h
  have off : ∀ {v : Value} {K : List Int}, w.ownsRow w0.heap.size 3 1 v K.length (cellsI K) → ∀ k, v.ownBlock = some k → ¬ k = g := fun ho k e e2 => by
    subst e2
    obtain ⟨cur, hh⟩ := owns_type ho e
    exact two_types hh x.tm.box (by decide) rfl
  exact ⟨rv', t, (f.block a (lt_of_heap x.ba) x.ag).trans x.ba, (f.block b (lt_of_heap x.bb) x.bg).trans x.bb, owns_foot x.oi f (off x.oi), owns_foot x.ol f (off x.ol), x.ap, x.ab, x.la, x.lb, x.bel.trans (f.below x.size (fun k e => by rw [e]; exact x.tm.low))⟩
def TSS (vi vl : Value) (k : Nat) : Prop := vi.ownBlock = some k ∨ vl.ownBlock = some k
/- the rows may have turned, or new ones lie beside them: all else stands -/
theorem TS.kept (x : TS w0 w g a b now rv vi vl L I J) (f : Foot (TSS vi vl) w w') : Tm w' w0.heap.size g now rv L ∧ w'.heap[a]? = some (.cells #[vi] 28 (0, 0)) ∧ w'.heap[b]? = some (.cells #[vl] 28 (0, 0)) ∧ Below w0.heap.size w0 w' := by
  have ty : ∀ k, TSS vi vl k → ∃ cur, w.heap[k]? = some (.cells cur 3 (0, 0)) := fun k h => h.elim (owns_type x.oi) (owns_type x.ol)
  have no : ∀ k {c : Array Value} {t : TypeId} {e : Nat × Nat}, w.heap[k]? = some (.cells c t e) → t ≠ 3 → ¬ TSS vi vl k := fun k c t e hk ht hS => by
    obtain ⟨cur, hh⟩ := ty k hS
    exact two_types hh hk (Ne.symm ht) rfl
  refine ⟨x.tm.foot f (no g x.tm.box (by decide)) (fun k e => ?_), (f.block a (lt_of_heap x.ba) (no a x.ba (by decide))).trans x.ba, (f.block b (lt_of_heap x.bb) (no b x.bb (by decide))).trans x.bb, x.bel.trans (f.below x.size (fun k h => h.elim (fun e => (owns_lt x.oi e).2) (fun e => (owns_lt x.ol e).2)))⟩
  obtain ⟨cur, hh⟩ := owns_type x.tm.row e
  exact no k hh (by decide)
/- both rows are laid anew -/
theorem TS.rows {v1 v2 : Value} {n1 n2 : Nat} {I' J' : List Int} (x : TS w0 w g a b now rv vi vl L I J) (f : Foot (TSS vi vl) w w') (h1 : w'.ownsRow w0.heap.size 3 1 v1 n1 (cellsI I')) (h2 : w'.ownsRow w0.heap.size 3 1 v2 n2 (cellsI J')) (hap : ∀ k, v1.ownBlock = some k → v2.ownBlock ≠ some k) :
    TS w0 ((w'.setCell ⟨a, 0, none⟩ v1).setCell ⟨b, 0, none⟩ v2) g a b now rv v1 v2 L I' J' := by
  obtain ⟨t, ka, kb, bl⟩ := x.kept f
  have hn1 : n1 = I'.length := by have := h1.1; rw [cellsI_len] at this; omega
  have hn2 : n2 = J'.length := by have := h2.1; rw [cellsI_len] at this; omega
  subst hn1; subst hn2
  have fs := ((foot_set w' ⟨a, 0, none⟩ v1).mono (S' := fun k => k = a ∨ k = b) (fun k e => .inl e)).then ((foot_set (w'.setCell ⟨a, 0, none⟩ v1) ⟨b, 0, none⟩ v2).mono (fun k e => .inr e))
  have no : ∀ k {c : Array Value} {t : TypeId} {e : Nat × Nat}, w'.heap[k]? = some (.cells c t e) → t ≠ 28 → ¬ (k = a ∨ k = b) := fun k c t e hk ht hS => by
    rcases hS with rfl | rfl
    · exact two_types hk ka ht rfl
    · exact two_types hk kb ht rfl
  have own : ∀ {v : Value} {n : Nat} {xs : List Value} {t : TypeId} {sz : Nat}, t ≠ 28 → w'.ownsRow w0.heap.size t sz v n xs → ∀ k, v.ownBlock = some k → ¬ (k = a ∨ k = b) := fun ht ho k e => by
    obtain ⟨cur, hh⟩ := owns_type ho e
    exact no k hh ht
  refine ⟨t.foot fs (no g t.box (by decide)) (own (by decide) t.row), ?_, ?_, owns_foot h1 fs (own (by decide) h1), owns_foot h2 fs (own (by decide) h2), hap, x.ab, x.la, x.lb, bl.trans (fs.below bl.size (fun k e => by rcases e with e | e <;> rw [e]; exact x.la; exact x.lb))⟩
  · rw [heap_setCell_other _ _ _ _ (by exact x.ab), heap_setCell_same w' a 0 _ _ v1 ka]; rfl
  · have kb' : (w'.setCell ⟨a, 0, none⟩ v1).heap[b]? = some (.cells #[vl] 28 (0, 0)) := by rw [heap_setCell_other _ _ _ _ (by exact Ne.symm x.ab)]; exact kb
    rw [heap_setCell_same _ b 0 _ _ v2 kb']; rfl
/- the two stores can be carried out -/
theorem TS.stores (x : TS w0 w g a b now rv vi vl L I J) (f : Foot (TSS vi vl) w w') (v1 : Value) : w'.cell? ⟨a, 0, none⟩ = some vi ∧ w'.cell? ⟨b, 0, none⟩ = some vl ∧ w'.frozen? ⟨a, 0, none⟩ = false ∧ (w'.setCell ⟨a, 0, none⟩ v1).cell? ⟨b, 0, none⟩ = some vl ∧ (w'.setCell ⟨a, 0, none⟩ v1).frozen? ⟨b, 0, none⟩ = false := by
  obtain ⟨t, ka, kb, bl⟩ := x.kept f
  have kb' : (w'.setCell ⟨a, 0, none⟩ v1).heap[b]? = some (.cells #[vl] 28 (0, 0)) := by rw [heap_setCell_other _ _ _ _ (by exact Ne.symm x.ab)]; exact kb
  exact ⟨by rw [cell_of_row w' a _ _ _ _ ka]; rfl, by rw [cell_of_row w' b _ _ _ _ kb]; rfl, frozen_of_row w' a 0 _ _ ka, by rw [cell_of_row _ b _ _ _ _ kb']; rfl, frozen_of_row _ b 0 _ _ kb'⟩
/- at the start -/
theorem ts_new {w0 w1 : World} (bl : Below w0.heap.size w0 w1) : TS w0 (((w1.alloc (.cells #[.int .i64 0, .slice none 0 0] 27)).alloc (.cells #[.slice none 0 0] 28)).alloc (.cells #[.slice none 0 0] 28)) w1.heap.size (w1.heap.size + 1) (w1.heap.size + 1 + 1) 0 (.slice none 0 0) (.slice none 0 0) (.slice none 0 0) [] [] [] := by
  obtain ⟨X, hX⟩ : ∃ X, w1.alloc (.cells #[.int .i64 0, .slice none 0 0] 27) = X := ⟨_, rfl⟩
  have sX : X.heap.size = w1.heap.size + 1 := by rw [← hX]; simp
  have tX : Tm X w1.heap.size w1.heap.size 0 (.slice none 0 0) [] := by rw [← hX]; exact tm_new w1
  have bX : Below w1.heap.size w1 X := hX ▸ below_alloc w1 _
  rw [hX]
  obtain ⟨Y, hY⟩ : ∃ Y, X.alloc (.cells #[.slice none 0 0] 28) = Y := ⟨_, rfl⟩
  have sY : Y.heap.size = w1.heap.size + 1 + 1 := by rw [← hY]; simp [sX]
  have bY : Below X.heap.size X Y := hY ▸ below_alloc X _
  have cY : Y.heap[w1.heap.size + 1]? = some (.cells #[.slice none 0 0] 28 (0, 0)) := by rw [← hY, ← sX]; exact heap_alloc_new _ _
  rw [hY]
  obtain ⟨Z, hZ⟩ : ∃ Z, Y.alloc (.cells #[.slice none 0 0] 28) = Z := ⟨_, rfl⟩
  have bZ : Below Y.heap.size Y Z := hZ ▸ below_alloc Y _
  have cZ : Z.heap[w1.heap.size + 1 + 1]? = some (.cells #[.slice none 0 0] 28 (0, 0)) := by rw [← hZ, ← sY]; exact heap_alloc_new _ _
  rw [hZ]
  have hs := bl.size
  have tZ := (tX.grow bY).grow bZ
  exact ⟨⟨tZ.box, own_nilY _ _, hs⟩, by rw [bZ.block _ (by omega)]; exact cY, cZ, owns_nil _ _ _ _, owns_nil _ _ _ _, (fun _ e => by cases e), by omega, by omega, by omega, bl.trans ((below_one (below_one bX bY) bZ).mono hs)⟩
theorem TS.nums (x : TS w0 w g a b now rv vi vl L I J) : ∃ ai ci al cl, vi = .slice ai I.length ci ∧ vl = .slice al J.length cl ∧ Nums w ai I.length ci I ∧ Nums w al J.length cl J := by
  obtain ⟨ai, ci, e1, l1⟩ := owns_lies x.oi
  obtain ⟨al, cl, e2, l2⟩ := owns_lies x.ol
  exact ⟨ai, ci, al, cl, e1, e2, l1, l2⟩
end Go.Proofs.YtifmeljdkohkkaaDoor
