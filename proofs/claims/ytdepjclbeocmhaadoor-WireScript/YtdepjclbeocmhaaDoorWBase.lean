/-
  What else is wanted of packets in memory: appends, parts, what stays of them when other memory turns.
-/
import Derived.Test.YtdepjclbeocmhaaDoorGCat
import Derived.Laws.MakeOwn
import Derived.Deep.AppendLies
namespace Go.Proofs.YtdepjclbeocmhaaDoor
open Go.RowKit
theorem BoxK.six {w w' : World} {g : Nat} {x : Pa} (h : BoxK w g x) (b : Below w.heap.size w w') : (w'.cell? ⟨g, 0, none⟩ = some (.int .i64 x.f) ∧ w'.cell? ⟨g, 1, none⟩ = some (.int .i64 x.t) ∧ w'.cell? ⟨g, 2, none⟩ = some (.int .u64 x.i) ∧ w'.cell? ⟨g, 3, none⟩ = some (.int .i64 x.x) ∧ w'.cell? ⟨g, 4, none⟩ = some (.int .i64 x.c) ∧ w'.cell? ⟨g, 5, none⟩ = some (.slice x.so x.sn x.sc)) :=
  have k := h.carry b (Nat.le_refl _)
  ⟨k.c0, k.c1, k.c2, k.c3, k.c4, k.c5⟩
theorem Pks.six0 {w w' : World} {ad : Addr} {n cap : Nat} {L : List Pa} (h : Pks w (some ad) n cap L) (b : Below w.heap.size w w') (hn : 0 < n) (q : Pa) (hq : L.getD 0 Pa.zero = q) : (w'.cell? ad = some (.int .i64 q.f) ∧ w'.cell? { block := ad.block, off := ad.off + 1 } = some (.int .i64 q.t) ∧ w'.cell? { block := ad.block, off := ad.off + 2 } = some (.int .u64 q.i) ∧ w'.cell? { block := ad.block, off := ad.off + 3 } = some (.int .i64 q.x) ∧ w'.cell? { block := ad.block, off := ad.off + 4 } = some (.int .i64 q.c) ∧ w'.cell? { block := ad.block, off := ad.off + 5 } = some (.slice q.so q.sn q.sc)) := by
  have k := (h.carry b).elem 0 hn
  rw [Nat.zero_mul, addZ, hq] at k
  exact ⟨k.c0, k.c1, k.c2, k.c3, k.c4, k.c5⟩
theorem owns_carry {w w' : World} {base : Nat} {e : TypeId} {size : Nat} {v : Value} {n : Nat} {xs : List Value} (h : w.ownsRow base e size v n xs) (b : Below w.heap.size w w') : w'.ownsRow base e size v n xs := by
  refine ⟨h.1, ?_⟩
  rcases h.2 with ⟨hv, hn⟩ | ⟨g, cap, cur, hv, hb, hg, h1, h2, h3, h4⟩
  · exact .inl ⟨hv, hn⟩
  · exact .inr ⟨g, cap, cur, hv, hb, (b.block g (lt_of_heap hg)).trans hg, h1, h2, h3, h4⟩
/- append(b, d...) of an own row of bytes -/
theorem app_bytes (W : World) (B : Nat) (vb : Value) (m : Nat) (l : List UInt8) (own : W.ownsRow B 5 1 vb m (cellsB l)) (so : Option Addr) (sn sc : Nat) (r : List UInt8) (hb : Bts W so sn sc r) (hB : B ≤ W.heap.size) (hsz : m + sn ≤ 140737488355328) :
    ∃ v' w', (Builtin.append_ #[28, 28] 28 #[vb, .slice so sn sc]).run Tryd.prog W = .ok v' w' ∧ w'.ownsRow B 5 1 v' (m + sn) (cellsB (l ++ r)) ∧ (∀ a, Below B a W → Below B a w') := by
  obtain ⟨i0, hi, hz0, hz1, hz2⟩ := info_parts Tryd.info5
  cases so with
  | none =>
    obtain ⟨rfl, rfl⟩ := hb.none rfl
    obtain rfl : r = [] := List.eq_nil_of_length_eq_zero hb.1.symm
    obtain ⟨oa, oc, rfl, hl⟩ := owns_lies own
    exact ⟨_, W, app_none W Tryd.underlying28 hi oa m oc hl.2.1 hl.2.2.2.1, by simpa using own, fun _ h => h⟩
  | some ad =>
    obtain ⟨v4, w4, hrun, hown4, hgr4, _, _⟩ := run_append_own_at (P := Tryd.prog) W B 28 28 5 i0 _ 1 1 Tryd.underlying28 hi hz0 hz1 hz2 rfl (by omega) vb m _ own ad sn sc (cellsB r) (by rw [cellsB_len]; have := hb.1; omega) (hb.news ad rfl) (cellsB_one _) (by unfold maxLen; omega) (by omega) hB
    exact ⟨v4, w4, hrun, by rw [cellsB_append]; exact hown4, fun a h => below_grown h hB own hgr4⟩
theorem str_list (l : List UInt8) : (str l).toList = l := by
  rw [str, ByteArray.toList_eq]
set_option maxRecDepth 20000 in
set_option maxHeartbeats 3200000 in
theorem same_yes (p q : Pa) (w : World) (hp : p.has w) (hq : q.has w) (h1 : p.f = q.f) (h2 : p.t = q.t) (h3 : p.i = q.i) (h4 : p.x = q.x) (h5 : p.c = q.c) (h6 : p.l = q.l) :
    Calls Tryd.prog 10 #[.agg #[.int .i64 p.f, .int .i64 p.t, .int .u64 p.i, .int .i64 p.x, .int .i64 p.c, .slice p.so p.sn p.sc], .agg #[.int .i64 q.f, .int .i64 q.t, .int .u64 q.i, .int .i64 q.x, .int .i64 q.c, .slice q.so q.sn q.sc]] w fun e w' => e = .returned (.bool true) ∧ Below w.heap.size w w' := by
  obtain ⟨X, hX⟩ : ∃ X, (w.alloc (.cells #[.int .i64 p.f, .int .i64 p.t, .int .u64 p.i, .int .i64 p.x, .int .i64 p.c, .slice p.so p.sn p.sc] 33)).alloc (.cells #[.int .i64 q.f, .int .i64 q.t, .int .u64 q.i, .int .i64 q.x, .int .i64 q.c, .slice q.so q.sn q.sc] 33) = X := ⟨_, rfl⟩
  have hb : Below w.heap.size w X := hX ▸ below_one (below_alloc w _) (below_alloc _ _)
  have k1 := conv_bts (Bts.carry hp hb)
  have k2 := conv_bts (Bts.carry hq hb)
  rw [← h6] at k2
  have HB := hide hb
  have bp : BoxK X w.heap.size p := hX ▸ (boxK_new w p).carry (below_alloc _ _) (Nat.le_refl _)
  have bq : BoxK X (w.heap.size + 1) q := by rw [← hX]; have := boxK_new (w.alloc (.cells #[.int .i64 p.f, .int .i64 p.t, .int .u64 p.i, .int .i64 p.x, .int .i64 p.c, .slice p.so p.sn p.sc] 33)) q; simpa using this
  obtain ⟨p0, p1, p2, p3, p4, p5⟩ := bp.six (Below.refl _ _)
  obtain ⟨q0, q1, q2, q3, q4, q5⟩ := bq.six (Below.refl _ _)
  clear bp bq
  obtain ⟨f, t, i, x, c, so, sn, sc, l⟩ := p
  simp only at h1 h2 h3 h4 h5 h6 k1 k2 hX p0 p1 p2 p3 p4 p5
  subst h1 h2 h3 h4 h5
  clear h6 hb hp hq
  go_enter Tryd.func10, Tryd.ntmps10
  go_wp2
  go_ret
  exact ⟨rfl, HB.out⟩
theorem cellsK_drop (L : List Pa) (k : Nat) : (cellsK L).drop (k * 6) = cellsK (L.drop k) := by
  induction L generalizing k with
  | nil => simp [cellsK]
  | cons x r ih =>
    cases k with
    | zero => simp
    | succ k =>
      show (x.cells ++ cellsK r).drop ((k + 1) * 6) = cellsK (r.drop k)
      rw [List.drop_append, List.drop_eq_nil_of_le (by show 6 ≤ _; omega), List.nil_append, show (k + 1) * 6 - x.cells.length = k * 6 from by show _ - 6 = _; omega, ih]
theorem BoxK.put5 {w : World} {g : Nat} {x : Pa} (h : BoxK w g x) (so : Option Addr) (sn sc : Nat) : BoxK (w.setCell ⟨g, 5, none⟩ (.slice so sn sc)) g ⟨x.f, x.t, x.i, x.x, x.c, so, sn, sc, x.l⟩ := by
  unfold BoxK
  rw [heap_setCell_same w g 5 _ _ _ h]; rfl
theorem cellsK_take (L : List Pa) (k : Nat) : (cellsK L).take (k * 6) = cellsK (L.take k) := by
  have h := cellsK_drop L k
  have e : cellsK L = cellsK (L.take k) ++ cellsK (L.drop k) := by rw [← cellsK_append, List.take_append_drop]
  rcases Nat.lt_or_ge k L.length with hk | hk
  · rw [e, List.take_append_of_le_length (by rw [cellsK_len, List.length_take]; omega), List.take_of_length_le (by rw [cellsK_len, List.length_take]; omega)]
  · rw [List.take_of_length_le (by rw [cellsK_len]; omega), List.take_of_length_le hk]
/- a packet without where its data lies -/
def Pa.nm (x : Pa) : Pa := ⟨x.f, x.t, x.i, x.x, x.c, none, x.l.length, 0, x.l⟩
/- where so many elements lie is no block of which S holds -/
def OffO (S : Nat → Prop) (n : Nat) (ao : Option Addr) : Prop := 0 < n → ∀ ad, ao = some ad → ¬ S ad.block
theorem OffO.new {S : Nat → Prop} {w : World} {n : Nat} {ao : Option Addr} (h : New w ao) (hS : ∀ k, S k → k < w.heap.size) : OffO S n ao := fun _ ad e x => by
  have := h ad e; have := hS _ x; omega
theorem OffO.tail {S : Nat → Prop} {sz n k cap : Nat} {ao : Option Addr} (h : OffO S n ao) (hk : k ≤ n) : OffO S (n - k) (tailG sz ao k cap) := fun hn ad e => by
  unfold tailG at e
  split at e
  · exact h (by omega) ad e
  · obtain ⟨a0, rfl, rfl⟩ := Option.map_eq_some_iff.1 e
    rw [add_block]; exact h (by omega) a0 rfl
theorem Bts.footN {S : Nat → Prop} {w w' : World} {ao : Option Addr} {n cap : Nat} {l : List UInt8} (h : Bts w ao n cap l) (b : Foot S w w') (hS : OffO S n ao) : Bts w' ao n cap l := by
  refine ⟨h.1, h.2.1, h.2.2.1, h.2.2.2.1, fun ad e j hj => ?_⟩
  have hc := h.2.2.2.2 ad e j hj
  have hl := lt_of_cell hc
  have h1 := h.1
  rw [b.cell _ hl (by rw [add_block]; exact hS (by omega) ad e), hc]
theorem Bts.lt {w : World} {ao : Option Addr} {n cap : Nat} {l : List UInt8} (h : Bts w ao n cap l) (hn : 0 < n) (ad : Addr) (e : ao = some ad) : ad.block < w.heap.size := by
  have h1 := h.1
  have := lt_of_cell (h.2.2.2.2 ad e 0 (by omega))
  rw [add_block] at this; exact this
def FarK (S : Nat → Prop) (ao : Option Addr) (n : Nat) (L : List Pa) : Prop := OffO S n ao ∧ ∀ x ∈ L, OffO S x.sn x.so
theorem Pks.foot {S : Nat → Prop} {w w' : World} {ao : Option Addr} {n cap : Nat} {L : List Pa} (h : Pks w ao n cap L) (f : Foot S w w') (hS : FarK S ao n L) : Pks w' ao n cap L :=
  ⟨h.1.foot f hS.1, fun x hx => Bts.footN (h.2 x hx) f (hS.2 x hx)⟩
theorem Pks.far {S : Nat → Prop} {w : World} {ao : Option Addr} {n cap : Nat} {L : List Pa} (h : Pks w ao n cap L) (hS : ∀ k, S k → w.heap.size ≤ k) : FarK S ao n L :=
  ⟨fun hn ad e x => by have := h.1.lt (by omega) hn ad e; have := hS _ x; omega, fun y hy hn ad e x => by have := Bts.lt (h.2 y hy) hn ad e; have := hS _ x; omega⟩
theorem FarK.mono {S T : Nat → Prop} {ao : Option Addr} {n : Nat} {L : List Pa} (h : FarK S ao n L) (hT : ∀ k, T k → S k) : FarK T ao n L := ⟨fun hn ad e x => h.1 hn ad e (hT _ x), fun y hy hn ad e x => h.2 y hy hn ad e (hT _ x)⟩
theorem FarK.either {S T : Nat → Prop} {w : World} {ao : Option Addr} {n cap : Nat} {L : List Pa} (h : FarK S ao n L) (hp : Pks w ao n cap L) (hT : ∀ k, T k → S k ∨ w.heap.size ≤ k) : FarK T ao n L :=
  ⟨fun hn ad e x => by
    rcases hT _ x with y | y
    · exact h.1 hn ad e y
    · have := hp.1.lt (by omega) hn ad e; omega, fun q hq hn ad e x => by
    rcases hT _ x with y | y
    · exact h.2 q hq hn ad e y
    · have := Bts.lt (hp.2 q hq) hn ad e; omega⟩
/- appends to an own row -/
theorem app_pk {W : World} {B n sn sc : Nat} {v : Value} {xs ys : List Value} {so : Option Addr} (own : W.ownsRow B 33 6 v n xs) (hl : Lies 6 W so sn sc ys) (ho : ∀ u ∈ ys, u.oneCell' = true) (hn : n + sn ≤ 100000) (hB : B ≤ W.heap.size) :
    ∃ v' w', (Builtin.append_ #[25, 25] 25 #[v, .slice so sn sc]).run Tryd.prog W = .ok v' w' ∧ w'.ownsRow B 33 6 v' (n + sn) (xs ++ ys) ∧ W.grownBy w' v.ownBlock := by
  obtain ⟨i0, hi0, hz0, hz1, hz2⟩ := info_parts Tryd.infoK
  cases so with
  | none =>
    obtain rfl : sc = 0 := hl.2.2.2.1 rfl
    obtain rfl : sn = 0 := by have := hl.2.1; omega
    obtain rfl : ys = [] := List.eq_nil_of_length_eq_zero (by simpa using hl.1)
    obtain ⟨a, cap, rfl, h2⟩ := owns_lies own
    exact ⟨_, _, app_none W Tryd.underlying25 hi0 a n cap h2.2.1 h2.2.2.2.1, by rw [List.append_nil]; exact own, ⟨rfl, rfl, rfl, Nat.le_refl _, fun _ _ _ => rfl⟩⟩
  | some ad =>
    obtain ⟨v', w3, hr, hown3, hgr3, _, _⟩ := run_append_own_at (P := Tryd.prog) W B 25 25 33 i0 _ 6 64 Tryd.underlying25 hi0 hz0 hz1 hz2 rfl (by omega) v n _ own ad sn sc ys hl.1 (hl.2.2.2.2 ad rfl) ho (by unfold maxLen; omega) (by omega) hB
    exact ⟨v', w3, hr, hown3, hgr3⟩
theorem grown_foot {w w' : World} {row : Option Nat} (h : w.grownBy w' row) : Foot (fun k => row = some k) w w' := ⟨h.os, h.tape, h.output, h.size, fun k hk hn => h.block k hk fun e => hn e.symm⟩
theorem below_ad (w : World) (o : Obj) : Below w.heap.size w (w.alloc o).drew := below_drewN (below_alloc w o) 1
end Go.Proofs.YtdepjclbeocmhaaDoor
