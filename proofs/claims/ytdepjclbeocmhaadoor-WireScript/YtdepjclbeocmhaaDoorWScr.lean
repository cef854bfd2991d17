/-
  A wire and the statement's own row of packets in one memory, and the deed at hand in its variable: what stays of them when one of them turns.
-/
import Derived.Test.YtdepjclbeocmhaaDoorWAct
namespace Go.Proofs.YtdepjclbeocmhaaDoor
open Go.RowKit
section
variable {w w' : World}
theorem owns_foot {S : Nat → Prop} {B : Nat} {e : TypeId} {sz n : Nat} {v : Value} {xs : List Value} (h : w.ownsRow B e sz v n xs) (f : Foot S w w') (hS : ∀ k, v.ownBlock = some k → ¬ S k) : w'.ownsRow B e sz v n xs := by
  refine ⟨h.1, ?_⟩
  rcases h.2 with h0 | ⟨k, cap, cur, h1, h2, h3, h4⟩
  · exact .inl h0
  · exact .inr ⟨k, cap, cur, h1, h2, (f.block k (lt_of_heap h3) (hS k (by rw [h1]; rfl))).trans h3, h4⟩
theorem owns_base {B B' : Nat} {e : TypeId} {sz n : Nat} {v : Value} {xs : List Value} (h : w.ownsRow B e sz v n xs) (hB : B' ≤ B) : w.ownsRow B' e sz v n xs := by
  refine ⟨h.1, ?_⟩
  rcases h.2 with h0 | ⟨k, cap, cur, h1, h2, h4⟩
  · exact .inl h0
  · exact .inr ⟨k, cap, cur, h1, Nat.le_trans hB h2, h4⟩
/- an own row's block has its type -/
theorem owns_type {B : Nat} {e : TypeId} {sz n : Nat} {v : Value} {xs : List Value} (h : w.ownsRow B e sz v n xs) {k : Nat} (hk : v.ownBlock = some k) : ∃ cur, w.heap[k]? = some (.cells cur e (0, 0)) := by
  rcases h.2 with ⟨h0, _⟩ | ⟨j, cap, cur, h1, h2, h3, h4⟩
  · rw [h0] at hk; cases hk
  · rw [h1] at hk
    have : j = k := by simpa [Value.ownBlock] using hk
    subst this
    exact ⟨cur, h3⟩
theorem owns_lt {B : Nat} {e : TypeId} {sz n : Nat} {v : Value} {xs : List Value} (h : w.ownsRow B e sz v n xs) {k : Nat} (hk : v.ownBlock = some k) : k < w.heap.size ∧ B ≤ k := by
  rcases h.2 with ⟨h0, _⟩ | ⟨j, cap, cur, h1, h2, h3, h4⟩
  · rw [h0] at hk; cases hk
  · rw [h1] at hk
    have : j = k := by simpa [Value.ownBlock] using hk
    subst this
    exact ⟨lt_of_heap h3, h2⟩
theorem two_types {x y : Nat} {c d : Array Value} {t u : TypeId} {e f : Nat × Nat} (h1 : w.heap[x]? = some (.cells c t e)) (h2 : w.heap[y]? = some (.cells d u f)) (h : t ≠ u) : x ≠ y := by
  intro e; subst e; rw [h1] at h2; cases h2; exact h rfl
end
/- a packet more in an own row -/
theorem app_more {W : World} {B n : Nat} {v : Value} {xs : List Value} (p : Pa) (own : W.ownsRow B 33 6 v n xs) (hn : n ≤ 99999) (hB : B ≤ W.heap.size) :
    ∃ v' w', (Builtin.append_ #[25, 25] 25 #[v, .slice (some ⟨W.heap.size, 0, none⟩) 1 1]).run Tryd.prog (W.alloc (.cells #[.int .i64 p.f, .int .i64 p.t, .int .u64 p.i, .int .i64 p.x, .int .i64 p.c, .slice p.so p.sn p.sc] 33)) = .ok v' w' ∧ w'.ownsRow B 33 6 v' (n + 1) (xs ++ cellsK [p]) ∧ Foot (fun k => v.ownBlock = some k) W w' ∧ ∀ k, v'.ownBlock = some k → v.ownBlock = some k ∨ W.heap.size ≤ k := by
  have b := below_alloc W (.cells #[.int .i64 p.f, .int .i64 p.t, .int .u64 p.i, .int .i64 p.x, .int .i64 p.c, .slice p.so p.sn p.sc] 33)
  obtain ⟨i0, hi0, hz0, hz1, hz2⟩ := info_parts Tryd.infoK
  have hl : Lies 6 (W.alloc (.cells #[.int .i64 p.f, .int .i64 p.t, .int .u64 p.i, .int .i64 p.x, .int .i64 p.c, .slice p.so p.sn p.sc] 33)) (some ⟨W.heap.size, 0, none⟩) 1 1 (cellsK [p]) := lies_alloc rfl rfl (by omega)
  obtain ⟨v', w3, hr, hown3, hgr3, _, hbl⟩ := run_append_own_at (P := Tryd.prog) (W.alloc (.cells #[.int .i64 p.f, .int .i64 p.t, .int .u64 p.i, .int .i64 p.x, .int .i64 p.c, .slice p.so p.sn p.sc] 33)) B 25 25 33 i0 _ 6 64 Tryd.underlying25 hi0 hz0 hz1 hz2 rfl (by omega) v n _ (owns_carry own b) ⟨W.heap.size, 0, none⟩ 1 1 (cellsK [p]) hl.1 (hl.2.2.2.2 _ rfl) (cellsK_one _) (by unfold maxLen; omega) (by omega) (Nat.le_trans hB b.size)
  refine ⟨v', w3, hr, hown3, (below_foot _ b).then (grown_foot hgr3), fun k hk => ?_⟩
  rcases hbl with h | h
  · exact .inl (by rw [← h]; exact hk)
  · rw [h] at hk
    have := Option.some.inj hk
    have := b.size
    exact .inr (by omega)
set_option maxHeartbeats 800000 in
theorem place_law (p : Int) (n : Nat) (w : World) (h0 : 0 < n) (hn : n ≤ 9223372036854775807) :
    Calls Tryd.prog 9 #[.int .i64 p, .int .i64 (n : Int)] w fun e w' => e = .returned (.int .i64 ((placeF p n : Nat) : Int)) ∧ w' = w := by
  have HP := hide (placeF_is p n h0)
  obtain ⟨k, hk⟩ : ∃ k, placeF p n = k := ⟨_, rfl⟩
  rw [hk]
  rw [hk] at HP
  have hz : ¬ ((n : Int) = 0) := by omega
  have h1 := Int.emod_nonneg p (show (n : Int) ≠ 0 by omega)
  have h2 := Int.emod_lt_of_pos p (show (0 : Int) < (n : Int) by omega)
  have h3 := Int.tmod_eq_emod (a := p) (b := (n : Int))
  obtain ⟨r, hr⟩ : ∃ r, p.tmod (n : Int) = r := ⟨_, rfl⟩
  rw [hr] at h3
  have hk2 : (k : Int) = p % (n : Int) := HP.out
  rw [← hk2] at h1 h2 h3
  have hneg : ¬ ((n : Int) < 0) := by omega
  clear hk HP
  by_cases hr0 : r < 0
  · have e : (k : Int) = r + (n : Int) := by
      split at h3 <;> omega
    have HE := hide e
    have hw : -9223372036854775808 ≤ r + (n : Int) ∧ r + (n : Int) ≤ 9223372036854775807 := by omega
    clear h3 hk2 e
    go_enter Tryd.func9, Tryd.ntmps9
    go_wp2
    go_ret
    exact ⟨by rw [HE.out]; rfl, rfl⟩
  · have e : (k : Int) = r := by
      split at h3 <;> omega
    have HE := hide e
    clear h3 hk2 e
    go_enter Tryd.func9, Tryd.ntmps9
    go_wp2
    go_ret
    exact ⟨by rw [HE.out]; rfl, rfl⟩
structure Sc (w0 wq : World) (g : Nat) (v : Value) (m : Nat) (R L : List Pa) : Prop where
  st : St wq g (fun k => v.ownBlock = some k) L
  row : wq.ownsRow w0.heap.size 33 6 v m (cellsK R)
  low : ∀ p ∈ R, p.has w0 ∧ p.sn ≤ 140737488355328
  bel : Below w0.heap.size w0 wq
  gl : w0.heap.size ≤ g
variable {w0 w w' : World} {g m : Nat} {v : Value} {R L L' : List Pa}
theorem Sc.len (x : Sc w0 w g v m R L) : m = R.length := by have := x.row.1; rw [cellsK_len] at this; omega
theorem Sc.sl (x : Sc w0 w g v m R L) : ∃ ro rc, v = .slice ro m rc ∧ Pks w ro m rc R := by
  obtain ⟨ro, rc, rfl, hl⟩ := owns_lies x.row
  exact ⟨ro, rc, rfl, hl, fun p hp => Bts.carry (x.low p hp).1 x.bel⟩
theorem Sc.has (x : Sc w0 w g v m R L) {p : Pa} (hp : p ∈ R) : p.has w := Bts.carry (x.low p hp).1 x.bel
theorem Sc.lt (x : Sc w0 w g v m R L) (k : Nat) (h : v.ownBlock = some k) : k < w.heap.size := (owns_lt x.row h).1
theorem Sc.ne (x : Sc w0 w g v m R L) : ¬ v.ownBlock = some g := fun h => by
  obtain ⟨cur, hc⟩ := owns_type x.row h
  obtain ⟨bo, bc, K, y, _⟩ := x.st
  exact two_types hc y.box (by decide) rfl
theorem Sc.grow (x : Sc w0 w g v m R L) (b : Below w.heap.size w w') : Sc w0 w' g v m R L :=
  ⟨x.st.grow b, owns_carry x.row b, x.low, below_one x.bel b, x.gl⟩
theorem Sc.wire (x : Sc w0 w g v m R L) (s : St w' g (fun k => v.ownBlock = some k) L') (f : Foot (· = g) w w') : Sc w0 w' g v m R L' :=
  ⟨s, owns_foot x.row f (fun k h e => x.ne (by rw [← e]; exact h)), x.low, foot_on x.bel x.gl f, x.gl⟩
theorem Sc.app (x : Sc w0 w g v m R L) (p : Pa) (hp : p.has w0) (hs : p.sn ≤ 140737488355328) (hm : m ≤ 99999) :
    ∃ ro rc w', (Builtin.append_ #[25, 25] 25 #[v, .slice (some ⟨w.heap.size, 0, none⟩) 1 1]).run Tryd.prog (w.alloc (.cells #[.int .i64 p.f, .int .i64 p.t, .int .u64 p.i, .int .i64 p.x, .int .i64 p.c, .slice p.so p.sn p.sc] 33)) = .ok (.slice ro (m + 1) rc) w' ∧ Sc w0 w' g (.slice ro (m + 1) rc) (m + 1) (R ++ [p]) L ∧ Foot (fun k => v.ownBlock = some k) w w' := by
  obtain ⟨v', w2, hr, ho, hf, hb⟩ := app_more p x.row hm x.bel.size
  rw [← cellsK_append] at ho
  obtain ⟨ro, rc, rfl, _⟩ := owns_lies ho
  have s0 := x.st.either (T := fun k => v.ownBlock = some k ∨ (Value.slice ro (m + 1) rc).ownBlock = some k) (fun k h => by
    rcases h with h | h
    · exact .inl h
    · exact hb k h)
  have s1 := (s0.foot (hf.mono (fun k h => .inl h)) (fun h => by
    have hn : ¬ v.ownBlock = some g := x.ne
    rcases h with h | h
    · exact hn h
    · rcases hb g h with h | h
      · exact hn h
      · have := x.st.lt; omega)).either (T := fun k => (Value.slice ro (m + 1) rc).ownBlock = some k) (fun k h => .inl (.inr h))
  refine ⟨ro, rc, w2, hr, ⟨s1, ho, fun q hq => ?_, x.bel.trans (hf.below x.bel.size (fun k h => (owns_lt x.row h).2)), x.gl⟩, hf⟩
  rcases List.mem_append.1 hq with hq | hq
  · exact x.low q hq
  · rw [List.mem_singleton.1 hq]; exact ⟨hp, hs⟩
/- a new row of such packets as were there -/
theorem Sc.fresh {v' : Value} {n : Nat} {R' : List Pa} (x : Sc w0 w g v m R L) (b : Below w.heap.size w w') (h : w'.ownsRow w.heap.size 33 6 v' n (cellsK R')) (hR : ∀ p ∈ R', p ∈ R) : Sc w0 w' g v' n R' L :=
  ⟨(x.st.either (T := fun k => v'.ownBlock = some k) (fun _ e => .inr (owns_lt h e).2)).grow b, owns_base h x.bel.size, fun p hp => x.low p (hR p hp), below_one x.bel b, x.gl⟩
/- row[:k] and row[k+1:] behind each other, in new memory -/
theorem Sc.cut {ad : Addr} {rc k : Nat} (x : Sc w0 w g (.slice (some ad) m rc) m R L) (hk : k < m) (hm : m ≤ 1024) :
    ∃ v1 w1 ro oc w2, (Builtin.append_ #[25, 25] 25 #[.slice none 0 0, .slice (some ad) k rc]).run Tryd.prog w = .ok v1 w1 ∧
      (Builtin.append_ #[25, 25] 25 #[v1, .slice (tailG 6 (some ad) (k + 1) rc) (m - (k + 1)) (rc - (k + 1))]).run Tryd.prog w1 = .ok (.slice ro (m - 1) oc) w2 ∧ Below w.heap.size w w2 ∧ Sc w0 w2 g (.slice ro (m - 1) oc) (m - 1) (R.eraseIdx k) L := by
  obtain ⟨_, _, e, hp⟩ := x.sl
  cases e
  have h1 := hp.1.head k (by omega)
  have h2 := hp.1.tail (k + 1) (by omega)
  rw [cellsK_take] at h1
  rw [cellsK_drop] at h2
  obtain ⟨v1, w1, r1, o1, g1⟩ := app_pk (owns_nil w w.heap.size _ _) h1 (cellsK_one _) (by omega) (Nat.le_refl _)
  have b1 : Below w.heap.size w w1 := (grown_foot g1).below (Nat.le_refl _) (fun _ e => by cases e)
  rw [Nat.zero_add, List.nil_append] at o1
  obtain ⟨v2, w2, r2, o2, g2⟩ := app_pk o1 (h2.carry b1 (Nat.le_refl _)) (cellsK_one _) (by omega) b1.size
  have b2 := below_grown b1 b1.size o1 g2
  rw [← cellsK_append, erase_td, show k + (m - (k + 1)) = m - 1 by omega] at o2
  obtain ⟨ro, oc, rfl, _⟩ := owns_lies o2
  exact ⟨v1, w1, ro, oc, w2, r1, r2, b2, x.fresh b2 o2 (fun p hp => List.mem_of_mem_eraseIdx hp)⟩
/- a deed in a variable -/
def BoxA (w : World) (b : Nat) (x : Ac) : Prop := w.heap[b]? = some (.cells #[.int .u8 (x.o : Nat), .int .i64 x.p, .int .u8 (x.f : Nat), .slice x.so x.sn x.sc] 30 (0, 0))
theorem BoxA.four {b : Nat} {x : Ac} (h : BoxA w b x) : w.cell? ⟨b, 0, none⟩ = some (.int .u8 (x.o : Nat)) ∧ w.cell? ⟨b, 1, none⟩ = some (.int .i64 x.p) ∧ w.cell? ⟨b, 2, none⟩ = some (.int .u8 (x.f : Nat)) ∧ w.cell? ⟨b, 3, none⟩ = some (.slice x.so x.sn x.sc) :=
  ⟨by rw [cell_of_row w b 0 _ _ _ h]; rfl, by rw [cell_of_row w b 1 _ _ _ h]; rfl, by rw [cell_of_row w b 2 _ _ _ h]; rfl, by rw [cell_of_row w b 3 _ _ _ h]; rfl⟩
structure Rd (w0 wq : World) (g : Nat) (v : Value) (m : Nat) (R L : List Pa) (b : Nat) (x : Ac) : Prop where
  sc : Sc w0 wq g v m R L
  box : BoxA wq b x
variable {b : Nat} {x : Ac}
theorem BoxA.grow (h : BoxA w b x) (e : Below w.heap.size w w') : BoxA w' b x := (e.block b (lt_of_heap h)).trans h
theorem Rd.grow (y : Rd w0 w g v m R L b x) (e : Below w.heap.size w w') : Rd w0 w' g v m R L b x := ⟨y.sc.grow e, y.box.grow e⟩
theorem Rd.wire (y : Rd w0 w g v m R L b x) (s : St w' g (fun k => v.ownBlock = some k) L') (f : Foot (· = g) w w') : Rd w0 w' g v m R L' b x := by
  refine ⟨y.sc.wire s f, (f.block b (lt_of_heap y.box) (fun e => ?_)).trans y.box⟩
  obtain ⟨bo, bc, K, z, _⟩ := y.sc.st
  exact two_types y.box z.box (by decide) e
theorem Rd.not (y : Rd w0 w g v m R L b x) : ¬ v.ownBlock = some b := fun h => by
  obtain ⟨cur, hc⟩ := owns_type y.sc.row h
  exact two_types hc y.box (by decide) rfl
theorem Rd.app (y : Rd w0 w g v m R L b x) (p : Pa) (hp : p.has w0) (hs : p.sn ≤ 140737488355328) (hm : m ≤ 99999) :
    ∃ ro rc w', (Builtin.append_ #[25, 25] 25 #[v, .slice (some ⟨w.heap.size, 0, none⟩) 1 1]).run Tryd.prog (w.alloc (.cells #[.int .i64 p.f, .int .i64 p.t, .int .u64 p.i, .int .i64 p.x, .int .i64 p.c, .slice p.so p.sn p.sc] 33)) = .ok (.slice ro (m + 1) rc) w' ∧ Rd w0 w' g (.slice ro (m + 1) rc) (m + 1) (R ++ [p]) L b x := by
  obtain ⟨ro, rc, w2, hr, hs2, hf⟩ := y.sc.app p hp hs hm
  exact ⟨ro, rc, w2, hr, hs2, (hf.block b (lt_of_heap y.box) y.not).trans y.box⟩
/- a packet in a variable stays when a wire turns -/
theorem boxK_wire {b : Nat} {p : Pa} (y : Sc w0 w g v m R L) (h : BoxK w b p) (f : Foot (· = g) w w') : BoxK w' b p := by
  refine (f.block b (lt_of_heap h) (fun e => ?_)).trans h
  obtain ⟨bo, bc, K, z, _⟩ := y.st
  exact two_types h z.box (by decide) e
end Go.Proofs.YtdepjclbeocmhaaDoor
