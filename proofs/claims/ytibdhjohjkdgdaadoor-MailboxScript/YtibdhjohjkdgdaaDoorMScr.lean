/-
  A box and the statement's two rows of messages in one memory: what stays of them when one of them turns.
-/
import Derived.Test.YtibdhjohjkdgdaaDoorMSame
namespace Go.Proofs.YtibdhjohjkdgdaaDoor
open Go.RowKit Go.Conc
def rrO (v0 v1 : Value) : Obj := .cells #[v0, v1] 41 (0, 0)
structure Rw (w0 w : World) (rr : Nat) (a0 : Option Addr) (n0 c0 : Nat) (R0 : List Ms) (a1 : Option Addr) (n1 c1 : Nat) (R1 : List Ms) : Prop where
  box : w.heap[rr]? = some (rrO (.slice a0 n0 c0) (.slice a1 n1 c1))
  t0 : Tl w w0.heap.size a0 n0 c0 R0
  t1 : Tl w w0.heap.size a1 n1 c1 R1
  ap : ∀ k, Bk a0 k → ¬ Bk a1 k
  low : ∀ p ∈ R0 ++ R1, p.has w0 ∧ p.sn ≤ 140737488355328
  gl : w0.heap.size ≤ rr
structure Sc (w0 w : World) (b cu co N rr : Nat) (L M : List Ms) (a0 : Option Addr) (n0 c0 : Nat) (R0 : List Ms) (a1 : Option Addr) (n1 c1 : Nat) (R1 : List Ms) : Prop where
  st : St w b cu co N L M
  rw : Rw w0 w rr a0 n0 c0 R0 a1 n1 c1 R1
  bel : Below w0.heap.size w0 w
  gl : w0.heap.size ≤ b ∧ w0.heap.size ≤ cu ∧ w0.heap.size ≤ co
variable {w0 w w' : World} {b cu co N rr : Nat} {L M L' M' : List Ms} {a0 a1 : Option Addr} {n0 c0 n1 c1 : Nat} {R0 R1 : List Ms}
theorem Rw.s0 (x : Rw w0 w rr a0 n0 c0 R0 a1 n1 c1 R1) : w.cell? ⟨rr, 0, none⟩ = some (.slice a0 n0 c0) := by rw [cell_of_row w rr 0 _ _ _ x.box]; rfl
theorem Rw.s1 (x : Rw w0 w rr a0 n0 c0 R0 a1 n1 c1 R1) : w.cell? ⟨rr, 1, none⟩ = some (.slice a1 n1 c1) := by rw [cell_of_row w rr 1 _ _ _ x.box]; rfl
theorem Rw.z (x : Rw w0 w rr a0 n0 c0 R0 a1 n1 c1 R1) (j : Nat) : w.frozen? ⟨rr, j, none⟩ = false := frozen_of_row w rr j _ _ x.box
theorem Rw.foot {S : Nat → Prop} (x : Rw w0 w rr a0 n0 c0 R0 a1 n1 c1 R1) (f : Foot S w w') (h1 : ¬ S rr) (h2 : ∀ k, Bk a0 k ∨ Bk a1 k → ¬ S k) : Rw w0 w' rr a0 n0 c0 R0 a1 n1 c1 R1 :=
  ⟨(f.block rr (lt_of_heap x.box) h1).trans x.box, x.t0.foot f (fun ad e => h2 _ (.inl ⟨ad, e, rfl⟩)), x.t1.foot f (fun ad e => h2 _ (.inr ⟨ad, e, rfl⟩)), x.ap, x.low, x.gl⟩
theorem Rw.grow (x : Rw w0 w rr a0 n0 c0 R0 a1 n1 c1 R1) (e : Below w.heap.size w w') : Rw w0 w' rr a0 n0 c0 R0 a1 n1 c1 R1 := x.foot (below_foot (fun _ => False) e) id (fun _ _ => id)
theorem Rw.type (x : Rw w0 w rr a0 n0 c0 R0 a1 n1 c1 R1) {k : Nat} (h : Bk a0 k ∨ Bk a1 k) : ∃ cur, w.heap[k]? = some (.cells cur 35 (0, 0)) := by
  rcases h with h | h
  · exact x.t0.type h
  · exact x.t1.type h
theorem St.notTwo (s : St w b cu co N L M) {k : Nat} {cs : Array Value} {t : TypeId} {fr : Nat × Nat} (hk : w.heap[k]? = some (.cells cs t fr)) : ¬ Two cu co k := fun e => by
  obtain ⟨U, O, x, _, _⟩ := s
  rcases e with e | e
  · obtain ⟨s, r, h⟩ := x.urg; rw [e, h] at hk; cases hk
  · obtain ⟨s, r, h⟩ := x.oth; rw [e, h] at hk; cases hk
theorem Sc.grow (x : Sc w0 w b cu co N rr L M a0 n0 c0 R0 a1 n1 c1 R1) (e : Below w.heap.size w w') : Sc w0 w' b cu co N rr L M a0 n0 c0 R0 a1 n1 c1 R1 := ⟨x.st.grow e, x.rw.grow e, below_one x.bel e, x.gl⟩
theorem Sc.deed (x : Sc w0 w b cu co N rr L M a0 n0 c0 R0 a1 n1 c1 R1) (s : St w' b cu co N L' M') (f : Foot (Two cu co) w w') : Sc w0 w' b cu co N rr L' M' a0 n0 c0 R0 a1 n1 c1 R1 := by
  refine ⟨s, x.rw.foot f (x.st.notTwo x.rw.box) (fun k h => ?_), two_on x.bel x.gl.2.1 x.gl.2.2 f, x.gl⟩
  obtain ⟨cur, hc⟩ := x.rw.type h
  exact x.st.notTwo hc
/- a box stays when a block turns that holds rows or messages -/
theorem St.turn {S : Nat → Prop} (s : St w b cu co N L M) (f : Foot S w w') (hS : ∀ k, S k → ∃ cur t fr, w.heap[k]? = some (.cells cur t fr) ∧ t ≠ 60 ∧ t ≠ 5) : St w' b cu co N L M := by
  have s2 := s
  obtain ⟨U, O, x, _, _⟩ := s2
  refine s.foot f (fun h => ?_) (fun h => ?_) (fun h => ?_) (fun k cur hk h => ?_)
  · obtain ⟨cur, t, fr, h1, h2, _⟩ := hS b h
    exact two_types h1 x.box h2 rfl
  · obtain ⟨cur, t, fr, h1, _⟩ := hS cu h
    exact s.notTwo h1 (.inl rfl)
  · obtain ⟨cur, t, fr, h1, _⟩ := hS co h
    exact s.notTwo h1 (.inr rfl)
  · obtain ⟨cur', t, fr, h1, _, h3⟩ := hS k h
    exact two_types h1 hk h3 rfl
theorem Sc.rrne (x : Sc w0 w b cu co N rr L M a0 n0 c0 R0 a1 n1 c1 R1) {k : Nat} (h : Bk a0 k ∨ Bk a1 k) : k ≠ rr := by
  obtain ⟨cur, hc⟩ := x.rw.type h
  exact two_types hc x.rw.box (by decide)
theorem st_rr (s : St w b cu co N L M) {v0 v1 : Value} (box : w.heap[rr]? = some (rrO v0 v1)) (j : Nat) (v : Value) : St (w.setCell ⟨rr, j, none⟩ v) b cu co N L M :=
  s.turn (foot_set w ⟨rr, j, none⟩ v) (fun k e => ⟨#[v0, v1], 41, (0, 0), by rw [show k = rr from e]; exact box, by decide, by decide⟩)
theorem bel_rr (bel : Below w0.heap.size w0 w) (gl : w0.heap.size ≤ rr) (j : Nat) (v : Value) : Below w0.heap.size w0 (w.setCell ⟨rr, j, none⟩ v) :=
  bel.trans ((foot_set w ⟨rr, j, none⟩ v).below bel.size (fun k e => by rw [show k = rr from e]; exact gl))
/- the row 0 is another one -/
theorem rw_put0 {v : Value} {bo : Option Addr} {m d : Nat} {R : List Ms} (box : w.heap[rr]? = some (rrO v (.slice a1 n1 c1))) (t : Tl w w0.heap.size bo m d R) (t1 : Tl w w0.heap.size a1 n1 c1 R1) (ap : ∀ k, Bk bo k → ¬ Bk a1 k) (low : ∀ p ∈ R ++ R1, p.has w0 ∧ p.sn ≤ 140737488355328) (gl : w0.heap.size ≤ rr) :
    Rw w0 (w.setCell ⟨rr, 0, none⟩ (.slice bo m d)) rr bo m d R a1 n1 c1 R1 := by
  have ft := foot_set w ⟨rr, 0, none⟩ (.slice bo m d)
  have hne : ∀ (a : Option Addr) (n c : Nat) (Q : List Ms), Tl w w0.heap.size a n c Q → ∀ ad, a = some ad → ¬ ad.block = rr := fun a n c Q t ad e h => by
    obtain ⟨cur, hc⟩ := t.type ⟨ad, e, rfl⟩
    exact two_types hc box (by decide) h
  refine ⟨?_, t.foot ft (hne _ _ _ _ t), t1.foot ft (hne _ _ _ _ t1), ap, low, gl⟩
  rw [heap_setCell_same w rr 0 _ _ _ box]; rfl
theorem Sc.app0 (x : Sc w0 w b cu co N rr L M a0 n0 c0 R0 a1 n1 c1 R1) (p : Ms) (hp : p.has w0 ∧ p.sn ≤ 140737488355328) (hn : n0 ≤ 99999) :
    ∃ bo d w2, (Builtin.append_ #[41, 41] 41 #[.slice a0 n0 c0, .slice (some ⟨w.heap.size, 0, none⟩) 1 1]).run Tryd.prog (w.alloc (.cells #[.int .u64 p.ta, .int .u64 p.rp, .int .u32 p.id, .int .u16 p.op, .int .u16 p.st, .int .u64 p.p, .int .u32 p.o, .int .u8 p.r, .int .u64 p.c, .int .u64 p.ar, .slice p.so p.sn p.sc] 35)) = .ok (.slice bo (n0 + 1) d) w2 ∧ w2.cell? ⟨rr, 0, none⟩ = some (.slice a0 n0 c0) ∧ w2.frozen? ⟨rr, 0, none⟩ = false ∧ Sc w0 (w2.setCell ⟨rr, 0, none⟩ (.slice bo (n0 + 1) d)) b cu co N rr L M bo (n0 + 1) d (R0 ++ [p]) a1 n1 c1 R1 := by
  obtain ⟨bo, d, w2, hr, ht, hf, hm⟩ := tl_app p x.rw.t0 hn x.bel.size
  have hbk : ∀ j, Bk a0 j → ∃ cur, w.heap[j]? = some (.cells cur 35 (0, 0)) := fun j h => x.rw.t0.type h
  have hrr : ¬ Bk a0 rr := fun h => x.rrne (.inl h) rfl
  have box2 := (hf.block rr (lt_of_heap x.rw.box) hrr).trans x.rw.box
  have s2 := x.st.turn hf (fun j h => by obtain ⟨cur, hc⟩ := hbk j h; exact ⟨cur, _, _, hc, by decide, by decide⟩)
  have b2 : Below w0.heap.size w0 w2 := x.bel.trans (hf.below x.bel.size (fun j h => by obtain ⟨ad, e, rfl⟩ := h; exact (x.rw.t0.lt ad e).2))
  have t2 := x.rw.t1.foot hf (fun ad e h => x.rw.ap _ h ⟨ad, e, rfl⟩)
  have hr2 : Rw w0 (w2.setCell ⟨rr, 0, none⟩ (.slice bo (n0 + 1) d)) rr bo (n0 + 1) d (R0 ++ [p]) a1 n1 c1 R1 := by
    refine rw_put0 box2 ht t2 (fun j h h2 => ?_) (fun q hq => ?_) x.rw.gl
    · rcases hm j h with h | h
      · exact x.rw.ap j h h2
      · obtain ⟨ad, e, rfl⟩ := h2
        have := (x.rw.t1.lt ad e).1
        omega
    · rcases List.mem_append.1 hq with hq | hq
      · rcases List.mem_append.1 hq with hq | hq
        · exact x.rw.low q (List.mem_append_left _ hq)
        · rw [List.mem_singleton.1 hq]; exact hp
      · exact x.rw.low q (List.mem_append_right _ hq)
  exact ⟨bo, d, w2, hr, by rw [cell_of_row w2 rr 0 _ _ _ box2]; rfl, frozen_of_row w2 rr 0 _ _ box2, st_rr s2 box2 _ _, hr2, bel_rr b2 x.rw.gl _ _, x.gl⟩
theorem Sc.set0 {bo : Option Addr} {m d : Nat} {R : List Ms} (x : Sc w0 w b cu co N rr L M a0 n0 c0 R0 a1 n1 c1 R1) (t : Tl w w0.heap.size bo m d R) (ap : ∀ k, Bk bo k → ¬ Bk a1 k) (hR : ∀ p ∈ R, p ∈ R0) :
    Sc w0 (w.setCell ⟨rr, 0, none⟩ (.slice bo m d)) b cu co N rr L M bo m d R a1 n1 c1 R1 :=
  ⟨st_rr x.st x.rw.box _ _, rw_put0 x.rw.box t x.rw.t1 ap (fun q hq => by
    rcases List.mem_append.1 hq with hq | hq
    · exact x.rw.low q (List.mem_append_left _ (hR q hq))
    · exact x.rw.low q (List.mem_append_right _ hq)) x.rw.gl, bel_rr x.bel x.rw.gl _ _, x.gl⟩
theorem Sc.cut0 (x : Sc w0 w b cu co N rr L M a0 n0 c0 R0 a1 n1 c1 R1) (h : 1 ≤ n0) :
    Sc w0 (w.setCell ⟨rr, 0, none⟩ (.slice (tailG 11 a0 1 c0) (n0 - 1) (c0 - 1))) b cu co N rr L M (tailG 11 a0 1 c0) (n0 - 1) (c0 - 1) (R0.drop 1) a1 n1 c1 R1 :=
  x.set0 (x.rw.t0.cut h) (fun j h1 h2 => x.rw.ap j (tail_bk _ _ _ _ h1) h2) (fun _ hp => List.mem_of_mem_drop hp)
/- the row 1 is another one -/
theorem rw_put1 {v : Value} {bo : Option Addr} {m d : Nat} {R : List Ms} (box : w.heap[rr]? = some (rrO (.slice a0 n0 c0) v)) (t : Tl w w0.heap.size bo m d R) (t0 : Tl w w0.heap.size a0 n0 c0 R0) (ap : ∀ k, Bk bo k → ¬ Bk a0 k) (low : ∀ p ∈ R ++ R0, p.has w0 ∧ p.sn ≤ 140737488355328) (gl : w0.heap.size ≤ rr) :
    Rw w0 (w.setCell ⟨rr, 1, none⟩ (.slice bo m d)) rr a0 n0 c0 R0 bo m d R := by
  have ft := foot_set w ⟨rr, 1, none⟩ (.slice bo m d)
  have hne : ∀ (a : Option Addr) (n c : Nat) (Q : List Ms), Tl w w0.heap.size a n c Q → ∀ ad, a = some ad → ¬ ad.block = rr := fun a n c Q t ad e h => by
    obtain ⟨cur, hc⟩ := t.type ⟨ad, e, rfl⟩
    exact two_types hc box (by decide) h
  refine ⟨?_, t0.foot ft (hne _ _ _ _ t0), t.foot ft (hne _ _ _ _ t), fun k h h2 => ap k h2 h, fun p hp => low p (by rw [List.mem_append] at hp ⊢; exact hp.symm), gl⟩
  rw [heap_setCell_same w rr 1 _ _ _ box]; rfl
theorem Sc.app1 (x : Sc w0 w b cu co N rr L M a0 n0 c0 R0 a1 n1 c1 R1) (p : Ms) (hp : p.has w0 ∧ p.sn ≤ 140737488355328) (hn : n1 ≤ 99999) :
    ∃ bo d w2, (Builtin.append_ #[41, 41] 41 #[.slice a1 n1 c1, .slice (some ⟨w.heap.size, 0, none⟩) 1 1]).run Tryd.prog (w.alloc (.cells #[.int .u64 p.ta, .int .u64 p.rp, .int .u32 p.id, .int .u16 p.op, .int .u16 p.st, .int .u64 p.p, .int .u32 p.o, .int .u8 p.r, .int .u64 p.c, .int .u64 p.ar, .slice p.so p.sn p.sc] 35)) = .ok (.slice bo (n1 + 1) d) w2 ∧ w2.cell? ⟨rr, 1, none⟩ = some (.slice a1 n1 c1) ∧ w2.frozen? ⟨rr, 1, none⟩ = false ∧ Sc w0 (w2.setCell ⟨rr, 1, none⟩ (.slice bo (n1 + 1) d)) b cu co N rr L M a0 n0 c0 R0 bo (n1 + 1) d (R1 ++ [p]) := by
  obtain ⟨bo, d, w2, hr, ht, hf, hm⟩ := tl_app p x.rw.t1 hn x.bel.size
  have hbk : ∀ j, Bk a1 j → ∃ cur, w.heap[j]? = some (.cells cur 35 (0, 0)) := fun j h => x.rw.t1.type h
  have hrr : ¬ Bk a1 rr := fun h => x.rrne (.inr h) rfl
  have box2 := (hf.block rr (lt_of_heap x.rw.box) hrr).trans x.rw.box
  have s2 := x.st.turn hf (fun j h => by obtain ⟨cur, hc⟩ := hbk j h; exact ⟨cur, _, _, hc, by decide, by decide⟩)
  have b2 : Below w0.heap.size w0 w2 := x.bel.trans (hf.below x.bel.size (fun j h => by obtain ⟨ad, e, rfl⟩ := h; exact (x.rw.t1.lt ad e).2))
  have t2 := x.rw.t0.foot hf (fun ad e h => x.rw.ap _ ⟨ad, e, rfl⟩ h)
  have hr2 : Rw w0 (w2.setCell ⟨rr, 1, none⟩ (.slice bo (n1 + 1) d)) rr a0 n0 c0 R0 bo (n1 + 1) d (R1 ++ [p]) := by
    refine rw_put1 box2 ht t2 (fun j h h2 => ?_) (fun q hq => ?_) x.rw.gl
    · rcases hm j h with h | h
      · exact x.rw.ap j h2 h
      · obtain ⟨ad, e, rfl⟩ := h2
        have := (x.rw.t0.lt ad e).1
        omega
    · rcases List.mem_append.1 hq with hq | hq
      · rcases List.mem_append.1 hq with hq | hq
        · exact x.rw.low q (List.mem_append_right _ hq)
        · rw [List.mem_singleton.1 hq]; exact hp
      · exact x.rw.low q (List.mem_append_left _ hq)
  exact ⟨bo, d, w2, hr, by rw [cell_of_row w2 rr 1 _ _ _ box2]; rfl, frozen_of_row w2 rr 1 _ _ box2, st_rr s2 box2 _ _, hr2, bel_rr b2 x.rw.gl _ _, x.gl⟩
theorem Sc.set1 {bo : Option Addr} {m d : Nat} {R : List Ms} (x : Sc w0 w b cu co N rr L M a0 n0 c0 R0 a1 n1 c1 R1) (t : Tl w w0.heap.size bo m d R) (ap : ∀ k, Bk bo k → ¬ Bk a0 k) (hR : ∀ p ∈ R, p ∈ R1) :
    Sc w0 (w.setCell ⟨rr, 1, none⟩ (.slice bo m d)) b cu co N rr L M a0 n0 c0 R0 bo m d R :=
  ⟨st_rr x.st x.rw.box _ _, rw_put1 x.rw.box t x.rw.t0 ap (fun q hq => by
    rcases List.mem_append.1 hq with hq | hq
    · exact x.rw.low q (List.mem_append_right _ (hR q hq))
    · exact x.rw.low q (List.mem_append_left _ hq)) x.rw.gl, bel_rr x.bel x.rw.gl _ _, x.gl⟩
theorem Sc.cut1 (x : Sc w0 w b cu co N rr L M a0 n0 c0 R0 a1 n1 c1 R1) (h : 1 ≤ n1) :
    Sc w0 (w.setCell ⟨rr, 1, none⟩ (.slice (tailG 11 a1 1 c1) (n1 - 1) (c1 - 1))) b cu co N rr L M a0 n0 c0 R0 (tailG 11 a1 1 c1) (n1 - 1) (c1 - 1) (R1.drop 1) :=
  x.set1 (x.rw.t1.cut h) (fun j h1 h2 => x.rw.ap j h2 (tail_bk _ _ _ _ h1)) (fun _ hp => List.mem_of_mem_drop hp)
theorem Sc.has (x : Sc w0 w b cu co N rr L M a0 n0 c0 R0 a1 n1 c1 R1) {p : Ms} (hp : p ∈ R0 ++ R1) : p.has w := Bts.carry (x.rw.low p hp).1 x.bel
/- a new empty pair of rows -/
theorem rw_new (bel : Below w0.heap.size w0 w) : Rw w0 (w.alloc (rrO (.slice none 0 0) (.slice none 0 0))) w.heap.size none 0 0 [] none 0 0 [] :=
  ⟨heap_alloc_new _ _, tl_nil _ _, tl_nil _ _, (fun _ h => by obtain ⟨_, e, _⟩ := h; cases e), (fun _ h => by cases h), bel.size⟩
end Go.Proofs.YtibdhjohjkdgdaaDoor
