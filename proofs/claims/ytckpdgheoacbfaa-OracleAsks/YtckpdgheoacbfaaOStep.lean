/-
  A step of a script: a question of few, asked of an oracle of a new tape; what it answers, and what is there behind it.
-/
import Derived.Test.YtckpdgheoacbfaaORead
namespace Go.Proofs.Ytckpdgheoacbfaa
open Go.RowKit
structure St (w0 w : World) (B g m a h k : Nat) (v : Value) (ws : List Nat) (t : Nat) (es : List Ent) : Prop where
  orc : Orc w B g m (.pointer (some ⟨a, 0, none⟩)) v es
  tape : TapeAt w a h ws t k
  new : New2 w0 w B g m a h
  few : Few es
theorem St.len {w0 w : World} {B g m a h k : Nat} {v : Value} {ws : List Nat} {t : Nat} {es : List Ent} (s : St w0 w B g m a h k v ws t es) : es.length ≤ 10 := s.few.le s.orc.dist
theorem St.drewN {w0 w : World} {B g m a h k : Nat} {v : Value} {ws : List Nat} {t : Nat} {es : List Ent} (s : St w0 w B g m a h k v ws t es) (q : Nat) : St w0 (w.drewN q) B g m a h k v ws t es := ⟨s.orc.drewN q, s.tape.drewN q, s.new.drewN q, s.few⟩
theorem St.grow {w0 w w' : World} {B g m a h k : Nat} {v : Value} {ws : List Nat} {t : Nat} {es : List Ent} (s : St w0 w B g m a h k v ws t es) (b : Below w.heap.size w w') : St w0 w' B g m a h k v ws t es := ⟨s.orc.grow b, s.tape.grow b, s.new.grow b, s.few⟩
/- what a question's answer is, and what it leaves -/
def Step (ws : List Nat) (t : Nat) (es : List Ent) (t' : Nat) (es' : List Ent) (f : Int) (i x : Nat) (er : Value) : Prop :=
  (er = .nilIface ∧ (∃ j, findE es f i = some j ∧ (es.getD j Ent.zero).o = x) ∧ t' = t ∧ es' = es) ∨
  (er = .nilIface ∧ findE es f i = none ∧ t < ws.length ∧ ws.getD t 0 = x ∧ t' = t + 1 ∧ es' = es ++ [⟨f, i, x⟩]) ∨
  (er = .iface 38 (.int .i64 7) ∧ x = 0 ∧ findE es f i = none ∧ t = ws.length ∧ t' = t ∧ es' = es)
theorem ask_any (w0 : World) (B g m a h k : Nat) (v : Value) (ws : List Nat) (t : Nat) (es : List Ent) (f q : Nat) (w : World) (S : St w0 w B g m a h k v ws t es) (hf : f ≤ 1) :
    Calls Try.prog 15 #[.pointer (some ⟨g, 0, none⟩), .int .i64 (f : Int), .int .u64 (inF q : Nat)] w fun e w' => ∃ (x : Nat) (er v' : Value) (t' : Nat) (es' : List Ent), e = .returned (.tuple #[.int .u64 (x : Int), er]) ∧
      St w0 w' B g m a h k v' ws t' es' ∧ Foot (AskS g m a v) w w' ∧ (∀ r, v'.ownBlock = some r → v.ownBlock = some r ∨ w.heap.size ≤ r) ∧ Step ws t es t' es' f (q % 5 * 3) x er := by
  have hl := S.len
  have ec := inF_cut q
  have hb : -9223372036854775808 ≤ (f : Int) ∧ (f : Int) ≤ 9223372036854775807 := by omega
  cases hfind : findE es f (q % 5 * 3) with
  | some j =>
    refine (ask_known g m B j _ _ v es f (inF q) w S.orc hb (inF_le q) (by rw [ec]; exact hfind) rfl).mono ?_
    rintro e w' ⟨rfl, r, rfl⟩
    exact ⟨_, _, v, t, es, rfl, S.drewN r, foot_drewN _ _ _, fun _ h => .inl h, .inl ⟨rfl, ⟨j, hfind, rfl⟩, rfl, rfl⟩⟩
  | none =>
    rcases Nat.lt_or_ge t ws.length with ht | ht
    · refine (ask_new g m B a h t k _ v es ws f (inF q) w S.orc S.tape ht rfl hb (inF_le q) (by rw [ec]; exact hfind) (by omega) S.new.bs).mono ?_
      rintro e w' ⟨rfl, v', O, T, F, hv⟩
      rw [ec] at O
      exact ⟨_, _, v', t + 1, _, rfl, ⟨O, T, S.new.step S.orc F, S.few.snoc ⟨by show (f : Int) = 0 ∨ (f : Int) = 1; omega, by show q % 5 * 3 % 3 = 0; omega, by show q % 5 * 3 ≤ 12; omega⟩⟩, F, hv, .inr (.inl ⟨rfl, hfind, ht, rfl, rfl, rfl⟩)⟩
    · have e : t = ws.length := by have := S.tape.some; omega
      subst e
      refine (ask_end g m B a h k v es ws f (inF q) w S.orc S.tape hb (inF_le q) (by rw [ec]; exact hfind)).mono ?_
      rintro e w' ⟨rfl, r, rfl⟩
      exact ⟨0, _, v, _, es, rfl, S.drewN r, foot_drewN _ _ _, fun _ h => .inl h, .inr (.inr ⟨rfl, rfl, hfind, rfl, rfl, rfl⟩)⟩
/- a question in a variable of its own -/
def QBox (w : World) (b o q : Nat) : Prop := w.heap[b]? = some (.cells #[.int .u8 (o : Int), .int .u64 (q : Int)] 32 (0, 0))
theorem QBox.c0 {w : World} {b o q : Nat} (h : QBox w b o q) : w.cell? ⟨b, 0, none⟩ = some (.int .u8 (o : Int)) := by rw [cell_of_row w b 0 _ _ _ h]; rfl
theorem QBox.c1 {w : World} {b o q : Nat} (h : QBox w b o q) : w.cell? ⟨b, 1, none⟩ = some (.int .u64 (q : Int)) := by rw [cell_of_row w b 1 _ _ _ h]; rfl
theorem QBox.new (w : World) (o q : Nat) : QBox (w.alloc (.cells #[.int .u8 (o : Int), .int .u64 (q : Int)] 32)) w.heap.size o q := heap_alloc_new _ _
theorem QBox.grow {w w' : World} {b o q : Nat} (h : QBox w b o q) (x : Below w.heap.size w w') : QBox w' b o q := (x.block b (lt_of_heap h)).trans h
theorem QBox.ask {w w' : World} {b o q B g m a h k t : Nat} {v : Value} {ws : List Nat} {es : List Ent} {w0 : World} (x : QBox w b o q) (S : St w0 w B g m a h k v ws t es) (F : Foot (AskS g m a v) w w') : QBox w' b o q := by
  refine (F.block b (lt_of_heap x) fun e => ?_).trans x
  obtain ⟨y, c, hm⟩ := S.orc.map.isMap
  have hx : w.heap[b]? = some _ := x
  rcases e with e | e | e | e
  · rw [e, S.orc.box] at hx; cases hx
  · rw [e, hm] at hx; cases hx
  · rw [e, S.tape.box] at hx; cases hx
  · obtain ⟨cur, h1, _⟩ := owns_block S.orc.row e; rw [hx] at h1; cases h1
theorem addS (a : Addr) (f : Nat) (hf : 0 < f) : a.add f = ⟨a.block, a.off + f, none⟩ := by unfold Addr.add; rw [if_neg (by omega)]
theorem Qus.elem {w : World} {ad : Addr} {n cap : Nat} {xs : List Qu} (h : Qus w (some ad) n cap xs) (k : Nat) (hk : k < n) (o q : Nat) (e : xs.getD k Qu.zero = ⟨o, q⟩) :
    (o ≤ 255 ∧ q ≤ 18446744073709551615) ∧ w.cell? (ad.add (k * 2)) = some (.int .u8 (o : Int)) ∧ w.cell? ⟨(ad.add (k * 2)).block, (ad.add (k * 2)).off + 1, none⟩ = some (.int .u64 (q : Int)) := by
  obtain ⟨h0, h1, h2⟩ := h.2.2.2.2 ad rfl k hk
  rw [e] at h0 h1 h2
  rw [addS _ 1 (by omega)] at h2
  exact ⟨h0, h1, h2⟩
/- answers in a row of memory, and one in a variable of its own -/
def EntsAt (w : World) (r : Nat) (es : List Ent) : Prop := ∀ j, j < es.length → w.cell? ⟨r, j * 3, none⟩ = some (.int .i64 (es.getD j Ent.zero).f) ∧ w.cell? ⟨r, j * 3 + 1, none⟩ = some (.int .u64 ((es.getD j Ent.zero).i : Nat)) ∧ w.cell? ⟨r, j * 3 + 2, none⟩ = some (.int .u64 ((es.getD j Ent.zero).o : Nat))
theorem EntsAt.carry {w w' : World} {r B : Nat} {es : List Ent} (h : EntsAt w r es) (b : Below B w w') (hr : r < B) : EntsAt w' r es := by
  intro j hj
  obtain ⟨h1, h2, h3⟩ := h j hj
  exact ⟨(b.cell hr).trans h1, (b.cell hr).trans h2, (b.cell hr).trans h3⟩
theorem owns_ents {w : World} {base n : Nat} {v : Value} {es : List Ent} (h : w.ownsRow base 42 3 v n (cellsE es)) (hn : 0 < n) : ∃ r cap, v = .slice (some ⟨r, 0, none⟩) n cap ∧ n ≤ cap ∧ cap ≤ 9223372036854775807 ∧ base ≤ r ∧ r < w.heap.size ∧ EntsAt w r es := by
  rcases h.2 with ⟨_, h0⟩ | ⟨r, cap, cur, rfl, h1, h2, h3, h4, h5, h6⟩
  · omega
  · refine ⟨r, cap, rfl, h3, h4, h1, lt_of_heap h2, fun j hj => ?_⟩
    have hc := fun f hf u hu => h.cells (g := r) rfl (j * 3 + f) u (by rw [cellsE_get es j f hj hf]; exact hu)
    simp only [add0] at hc
    exact ⟨hc 0 (by omega) _ rfl, hc 1 (by omega) _ rfl, hc 2 (by omega) _ rfl⟩
def EBox (w : World) (b : Nat) (f : Int) (i o : Nat) : Prop := w.heap[b]? = some (.cells #[.int .i64 f, .int .u64 (i : Int), .int .u64 (o : Int)] 42 (0, 0))
theorem EBox.c0 {w : World} {b : Nat} {f : Int} {i o : Nat} (h : EBox w b f i o) : w.cell? ⟨b, 0, none⟩ = some (.int .i64 f) := by rw [cell_of_row w b 0 _ _ _ h]; rfl
theorem EBox.c1 {w : World} {b : Nat} {f : Int} {i o : Nat} (h : EBox w b f i o) : w.cell? ⟨b, 1, none⟩ = some (.int .u64 (i : Int)) := by rw [cell_of_row w b 1 _ _ _ h]; rfl
theorem EBox.c2 {w : World} {b : Nat} {f : Int} {i o : Nat} (h : EBox w b f i o) : w.cell? ⟨b, 2, none⟩ = some (.int .u64 (o : Int)) := by rw [cell_of_row w b 2 _ _ _ h]; rfl
theorem EBox.new (w : World) (f : Int) (i o : Nat) : EBox (w.alloc (.cells #[.int .i64 f, .int .u64 (i : Int), .int .u64 (o : Int)] 42)) w.heap.size f i o := heap_alloc_new _ _
theorem EBox.grow {w w' : World} {b : Nat} {f : Int} {i o : Nat} (h : EBox w b f i o) (x : Below w.heap.size w w') : EBox w' b f i o := (x.block b (lt_of_heap h)).trans h
theorem EBox.carry {w w' : World} {B b : Nat} {f : Int} {i o : Nat} (h : EBox w b f i o) (x : Below B w w') (hb : b < B) : EBox w' b f i o := (x.block b hb).trans h
theorem and_cut (u : Nat) (hu : u ≤ 18446744073709551615) : bits .and .u64 (u : Int) 281474976710655 = ((u % 281474976710656 : Nat) : Int) := by
  rw [and_word _ (by omega) (by omega), cutF_nat]
end Go.Proofs.Ytckpdgheoacbfaa
