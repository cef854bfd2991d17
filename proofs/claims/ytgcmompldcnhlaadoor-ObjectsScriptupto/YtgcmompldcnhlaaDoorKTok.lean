/-
  What token's functions answer, as contracts; what became of the world.
-/
import Derived.Test.YtgcmompldcnhlaaDoorKMath
import Derived.Test.YtgcmompldcnhlaaDoorOLaw
import Derived.Handy
namespace Go.Proofs.YtgcmompldcnhlaaDoor
open Go.RowKit
/- an oracle of a new tape -/
structure Tk (w0 w : World) (B g m a h k : Nat) (v : Value) (ws : List Nat) (t : Nat) (es : List Ent) : Prop where
  orc : Orc w B g m (.pointer (some ⟨a, 0, none⟩)) v es
  tape : TapeAt w a h ws t k
  new : New2 w0 w B g m a h
theorem Tk.drewN {w0 w : World} {B g m a h k : Nat} {v : Value} {ws : List Nat} {t : Nat} {es : List Ent} (s : Tk w0 w B g m a h k v ws t es) (q : Nat) : Tk w0 (w.drewN q) B g m a h k v ws t es := ⟨s.orc.drewN q, s.tape.drewN q, s.new.drewN q⟩
theorem Tk.grow {w0 w w' : World} {B g m a h k : Nat} {v : Value} {ws : List Nat} {t : Nat} {es : List Ent} (s : Tk w0 w B g m a h k v ws t es) (b : Below w.heap.size w w') : Tk w0 w' B g m a h k v ws t es := ⟨s.orc.grow b, s.tape.grow b, s.new.grow b⟩
/- what an answer leaves -/
def Left (w0 w : World) (B g m a h k : Nat) (v : Value) (ws : List Nat) (w' : World) (X : Ans) : Prop :=
  ∃ v', Tk w0 w' B g m a h k v' ws X.t X.es ∧ Foot (AskS g m a v) w w' ∧ ∀ r, v'.ownBlock = some r → v.ownBlock = some r ∨ w.heap.size ≤ r
theorem ask_ans (w0 : World) (B g m a h k : Nat) (v : Value) (ws : List Nat) (t : Nat) (es : List Ent) (f : Int) (i : Nat) (w : World) (S : Tk w0 w B g m a h k v ws t es) (hf : -9223372036854775808 ≤ f ∧ f ≤ 9223372036854775807) (hi : i ≤ 18446744073709551615) (hl : es.length ≤ 5000000000000) :
    Calls Tryd.prog 43 #[.pointer (some ⟨g, 0, none⟩), .int .i64 f, .int .u64 (i : Int)] w fun e w' => e = .returned (.tuple #[.int .u64 ((ansF ws t es f (i % 281474976710656)).x : Nat), erV (ansF ws t es f (i % 281474976710656)).ok]) ∧
      Left w0 w B g m a h k v ws w' (ansF ws t es f (i % 281474976710656)) := by
  cases hfind : findE es f (i % 281474976710656) with
  | some j =>
    have e : ansF ws t es f (i % 281474976710656) = ⟨(es.getD j Ent.zero).o, true, t, es⟩ := by unfold ansF; rw [hfind]
    rw [e]
    refine (ask_known g m B j _ _ v es f i w S.orc hf hi hfind rfl).mono ?_
    rintro e w' ⟨rfl, r, rfl⟩
    exact ⟨rfl, v, S.drewN r, foot_drewN _ _ _, fun _ h => .inl h⟩
  | none =>
    rcases Nat.lt_or_ge t ws.length with ht | ht
    · have e : ansF ws t es f (i % 281474976710656) = ⟨ws.getD t 0, true, t + 1, es ++ [⟨f, i % 281474976710656, ws.getD t 0⟩]⟩ := by unfold ansF; rw [hfind]; simp only; rw [if_pos ht]
      rw [e]
      refine (ask_new g m B a h t k _ v es ws f i w S.orc S.tape ht rfl hf hi hfind (by omega) S.new.bs).mono ?_
      rintro e w' ⟨rfl, v', O, T, F, hv⟩
      exact ⟨rfl, v', ⟨O, T, S.new.step S.orc F⟩, F, hv⟩
    · have e : ansF ws t es f (i % 281474976710656) = ⟨0, false, t, es⟩ := by unfold ansF; rw [hfind]; simp only; rw [if_neg (by omega)]
      rw [e]
      have e2 : t = ws.length := by have := S.tape.some; omega
      subst e2
      refine (ask_end g m B a h k v es ws f i w S.orc S.tape hf hi hfind).mono ?_
      rintro e w' ⟨rfl, r, rfl⟩
      exact ⟨rfl, v, S.drewN r, foot_drewN _ _ _, fun _ h => .inl h⟩
/- an owner's check: no oracle is asked -/
set_option maxHeartbeats 400000 in
theorem tof_owner (o : Value) (s : Nat) (w : World) (hs : s ≤ 18446744073709551615) :
    Calls Tryd.prog 45 #[o, .int .u64 (s : Int), .int .u8 255] w fun e w' => e = .returned (.tuple #[.int .u64 ((s % 281474976710656 : Nat) : Int), .nilIface]) ∧ w' = w := by
  have HS := hide hs
  obtain ⟨p, hp⟩ : ∃ p, s % 281474976710656 = p := ⟨_, rfl⟩
  rw [hp]
  have HP := hide hp
  clear hs hp
  go_enter Tryd.func45, Tryd.ntmps45
  go_wp2_with fail
  refine (cut_any _ _ (by omega) (by have := HS.out; omega)).mono ?_; rintro e w2 ⟨rfl, rfl⟩
  rw [cutF_nat, HP.out]
  go_wp2
  go_ret2
  exact ⟨rfl, rfl⟩
set_option maxHeartbeats 400000 in
theorem tof_other (w0 : World) (B g m a h k : Nat) (v : Value) (ws : List Nat) (t : Nat) (es : List Ent) (s r : Nat) (w : World) (S : Tk w0 w B g m a h k v ws t es) (hs : s ≤ 18446744073709551615) (hr : r ≤ 255) (hn : r ≠ 255) (hl : es.length ≤ 5000000000000) :
    Calls Tryd.prog 45 #[.pointer (some ⟨g, 0, none⟩), .int .u64 (s : Int), .int .u8 (r : Int)] w fun e w' => e = .returned (.tuple #[.int .u64 ((ofF ws t es s r).x : Nat), erV (ofF ws t es s r).ok]) ∧
      Left w0 w B g m a h k v ws w' (ofF ws t es s r) := by
  have eo : ofF ws t es s r = ansF ws t es 1 ((s % 281474976710656) ^^^ r) := by unfold ofF; rw [if_neg hn]
  have hx := xor_lt s r hr
  have hxn := xor_nat (s % 281474976710656) r (by omega) (by omega)
  rw [eo]
  obtain ⟨p, hp⟩ : ∃ p, s % 281474976710656 = p := ⟨_, rfl⟩
  rw [hp] at hx hxn ⊢
  obtain ⟨y, hy⟩ : ∃ y, p ^^^ r = y := ⟨_, rfl⟩
  rw [hy] at hx hxn ⊢
  obtain ⟨X, hX⟩ : ∃ X, ansF ws t es 1 y = X := ⟨_, rfl⟩
  rw [hX]
  have HXX := hide hX
  have HP := hide hp
  have HX := hide hx
  have HS := hide hs
  have HK := hide S
  have HL := hide hl
  have hr1 : ¬ ((r : Int) = 255) := by omega
  have hr0 : (0 : Int) ≤ r := by omega
  have hr2 : (r : Int) ≤ 255 := by omega
  clear hp hy hx hs S hl eo hn hr hX
  obtain ⟨x, ok, t', es'⟩ := X
  go_enter Tryd.func45, Tryd.ntmps45
  go_wp2_with fail
  refine (cut_any _ _ (by omega) (by have := HS.out; omega)).mono ?_; rintro e w2 ⟨rfl, rfl⟩
  rw [cutF_nat, HP.out]
  go_wp2_with fail
  refine (ask_ans w0 B g m a h k v ws t es 1 y _ HK.out (by omega) (by have := HX.out; omega) HL.out).mono ?_
  rw [Nat.mod_eq_of_lt HX.out, HXX.out]
  rintro e w1 ⟨rfl, L⟩
  have HL1 := hide L
  clear L
  clear HXX
  cases ok <;> simp only [erV]
  · go_wp2
    go_ret2
    exact ⟨rfl, HL1.out⟩
  · go_wp2
    go_ret2
    exact ⟨rfl, HL1.out⟩
theorem Tk.stay {w0 w : World} {B g m a h k : Nat} {v : Value} {ws : List Nat} {t : Nat} {es : List Ent} (S : Tk w0 w B g m a h k v ws t es) (x : Nat) (ok : Bool) : Left w0 w B g m a h k v ws w ⟨x, ok, t, es⟩ := ⟨v, S, Foot.refl _ _, fun _ h => .inl h⟩
theorem tof_any (w0 : World) (B g m a h k : Nat) (v : Value) (ws : List Nat) (t : Nat) (es : List Ent) (s r : Nat) (w : World) (S : Tk w0 w B g m a h k v ws t es) (hs : s ≤ 18446744073709551615) (hr : r ≤ 255) (hl : es.length ≤ 5000000000000) :
    Calls Tryd.prog 45 #[.pointer (some ⟨g, 0, none⟩), .int .u64 (s : Int), .int .u8 (r : Int)] w fun e w' => e = .returned (.tuple #[.int .u64 ((ofF ws t es s r).x : Nat), erV (ofF ws t es s r).ok]) ∧
      Left w0 w B g m a h k v ws w' (ofF ws t es s r) := by
  by_cases h1 : r = 255
  · subst h1
    rw [of_owner]
    refine (tof_owner _ s w hs).mono ?_
    rintro e w' ⟨rfl, rfl⟩
    exact ⟨rfl, S.stay _ _⟩
  · exact tof_other w0 B g m a h k v ws t es s r w S hs hr h1 hl
theorem Left.start {w0 w w1 w' : World} {B g m a h k : Nat} {v : Value} {ws : List Nat} {X : Ans} (L : Left w0 w1 B g m a h k v ws w' X) (b : Below w.heap.size w w1) : Left w0 w B g m a h k v ws w' X := by
  obtain ⟨v', T, F, hv⟩ := L
  refine ⟨v', T, (below_foot _ b).trans F (fun _ h => .inl h), fun r hr => ?_⟩
  rcases hv r hr with h1 | h1
  · exact .inl h1
  · exact .inr (Nat.le_trans b.size h1)
/- the cells of a capability in a variable of its own -/
def CBox (w : World) (b p o r c : Nat) : Prop := w.heap[b]? = some (.cells #[.int .u64 (p : Int), .int .u32 (o : Int), .int .u8 (r : Int), .int .u64 (c : Int)] 49 (0, 0))
theorem CBox.c0 {w : World} {b p o r c : Nat} (h : CBox w b p o r c) : w.cell? ⟨b, 0, none⟩ = some (.int .u64 (p : Int)) := by rw [cell_of_row w b 0 _ _ _ h]; rfl
theorem CBox.c1 {w : World} {b p o r c : Nat} (h : CBox w b p o r c) : w.cell? ⟨b, 1, none⟩ = some (.int .u32 (o : Int)) := by rw [cell_of_row w b 1 _ _ _ h]; rfl
theorem CBox.c2 {w : World} {b p o r c : Nat} (h : CBox w b p o r c) : w.cell? ⟨b, 2, none⟩ = some (.int .u8 (r : Int)) := by rw [cell_of_row w b 2 _ _ _ h]; rfl
theorem CBox.c3 {w : World} {b p o r c : Nat} (h : CBox w b p o r c) : w.cell? ⟨b, 3, none⟩ = some (.int .u64 (c : Int)) := by rw [cell_of_row w b 3 _ _ _ h]; rfl
theorem CBox.z {w : World} {b p o r c : Nat} (h : CBox w b p o r c) (j : Nat) : w.frozen? ⟨b, j, none⟩ = false := frozen_of_row w b j _ _ h
theorem CBox.new (w : World) (p o r c : Nat) : CBox (w.alloc (.cells #[.int .u64 (p : Int), .int .u32 (o : Int), .int .u8 (r : Int), .int .u64 (c : Int)] 49)) w.heap.size p o r c := heap_alloc_new _ _
theorem CBox.foot {S : Nat → Prop} {w w' : World} {b p o r c : Nat} (h : CBox w b p o r c) (x : Foot S w w') (hb : ¬ S b) : CBox w' b p o r c := (x.block b (lt_of_heap h) hb).trans h
theorem CBox.grow {w w' : World} {b p o r c : Nat} (h : CBox w b p o r c) (x : Below w.heap.size w w') : CBox w' b p o r c := (x.block b (lt_of_heap h)).trans h
theorem CBox.drewN {w : World} {b p o r c : Nat} (h : CBox w b p o r c) (q : Nat) : CBox (w.drewN q) b p o r c := h
/- an answer leaves a capability in a variable as it was -/
theorem CBox.ask {w0 w w' : World} {B g m a h k t : Nat} {v : Value} {ws : List Nat} {es : List Ent} {b p o r c : Nat} (x : CBox w b p o r c) (S : Tk w0 w B g m a h k v ws t es) (F : Foot (AskS g m a v) w w') : CBox w' b p o r c := by
  refine x.foot F fun e => ?_
  obtain ⟨y, z, hm⟩ := S.orc.map.isMap
  unfold CBox at x
  rcases e with e | e | e | e
  · rw [e, S.orc.box] at x; cases x
  · rw [e, hm] at x; cases x
  · rw [e, S.tape.box] at x; cases x
  · obtain ⟨cur, h1, _⟩ := owns_block S.orc.row e; rw [h1] at x; cases x
def goodF (X : Ans) (c : Nat) : Bool := X.ok && decide (c = X.x)
set_option maxHeartbeats 800000 in
theorem tgood_any (w0 : World) (B g m a h k : Nat) (v : Value) (ws : List Nat) (t : Nat) (es : List Ent) (s p o r c : Nat) (w : World) (S : Tk w0 w B g m a h k v ws t es) (hs : s ≤ 18446744073709551615) (hr : r ≤ 255) (hl : es.length ≤ 5000000000000) :
    Calls Tryd.prog 39 #[.pointer (some ⟨g, 0, none⟩), .int .u64 (s : Int), .agg #[.int .u64 (p : Int), .int .u32 (o : Int), .int .u8 (r : Int), .int .u64 (c : Int)]] w fun e w' => e = .returned (.tuple #[.bool (goodF (ofF ws t es s r) c), erV (ofF ws t es s r).ok]) ∧
      Left w0 w B g m a h k v ws w' (ofF ws t es s r) := by
  have HS := hide hs
  have HK := hide S
  have HL := hide hl
  have HR := hide hr
  obtain ⟨X, hX⟩ : ∃ X, ofF ws t es s r = X := ⟨_, rfl⟩
  rw [hX]
  have HXX := hide hX
  clear hs hr hl S hX
  obtain ⟨x, ok, t', es'⟩ := X
  obtain ⟨gb, hgb⟩ : ∃ gb, goodF ⟨x, ok, t', es'⟩ c = gb := ⟨_, rfl⟩
  rw [hgb]
  have HG := hide hgb
  clear hgb
  go_enter Tryd.func39, Tryd.ntmps39
  go_wp2_with fail
  refine (tof_any w0 B g m a h k v ws t es s r _ (HK.out.grow (below_alloc w _)) HS.out HR.out HL.out).mono ?_; rintro e w1 ⟨rfl, L⟩
  rw [HXX.out] at L ⊢
  have HL1 := hide (L.start (below_alloc w _))
  have HC : Hid (CBox w1 w.heap.size p o r c) := by
    obtain ⟨v', _, F, _⟩ := L
    exact (CBox.new w p o r c).ask (HK.out.grow (below_alloc w _)) F
  clear L HXX
  have c3 := HC.out.c3
  cases ok <;> simp only [erV]
  · go_wp2
    go_ret2
    exact ⟨by rw [← HG.out]; rfl, HL1.out⟩
  · by_cases hc : c = x
    · have hc1 : (c : Int) = (x : Int) := by omega
      subst hc
      clear hc1
      go_wp2
      go_ret2
      exact ⟨by rw [← HG.out]; simp [goodF, erV], HL1.out⟩
    · have hc1 : ¬ ((c : Int) = (x : Int)) := by omega
      have HN := hide hc
      clear hc
      go_wp2
      go_ret2
      exact ⟨by rw [← HG.out]; simp [goodF, erV, HN.out, hc1], HL1.out⟩
end Go.Proofs.YtgcmompldcnhlaaDoor
