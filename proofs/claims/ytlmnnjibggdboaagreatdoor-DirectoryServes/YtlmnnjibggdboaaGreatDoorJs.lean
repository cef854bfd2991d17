/-
  Two halves in one memory, and what a script has beside them: a server, a row of capabilities.
-/
import Derived.Test.YtlmnnjibggdboaaGreatDoorJq
import Derived.Test.YtlmnnjibggdboaaGreatDoorJm
import Derived.Test.YtlmnnjibggdboaaGreatDoorJe
namespace Go.Proofs.YtlmnnjibggdboaaGreatDoor
section
open Go.RowKit
variable {w0 w w1 w2 w' : World} {A A' : Ad} {p N rr : Nat} {ws : List Nat} {s s' s1 : Hs} {v : Value} {L : List Cp} {t : Nat} {es : List Ent} {T : Nat → Ob}
def Wd (ws : List Nat) (es : List Ent) : Prop := (∀ j, ws.getD j 0 ≤ 281474976710655) ∧ ∀ j, j < es.length → (es.getD j Ent.zero).o ≤ 281474976710655
theorem of_wd (h : Wd ws es) (t s r : Nat) : (ofF ws t es s r).x ≤ 281474976710655 ∧ Wd ws (ofF ws t es s r).es := by
  rcases of_cases ws t es s r with ⟨y, hy, e⟩ | ⟨_, _, _, e⟩ | ⟨_, e⟩ <;> rw [e]
  · refine ⟨?_, h⟩
    unfold HasA at hy
    split at hy
    · show y ≤ _; omega
    · obtain ⟨j, h1, h2⟩ := hy
      show y ≤ _
      rw [← h2]
      exact h.2 j (findE_some h1).1
  · refine ⟨h.1 t, h.1, fun j hj => ?_⟩
    simp only [List.length_append, List.length_cons, List.length_nil] at hj
    by_cases e2 : j < es.length
    · rw [show (es ++ [Ent.mk 1 ((s % 281474976710656) ^^^ r) (ws.getD t 0)]).getD j Ent.zero = es.getD j Ent.zero from getD_snoc_lt es _ j e2]; exact h.2 j e2
    · obtain rfl : j = es.length := by omega
      rw [getD_snoc_end]; exact h.1 t
  · exact ⟨Nat.zero_le _, h⟩
theorem chk_wd (h : Wd ws es) (t p : Nat) (T : Nat → Ob) (c : Cp) (need : Nat) : Wd ws (chkF ws t es p T c need).es := by
  have q := (of_wd h t (T c.o).s c.r).2
  unfold chkF
  repeat' split
  all_goals first | exact h | exact q
theorem Sv.wd (x : Sv w0 w A p ws s) : Wd ws s.es := ⟨fun j => x.od.tk.tape.word j, fun j hj => (okAt x.od.tk.orc.ok j hj).2.2.2⟩
/- a capability that may be told -/
def Cp.may (c : Cp) : Prop := c.p ≤ 281474976710655 ∧ c.o ≤ 16777215 ∧ c.r ≤ 255 ∧ c.c ≤ 281474976710655
theorem Cp.may.ok {c : Cp} (h : c.may) : c.ok := ⟨by have := h.1; omega, by have := h.2.1; omega, h.2.2.1, by have := h.2.2.2; omega⟩
theorem Cp.may.C {c : Cp} (h : c.may) : mayC c = true := decide_eq_true ⟨h.1, h.2.1, h.2.2.2⟩
theorem zero_may : Cp.zero.may := ⟨by decide, by decide, by decide, by decide⟩
theorem res_may (h : Wd ws es) {c : Cp} (hc : c.may) (hp : p ≤ 281474976710655) (mask : Nat) : (resF ws t es p T c mask).c.may := by
  unfold resF
  split
  · rename_i h0
    unfold cabF
    split
    · have k := chk_lt h0
      exact ⟨hp, by show (chkF ws t es p T c 0).k ≤ _; omega, by show c.r &&& mask ≤ _; exact and_le hc.2.2.1, (of_wd (chk_wd h t p T c 0) _ _ _).1⟩
    · exact zero_may
  · exact zero_may
theorem cre_may (h : ∀ j, ws.getD j 0 ≤ 281474976710655) (hp : p ≤ 281474976710655) (vl : Int) : (creF ws t es p T vl).c.may := by
  unfold creF
  split
  · split
    · exact ⟨hp, by show freeO T ≤ _; omega, by show 255 ≤ _; omega, h _⟩
    · exact zero_may
  · exact zero_may
theorem res_len (ws : List Nat) (t : Nat) (es : List Ent) (p : Nat) (T : Nat → Ob) (c : Cp) (mask : Nat) : (resF ws t es p T c mask).es.length ≤ es.length + 2 := by
  have k0 := chk_len ws t es p T c 0
  unfold resF
  split
  · have := of_len ws (chkF ws t es p T c 0).t (chkF ws t es p T c 0).es (T (chkF ws t es p T c 0).k).s (c.r &&& mask)
    simp only; omega
  · simp only; omega
theorem res_T (ws : List Nat) (t : Nat) (es : List Ent) (p : Nat) (T : Nat → Ob) (c : Cp) (mask : Nat) : (resF ws t es p T c mask).T = T := by
  unfold resF
  split <;> rfl
theorem made_may (h : ∀ j, ws.getD j 0 ≤ 281474976710655) (hp : p ≤ 281474976710655) (s : Hs) (c : Cp) (ar : Nat) (l : List UInt8) : (outF ws p s 100 c ar l).c.may := by
  unfold outF
  split
  · exact zero_may
  rw [if_neg (by decide)]
  split
  · exact zero_may
  · unfold ownF
    split
    · unfold doF mkF
      rw [if_pos rfl]
      split
      · exact cre_may h hp _
      · exact zero_may
    · exact zero_may
theorem Fit.res {M : Cre} (h : Fit N s) (he : M.es.length ≤ s.es.length + 2) (hT : M.T = s.T) : Fit (N + 1) (s.tab M.t M.es M.T) := by
  refine ⟨?_, ?_, ?_, ?_, h.top⟩
  · have := h.el; show M.es.length ≤ _; omega
  · have := h.q; show s.q ≤ _; omega
  · have := h.n; show s.n ≤ _; omega
  · intro k; rw [show (s.tab M.t M.es M.T).T = s.T from hT]; exact h.vl k
theorem Fit.lim2 (h : Fit N s) (hN : N ≤ 2200000000000) : Lim s :=
  ⟨by have := h.el; omega, by have := h.q; omega, by have := h.n; omega, fun k => by have := h.vl k; have := h.n; unfold I64; exact ⟨by omega, by omega⟩⟩
theorem Du.rightK (d : Du w0 w A A' p ws s s') (E : SvK w0 w A' p ws w' s1) : ∃ v nv, Du w0 w' A (A'.upd v A'.dv nv) p ws s s1 := by
  obtain ⟨v, nv, S, F, h1, h3⟩ := E
  refine ⟨v, nv, ⟨d.x.foot F (fun j e => ⟨(d.y.up e).1, fun h => d.ap j h e, ?_⟩), S, fun j e h => ?_⟩⟩
  · rintro rfl
    obtain ⟨cr, hr⟩ := d.x.hrow
    exact d.y.noH hr e
  · rcases SvS.upd h1 (MovB.refl _ _) h3 h with h | h
    · exact d.ap j e h
    · have := (d.x.up e).2; omega
structure Bas (w0 w : World) (A A' : Ad) (rr : Nat) (ws : List Nat) (s s' : Hs) (v : Value) (L : List Cp) : Prop where
  du : Du w0 w A A' 5 ws s s'
  sr : Sr w rr A.g A.sb
  row : w.ownsRow w0.heap.size 40 4 v L.length (cellsC L)
  gl : Glob w0
theorem Bas.bel (h : Bas w0 w A A' rr ws s s' v L) : Below w0.heap.size w0 w := h.du.x.bel
theorem Bas.grow (h : Bas w0 w A A' rr ws s s' v L) (b : Below w.heap.size w w') : Bas w0 w' A A' rr ws s s' v L := ⟨h.du.grow b, h.sr.grow b, owns_grow h.row b, h.gl⟩
theorem Bas.drewN (h : Bas w0 w A A' rr ws s s' v L) (q : Nat) : Bas w0 (w.drewN q) A A' rr ws s s' v L := ⟨h.du.drewN q, h.sr, h.row, h.gl⟩
theorem Bas.left (h : Bas w0 w A A' rr ws s s' v L) (E : SvEnd w0 w A 5 ws w' s1) : ∃ va dv nv, Bas w0 w' (A.upd va dv nv) A' rr ws s1 s' v L := by
  obtain ⟨va, dv, nv, d⟩ := h.du.left E
  have k := h.du.x.kh E
  exact ⟨_, _, _, d, h.sr.kh k, owns_kh h.row k cap_odd3, h.gl⟩
theorem Bas.rightK (h : Bas w0 w A A' rr ws s s' v L) (E : SvK w0 w A' 5 ws w' s1) : ∃ va nv, Bas w0 w' A (A'.upd va A'.dv nv) rr ws s s1 v L := by
  obtain ⟨va, nv, d⟩ := h.du.rightK E
  have k := h.du.y.khK E
  exact ⟨_, _, d, h.sr.kh k, owns_kh h.row k cap_odd3, h.gl⟩
theorem Bas.app {v' : Value} {L' : List Cp} (h : Bas w0 w A A' rr ws s s' v L) (f : Foot (fun k => v.ownBlock = some k) w w') (hr : w'.ownsRow w0.heap.size 40 4 v' L'.length (cellsC L')) : Bas w0 w' A A' rr ws s s' v' L' := by
  have no : ∀ {b : Nat} {cs : Array Value} {ty : TypeId}, w.heap[b]? = some (.cells cs ty (0, 0)) → ty ≠ 40 → ¬ v.ownBlock = some b := fun hb ht e => by
    obtain ⟨cur, h1, _⟩ := owns_block h.row e
    rw [hb] at h1; cases h1; exact ht rfl
  refine ⟨h.du.off f (fun b e => ?_), h.sr.foot f (no h.sr.1 (by decide)) (fun e => (no h.du.x.bx (by cases A.sb.2 <;> decide)) e), hr, h.gl⟩
  obtain ⟨cur, h1, h2⟩ := owns_block h.row e
  exact ⟨h2, .inr ⟨cur, _, h1, cap_odd3⟩⟩
theorem cap_in {k : Nat} (hk : k < L.length) : L.getD k Cp.zero ∈ L := by
  rw [List.getD_eq_getElem?_getD, List.getElem?_eq_getElem hk]; exact List.getElem_mem hk
theorem Od.low {B g go m a h k : Nat} {v : Value} (x : Od w0 w B g go m a h k p v ws t es T) : g < w.heap.size ∧ go < w.heap.size ∧ m < w.heap.size ∧ a < w.heap.size ∧ h < w.heap.size := by
  obtain ⟨C, hC⟩ := x.tb.blk
  exact ⟨lt_of_heap hC, lt_of_heap x.tk.orc.box, x.tk.orc.map.lt, lt_of_heap x.tk.tape.box, lt_of_heap x.tk.tape.row⟩
theorem Od.up {B g go m a h k : Nat} {v : Value} (x : Od w0 w B g go m a h k p v ws t es T) {j : Nat} (e : OdS g go m a v j) : w0.heap.size ≤ j := by
  have b0 := x.tk.new.b0
  have a0 := x.tk.new.a0
  rcases e with (e | e | e | e) | e
  · have := x.tk.orc.bg; omega
  · have := x.tk.orc.bm; omega
  · omega
  · obtain ⟨cur, h1, h2⟩ := owns_block x.tk.orc.row e; omega
  · have := x.new; omega
theorem ods_nil {g go m a n j : Nat} (h : g < n ∧ go < n ∧ m < n ∧ a < n) (e : OdS g go m a (.slice none 0 0) j) : j < n := by
  rcases e with (e | e | e | e) | e
  · omega
  · omega
  · omega
  · cases e
  · omega
/- a row of one capability -/
theorem owns_cap1 (w : World) (p o r c : Nat) : (w.alloc (.cells #[.int .u64 (p : Int), .int .u32 (o : Int), .int .u8 (r : Int), .int .u64 (c : Int)] 40)).ownsRow w.heap.size 40 4 (.slice (some ⟨w.heap.size, 0, none⟩) 1 1) 1 (cellsC [⟨p, o, r, c⟩]) :=
  ⟨rfl, .inr ⟨w.heap.size, 1, _, rfl, Nat.le_refl _, heap_alloc_new _ _, Nat.le_refl _, by unfold maxLen; omega, rfl, rfl⟩⟩
theorem owns_from {B B' n sz : Nat} {e : TypeId} {v : Value} {xs : List Value} (h : w.ownsRow B e sz v n xs) (hB : B' ≤ B) : w.ownsRow B' e sz v n xs := by
  refine ⟨h.1, ?_⟩
  rcases h.2 with h0 | ⟨k, cap, cur, h1, h2, h4⟩
  · exact .inl h0
  · exact .inr ⟨k, cap, cur, h1, Nat.le_trans hB h2, h4⟩
/- a tape with its oracle: numbers -/
theorem Tk.low {B go m a h k : Nat} {v : Value} (x : Tk w0 w B go m a h k v ws t es) : go < w.heap.size ∧ m < w.heap.size ∧ a < w.heap.size ∧ h < w.heap.size :=
  ⟨lt_of_heap x.orc.box, x.orc.map.lt, lt_of_heap x.tape.box, lt_of_heap x.tape.row⟩
/- the model, as it is made -/
theorem model_made {B g go m a h k : Nat} (x : Od w0 w B g go m a h k p (.slice none 0 0) ws 0 [] noneO) {W : World} (hW : (w.alloc (.map #[] 0)).alloc (.cells #[.pointer (some ⟨g, 0, none⟩), .pointer (some ⟨go, 0, none⟩), .map (some w.heap.size), .int .i64 1] 36) = W) :
    Sv w0 W ⟨B, g, go, m, a, h, k, .slice none 0 0, (w.heap.size + 1, true), w.heap.size, some w.heap.size, fun _ => nilV⟩ p ws ⟨0, [], noneO, 0, 0, L0⟩ := by
  have b1 := below_alloc w (.map #[] 0)
  have b2 := below_alloc (w.alloc (.map #[] 0)) (.cells #[.pointer (some ⟨g, 0, none⟩), .pointer (some ⟨go, 0, none⟩), .map (some w.heap.size), .int .i64 1] 36)
  have hs : (w.alloc (.map #[] 0)).heap.size = w.heap.size + 1 := sz1 w _
  have w0l : w0.heap.size ≤ w.heap.size := x.tk.new.bel.size
  have hb := heap_alloc_new (w.alloc (.map #[] 0)) (.cells #[.pointer (some ⟨g, 0, none⟩), .pointer (some ⟨go, 0, none⟩), .map (some w.heap.size), .int .i64 1] 36)
  rw [hs] at hb
  have hm := (map_new w).same (w' := (w.alloc (.map #[] 0)).alloc (.cells #[.pointer (some ⟨g, 0, none⟩), .pointer (some ⟨go, 0, none⟩), .map (some w.heap.size), .int .i64 1] 36)) (b2.block w.heap.size (by rw [hs]; omega))
  subst hW
  refine ⟨(x.grow b1).grow b2, ⟨hm, fun b e => by cases e; exact Nat.le_refl _, fun _ => own_nilR _ _ _, fun _ _ _ e => by cases e⟩, w0l, ?_, by show w0.heap.size ≤ w.heap.size + 1; omega, hb, fun e => ?_, fun _ => good_nil⟩
  · show w.heap.size ≤ _; exact Nat.le_trans b1.size b2.size
  · have h1 := x.tk.orc.map.lt
    have h2 : w.heap.size = m := Option.some.inj e
    omega
end
end Go.Proofs.YtlmnnjibggdboaaGreatDoor
