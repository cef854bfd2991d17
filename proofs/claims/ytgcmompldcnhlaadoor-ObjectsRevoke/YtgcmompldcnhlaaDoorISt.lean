/-
  A table without addresses; what a deed leaves of other memory; the deeds' contracts so; a table that is made; rows that grow.
-/
import Derived.Test.YtgcmompldcnhlaaDoorQLies
import Derived.Test.YtgcmompldcnhlaaDoorIRes
import Derived.Test.YtgcmompldcnhlaaDoorIRev
import Derived.Test.YtgcmompldcnhlaaDoorIDes
namespace Go.Proofs.YtgcmompldcnhlaaDoor
open Go.RowKit
variable {w0 w w1 w2 w' : World} {B g go m a h k p : Nat} {v v1 : Value} {ws : List Nat} {t t1 t' : Nat} {es es1 es' : List Ent} {T T1 T' : Nat → Ob}
def Sd (w0 w : World) (g p : Nat) (ws : List Nat) (t : Nat) (es : List Ent) (T : Nat → Ob) : Prop := ∃ B go m a h k v, Od w0 w B g go m a h k p v ws t es T
/- a type that tables and oracles have nothing of -/
def Odd (ty : TypeId) : Prop := ty ≠ 78 ∧ ty ≠ 82 ∧ ty ≠ 129 ∧ ty ≠ 74
structure Kp (w w' : World) : Prop where
  os : w'.os = w.os
  tape : w'.tape = w.tape
  output : w'.output = w.output
  size : w.heap.size ≤ w'.heap.size
  block : ∀ (b : Nat) (cs : Array Value) (ty : TypeId), w.heap[b]? = some (.cells cs ty (0, 0)) → Odd ty → w'.heap[b]? = w.heap[b]?
def Chg (w w' : World) (b : Nat) : Prop := w'.heap[b]? ≠ w.heap[b]?
theorem Kp.foot (x : Kp w w') : Foot (Chg w w') w w' := ⟨x.os, x.tape, x.output, x.size, fun _ _ hn => Classical.byContradiction hn⟩
theorem Kp.same (x : Kp w w') {b : Nat} {cs : Array Value} {ty : TypeId} (hb : w.heap[b]? = some (.cells cs ty (0, 0))) (ht : Odd ty) : ¬ Chg w w' b := fun e => e (x.block b cs ty hb ht)
theorem Kp.refl (w : World) : Kp w w := ⟨rfl, rfl, rfl, Nat.le_refl _, fun _ _ _ _ _ => rfl⟩
theorem Kp.trans (x : Kp w w1) (y : Kp w1 w2) : Kp w w2 := ⟨y.os.trans x.os, y.tape.trans x.tape, y.output.trans x.output, Nat.le_trans x.size y.size, fun b cs ty hb ht => (y.block b cs ty ((x.block b cs ty hb ht).trans hb) ht).trans (x.block b cs ty hb ht)⟩
theorem below_kp (b : Below w.heap.size w w') : Kp w w' := ⟨b.os, b.tape, b.output, b.size, fun i _ _ hb _ => b.block i (lt_of_heap hb)⟩
theorem cap_odd : Odd 49 := ⟨by decide, by decide, by decide, by decide⟩
theorem CBox.kp {b p o r c : Nat} (x : CBox w b p o r c) (f : Kp w w') : CBox w' b p o r c := x.foot f.foot (f.same x cap_odd)
theorem owns_kp {base : Nat} {e : TypeId} {size : Nat} {n : Nat} {xs : List Value} (x : w.ownsRow base e size v n xs) (f : Kp w w') (ht : Odd e) : w'.ownsRow base e size v n xs := by
  refine owns_foot x f.foot fun r hr => ?_
  obtain ⟨cur, h1, _⟩ := owns_block x hr
  exact f.same h1 ht
/- a deed's end -/
theorem Od.ends (x : Od w0 w B g go m a h k p v ws t es T) (E : OdEnd w0 w B g go m a h k p v ws w' t' es' T') : Sd w0 w' g p ws t' es' T' ∧ Kp w w' := by
  obtain ⟨v', S, F, _⟩ := E
  refine ⟨⟨_, _, _, _, _, _, _, S⟩, ⟨F.os, F.tape, F.output, F.size, fun b cs ty hb ht => F.block b (lt_of_heap hb) fun e => ?_⟩⟩
  rcases e with e | e
  · exact x.tk.noAsk hb ht.1 ht.2.1 ht.2.2.1 e
  · obtain ⟨C, hC⟩ := x.tb.blk
    rw [e, hC] at hb; cases hb; exact ht.2.2.2 rfl
theorem Sd.grow (x : Sd w0 w g p ws t es T) (b : Below w.heap.size w w') : Sd w0 w' g p ws t es T := by
  obtain ⟨B, go, m, a, h, k, v, x⟩ := x
  exact ⟨_, _, _, _, _, _, _, x.grow b⟩
theorem Sd.drewN (x : Sd w0 w g p ws t es T) (q : Nat) : Sd w0 (w.drewN q) g p ws t es T := by
  obtain ⟨B, go, m, a, h, k, v, x⟩ := x
  exact ⟨_, _, _, _, _, _, _, x.drewN q⟩
theorem Sd.bel (x : Sd w0 w g p ws t es T) : Below w0.heap.size w0 w := by
  obtain ⟨B, go, m, a, h, k, v, x⟩ := x
  exact x.tk.new.bel
theorem Sd.glob (x : Sd w0 w g p ws t es T) (hg : Glob w0) : Glob w := hg.carry x.bel
theorem Sd.tb (x : Sd w0 w g p ws t es T) : ∃ go, Tb w g p go T := by
  obtain ⟨B, go, m, a, h, k, v, x⟩ := x
  exact ⟨go, x.tb⟩
theorem Sd.word (x : Sd w0 w g p ws t es T) (j : Nat) : ws.getD j 0 ≤ 281474976710655 := by
  obtain ⟨B, go, m, a, h, k, v, x⟩ := x
  exact x.tk.tape.word j
/- other memory turns -/
def Fre (w : World) (b : Nat) : Prop := w.heap.size ≤ b ∨ ∃ (cs : Array Value) (ty : TypeId), w.heap[b]? = some (.cells cs ty (0, 0)) ∧ Odd ty ∧ ty ≠ 22
theorem Sd.off (x : Sd w0 w g p ws t es T) {S : Nat → Prop} (f : Foot S w w') (hS : ∀ b, S b → w0.heap.size ≤ b ∧ Fre w b) : Sd w0 w' g p ws t es T := by
  obtain ⟨B, go, m, a, h, k, v, x⟩ := x
  have no : ∀ b, S b → b ≠ go ∧ b ≠ m ∧ b ≠ a ∧ b ≠ h ∧ v.ownBlock ≠ some b ∧ b ≠ g := by
    intro b hb
    rcases (hS b hb).2 with e | ⟨cs, ty, e, o, u⟩
    · obtain ⟨C, hC⟩ := x.tb.blk
      obtain ⟨y, z, hm⟩ := x.tk.orc.map.isMap
      have h1 := lt_of_heap x.tk.orc.box
      have h2 := lt_of_heap hm
      have h3 := lt_of_heap x.tk.tape.box
      have h4 : h < w.heap.size := x.tk.tape.row.lt
      have h5 := lt_of_heap hC
      refine ⟨by omega, by omega, by omega, by omega, fun er => ?_, by omega⟩
      obtain ⟨cur, hx, _⟩ := owns_block x.tk.orc.row er
      have := lt_of_heap hx
      omega
    · obtain ⟨n1, n2, n3, n4, n5⟩ := x.tk.noBlk e o.1 o.2.1 o.2.2.1 u
      refine ⟨n1, n2, n3, n4, n5, fun eg => ?_⟩
      obtain ⟨C, hC⟩ := x.tb.blk
      rw [eg, hC] at e; cases e; exact o.2.2.2 rfl
  exact ⟨_, _, _, _, _, _, _, ⟨⟨x.tk.orc.foot f (fun e => (no _ e).1 rfl) (fun e => (no _ e).2.1 rfl) (fun r hr e => (no _ e).2.2.2.2.1 hr), x.tk.tape.foot f (fun e => (no _ e).2.2.1 rfl) (fun e => (no _ e).2.2.2.1 rfl), ⟨x.tk.new.b0, x.tk.new.a0, x.tk.new.h0, x.tk.new.bel.trans (f.below x.tk.new.bel.size fun j e => (hS j e).1), Nat.le_trans x.tk.new.bs f.size⟩⟩, x.tb.foot f (fun e => (no _ e).2.2.2.2.2 rfl), x.new⟩⟩
theorem Sd.cap (x : Sd w0 w g p ws t es T) {b : Nat} (C : CapB w b) (hb : w0.heap.size ≤ b) (f : Foot (fun j => j = b) w w') : Sd w0 w' g p ws t es T := by
  obtain ⟨cs, hc⟩ := C
  refine x.off f fun j e => ?_
  subst e
  exact ⟨hb, .inr ⟨cs, _, hc, cap_odd, by decide⟩⟩
theorem sd_create (vl : Int) (w : World) (x : Sd w0 w g p ws t es T) (hl : es.length ≤ 5000000000000) (R : Cre) (hR : creF ws t es p T vl = R) :
    Calls Tryd.prog 16 #[.pointer (some ⟨g, 0, none⟩), .int .i64 vl] w fun e w' => e = .returned (.tuple #[R.c.val, erN (R.e : Int)]) ∧ Sd w0 w' g p ws R.t R.es R.T ∧ Kp w w' := by
  obtain ⟨B, go, m, a, h, k, v, x⟩ := x
  refine (create_any vl w x hl R hR).mono ?_
  rintro e w1 ⟨rfl, E⟩
  exact ⟨rfl, x.ends E⟩
theorem sd_check (c : Cp) (need : Nat) (w : World) (x : Sd w0 w g p ws t es T) (hc : c.ok) (hn : need ≤ 255) (hl : es.length ≤ 5000000000000) (K : Chk) (hK : chkF ws t es p T c need = K) :
    Calls Tryd.prog 20 #[.pointer (some ⟨g, 0, none⟩), c.val, .int .u8 (need : Int)] w fun e w' => e = .returned (.tuple #[.int .i64 (K.k : Int), erN (K.e : Int)]) ∧ Sd w0 w' g p ws K.t K.es T ∧ Kp w w' := by
  obtain ⟨B, go, m, a, h, k, v, x⟩ := x
  refine (check_any c need w x hc hn hl K hK).mono ?_
  rintro e w1 ⟨rfl, E⟩
  exact ⟨rfl, x.ends E⟩
theorem sd_restrict (c : Cp) (mask : Nat) (w : World) (x : Sd w0 w g p ws t es T) (hc : c.ok) (hm : mask ≤ 255) (hl : es.length < 5000000000000) (R : Cre) (hR : resF ws t es p T c mask = R) :
    Calls Tryd.prog 17 #[.pointer (some ⟨g, 0, none⟩), c.val, .int .u8 (mask : Int)] w fun e w' => e = .returned (.tuple #[R.c.val, erN (R.e : Int)]) ∧ Sd w0 w' g p ws R.t R.es R.T ∧ Kp w w' := by
  obtain ⟨B, go, m, a, h, k, v, x⟩ := x
  refine (restrict_any c mask w x hc hm hl R hR).mono ?_
  rintro e w1 ⟨rfl, E⟩
  exact ⟨rfl, x.ends E⟩
theorem sd_revoke (c : Cp) (w : World) (x : Sd w0 w g p ws t es T) (hc : c.ok) (hl : es.length < 5000000000000) (he : ∀ j, (T j).e ≤ 9223372036854775806) (R : Cre) (hR : revF ws t es p T c = R) :
    Calls Tryd.prog 18 #[.pointer (some ⟨g, 0, none⟩), c.val] w fun e w' => e = .returned (.tuple #[R.c.val, erN (R.e : Int)]) ∧ Sd w0 w' g p ws R.t R.es R.T ∧ Kp w w' := by
  obtain ⟨B, go, m, a, h, k, v, x⟩ := x
  refine (revoke_any c w x hc hl he R hR).mono ?_
  rintro e w1 ⟨rfl, E⟩
  exact ⟨rfl, x.ends E⟩
theorem sd_destroy (c : Cp) (w : World) (x : Sd w0 w g p ws t es T) (hc : c.ok) (hl : es.length ≤ 5000000000000) (K : Chk) (hK : chkF ws t es p T c 8 = K) (hn : K.e = 0) :
    Calls Tryd.prog 24 #[.pointer (some ⟨g, 0, none⟩), c.val] w fun e w' => e = .returned (.tuple #[.int .i64 (K.k : Int), .int .i64 (T K.k).v, .nilIface]) ∧ Sd w0 w' g p ws K.t K.es (updO T K.k Ob.zero) ∧ Kp w w' := by
  obtain ⟨B, go, m, a, h, k, v, x⟩ := x
  refine (destroy_yes c w x hc hl K hK hn).mono ?_
  rintro e w1 ⟨rfl, E⟩
  exact ⟨rfl, x.ends E⟩
theorem sd_info (c : Cp) (w : World) (x : Sd w0 w g p ws t es T) (hc : c.ok) (hl : es.length ≤ 5000000000000) (K : Chk) (hK : chkF ws t es p T c 0 = K) (hn : K.e = 0) :
    Calls Tryd.prog 23 #[.pointer (some ⟨g, 0, none⟩), c.val] w fun e w' => e = .returned (.tuple #[.int .i64 ((T K.k).e : Int), .int .i64 ((T K.k).l : Int), .nilIface]) ∧ Sd w0 w' g p ws K.t K.es T ∧ Kp w w' := by
  obtain ⟨B, go, m, a, h, k, v, x⟩ := x
  refine (info_yes c w x hc hl K hK hn).mono ?_
  rintro e w1 ⟨rfl, E⟩
  exact ⟨rfl, x.ends E⟩
/- an empty table -/
def zeroT : List Value := [.int .u64 0, .pointer none] ++ (List.replicate 64 Ob.zero).flatMap Ob.cells
theorem Tryd.zeroTable (w : World) : (zeroValue 74).run Tryd.prog w = .ok (.agg zeroT.toArray) w := by kernel_rfl
def newT (p go : Nat) : List Value := [.int .u64 (p : Int), .pointer (some ⟨go, 0, none⟩)] ++ (List.replicate 64 Ob.zero).flatMap Ob.cells
theorem zero_at (n j f : Nat) (hj : j < n) (hf : f < 4) : ((List.replicate n Ob.zero).flatMap Ob.cells)[j * 4 + f]? = Ob.zero.cells[f]? := by
  induction n generalizing j with
  | zero => omega
  | succ n ih =>
    rw [List.replicate_succ, List.flatMap_cons]
    cases j with
    | zero => rw [List.getElem?_append_left (by show _ < 4; omega)]; simp
    | succ j =>
      rw [List.getElem?_append_right (by show 4 ≤ _; omega)]
      show ((List.replicate n Ob.zero).flatMap Ob.cells)[(j + 1) * 4 + f - 4]? = _
      rw [show (j + 1) * 4 + f - 4 = j * 4 + f by omega]
      exact ih j (by omega)
set_option maxRecDepth 20000 in
theorem newT_ok (p go : Nat) : TbC (newT p go).toArray p go noneO := by
  refine ⟨by simp [newT, Ob.cells], rfl, rfl, fun j f hj hf => ?_⟩
  rw [List.getElem?_toArray]
  show (_ ++ _)[_]? = _
  rw [List.getElem?_append_right (by show 2 ≤ _; omega)]
  show ((List.replicate 64 Ob.zero).flatMap Ob.cells)[2 + j * 4 + f - 2]? = _
  rw [show 2 + j * 4 + f - 2 = j * 4 + f by omega]
  exact zero_at 64 j f hj hf
theorem new_tb (w : World) (p go : Nat) : Tb (w.alloc (.cells (newT p go).toArray 74)) w.heap.size p go noneO :=
  ⟨⟨_, heap_alloc_new _ _, newT_ok p go⟩, fun _ => ⟨by show 0 ≤ _; omega, by show 0 ≤ _; omega⟩⟩
set_option maxRecDepth 20000 in
set_option maxHeartbeats 800000 in
theorem tof_new (p : Nat) (w : World) :
    Calls Tryd.prog 9 #[.int .u64 (p : Int), .pointer (some ⟨go, 0, none⟩)] w fun e w' => e = .returned (.pointer (some ⟨w.heap.size, 0, none⟩)) ∧ Tb w' w.heap.size p go noneO ∧ Below w.heap.size w w' := by
  have hz := Tryd.zeroTable
  have HT := hide (new_tb w p go)
  have HB := hide (below_alloc w (.cells (newT p go).toArray 74))
  go_enter Tryd.func9, Tryd.ntmps9
  go_wp2
  go_ret
  exact ⟨rfl, HT.out, HB.out⟩
theorem number_any (k : Int) (w : World) (hg : Glob w) : Calls Tryd.prog 21 #[erN k] w fun e w' => e = .returned (.int .i64 k) ∧ Below w.heap.size w w' := by
  by_cases h : k = 0
  · subst h; rw [erN_zero]; exact number_nil w
  · rw [erN_not h]; exact number_errno k w hg
/- one element is appended to a row of one's own -/
def Moved (w : World) (v v' : Value) : Prop := ∀ k, v'.ownBlock = some k → v.ownBlock = some k ∨ w.heap.size ≤ k
theorem app_elem {s e ty : TypeId} {z : Value} {sz by' B n : Nat} {v : Value} {xs : List Value} (cs : Array Value) (hu : Tryd.prog.underlying s = some (.slice e)) (hi : (Tryd.prog.info? e).map (fun i => (i.zero, i.size, i.bytes)) = some (some z, sz, by')) (hz : z.cells.size = sz) (h0 : 0 < sz)
    (hc : cs.size = sz) (h1 : ∀ u ∈ cs.toList, u.oneCell' = true) (hm : (n + 1) * by' ≤ 140737488355328) (hb0 : n + 1 ≤ maxLen) (h : w.ownsRow B e sz v n xs) (hB : B ≤ w.heap.size) :
    ∃ v' w', (Builtin.append_ #[s, s] ty #[v, .slice (some ⟨w.heap.size, 0, none⟩) 1 1]).run Tryd.prog (w.alloc (.cells cs e)) = .ok v' w' ∧ w'.ownsRow B e sz v' (n + 1) (xs ++ cs.toList) ∧ Foot (fun k => v.ownBlock = some k) w w' ∧ Moved w v v' := by
  obtain ⟨i0, hi0, hz0, hz1, hz2⟩ := info_parts hi
  obtain ⟨v', w', hr, ho, hg, _, hm⟩ := run_append_own_at (P := Tryd.prog) (w.alloc (.cells cs e)) B s ty e i0 z sz by' hu hi0 hz0 hz1 hz2 hz h0 v n _ (h.alloc _) ⟨w.heap.size, 0, none⟩ 1 1 cs.toList (by simp [hc]) (fun j u hu => World.news_of_block (heap_alloc_new w _) j u (by simpa using hu)) h1 hb0 hm (Nat.le_trans hB (below_alloc w _).size)
  refine ⟨v', w', hr, ho, (foot_alloc _ w _).trans (foot_grown hg) (fun _ e => .inl e), fun k e => ?_⟩
  rcases hm with hm | hm
  · exact .inl (by rw [← hm]; exact e)
  · rw [hm] at e; cases e; exact .inr (below_alloc w _).size
end Go.Proofs.YtgcmompldcnhlaaDoor
