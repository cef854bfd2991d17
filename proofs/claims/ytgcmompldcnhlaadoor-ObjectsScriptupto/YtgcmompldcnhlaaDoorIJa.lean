/-
  A table without addresses, the statements' own helpers, rows of capabilities: contracts.
-/
import Derived.Test.YtgcmompldcnhlaaDoorQLies
import Derived.Test.YtgcmompldcnhlaaDoorIRes
import Derived.Test.YtgcmompldcnhlaaDoorIRev
import Derived.Test.YtgcmompldcnhlaaDoorIDes
namespace Go.Proofs.YtgcmompldcnhlaaDoor
open Go.RowKit
variable {w0 w w1 w2 w' : World} {B g go m a h k p : Nat} {v v1 : Value} {ws : List Nat} {t t1 t' : Nat} {es es1 es' : List Ent} {T T1 T' : Nat → Ob}
def Sd (w0 w : World) (g p : Nat) (ws : List Nat) (t : Nat) (es : List Ent) (T : Nat → Ob) : Prop := ∃ B go m a h k v, Od w0 w B g go m a h k p v ws t es T
/- a type that tables and oracles have nothing of -/
def Odd (ty : TypeId) : Prop := ty ≠ 78 ∧ ty ≠ 82 ∧ ty ≠ 129 ∧ ty ≠ 74
structure Kp (w w' : World) : Prop where
  os : w'.os = w.os
  tape : w'.tape = w.tape
  output : w'.output = w.output
  size : w.heap.size ≤ w'.heap.size
  block : ∀ (b : Nat) (cs : Array Value) (ty : TypeId), w.heap[b]? = some (.cells cs ty (0, 0)) → Odd ty → w'.heap[b]? = w.heap[b]?
def Chg (w w' : World) (b : Nat) : Prop := w'.heap[b]? ≠ w.heap[b]?
theorem Kp.foot (x : Kp w w') : Foot (Chg w w') w w' := ⟨x.os, x.tape, x.output, x.size, fun _ _ hn => Classical.byContradiction hn⟩
theorem Kp.same (x : Kp w w') {b : Nat} {cs : Array Value} {ty : TypeId} (hb : w.heap[b]? = some (.cells cs ty (0, 0))) (ht : Odd ty) : ¬ Chg w w' b := fun e => e (x.block b cs ty hb ht)
theorem Kp.refl (w : World) : Kp w w := ⟨rfl, rfl, rfl, Nat.le_refl _, fun _ _ _ _ _ => rfl⟩
theorem Kp.trans (x : Kp w w1) (y : Kp w1 w2) : Kp w w2 := ⟨y.os.trans x.os, y.tape.trans x.tape, y.output.trans x.output, Nat.le_trans x.size y.size, fun b cs ty hb ht => (y.block b cs ty ((x.block b cs ty hb ht).trans hb) ht).trans (x.block b cs ty hb ht)⟩
theorem below_kp (b : Below w.heap.size w w') : Kp w w' := ⟨b.os, b.tape, b.output, b.size, fun i _ _ hb _ => b.block i (lt_of_heap hb)⟩
theorem cap_odd : Odd 49 := ⟨by decide, by decide, by decide, by decide⟩
theorem CBox.kp {b p o r c : Nat} (x : CBox w b p o r c) (f : Kp w w') : CBox w' b p o r c := x.foot f.foot (f.same x cap_odd)
theorem owns_kp {base : Nat} {e : TypeId} {size : Nat} {n : Nat} {xs : List Value} (x : w.ownsRow base e size v n xs) (f : Kp w w') (ht : Odd e) : w'.ownsRow base e size v n xs := by
  refine owns_foot x f.foot fun r hr => ?_
  obtain ⟨cur, h1, _⟩ := owns_block x hr
  exact f.same h1 ht
/- a deed's end -/
theorem Od.ends (x : Od w0 w B g go m a h k p v ws t es T) (E : OdEnd w0 w B g go m a h k p v ws w' t' es' T') : Sd w0 w' g p ws t' es' T' ∧ Kp w w' := by
  obtain ⟨v', S, F, _⟩ := E
  refine ⟨⟨_, _, _, _, _, _, _, S⟩, ⟨F.os, F.tape, F.output, F.size, fun b cs ty hb ht => F.block b (lt_of_heap hb) fun e => ?_⟩⟩
  rcases e with e | e
  · exact x.tk.noAsk hb ht.1 ht.2.1 ht.2.2.1 e
  · obtain ⟨C, hC⟩ := x.tb.blk
    rw [e, hC] at hb; cases hb; exact ht.2.2.2 rfl
theorem Sd.grow (x : Sd w0 w g p ws t es T) (b : Below w.heap.size w w') : Sd w0 w' g p ws t es T := by
  obtain ⟨B, go, m, a, h, k, v, x⟩ := x
  exact ⟨_, _, _, _, _, _, _, x.grow b⟩
theorem Sd.drewN (x : Sd w0 w g p ws t es T) (q : Nat) : Sd w0 (w.drewN q) g p ws t es T := by
  obtain ⟨B, go, m, a, h, k, v, x⟩ := x
  exact ⟨_, _, _, _, _, _, _, x.drewN q⟩
theorem Sd.bel (x : Sd w0 w g p ws t es T) : Below w0.heap.size w0 w := by
  obtain ⟨B, go, m, a, h, k, v, x⟩ := x
  exact x.tk.new.bel
theorem Sd.glob (x : Sd w0 w g p ws t es T) (hg : Glob w0) : Glob w := hg.carry x.bel
theorem Sd.tb (x : Sd w0 w g p ws t es T) : ∃ go, Tb w g p go T := by
  obtain ⟨B, go, m, a, h, k, v, x⟩ := x
  exact ⟨go, x.tb⟩
theorem Sd.word (x : Sd w0 w g p ws t es T) (j : Nat) : ws.getD j 0 ≤ 281474976710655 := by
  obtain ⟨B, go, m, a, h, k, v, x⟩ := x
  exact x.tk.tape.word j
/- other memory turns -/
def Fre (w : World) (b : Nat) : Prop := w.heap.size ≤ b ∨ ∃ (cs : Array Value) (ty : TypeId), w.heap[b]? = some (.cells cs ty (0, 0)) ∧ Odd ty ∧ ty ≠ 22
theorem Sd.off (x : Sd w0 w g p ws t es T) {S : Nat → Prop} (f : Foot S w w') (hS : ∀ b, S b → w0.heap.size ≤ b ∧ Fre w b) : Sd w0 w' g p ws t es T := by
  obtain ⟨B, go, m, a, h, k, v, x⟩ := x
  have no : ∀ b, S b → b ≠ go ∧ b ≠ m ∧ b ≠ a ∧ b ≠ h ∧ v.ownBlock ≠ some b ∧ b ≠ g := by
    intro b hb
    rcases (hS b hb).2 with e | ⟨cs, ty, e, o, u⟩
    · obtain ⟨C, hC⟩ := x.tb.blk
      obtain ⟨y, z, hm⟩ := x.tk.orc.map.isMap
      have h1 := lt_of_heap x.tk.orc.box
      have h2 := lt_of_heap hm
      have h3 := lt_of_heap x.tk.tape.box
      have h4 : h < w.heap.size := x.tk.tape.row.lt
      have h5 := lt_of_heap hC
      refine ⟨by omega, by omega, by omega, by omega, fun er => ?_, by omega⟩
      obtain ⟨cur, hx, _⟩ := owns_block x.tk.orc.row er
      have := lt_of_heap hx
      omega
    · obtain ⟨n1, n2, n3, n4, n5⟩ := x.tk.noBlk e o.1 o.2.1 o.2.2.1 u
      refine ⟨n1, n2, n3, n4, n5, fun eg => ?_⟩
      obtain ⟨C, hC⟩ := x.tb.blk
      rw [eg, hC] at e; cases e; exact o.2.2.2 rfl
  exact ⟨_, _, _, _, _, _, _, ⟨⟨x.tk.orc.foot f (fun e => (no _ e).1 rfl) (fun e => (no _ e).2.1 rfl) (fun r hr e => (no _ e).2.2.2.2.1 hr), x.tk.tape.foot f (fun e => (no _ e).2.2.1 rfl) (fun e => (no _ e).2.2.2.1 rfl), ⟨x.tk.new.b0, x.tk.new.a0, x.tk.new.h0, x.tk.new.bel.trans (f.below x.tk.new.bel.size fun j e => (hS j e).1), Nat.le_trans x.tk.new.bs f.size⟩⟩, x.tb.foot f (fun e => (no _ e).2.2.2.2.2 rfl), x.new⟩⟩
theorem Sd.cap (x : Sd w0 w g p ws t es T) {b : Nat} (C : CapB w b) (hb : w0.heap.size ≤ b) (f : Foot (fun j => j = b) w w') : Sd w0 w' g p ws t es T := by
  obtain ⟨cs, hc⟩ := C
  refine x.off f fun j e => ?_
  subst e
  exact ⟨hb, .inr ⟨cs, _, hc, cap_odd, by decide⟩⟩
theorem sd_create (vl : Int) (w : World) (x : Sd w0 w g p ws t es T) (hl : es.length ≤ 5000000000000) (R : Cre) (hR : creF ws t es p T vl = R) :
    Calls Tryd.prog 16 #[.pointer (some ⟨g, 0, none⟩), .int .i64 vl] w fun e w' => e = .returned (.tuple #[R.c.val, erN (R.e : Int)]) ∧ Sd w0 w' g p ws R.t R.es R.T ∧ Kp w w' := by
  obtain ⟨B, go, m, a, h, k, v, x⟩ := x
  refine (create_any vl w x hl R hR).mono ?_
  rintro e w1 ⟨rfl, E⟩
  exact ⟨rfl, x.ends E⟩
theorem sd_check (c : Cp) (need : Nat) (w : World) (x : Sd w0 w g p ws t es T) (hc : c.ok) (hn : need ≤ 255) (hl : es.length ≤ 5000000000000) (K : Chk) (hK : chkF ws t es p T c need = K) :
    Calls Tryd.prog 20 #[.pointer (some ⟨g, 0, none⟩), c.val, .int .u8 (need : Int)] w fun e w' => e = .returned (.tuple #[.int .i64 (K.k : Int), erN (K.e : Int)]) ∧ Sd w0 w' g p ws K.t K.es T ∧ Kp w w' := by
  obtain ⟨B, go, m, a, h, k, v, x⟩ := x
  refine (check_any c need w x hc hn hl K hK).mono ?_
  rintro e w1 ⟨rfl, E⟩
  exact ⟨rfl, x.ends E⟩
theorem sd_restrict (c : Cp) (mask : Nat) (w : World) (x : Sd w0 w g p ws t es T) (hc : c.ok) (hm : mask ≤ 255) (hl : es.length < 5000000000000) (R : Cre) (hR : resF ws t es p T c mask = R) :
    Calls Tryd.prog 17 #[.pointer (some ⟨g, 0, none⟩), c.val, .int .u8 (mask : Int)] w fun e w' => e = .returned (.tuple #[R.c.val, erN (R.e : Int)]) ∧ Sd w0 w' g p ws R.t R.es R.T ∧ Kp w w' := by
  obtain ⟨B, go, m, a, h, k, v, x⟩ := x
  refine (restrict_any c mask w x hc hm hl R hR).mono ?_
  rintro e w1 ⟨rfl, E⟩
  exact ⟨rfl, x.ends E⟩
theorem sd_revoke (c : Cp) (w : World) (x : Sd w0 w g p ws t es T) (hc : c.ok) (hl : es.length < 5000000000000) (he : ∀ j, (T j).e ≤ 9223372036854775806) (R : Cre) (hR : revF ws t es p T c = R) :
    Calls Tryd.prog 18 #[.pointer (some ⟨g, 0, none⟩), c.val] w fun e w' => e = .returned (.tuple #[R.c.val, erN (R.e : Int)]) ∧ Sd w0 w' g p ws R.t R.es R.T ∧ Kp w w' := by
  obtain ⟨B, go, m, a, h, k, v, x⟩ := x
  refine (revoke_any c w x hc hl he R hR).mono ?_
  rintro e w1 ⟨rfl, E⟩
  exact ⟨rfl, x.ends E⟩
theorem sd_destroy (c : Cp) (w : World) (x : Sd w0 w g p ws t es T) (hc : c.ok) (hl : es.length ≤ 5000000000000) (K : Chk) (hK : chkF ws t es p T c 8 = K) (hn : K.e = 0) :
    Calls Tryd.prog 24 #[.pointer (some ⟨g, 0, none⟩), c.val] w fun e w' => e = .returned (.tuple #[.int .i64 (K.k : Int), .int .i64 (T K.k).v, .nilIface]) ∧ Sd w0 w' g p ws K.t K.es (updO T K.k Ob.zero) ∧ Kp w w' := by
  obtain ⟨B, go, m, a, h, k, v, x⟩ := x
  refine (destroy_yes c w x hc hl K hK hn).mono ?_
  rintro e w1 ⟨rfl, E⟩
  exact ⟨rfl, x.ends E⟩
theorem sd_info (c : Cp) (w : World) (x : Sd w0 w g p ws t es T) (hc : c.ok) (hl : es.length ≤ 5000000000000) (K : Chk) (hK : chkF ws t es p T c 0 = K) (hn : K.e = 0) :
    Calls Tryd.prog 23 #[.pointer (some ⟨g, 0, none⟩), c.val] w fun e w' => e = .returned (.tuple #[.int .i64 ((T K.k).e : Int), .int .i64 ((T K.k).l : Int), .nilIface]) ∧ Sd w0 w' g p ws K.t K.es T ∧ Kp w w' := by
  obtain ⟨B, go, m, a, h, k, v, x⟩ := x
  refine (info_yes c w x hc hl K hK hn).mono ?_
  rintro e w1 ⟨rfl, E⟩
  exact ⟨rfl, x.ends E⟩
/- an empty table -/
def zeroT : List Value := [.int .u64 0, .pointer none] ++ (List.replicate 64 Ob.zero).flatMap Ob.cells
theorem Tryd.zeroTable (w : World) : (zeroValue 74).run Tryd.prog w = .ok (.agg zeroT.toArray) w := by kernel_rfl
def newT (p go : Nat) : List Value := [.int .u64 (p : Int), .pointer (some ⟨go, 0, none⟩)] ++ (List.replicate 64 Ob.zero).flatMap Ob.cells
theorem zero_at (n j f : Nat) (hj : j < n) (hf : f < 4) : ((List.replicate n Ob.zero).flatMap Ob.cells)[j * 4 + f]? = Ob.zero.cells[f]? := by
  induction n generalizing j with
  | zero => omega
  | succ n ih =>
    rw [List.replicate_succ, List.flatMap_cons]
    cases j with
    | zero => rw [List.getElem?_append_left (by show _ < 4; omega)]; simp
    | succ j =>
      rw [List.getElem?_append_right (by show 4 ≤ _; omega)]
      show ((List.replicate n Ob.zero).flatMap Ob.cells)[(j + 1) * 4 + f - 4]? = _
      rw [show (j + 1) * 4 + f - 4 = j * 4 + f by omega]
      exact ih j (by omega)
set_option maxRecDepth 20000 in
theorem newT_ok (p go : Nat) : TbC (newT p go).toArray p go noneO := by
  refine ⟨by simp [newT, Ob.cells], rfl, rfl, fun j f hj hf => ?_⟩
  rw [List.getElem?_toArray]
  show (_ ++ _)[_]? = _
  rw [List.getElem?_append_right (by show 2 ≤ _; omega)]
  show ((List.replicate 64 Ob.zero).flatMap Ob.cells)[2 + j * 4 + f - 2]? = _
  rw [show 2 + j * 4 + f - 2 = j * 4 + f by omega]
  exact zero_at 64 j f hj hf
theorem new_tb (w : World) (p go : Nat) : Tb (w.alloc (.cells (newT p go).toArray 74)) w.heap.size p go noneO :=
  ⟨⟨_, heap_alloc_new _ _, newT_ok p go⟩, fun _ => ⟨by show 0 ≤ _; omega, by show 0 ≤ _; omega⟩⟩
set_option maxRecDepth 20000 in
set_option maxHeartbeats 800000 in
theorem tof_new (p : Nat) (w : World) :
    Calls Tryd.prog 9 #[.int .u64 (p : Int), .pointer (some ⟨go, 0, none⟩)] w fun e w' => e = .returned (.pointer (some ⟨w.heap.size, 0, none⟩)) ∧ Tb w' w.heap.size p go noneO ∧ Below w.heap.size w w' := by
  have hz := Tryd.zeroTable
  have HT := hide (new_tb w p go)
  have HB := hide (below_alloc w (.cells (newT p go).toArray 74))
  go_enter Tryd.func9, Tryd.ntmps9
  go_wp2
  go_ret
  exact ⟨rfl, HT.out, HB.out⟩
theorem number_any (k : Int) (w : World) (hg : Glob w) : Calls Tryd.prog 21 #[erN k] w fun e w' => e = .returned (.int .i64 k) ∧ Below w.heap.size w w' := by
  by_cases h : k = 0
  · subst h; rw [erN_zero]; exact number_nil w
  · rw [erN_not h]; exact number_errno k w hg
/- one element is appended to a row of one's own -/
def Moved (w : World) (v v' : Value) : Prop := ∀ k, v'.ownBlock = some k → v.ownBlock = some k ∨ w.heap.size ≤ k
theorem app_elem {s e ty : TypeId} {z : Value} {sz by' B n : Nat} {v : Value} {xs : List Value} (cs : Array Value) (hu : Tryd.prog.underlying s = some (.slice e)) (hi : (Tryd.prog.info? e).map (fun i => (i.zero, i.size, i.bytes)) = some (some z, sz, by')) (hz : z.cells.size = sz) (h0 : 0 < sz)
    (hc : cs.size = sz) (h1 : ∀ u ∈ cs.toList, u.oneCell' = true) (hm : (n + 1) * by' ≤ 140737488355328) (hb0 : n + 1 ≤ maxLen) (h : w.ownsRow B e sz v n xs) (hB : B ≤ w.heap.size) :
    ∃ v' w', (Builtin.append_ #[s, s] ty #[v, .slice (some ⟨w.heap.size, 0, none⟩) 1 1]).run Tryd.prog (w.alloc (.cells cs e)) = .ok v' w' ∧ w'.ownsRow B e sz v' (n + 1) (xs ++ cs.toList) ∧ Foot (fun k => v.ownBlock = some k) w w' ∧ Moved w v v' := by
  obtain ⟨i0, hi0, hz0, hz1, hz2⟩ := info_parts hi
  obtain ⟨v', w', hr, ho, hg, _, hm⟩ := run_append_own_at (P := Tryd.prog) (w.alloc (.cells cs e)) B s ty e i0 z sz by' hu hi0 hz0 hz1 hz2 hz h0 v n _ (h.alloc _) ⟨w.heap.size, 0, none⟩ 1 1 cs.toList (by simp [hc]) (fun j u hu => World.news_of_block (heap_alloc_new w _) j u (by simpa using hu)) h1 hb0 hm (Nat.le_trans hB (below_alloc w _).size)
  refine ⟨v', w', hr, ho, (foot_alloc _ w _).trans (foot_grown hg) (fun _ e => .inl e), fun k e => ?_⟩
  rcases hm with hm | hm
  · exact .inl (by rw [← hm]; exact e)
  · rw [hm] at e; cases e; exact .inr (below_alloc w _).size
end Go.Proofs.YtgcmompldcnhlaaDoor
namespace Go.Proofs.YtgcmompldcnhlaaDoor
open Go.RowKit
variable {w0 w w1 w2 w' : World} {B g go m a h k p : Nat} {v v1 : Value} {ws : List Nat} {t t1 t' : Nat} {es es1 es' : List Ent} {T T1 T' : Nat → Ob}
theorem eqGuard49 : Tryd.prog.eqGuardType Tryd.prog.depth 49 = false := by kernel_rfl
theorem eql_cap (p o r c p' o' r' c' : Int) (w : World) : (binOp .eql 49 (.agg #[.int .u64 p, .int .u32 o, .int .u8 r, .int .u64 c]) (.agg #[.int .u64 p', .int .u32 o', .int .u8 r', .int .u64 c'])).run Tryd.prog w = .ok (.bool (decide (p = p' ∧ o = o' ∧ r = r' ∧ c = c'))) w := by
  have hS : Tryd.prog.underlying 49 = some (.struct (Tryd.prog.fieldsOf 49)) := by kernel_rfl
  have hp : Tryd.prog.stoodInHeld 49 = false := by kernel_rfl
  rw [run_eql_struct, show (10000 : Nat) = 9999 + 1 from rfl, run_equalIn_agg w 9999 49 _ _ hS hp]
  simp only [Program.fieldsOf, Tryd.underlying49]
  have u1 := Tryd.underlying22
  have u2 := Tryd.underlying47
  have u3 := Tryd.underlying5
  go_simp
  by_cases h1 : p = p' <;> by_cases h2 : o = o' <;> by_cases h3 : r = r' <;> by_cases h4 : c = c' <;> simp [h1, h2, h3, h4]
theorem Sd.made (S : Tk w0 w B go m a h k v ws 0 []) (tb : Tb w' w.heap.size p go noneO) (b : Below w.heap.size w w') : Sd w0 w' w.heap.size p ws 0 [] noneO := ⟨_, _, _, _, _, _, _, ⟨S.grow b, tb, S.new.bel.size⟩⟩
theorem cutN_58 : cutN [5, 8] = [5, 8] := by decide
theorem row_58 (w : World) : RowN (w.alloc (.cells #[.int .u64 5, .int .u64 8] 22)) .u64 22 w.heap.size [5, 8] := heap_alloc_new _ _
theorem u64s_58 (w : World) : U64s (w.alloc (.cells #[.int .u64 5, .int .u64 8] 22)) (some ⟨w.heap.size, 0, none⟩) 2 2 [5, 8] :=
  (row_58 w).u64s (by decide) (fun j => by
    rcases j with _ | _ | j <;> simp)
set_option maxHeartbeats 3200000 in
theorem awake_any (w : World) (hg : Glob w) :
    Calls Tryd.prog 8 #[] w fun e w' => e = .returned (.bool true) ∧ Below w.heap.size w w' := by
  have HG := hide hg
  clear hg
  obtain ⟨R, hR⟩ : ∃ R, creF [5, 8] 0 [] 3 noneO 9 = R := ⟨_, rfl⟩
  have HR := hide hR
  have HRc := hide (show R.c = ⟨3, 0, 255, 5⟩ by rw [← hR]; kernel_rfl)
  have HRe := hide (show R.e = 0 by rw [← hR]; kernel_rfl)
  have HRl := hide (show R.es.length ≤ 10 by rw [← hR]; exact of_decide_eq_true (by kernel_rfl))
  obtain ⟨K, hK⟩ : ∃ K, chkF [5, 8] R.t R.es 3 R.T ⟨3, 0, 1, 5⟩ 0 = K := ⟨_, rfl⟩
  have HK := hide hK
  have HKe := hide (show K.e = 1 by rw [← hK, ← hR]; kernel_rfl)
  have HKl := hide (show K.es.length ≤ 10 by rw [← hK, ← hR]; exact of_decide_eq_true (by kernel_rfl))
  obtain ⟨Q, hQ⟩ : ∃ Q, revF [5, 8] K.t K.es 3 R.T ⟨3, 0, 255, 5⟩ = Q := ⟨_, rfl⟩
  have HQ := hide hQ
  have HQe := hide (show Q.e = 7 by rw [← hQ, ← hK, ← hR]; kernel_rfl)
  have HTe : Hid (∀ j, (R.T j).e ≤ 9223372036854775806) := by
    rw [← hR]
    intro j
    show (updO noneO _ _ j).e ≤ _
    unfold updO
    split
    · show 0 ≤ _; omega
    · show 0 ≤ _; omega
  clear hR hK hQ
  obtain ⟨Rc, Re, Rt, Res, RT⟩ := R
  have e1 := HRc.out
  have e2 := HRe.out
  simp only at e1 e2
  subst e1 e2
  go_enter Tryd.func8, Tryd.ntmps8
  go_wp2_with fail
  refine (of_any _ _ _ [5, 8] _ (u64s_58 w) (by omega)).mono ?_; rintro e w1 ⟨a, h, k, rfl, T, _, ha, hh, bel⟩
  rw [cutN_58] at T
  have HT := hide T
  have HA := hide ha
  have HH := hide hh
  have HB := hide bel
  clear T bel ha hh
  go_wp2_with fail
  refine (oof_any _ ⟨_, rfl⟩ _).mono ?_; rintro e w2 ⟨go, m, rfl, O2, bel2⟩
  have HS2 := hide (Tk.made (below_alloc w _) HT.out HA.out HH.out HB.out O2 bel2)
  clear O2 bel2 HT HB HA HH
  go_wp2_with fail
  refine (tof_new 3 _).mono ?_; rintro e w3 ⟨rfl, T3, b3⟩
  have HS3 := hide (Sd.made HS2.out T3 b3)
  obtain ⟨g, hgg⟩ : ∃ g, w2.heap.size = g := ⟨_, rfl⟩
  rw [hgg] at HS3 ⊢
  clear T3 b3 HS2 hgg
  go_wp2_with fail
  refine (sd_create 9 _ HS3.out (by decide) _ HR.out).mono ?_; rintro e w4 ⟨rfl, S4, -⟩
  rw [show erN ((0 : Nat) : Int) = .nilIface from rfl]
  simp only [Cp.val]
  obtain ⟨V, hV⟩ : ∃ V, w4.alloc (.cells #[.int .u64 3, .int .u32 0, .int .u8 255, .int .u64 5] 49) = V := ⟨_, rfl⟩
  have bV : Below w4.heap.size w4 V := hV ▸ below_alloc _ _
  obtain ⟨V2, hV2⟩ : ∃ V2, V.alloc (.cells #[.int .u64 3, .int .u32 0, .int .u8 1, .int .u64 5] 49) = V2 := ⟨_, rfl⟩
  have bV2 : Below V.heap.size V V2 := hV2 ▸ below_alloc _ _
  have HC : Hid (CBox V2 w4.heap.size 3 0 255 5) := (hV ▸ CBox.new w4 3 0 255 5 : CBox V w4.heap.size 3 0 255 5).grow bV2
  have HD : Hid (CBox V2 V.heap.size 3 0 1 5) := hV2 ▸ CBox.new V 3 0 1 5
  have HS5 := hide ((S4.grow bV).grow bV2)
  have hC : CBox V w4.heap.size 3 0 255 5 := hV ▸ CBox.new w4 3 0 255 5
  have c0 : V.cell? ⟨w4.heap.size, 0, none⟩ = some (.int .u64 3) := hC.c0
  have c1 : V.cell? ⟨w4.heap.size, 1, none⟩ = some (.int .u32 0) := hC.c1
  have c2 : V.cell? ⟨w4.heap.size, 2, none⟩ = some (.int .u8 255) := hC.c2
  have c3 : V.cell? ⟨w4.heap.size, 3, none⟩ = some (.int .u64 5) := hC.c3
  have d0 : V2.cell? ⟨V.heap.size, 0, none⟩ = some (.int .u64 3) := HD.out.c0
  have d1 : V2.cell? ⟨V.heap.size, 1, none⟩ = some (.int .u32 0) := HD.out.c1
  have d2 : V2.cell? ⟨V.heap.size, 2, none⟩ = some (.int .u8 1) := HD.out.c2
  have d3 : V2.cell? ⟨V.heap.size, 3, none⟩ = some (.int .u64 5) := HD.out.c3
  clear hC S4 bV bV2
  go_wp2_with fail
  refine (sd_check ⟨3, 0, 1, 5⟩ 0 _ HS5.out ⟨by decide, by decide, by decide, by decide⟩ (by omega) (by have := HRl.out; omega) K HK.out).mono ?_; rintro e w6 ⟨rfl, S6, kp6⟩
  rw [HKe.out, erN_not (by decide)]
  have HS6 := hide S6
  have HC6 := hide (HC.out.kp kp6)
  clear S6 kp6 c0 c1 c2 c3 d0 d1 d2 d3 hV hV2
  have c0 : w6.cell? ⟨w4.heap.size, 0, none⟩ = some (.int .u64 3) := HC6.out.c0
  have c1 : w6.cell? ⟨w4.heap.size, 1, none⟩ = some (.int .u32 0) := HC6.out.c1
  have c2 : w6.cell? ⟨w4.heap.size, 2, none⟩ = some (.int .u8 255) := HC6.out.c2
  have c3 : w6.cell? ⟨w4.heap.size, 3, none⟩ = some (.int .u64 5) := HC6.out.c3
  go_wp2_with fail
  refine (sd_revoke ⟨3, 0, 255, 5⟩ _ HS6.out ⟨by decide, by decide, by decide, by decide⟩ (by have := HKl.out; omega) HTe.out Q HQ.out).mono ?_; rintro e w7 ⟨rfl, S7, kp7⟩
  rw [HQe.out, erN_not (by decide)]
  obtain ⟨⟨q1, q2, q3, q4⟩, Qe, Qt, Qes, QT⟩ := Q
  simp only [Cp.val]
  obtain ⟨V3, hV3⟩ : ∃ V3, w7.alloc (.cells #[.int .u64 (q1 : Int), .int .u32 (q2 : Int), .int .u8 (q3 : Int), .int .u64 (q4 : Int)] 49) = V3 := ⟨_, rfl⟩
  have bV3 : Below w7.heap.size w7 V3 := hV3 ▸ below_alloc _ _
  have HS8 := hide (S7.grow bV3)
  have HC8 := hide ((HC6.out.kp kp7).grow bV3)
  clear S7 kp7 bV3 c0 c1 c2 c3
  have c0 : V3.cell? ⟨w4.heap.size, 0, none⟩ = some (.int .u64 3) := HC8.out.c0
  have c1 : V3.cell? ⟨w4.heap.size, 1, none⟩ = some (.int .u32 0) := HC8.out.c1
  have c2 : V3.cell? ⟨w4.heap.size, 2, none⟩ = some (.int .u8 255) := HC8.out.c2
  have c3 : V3.cell? ⟨w4.heap.size, 3, none⟩ = some (.int .u64 5) := HC8.out.c3
  have hE := eql_cap 3 0 255 5 3 0 255 5
  go_wp2_with fail
  refine (number_errno 1 _ (HS8.out.glob HG.out)).mono ?_; rintro e w9 ⟨rfl, b9⟩
  have HS9 := hide (HS8.out.grow b9)
  clear b9 hE c0 c1 c2 c3
  go_wp2_with fail
  refine (number_errno 7 _ (HS9.out.glob HG.out)).mono ?_; rintro e w10 ⟨rfl, b10⟩
  have HS10 := hide (HS9.out.grow b10)
  clear b10
  go_wp2
  go_ret
  exact ⟨rfl, HS10.out.bel⟩
end Go.Proofs.YtgcmompldcnhlaaDoor
namespace Go.Proofs.YtgcmompldcnhlaaDoor
open Go.RowKit
def sprE (j : Nat) : Nat := 65536 * (j + 1) + 23040
def sprL (n : Nat) : List Nat := (List.range n).map sprE
theorem sprL_len (n : Nat) : (sprL n).length = n := by simp [sprL]
theorem sprL_succ (n : Nat) : sprL (n + 1) = sprL n ++ [sprE n] := by simp [sprL, List.range_succ]
theorem sprL_get {n j : Nat} (h : j < n) : (sprL n).getD j 0 = sprE j := by
  unfold sprL
  rw [List.getD_eq_getElem?_getD, List.getElem?_map, List.getElem?_range h]; rfl
theorem sprL_word (n j : Nat) (h : n ≤ 1000) : (sprL n).getD j 0 ≤ 281474976710655 := by
  by_cases e : j < n
  · rw [sprL_get e]; unfold sprE; omega
  · rw [List.getD_eq_getElem?_getD, List.getElem?_eq_none (by rw [sprL_len]; omega)]; simp
theorem sprL_cut (n : Nat) (h : n ≤ 1000) : cutN (sprL n) = sprL n := by
  unfold cutN sprL
  rw [List.map_map]
  refine List.map_congr_left fun j hj => ?_
  have := List.mem_range.1 hj
  show sprE j % _ = sprE j
  unfold sprE; omega
def cellsN (l : List Nat) : List Value := l.map fun x : Nat => Value.int .u64 (x : Int)
theorem owns_u64s {w : World} {B n : Nat} {v : Value} {l : List Nat} (h : w.ownsRow B 22 1 v n (cellsN l)) (hb : ∀ j, l.getD j 0 ≤ 18446744073709551615) : ∃ ao cap, v = .slice ao n cap ∧ U64s w ao n cap l := by
  obtain ⟨ao, cap, rfl, h1, h2, h3, h4, h5⟩ := owns_lies h
  refine ⟨ao, cap, rfl, by simpa [cellsN] using h1.symm, h2, h3, h4, fun ad e j hj => h5 ad e j _ ?_, hb⟩
  unfold cellsN
  rw [List.getElem?_map, List.getD_eq_getElem?_getD, List.getElem?_eq_getElem hj]; rfl
theorem spr_or (j : Nat) (h : j < 1000) : bits .or .u64 (((j + 1 : Nat) : Int) * 65536) 23040 = ((sprE j : Nat) : Int) := by
  have e1 : ((j + 1 : Nat) : Int) * 65536 = (((j + 1) * 65536 : Nat) : Int) := by omega
  rw [e1, u64_or _ _ (by omega) (by omega) (by omega) (by omega)]
  show ((((j + 1) * 65536) ||| 23040 : Nat) : Int) = _
  rw [show (j + 1) * 65536 = 2 ^ 16 * (j + 1) by omega, ← Nat.two_pow_add_eq_or_of_lt (by omega : 23040 < 2 ^ 16)]
  unfold sprE
  omega
theorem below_foot_own {B n : Nat} {w0 w w' : World} {e : TypeId} {v : Value} {xs : List Value} {sz : Nat} (b : Below B w0 w) (h : w.ownsRow B e sz v n xs) (f : Foot (fun k => v.ownBlock = some k) w w') (hB : B ≤ w.heap.size) : Below B w0 w' :=
  b.trans (f.below hB fun _ e => (owns_block h e).choose_spec.2)
def SprRel (w : World) (n gk : Nat) (vo vk : Value) (wr : World) : Prop := ∃ i q : Nat, i + gk = n ∧ i + 1 = q ∧ vk = .int .i64 (q : Int) ∧ wr.ownsRow w.heap.size 22 1 vo i (cellsN (sprL i)) ∧ Below w.heap.size w wr
set_option maxHeartbeats 1600000 in
theorem spread_any (n : Nat) (w : World) (hn : n ≤ 1000) :
    Calls Tryd.prog 15 #[.int .i64 (n : Int)] w fun e w' => ∃ ao cap, e = .returned (.slice ao n cap) ∧ U64s w' ao n cap (sprL n) ∧ Below w.heap.size w w' := by
  have hn2 : (n : Int) ≤ 1000 := by omega
  have HN := hide hn
  clear hn
  go_enter Tryd.func15, Tryd.ntmps15
  go_wp2
  go_loopg [3, 4] n (fun gk vo vk wr => SprRel w n gk vo vk wr)
  case atStart => exact ⟨0, 1, by omega, rfl, rfl, owns_nil _ _ _ _, Below.refl _ _⟩
  case round =>
    obtain ⟨i, q, hi, hq, rfl, ho, b⟩ := hrel
    have HQ := hide hq
    have HO := hide ho
    have HB := hide b
    clear ho b
    cases gk with
    | zero =>
      obtain rfl : i = n := by omega
      have hlt : ¬ ((q : Int) ≤ (i : Int)) := by omega
      clear hq hi
      obtain ⟨ao, cap, rfl, hu⟩ := owns_u64s HO.out (fun j => by have := sprL_word i j HN.out; omega)
      have HU := hide hu
      clear hu
      go_wp2
      go_ret
      exact ⟨ao, cap, rfl, HU.out, HB.out⟩
    | succ g1 =>
      have hlt : (q : Int) ≤ (n : Int) := by omega
      have hor := spr_or i (by have := HN.out; omega)
      rw [hq] at hor
      obtain ⟨x, hx⟩ : ∃ x, sprE i = x := ⟨_, rfl⟩
      rw [hx] at hor
      have HXE := hide hx
      have HI := hide hi
      obtain ⟨v', w', hr, ho', hf, -⟩ := app_elem (s := 23) (ty := 23) #[.int .u64 (x : Int)] Tryd.underlying23 Tryd.tinfo22 rfl (by omega) rfl (by intro u hu; simp at hu; subst hu; rfl) (by omega) (by unfold maxLen; omega) HO.out HB.out.size
      have HR := hide hr
      have HO2 := hide ho'
      have HB2 := hide (below_foot_own HB.out HO.out hf HB.out.size)
      clear hq hi hx hr ho' hf
      go_wp2_with (at_builtin; refine wpList_append_run rfl _ _ _ rfl _ _ _ _ rfl rfl HR.out ?_)
      go_roundg g1
      case measure => have := HI.out; omega
      case rel =>
        refine ⟨i + 1, q + 1, by have := HI.out; omega, by have := HQ.out; omega, by go_num, ?_, HB2.out⟩
        rw [sprL_succ, HXE.out, cellsN, List.map_append]
        exact HO2.out
end Go.Proofs.YtgcmompldcnhlaaDoor
namespace Go.Proofs.YtgcmompldcnhlaaDoor
variable {ws : List Nat} {t t1 p : Nat} {es : List Ent} {T : Nat → Ob} {s r x : Nat}
def HasA (es : List Ent) (s r x : Nat) : Prop := if r = 255 then x = s % 281474976710656 else ∃ j, findE es 1 ((s % 281474976710656) ^^^ r) = some j ∧ (es.getD j Ent.zero).o = x
theorem has_of (h : HasA es s r x) : ofF ws t es s r = ⟨x, true, t, es⟩ := by
  unfold HasA at h
  unfold ofF
  by_cases e : r = 255
  · rw [if_pos e] at h ⊢; rw [h]
  · rw [if_neg e] at h ⊢
    obtain ⟨j, h1, h2⟩ := h
    unfold ansF
    rw [h1]
    simp only [h2]
theorem find_app {es : List Ent} {f : Int} {i j : Nat} (h : findE es f i = some j) (more : List Ent) : findE (es ++ more) f i = some j ∧ ((es ++ more).getD j Ent.zero) = es.getD j Ent.zero := by
  refine ⟨?_, ?_⟩
  · unfold findE at h ⊢
    rw [List.findIdx?_append, h]; rfl
  · have := (findE_some h).1
    rw [List.getD_eq_getElem?_getD, List.getD_eq_getElem?_getD, List.getElem?_append_left this]
theorem HasA.ext (h : HasA es s r x) (more : List Ent) : HasA (es ++ more) s r x := by
  unfold HasA at h ⊢
  by_cases e : r = 255
  · rw [if_pos e] at h ⊢; exact h
  · rw [if_neg e] at h ⊢
    obtain ⟨j, h1, h2⟩ := h
    obtain ⟨h3, h4⟩ := find_app h1 more
    exact ⟨j, h3, by rw [h4]; exact h2⟩
/- what an answer leaves -/
theorem of_cases (ws : List Nat) (t : Nat) (es : List Ent) (s r : Nat) :
    (∃ x, HasA es s r x ∧ ofF ws t es s r = ⟨x, true, t, es⟩) ∨
    (r ≠ 255 ∧ findE es 1 ((s % 281474976710656) ^^^ r) = none ∧ t < ws.length ∧ ofF ws t es s r = ⟨ws.getD t 0, true, t + 1, es ++ [⟨1, (s % 281474976710656) ^^^ r, ws.getD t 0⟩]⟩) ∨
    (ws.length ≤ t ∧ ofF ws t es s r = ⟨0, false, t, es⟩) := by
  by_cases e : r = 255
  · have h : HasA es s r (s % 281474976710656) := by unfold HasA; rw [if_pos e]
    exact .inl ⟨_, h, has_of h⟩
  · cases hf : findE es 1 ((s % 281474976710656) ^^^ r) with
    | some j =>
      have h : HasA es s r (es.getD j Ent.zero).o := by unfold HasA; rw [if_neg e]; exact ⟨j, hf, rfl⟩
      exact .inl ⟨_, h, has_of h⟩
    | none =>
      by_cases ht : t < ws.length
      · refine .inr (.inl ⟨e, rfl, ht, ?_⟩)
        unfold ofF ansF; rw [if_neg e, hf]; simp only; rw [if_pos ht]
      · refine .inr (.inr ⟨by omega, ?_⟩)
        unfold ofF ansF; rw [if_neg e, hf]; simp only; rw [if_neg ht]
theorem of_ext (ws : List Nat) (t : Nat) (es : List Ent) (s r : Nat) : ∃ more, (ofF ws t es s r).es = es ++ more := by
  rcases of_cases ws t es s r with ⟨x, _, e⟩ | ⟨_, _, _, e⟩ | ⟨_, e⟩ <;> rw [e]
  · exact ⟨[], by simp⟩
  · exact ⟨_, rfl⟩
  · exact ⟨[], by simp⟩
theorem of_t (ws : List Nat) (t : Nat) (es : List Ent) (s r : Nat) : t ≤ (ofF ws t es s r).t ∧ (ofF ws t es s r).t ≤ t + 1 := by
  rcases of_cases ws t es s r with ⟨x, _, e⟩ | ⟨_, _, _, e⟩ | ⟨_, e⟩ <;> rw [e] <;> simp
theorem of_ok (h : t < ws.length) (es : List Ent) (s r : Nat) : (ofF ws t es s r).ok = true := by
  rcases of_cases ws t es s r with ⟨x, _, e⟩ | ⟨_, _, _, e⟩ | ⟨h2, e⟩
  · rw [e]
  · rw [e]
  · omega
theorem of_has (h : (ofF ws t es s r).ok = true) : HasA (ofF ws t es s r).es s r (ofF ws t es s r).x := by
  rcases of_cases ws t es s r with ⟨x, hx, e⟩ | ⟨e0, hf, _, e⟩ | ⟨_, e⟩
  · rw [e]; exact hx
  · rw [e]
    unfold HasA
    rw [if_neg e0]
    refine ⟨es.length, ?_, by simp only; rw [getD_snoc_end]⟩
    simp only
    rw [findE_snoc, hf]; simp
  · rw [e] at h; cases h
theorem has_owner (hs : s ≤ 281474976710655) : HasA es s 255 s := by
  unfold HasA; rw [if_pos rfl, Nat.mod_eq_of_lt (by omega)]
/- a capability that is good, and one that is not -/
theorem chk_good {c : Cp} {need : Nat} (hp : c.p = p) (hh : hasO T c.o = true) (hx : HasA es (T c.o).s c.r c.c) : chkF ws t es p T c need = if c.r &&& need = need then ⟨c.o, 0, t, es⟩ else ⟨0, 2, t, es⟩ := by
  unfold chkF
  rw [if_neg (fun e => by rcases e with e | e; exact e hp; rw [hh] at e; cases e), has_of hx]
  simp only
  rw [if_neg (by simp), if_neg (by simp)]
  by_cases h : c.r &&& need = need
  · rw [if_pos h, if_neg (fun e => e h)]
  · rw [if_neg h, if_pos h]
theorem chk_bad {c : Cp} {need : Nat} (hp : c.p = p) (hh : hasO T c.o = true) (ho : (ofF ws t es (T c.o).s c.r).ok = true) (hx : c.c ≠ (ofF ws t es (T c.o).s c.r).x) : chkF ws t es p T c need = ⟨0, 1, (ofF ws t es (T c.o).s c.r).t, (ofF ws t es (T c.o).s c.r).es⟩ := by
  unfold chkF
  rw [if_neg (fun e => by rcases e with e | e; exact e hp; rw [hh] at e; cases e), if_neg (by rw [ho]; simp), if_pos hx]
theorem chk_none {c : Cp} {need : Nat} (hh : c.p ≠ p ∨ hasO T c.o = false) : chkF ws t es p T c need = ⟨0, 1, t, es⟩ := by
  unfold chkF; rw [if_pos hh]
/- draws that are unlike; answers that are such -/
def Unlike (ws : List Nat) : Prop := ∀ i j, i < ws.length → j < ws.length → ws.getD i 0 = ws.getD j 0 → i = j
structure Outs (ws : List Nat) (t : Nat) (es : List Ent) : Prop where
  le : t ≤ ws.length
  drawn : ∀ j, j < es.length → ∃ i, i < t ∧ (es.getD j Ent.zero).o = ws.getD i 0
  apart : ∀ i j, i < es.length → j < es.length → (es.getD i Ent.zero).o = (es.getD j Ent.zero).o → i = j
theorem Outs.more (h : Outs ws t es) (ht : t < ws.length) : Outs ws (t + 1) es :=
  ⟨by omega, fun j hj => by obtain ⟨i, h1, h2⟩ := h.drawn j hj; exact ⟨i, by omega, h2⟩, h.apart⟩
theorem Outs.snoc (h : Outs ws t es) (hu : Unlike ws) (ht : t < ws.length) (f : Int) (i : Nat) : Outs ws (t + 1) (es ++ [⟨f, i, ws.getD t 0⟩]) := by
  have get : ∀ j, j < (es ++ [Ent.mk f i (ws.getD t 0)]).length → (j < es.length ∧ (es ++ [Ent.mk f i (ws.getD t 0)]).getD j Ent.zero = es.getD j Ent.zero) ∨ (j = es.length ∧ (es ++ [Ent.mk f i (ws.getD t 0)]).getD j Ent.zero = ⟨f, i, ws.getD t 0⟩) := by
    intro j hj
    rw [List.length_append] at hj
    simp only [List.length_cons, List.length_nil] at hj
    by_cases e : j < es.length
    · exact .inl ⟨e, getD_snoc_lt es _ j e⟩
    · obtain rfl : j = es.length := by omega
      exact .inr ⟨rfl, getD_snoc_end es _⟩
  have no : ∀ j, j < es.length → (es.getD j Ent.zero).o ≠ ws.getD t 0 := by
    intro j hj e
    obtain ⟨k, h1, h2⟩ := h.drawn j hj
    rw [h2] at e
    have := hu k t (by omega) ht e
    omega
  refine ⟨by omega, fun j hj => ?_, fun a b ha hb e => ?_⟩
  · rcases get j hj with ⟨h1, h2⟩ | ⟨_, h2⟩
    · obtain ⟨k, h3, h4⟩ := h.drawn j h1
      exact ⟨k, by omega, by rw [h2]; exact h4⟩
    · exact ⟨t, by omega, by rw [h2]⟩
  · rcases get a ha with ⟨h1, h2⟩ | ⟨h1, h2⟩ <;> rcases get b hb with ⟨h3, h4⟩ | ⟨h3, h4⟩ <;> rw [h2, h4] at e
    · exact h.apart a b h1 h3 e
    · exact absurd e (no a h1)
    · exact absurd e.symm (no b h3)
    · omega
theorem Outs.of (h : Outs ws t es) (hu : Unlike ws) (s r : Nat) : Outs ws (ofF ws t es s r).t (ofF ws t es s r).es := by
  rcases of_cases ws t es s r with ⟨x, _, e⟩ | ⟨_, _, ht, e⟩ | ⟨_, e⟩ <;> rw [e]
  · exact h
  · exact h.snoc hu ht _ _
  · exact h
theorem outs_nil (ws : List Nat) {t : Nat} (h : t ≤ ws.length) : Outs ws t [] := ⟨h, fun j hj => by simp at hj, fun i j hi _ _ => by simp at hi⟩
theorem xor_inj {a b r : Nat} (h : a ^^^ r = b ^^^ r) : a = b := by
  have := congrArg (· ^^^ r) h
  simpa [Nat.xor_assoc] using this
/- what was told of one draw's secret is not the check of another's -/
theorem unlike_of {a b : Nat} (h : Outs ws t es) (hu : Unlike ws) (hw : ∀ j, ws.getD j 0 ≤ 281474976710655) (ha : a < t) (hb : b < t) (hab : a ≠ b) (hx : HasA es (ws.getD a 0) r x) (ho : (ofF ws t es (ws.getD b 0) r).ok = true) : x ≠ (ofF ws t es (ws.getD b 0) r).x := by
  have hne : ws.getD a 0 ≠ ws.getD b 0 := fun e => hab (hu a b (by have := h.le; omega) (by have := h.le; omega) e)
  have ma : ws.getD a 0 % 281474976710656 = ws.getD a 0 := Nat.mod_eq_of_lt (by have := hw a; omega)
  have mb : ws.getD b 0 % 281474976710656 = ws.getD b 0 := Nat.mod_eq_of_lt (by have := hw b; omega)
  have hx0 := hx
  unfold HasA at hx
  by_cases e : r = 255
  · rw [if_pos e, ma] at hx
    subst e
    rw [of_owner, mb, hx]
    exact hne
  · rw [if_neg e, ma] at hx
    obtain ⟨j, h1, h2⟩ := hx
    have f1 := findE_some h1
    rcases of_cases ws t es (ws.getD b 0) r with ⟨y, hy, e1⟩ | ⟨_, _, ht, e1⟩ | ⟨_, e1⟩
    · rw [e1]
      unfold HasA at hy
      rw [if_neg e, mb] at hy
      obtain ⟨k, h3, h4⟩ := hy
      have f2 := findE_some h3
      intro exy
      simp only at exy
      have := h.apart j k f1.1 f2.1 (by rw [h2, h4]; exact exy)
      subst this
      exact hne (xor_inj (f1.2.2.symm.trans f2.2.2))
    · rw [e1]
      intro exy
      simp only at exy
      obtain ⟨i, h3, h4⟩ := h.drawn j f1.1
      rw [h2, exy] at h4
      have := hu t i ht (by omega) h4
      omega
    · rw [e1] at ho; cases ho
theorem spr_unlike (n : Nat) : Unlike (sprL n) := by
  intro i j hi hj e
  rw [sprL_len] at hi hj
  rw [sprL_get hi, sprL_get hj] at e
  unfold sprE at e
  omega
end Go.Proofs.YtgcmompldcnhlaaDoor
namespace Go.Proofs.YtgcmompldcnhlaaDoor
open Go.RowKit
variable {ws : List Nat} {t t1 p : Nat} {es : List Ent} {T : Nat → Ob} {s r x : Nat}
theorem of_word (h : Outs ws t es) (hw : ∀ j, ws.getD j 0 ≤ 281474976710655) (s r : Nat) : (ofF ws t es s r).x ≤ 281474976710655 := by
  rcases of_cases ws t es s r with ⟨x, hx, e⟩ | ⟨_, _, ht, e⟩ | ⟨_, e⟩ <;> rw [e]
  · unfold HasA at hx
    split at hx
    · show x ≤ _; omega
    · obtain ⟨j, h1, h2⟩ := hx
      obtain ⟨i, _, h3⟩ := h.drawn j (findE_some h1).1
      show x ≤ _
      rw [← h2, h3]; exact hw i
  · exact hw t
  · exact Nat.zero_le _
theorem cp_ok {p o r c : Nat} (hp : p ≤ 18446744073709551615) (ho : o ≤ 4294967295) (hr : r ≤ 255) (hc : c ≤ 281474976710655) : (Cp.mk p o r c).ok := ⟨hp, ho, hr, (Nat.le_trans hc (by decide) : c ≤ 18446744073709551615)⟩
theorem and_owner {m : Nat} (h : m ≤ 255) : 255 &&& m = m := by
  rw [Nat.and_comm, show (255 : Nat) = 2 ^ 8 - 1 from rfl, Nat.and_two_pow_sub_one_eq_mod]; omega
theorem and_le {a b : Nat} (h : a ≤ 255) : a &&& b ≤ 255 := Nat.le_trans Nat.and_le_left h
theorem and_none (a : Nat) : a &&& 0 = 0 := Nat.and_zero a
theorem cre_at {k : Nat} (v : Int) (hk : freeO T = k) (h : k < 64) (ht : t < ws.length) : creF ws t es p T v = ⟨⟨p, k, 255, ws.getD t 0⟩, 0, t + 1, es, updO T k ⟨ws.getD t 0, 0, v, 24⟩⟩ := by
  unfold creF; rw [hk, if_pos h, if_pos ht]
theorem res_good {c : Cp} {mask : Nat} (hp : c.p = p) (hh : hasO T c.o = true) (hx : HasA es (T c.o).s c.r c.c) (ho : (ofF ws t es (T c.o).s (c.r &&& mask)).ok = true) :
    resF ws t es p T c mask = ⟨⟨p, c.o, c.r &&& mask, (ofF ws t es (T c.o).s (c.r &&& mask)).x⟩, 0, (ofF ws t es (T c.o).s (c.r &&& mask)).t, (ofF ws t es (T c.o).s (c.r &&& mask)).es, T⟩ := by
  have e : chkF ws t es p T c 0 = ⟨c.o, 0, t, es⟩ := by rw [chk_good hp hh hx, if_pos (and_none _)]
  unfold resF
  rw [e]
  simp only [if_true, ho]
  unfold cabF
  rw [ho]; rfl
theorem rev_good {c : Cp} (hp : c.p = p) (hr : c.r = 255) (hh : hasO T c.o = true) (hx : HasA es (T c.o).s c.r c.c) (ht : t < ws.length) :
    revF ws t es p T c = ⟨⟨p, c.o, 255, ws.getD t 0⟩, 0, t + 1, es, updO T c.o (revO (T c.o) (ws.getD t 0))⟩ := by
  have e : chkF ws t es p T c 255 = ⟨c.o, 0, t, es⟩ := by rw [chk_good hp hh hx, if_pos (by rw [hr]; rfl)]
  unfold revF
  rw [e]
  simp only [if_true]
  rw [if_pos ht]
theorem free_none : freeO noneO = 0 := freeO_eq (by omega) rfl (fun j hj => by omega)
theorem has_upd {k : Nat} {y : Ob} (hk : k < 64) (hl : 0 < y.l) : hasO (updO T k y) k = true := hasO_of hk (by rw [updO_same]; exact hl)
variable {w0 w w1 w2 : World} {g : Nat}
end Go.Proofs.YtgcmompldcnhlaaDoor
namespace Go.Proofs.YtgcmompldcnhlaaDoor
open Go.RowKit
variable {w0 w w1 w2 w' : World} {g p : Nat} {ws : List Nat} {t : Nat} {es : List Ent} {T : Nat → Ob}
def Cp.cells (c : Cp) : List Value := [.int .u64 (c.p : Int), .int .u32 (c.o : Int), .int .u8 (c.r : Int), .int .u64 (c.c : Int)]
def cellsC (L : List Cp) : List Value := L.flatMap Cp.cells
theorem cellsC_snoc (L : List Cp) (c : Cp) : cellsC (L ++ [c]) = cellsC L ++ c.cells := by simp [cellsC]
theorem cellsC_get (L : List Cp) (k f : Nat) (h : k < L.length) (hf : f < 4) : (cellsC L)[k * 4 + f]? = (L.getD k Cp.zero).cells[f]? := by
  induction L generalizing k with
  | nil => simp at h
  | cons x r ih =>
    simp only [cellsC, List.flatMap_cons] at ih ⊢
    cases k with
    | zero => rw [List.getElem?_append_left (by show _ < 4; omega)]; simp
    | succ k =>
      rw [List.getElem?_append_right (by show 4 ≤ _; omega)]
      show (List.flatMap Cp.cells r)[(k + 1) * 4 + f - 4]? = _
      rw [show (k + 1) * 4 + f - 4 = k * 4 + f from by omega, ih k (by simpa using h)]
      rfl
/- an element, where it lies -/
theorem owns_cap {B n : Nat} {v : Value} {L : List Cp} (h : w.ownsRow B 49 4 v n (cellsC L)) (hn : n = L.length) (k : Nat) (hk : k < n) (p o r c : Nat) (hc : L.getD k Cp.zero = ⟨p, o, r, c⟩) :
    ∃ b cap, v = .slice (some ⟨b, 0, none⟩) n cap ∧ n ≤ cap ∧ cap ≤ maxLen ∧ w.cell? ⟨b, k * 4, none⟩ = some (.int .u64 (p : Int)) ∧ w.cell? ⟨b, k * 4 + 1, none⟩ = some (.int .u32 (o : Int)) ∧ w.cell? ⟨b, k * 4 + 2, none⟩ = some (.int .u8 (r : Int)) ∧ w.cell? ⟨b, k * 4 + 3, none⟩ = some (.int .u64 (c : Int)) := by
  have get := fun f hf => cellsC_get L k f (by omega) hf
  rw [hc] at get
  rcases h.2 with ⟨rfl, rfl⟩ | ⟨b, cap, cur, rfl, h1, h2, h3, h4, h5, h6⟩
  · omega
  · refine ⟨b, cap, rfl, h3, h4, ?_, ?_, ?_, ?_⟩
    · rw [← add0]; exact h.cells (g := b) rfl (k * 4) _ (get 0 (by omega))
    · rw [← add0]; exact h.cells (g := b) rfl (k * 4 + 1) _ (get 1 (by omega))
    · rw [← add0]; exact h.cells (g := b) rfl (k * 4 + 2) _ (get 2 (by omega))
    · rw [← add0]; exact h.cells (g := b) rfl (k * 4 + 3) _ (get 3 (by omega))
theorem owns_form {B n : Nat} {v : Value} {L : List Cp} (h : w.ownsRow B 49 4 v n (cellsC L)) : ∃ ao cap, v = .slice ao n cap ∧ n ≤ cap ∧ cap ≤ maxLen := by
  obtain ⟨ao, cap, e, h1, h2, h3, _⟩ := owns_lies h
  exact ⟨ao, cap, e, h2, h3⟩
theorem Tryd.infoC : (Tryd.prog.info? 49).map (fun i => (i.zero, i.size, i.bytes)) = some (some (.agg #[.int .u64 0, .int .u32 0, .int .u8 0, .int .u64 0]), 4, 24) := by kernel_rfl
theorem app_cap {B n : Nat} {v : Value} {L : List Cp} (p o r c : Nat) (h : w.ownsRow B 49 4 v n (cellsC L)) (hn : n ≤ 5000000000000) (hB : B ≤ w.heap.size) :
    ∃ v' w', (Builtin.append_ #[38, 38] 38 #[v, .slice (some ⟨w.heap.size, 0, none⟩) 1 1]).run Tryd.prog (w.alloc (.cells #[.int .u64 (p : Int), .int .u32 (o : Int), .int .u8 (r : Int), .int .u64 (c : Int)] 49)) = .ok v' w' ∧ w'.ownsRow B 49 4 v' (n + 1) (cellsC (L ++ [⟨p, o, r, c⟩])) ∧ Foot (fun k => v.ownBlock = some k) w w' ∧ Moved w v v' := by
  obtain ⟨v', w', h1, h2, h3, h4⟩ := app_elem (ty := 38) #[.int .u64 (p : Int), .int .u32 (o : Int), .int .u8 (r : Int), .int .u64 (c : Int)] Tryd.underlying38 Tryd.infoC rfl (by omega) rfl (by intro u hu; simp at hu; rcases hu with rfl | rfl | rfl | rfl <;> rfl) (by omega) (by unfold maxLen; omega) h hB
  exact ⟨v', w', h1, by rw [cellsC_snoc]; exact h2, h3, h4⟩
theorem Sd.row (x : Sd w0 w g p ws t es T) {B n : Nat} {v : Value} {xs : List Value} (h : w.ownsRow B 49 4 v n xs) (hB : w0.heap.size ≤ B) (f : Foot (fun k => v.ownBlock = some k) w w') : Sd w0 w' g p ws t es T := by
  refine x.off f fun b e => ?_
  obtain ⟨cur, h1, h2⟩ := owns_block h e
  exact ⟨Nat.le_trans hB h2, .inr ⟨cur, _, h1, cap_odd, by decide⟩⟩
theorem owns_grow {B n : Nat} {v : Value} {e : TypeId} {sz : Nat} {xs : List Value} (h : w.ownsRow B e sz v n xs) (b : Below w.heap.size w w') : w'.ownsRow B e sz v n xs := owns_foot h (below_foot (fun _ => False) b) (fun _ _ e => e)
end Go.Proofs.YtgcmompldcnhlaaDoor
namespace Go.Proofs.YtgcmompldcnhlaaDoor
open Go.RowKit
theorem cap_val (p o r c : Nat) : Cp.val ⟨p, o, r, c⟩ = .agg #[.int .u64 (p : Int), .int .u32 (o : Int), .int .u8 (r : Int), .int .u64 (c : Int)] := rfl
theorem bits_u8 (op : BinOp) (x y : Int) : ∃ v : Nat, bits op .u8 x y = (v : Int) ∧ v ≤ 255 := u8_nat (wf_bits op .u8 x y)
theorem bits_u64 (op : BinOp) (x y : Int) : ∃ v : Nat, bits op .u64 x y = (v : Int) ∧ v ≤ 18446744073709551615 := u64_nat (wf_bits op .u64 x y)
set_option maxHeartbeats 3200000 in
theorem change_any (c : Cp) (how : Nat) (w : World) (hc : c.ok) (hh : how ≤ 255) :
    Calls Tryd.prog 19 #[c.val, .int .u8 (how : Int)] w fun e w' => (∃ c' : Cp, e = .returned c'.val ∧ c'.ok) ∧ Below w.heap.size w w' := by
  obtain ⟨p, o, r, c⟩ := c
  obtain ⟨h1, h2, h3, h4⟩ := hc
  simp only at h1 h2 h3 h4
  have HC := hide (And.intro h1 (And.intro h2 (And.intro h3 h4)))
  obtain ⟨d, hd⟩ : ∃ d, how % 12 = d := ⟨_, rfl⟩
  have hd1 : (how : Int) % 12 = (d : Int) := by omega
  obtain ⟨q, hq⟩ : ∃ q, how / 12 = q := ⟨_, rfl⟩
  have hq1 : (how : Int) / 12 = (q : Int) := by omega
  have hq2 : (q : Int) ≤ 21 := by omega
  clear h1 h2 h3 h4 hd hq hh
  rw [cap_val]
  have f0 : ∀ z : Int, (Lit.int .u64 z).wf = true → ∃ c' : Cp, Ending.returned (.agg #[.int .u64 z, .int .u32 (o : Int), .int .u8 (r : Int), .int .u64 (c : Int)]) = .returned c'.val ∧ c'.ok := fun z hz => by
    obtain ⟨v, rfl, hv⟩ := u64_nat hz
    exact ⟨⟨v, o, r, c⟩, rfl, hv, HC.out.2.1, HC.out.2.2.1, HC.out.2.2.2⟩
  have f1 : ∀ z : Int, (Lit.int .u32 z).wf = true → ∃ c' : Cp, Ending.returned (.agg #[.int .u64 (p : Int), .int .u32 z, .int .u8 (r : Int), .int .u64 (c : Int)]) = .returned c'.val ∧ c'.ok := fun z hz => by
    obtain ⟨v, rfl, hv⟩ := u32_nat hz
    exact ⟨⟨p, v, r, c⟩, rfl, HC.out.1, hv, HC.out.2.2.1, HC.out.2.2.2⟩
  have f2 : ∀ z : Int, (Lit.int .u8 z).wf = true → ∃ c' : Cp, Ending.returned (.agg #[.int .u64 (p : Int), .int .u32 (o : Int), .int .u8 z, .int .u64 (c : Int)]) = .returned c'.val ∧ c'.ok := fun z hz => by
    obtain ⟨v, rfl, hv⟩ := u8_nat hz
    exact ⟨⟨p, o, v, c⟩, rfl, HC.out.1, HC.out.2.1, hv, HC.out.2.2.2⟩
  have f3 : ∀ z : Int, (Lit.int .u64 z).wf = true → ∃ c' : Cp, Ending.returned (.agg #[.int .u64 (p : Int), .int .u32 (o : Int), .int .u8 (r : Int), .int .u64 z]) = .returned c'.val ∧ c'.ok := fun z hz => by
    obtain ⟨v, rfl, hv⟩ := u64_nat hz
    exact ⟨⟨p, o, r, v⟩, rfl, HC.out.1, HC.out.2.1, HC.out.2.2.1, hv⟩
  have F0 := hide f0
  have F1 := hide f1
  have F2 := hide f2
  have F3 := hide f3
  clear f0 f1 f2 f3
  by_cases e0 : d = 0
  · subst e0
    go_enter Tryd.func19, Tryd.ntmps19
    go_wp2
    go_returns
    exact ⟨F2.out _ (wf_bits _ _ _ _), by go_grown⟩
  · have g0 : ((d : Int) == 0) = false := by rw [beq_eq_false_iff_ne]; omega
    by_cases e1 : d = 1
    · subst e1
      go_enter Tryd.func19, Tryd.ntmps19
      go_wp2
      go_returns
      exact ⟨F3.out _ (wf_bits _ _ _ _), by go_grown⟩
    · have g1 : ((d : Int) == 1) = false := by rw [beq_eq_false_iff_ne]; omega
      by_cases e2 : d = 2
      · subst e2
        go_enter Tryd.func19, Tryd.ntmps19
        go_wp2
        go_returns
        exact ⟨F1.out _ (WalkArith.wf_u32 (by omega)), by go_grown⟩
      · have g2 : ((d : Int) == 2) = false := by rw [beq_eq_false_iff_ne]; omega
        by_cases e3 : d = 3
        · subst e3
          go_enter Tryd.func19, Tryd.ntmps19
          go_wp2
          go_returns
          exact ⟨F0.out _ (wf_bits _ _ _ _), by go_grown⟩
        · have g3 : ((d : Int) == 3) = false := by rw [beq_eq_false_iff_ne]; omega
          clear e0 e1 e2 e3
          go_enter Tryd.func19, Tryd.ntmps19
          go_wp2
          go_returns
          exact ⟨⟨⟨p, o, r, c⟩, rfl, HC.out⟩, by go_grown⟩
def SpoRel (w : World) (j gk : Nat) (vi : Value) (wr : World) : Prop := ∃ i : Nat, i + gk = 40 ∧ i ≤ j ∧ vi = .int .i64 (i : Int) ∧ Below w.heap.size w wr
set_option maxHeartbeats 1600000 in
theorem spoilt_yes (c : Cp) (j : Nat) (w : World) (hj : j < 40) (hc : c.c = (sprL 40).getD j 0) :
    Calls Tryd.prog 22 #[c.val] w fun e w' => e = .returned (.bool true) ∧ Below w.heap.size w w' := by
  have hspr := spread_any 40
  have hlen := sprL_len 40
  obtain ⟨ws, hws⟩ : ∃ ws, sprL 40 = ws := ⟨_, rfl⟩
  rw [hws] at hspr hlen hc
  have HSP := hide hspr
  have HL := hide hlen
  obtain ⟨p, o, r, x⟩ := c
  obtain rfl : x = ws.getD j 0 := hc
  obtain ⟨x, hx⟩ : ∃ x, ws.getD j 0 = x := ⟨_, rfl⟩
  rw [hx, cap_val]
  have HX := hide hx
  have HJ := hide hj
  clear hspr hws hlen hx hj
  obtain ⟨V, hV⟩ : ∃ V, w.alloc (.cells #[.int .u64 (p : Int), .int .u32 (o : Int), .int .u8 (r : Int), .int .u64 (x : Int)] 49) = V := ⟨_, rfl⟩
  have HBV : Hid (Below w.heap.size w V) := hV ▸ below_alloc _ _
  have HC : Hid (CBox V w.heap.size p o r x) := hV ▸ CBox.new w p o r x
  go_enter Tryd.func22, Tryd.ntmps22
  go_wp2_with fail
  refine (HSP.out _ (by omega)).mono ?_; rintro e w2 ⟨ao, cap, rfl, hu, b2⟩
  obtain ⟨ad, rfl⟩ : ∃ ad, ao = some ad := by
    cases ao with
    | none => have := hu.2.2.2.1 rfl; have := hu.2.1; omega
    | some ad => exact ⟨ad, rfl⟩
  have hcm : cap ≤ 9223372036854775807 := hu.2.2.1
  have hcm2 : 40 ≤ cap := hu.2.1
  have HU := hide hu
  have HC2 := hide (HC.out.grow b2)
  have HB2 := hide (below_one HBV.out b2)
  clear hu b2 hV
  go_wp2
  go_loopg [7] 40 (fun gk vi wr => SpoRel w2 j gk vi wr)
  case atStart => exact ⟨0, by omega, Nat.zero_le _, rfl, Below.refl _ _⟩
  case round =>
    obtain ⟨i, hi, hij, rfl, b⟩ := hrel
    have HB := hide b
    cases gk with
    | zero => have := HJ.out; omega
    | succ g1 =>
      have hlt : (i : Int) < 40 := by omega
      have hi1 : i < ws.length := by have := HL.out; omega
      have hc0 := HU.out.2.2.2.2.1 ad rfl i hi1
      rw [← b.cell (lt_of_cell hc0)] at hc0
      have c3 : wr.cell? ⟨w.heap.size, 3, none⟩ = some (.int .u64 (x : Int)) := (HC2.out.grow b).c3
      have hu1 := HU.out.2.2.2.2.2 i
      have HI := hide hi
      have HIJ := hide hij
      clear hi hij b
      by_cases e : i = j
      · subst e
        rw [HX.out] at hc0
        go_wp2
        go_ret
        exact ⟨rfl, HB2.out.trans (HB.out.mono HB2.out.size)⟩
      · obtain ⟨u, hu⟩ : ∃ u, ws.getD i 0 = u := ⟨_, rfl⟩
        rw [hu] at hc0 hu1
        by_cases e2 : u = x
        · subst e2
          clear e hu
          go_wp2
          go_ret
          exact ⟨rfl, HB2.out.trans (HB.out.mono HB2.out.size)⟩
        · have hne : ((x : Int) == (u : Int)) = false := by rw [beq_eq_false_iff_ne]; omega
          have HE := hide e
          clear e2 e hu
          go_wp2
          go_roundg g1
          case measure => have := HI.out; omega
          case rel => exact ⟨i + 1, by have := HI.out; omega, by have := HIJ.out; have := HE.out; omega, by go_num, HB.out⟩
end Go.Proofs.YtgcmompldcnhlaaDoor
