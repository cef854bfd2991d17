/-
  A table with its oracle in one memory; what a deed leaves; the capability of an object, as a contract.
-/
import Derived.Test.YtgcmompldcnhlaaDoorICalls
namespace Go.Proofs.YtgcmompldcnhlaaDoor
open Go.RowKit
structure Od (w0 w : World) (B g go m a h k p : Nat) (v : Value) (ws : List Nat) (t : Nat) (es : List Ent) (T : Nat → Ob) : Prop where
  tk : Tk w0 w B go m a h k v ws t es
  tb : Tb w g p go T
  new : w0.heap.size ≤ g
def OdS (g go m a : Nat) (v : Value) (j : Nat) : Prop := AskS go m a v j ∨ j = g
def OdEnd (w0 w : World) (B g go m a h k p : Nat) (v : Value) (ws : List Nat) (w' : World) (t : Nat) (es : List Ent) (T : Nat → Ob) : Prop :=
  ∃ v', Od w0 w' B g go m a h k p v' ws t es T ∧ Foot (OdS g go m a v) w w' ∧ ∀ r, v'.ownBlock = some r → v.ownBlock = some r ∨ w.heap.size ≤ r
variable {w0 w w1 w2 : World} {B g go m a h k p : Nat} {v v1 : Value} {ws : List Nat} {t t1 : Nat} {es es1 : List Ent} {T T1 : Nat → Ob}
theorem Od.drewN (x : Od w0 w B g go m a h k p v ws t es T) (q : Nat) : Od w0 (w.drewN q) B g go m a h k p v ws t es T := ⟨x.tk.drewN q, x.tb.drewN q, x.new⟩
theorem Od.grow (x : Od w0 w B g go m a h k p v ws t es T) (b : Below w.heap.size w w1) : Od w0 w1 B g go m a h k p v ws t es T := ⟨x.tk.grow b, x.tb.grow b, x.new⟩
/- a block of one type alone is none of the oracle's -/
theorem Tk.noAsk (S : Tk w0 w B go m a h k v ws t es) {b : Nat} {cs : Array Value} {ty : TypeId} (x : w.heap[b]? = some (.cells cs ty (0, 0))) (h1 : ty ≠ 78) (h2 : ty ≠ 82) (h3 : ty ≠ 129) : ¬ AskS go m a v b := by
  intro e
  obtain ⟨y, z, hm⟩ := S.orc.map.isMap
  rcases e with e | e | e | e
  · rw [e, S.orc.box] at x; cases x; exact h1 rfl
  · rw [e, hm] at x; cases x
  · rw [e, S.tape.box] at x; cases x; exact h2 rfl
  · obtain ⟨cur, hx, _⟩ := owns_block S.orc.row e; rw [hx] at x; cases x; exact h3 rfl
theorem Tk.noBlk (S : Tk w0 w B go m a h k v ws t es) {b : Nat} {cs : Array Value} {ty : TypeId} (x : w.heap[b]? = some (.cells cs ty (0, 0))) (h1 : ty ≠ 78) (h2 : ty ≠ 82) (h3 : ty ≠ 129) (h4 : ty ≠ 22) : b ≠ go ∧ b ≠ m ∧ b ≠ a ∧ b ≠ h ∧ v.ownBlock ≠ some b := by
  have n := S.noAsk x h1 h2 h3
  refine ⟨fun e => n (.inl e), fun e => n (.inr (.inl e)), fun e => n (.inr (.inr (.inl e))), fun e => ?_, fun e => n (.inr (.inr (.inr e)))⟩
  have hr : w.heap[h]? = some _ := S.tape.row
  rw [e, hr] at x
  cases x; exact h4 rfl
theorem Tb.blk (x : Tb w g p go T) : ∃ cs, w.heap[g]? = some (.cells cs 74 (0, 0)) := by
  obtain ⟨C, h, _⟩ := x.box; exact ⟨C, h⟩
theorem Od.noG (x : Od w0 w B g go m a h k p v ws t es T) : ¬ AskS go m a v g := by
  obtain ⟨C, hC⟩ := x.tb.blk
  exact x.tk.noAsk hC (by decide) (by decide) (by decide)
theorem Tk.far (S : Tk w0 w B go m a h k v ws t es) {b : Nat} (f : Foot (fun j => j = b) w w1) {cs : Array Value} {ty : TypeId} (x : w.heap[b]? = some (.cells cs ty (0, 0))) (h1 : ty ≠ 78) (h2 : ty ≠ 82) (h3 : ty ≠ 129) (h4 : ty ≠ 22) (hb : w0.heap.size ≤ b) : Tk w0 w1 B go m a h k v ws t es := by
  obtain ⟨n1, n2, n3, n4, n5⟩ := S.noBlk x h1 h2 h3 h4
  exact ⟨S.orc.foot f (fun e => n1 e.symm) (fun e => n2 e.symm) (fun r hr e => n5 (e ▸ hr)), S.tape.foot f (fun e => n3 e.symm) (fun e => n4 e.symm), ⟨S.new.b0, S.new.a0, S.new.h0, S.new.bel.trans (f.below S.new.bel.size fun j (e : j = b) => by omega), Nat.le_trans S.new.bs f.size⟩⟩
/- what an answer leaves -/
theorem Od.asked (x : Od w0 w B g go m a h k p v ws t es T) {X : Ans} (L : Left w0 w B go m a h k v ws w1 X) : OdEnd w0 w B g go m a h k p v ws w1 X.t X.es T := by
  obtain ⟨v', S, F, hv⟩ := L
  exact ⟨v', ⟨S, x.tb.foot F x.noG, x.new⟩, F.mono (fun _ e => .inl e), hv⟩
theorem Od.stay (x : Od w0 w B g go m a h k p v ws t es T) : OdEnd w0 w B g go m a h k p v ws w t es T := ⟨v, x, Foot.refl _ _, fun _ e => .inl e⟩
theorem OdEnd.from (x : OdEnd w0 w1 B g go m a h k p v ws w2 t es T) (b : Below w.heap.size w w1) : OdEnd w0 w B g go m a h k p v ws w2 t es T := by
  obtain ⟨v', S, F, hv⟩ := x
  refine ⟨v', S, (below_foot _ b).trans F (fun _ e => .inl e), fun r hr => ?_⟩
  rcases hv r hr with e | e
  · exact .inl e
  · exact .inr (Nat.le_trans b.size e)
theorem OdEnd.to (x : OdEnd w0 w B g go m a h k p v ws w1 t es T) (b : Below w1.heap.size w1 w2) : OdEnd w0 w B g go m a h k p v ws w2 t es T := by
  obtain ⟨v', S, F, hv⟩ := x
  exact ⟨v', S.grow b, F.trans (below_foot (OdS g go m a v) b) (fun _ e => .inl e), hv⟩
/- one deed behind the other -/
theorem OdEnd.on (F : Foot (OdS g go m a v) w w1) (hv : ∀ r, v1.ownBlock = some r → v.ownBlock = some r ∨ w.heap.size ≤ r) (x : OdEnd w0 w1 B g go m a h k p v1 ws w2 t es T) : OdEnd w0 w B g go m a h k p v ws w2 t es T := by
  obtain ⟨v2, S, F2, hv2⟩ := x
  refine ⟨v2, S, F.trans F2 (fun j e => ?_), fun r hr => ?_⟩
  · rcases e with (e | e | e | e) | e
    · exact .inl (.inl (.inl e))
    · exact .inl (.inl (.inr (.inl e)))
    · exact .inl (.inl (.inr (.inr (.inl e))))
    · rcases hv j e with e | e
      · exact .inl (.inl (.inr (.inr (.inr e))))
      · exact .inr e
    · exact .inl (.inr e)
  · rcases hv2 r hr with e | e
    · exact hv r e
    · exact .inr (Nat.le_trans F.size e)
/- the table's own block turns -/
theorem Od.turn (x : Od w0 w B g go m a h k p v ws t es T) (y : Tb w1 g p go T1) (f : Foot (fun j => j = g) w w1) : OdEnd w0 w B g go m a h k p v ws w1 t es T1 := by
  obtain ⟨C, hC⟩ := x.tb.blk
  exact ⟨v, ⟨x.tk.far f hC (by decide) (by decide) (by decide) (by decide) x.new, y, x.new⟩, f.mono (fun _ e => .inr e), fun _ e => .inl e⟩
/- a new variable of a capability turns -/
theorem OdEnd.cap (x : OdEnd w0 w B g go m a h k p v ws w1 t es T) {b : Nat} (C : CapB w1 b) (hw : w0.heap.size ≤ w.heap.size) (hb : w.heap.size ≤ b) (f : Foot (fun j => j = b) w1 w2) : OdEnd w0 w B g go m a h k p v ws w2 t es T := by
  obtain ⟨v', S, F, hv⟩ := x
  obtain ⟨cs, hc⟩ := C
  have ng : ¬ g = b := fun e => by
    obtain ⟨C, hC⟩ := S.tb.blk
    rw [e, hc] at hC; cases hC
  exact ⟨v', ⟨S.tk.far f hc (by decide) (by decide) (by decide) (by decide) (Nat.le_trans hw hb), S.tb.foot f ng, S.new⟩, F.trans f (fun j (e : j = b) => .inr (by omega)), hv⟩
theorem CBox.od {b p0 o r c : Nat} (x : CBox w b p0 o r c) (S : Od w0 w B g go m a h k p v ws t es T) (F : Foot (OdS g go m a v) w w1) : CBox w1 b p0 o r c := by
  refine x.foot F fun e => ?_
  rcases e with e | e
  · exact S.tk.noAsk x (by decide) (by decide) (by decide) e
  · obtain ⟨C, hC⟩ := S.tb.blk
    unfold CBox at x
    rw [e, hC] at x; cases x
theorem foot4 (w : World) (b : Nat) (x0 x1 x2 x3 : Value) : Foot (fun j => j = b) w ((((w.setCell ⟨b, 0, none⟩ x0).setCell ⟨b, 1, none⟩ x1).setCell ⟨b, 2, none⟩ x2).setCell ⟨b, 3, none⟩ x3) := by
  have t : ∀ {a c : World}, Foot (fun j => j = b) a c → ∀ (o : Nat) (v : Value), Foot (fun j => j = b) a (c.setCell ⟨b, o, none⟩ v) := fun h o v => h.trans (foot_set _ ⟨b, o, none⟩ v) (fun _ e => .inl e)
  exact t (t (t (t (Foot.refl _ _) _ _) _ _) _ _) _ _
theorem size_al (w : World) (o : Obj) : (w.alloc o).heap.size = w.heap.size + 1 := by simp
set_option maxHeartbeats 1600000 in
theorem cap_any (i r : Nat) (w : World) (x : Od w0 w B g go m a h k p v ws t es T) (hi : i < 64) (hr : r ≤ 255) (hl : es.length ≤ 5000000000000) (X : Ans) (hX : ofF ws t es (T i).s r = X) :
    Calls Tryd.prog 38 #[.pointer (some ⟨g, 0, none⟩), .int .i64 (i : Int), .int .u8 (r : Int)] w fun e w' => e = .returned (.tuple #[(cabF p i r X).val, erV X.ok]) ∧ OdEnd w0 w B g go m a h k p v ws w' X.t X.es T := by
  rcases hT : T i with ⟨s, ep, vl, l⟩
  rw [hT] at hX
  have hs : s ≤ 281474976710655 := by have := (x.tb.ok i).1; rw [hT] at this; exact this
  obtain ⟨Y, hY⟩ : ∃ Y, w.alloc (.cells #[.int .u64 0, .int .u32 0, .int .u8 0, .int .u64 0] 49) = Y := ⟨_, rfl⟩
  have bY : Below w.heap.size w Y := hY ▸ below_alloc w _
  have xY := x.grow bY
  have cY : CBox Y w.heap.size 0 0 0 0 := hY ▸ CBox.new w 0 0 0 0
  have HX := hide hX
  have HK := hide (xY.drewN 1)
  have HC := hide (cY.drewN 1)
  have HB := hide bY
  have HW := hide x.tk.new.bel.size
  have HS := hide hs
  have HR := hide hr
  have HL := hide hl
  have HI := hide hi
  have HT := hide hT
  have k0 := (xY.tb.at i hi s ep vl l hT).1
  have hi2 : (i : Int) < 64 := by omega
  clear hX x xY cY bY hs hr hl hT
  obtain ⟨y, ok, t', es'⟩ := X
  go_enter Tryd.func38, Tryd.ntmps38
  go_wp2_with fail
  go_region_held (fun W => W.cell? ⟨g, 2 + i * 4, none⟩ = some (.int .u64 (s : Int))) (exact (HK.out.tb.at i HI.out s ep vl l HT.out).1) (first
    | (go_at_call 37; refine (oracle_any _ HK.out.tb).mono ?_; rintro e wx ⟨rfl, rfl⟩)
    | (go_at_call 45; refine (tof_any w0 B go m a h k v ws t es s r _ HK.out.tk (by have := HS.out; omega) HR.out HL.out).mono ?_; rintro e wx ⟨rfl, L⟩; rw [HX.out] at L ⊢; have HE := hide (HK.out.asked L); have HCX := hide (HC.out.ask HK.out.tk L.choose_spec.2.1); clear L; have HK := hide HE.out.choose_spec.1))
  have d0 : wx.cell? ⟨w.heap.size, 0, none⟩ = some (.int .u64 0) := HCX.out.c0
  have d1 : wx.cell? ⟨w.heap.size, 1, none⟩ = some (.int .u32 0) := HCX.out.c1
  have d2 : wx.cell? ⟨w.heap.size, 2, none⟩ = some (.int .u8 0) := HCX.out.c2
  have d3 : wx.cell? ⟨w.heap.size, 3, none⟩ = some (.int .u64 0) := HCX.out.c3
  have z := HCX.out.z
  have p0 := HK.out.tb.c0
  have HEE : Hid (OdEnd w0 w B g go m a h k p v ws wx t' es' T) := HE.out.from (below_drewN HB.out 1)
  have hi3 : (0 : Int) ≤ (i : Int) := by omega
  have hi4 : (i : Int) ≤ 4294967295 := by omega
  clear k0 HK HE HC HX HS HB
  cases ok <;> simp only [erV]
  · go_wp2
    refine bodyPost_ret (by simp [results, Tryd.results38, go_sem, d0, d1, d2, d3]; rfl) rfl ?_
    exact ⟨rfl, HEE.out.cap HCX.out.capB HW.out (Nat.le_refl _) (foot4 _ _ _ _ _ _)⟩
  · go_wp2
    refine bodyPost_ret (by simp [results, Tryd.results38, go_sem, d0, d1, d2, d3]; rfl) rfl ?_
    exact ⟨rfl, HEE.out.cap HCX.out.capB HW.out (Nat.le_refl _) (foot4 _ _ _ _ _ _)⟩
end Go.Proofs.YtgcmompldcnhlaaDoor
