/-
  What token.Restrict and token.Port answer, as contracts; the statements' own first step.
-/
import Derived.Test.YtdpdbiciagplkaaDoorKTok
namespace Go.Proofs.YtdpdbiciagplkaaDoor
open Go.RowKit
/- of one that is no owner's -/
set_option maxHeartbeats 800000 in
theorem tres_no (ov : Value) (p o r c mask : Nat) (w : World) (hn : r ≠ 255) :
    Calls Tryd.prog 15 #[ov, .agg #[.int .u64 (p : Int), .int .u32 (o : Int), .int .u8 (r : Int), .int .u64 (c : Int)], .int .u8 (mask : Int)] w fun e w' => e = .returned (.tuple #[.agg #[.int .u64 0, .int .u32 0, .int .u8 0, .int .u64 0], .iface 48 (.int .i64 2)]) ∧ Below w.heap.size w w' := by
  have hr1 : ¬ ((r : Int) = 255) := by omega
  clear hn
  go_enter Tryd.func15, Tryd.ntmps15
  go_wp2
  go_returns
  exact ⟨rfl, by go_grown⟩
/- a block that is a capability's; a store into one leaves the oracle as it is -/
def CapB (w : World) (b : Nat) : Prop := ∃ cs, w.heap[b]? = some (.cells cs 41 (0, 0))
theorem CBox.capB {w : World} {b p o r c : Nat} (h : CBox w b p o r c) : CapB w b := ⟨_, h⟩
theorem CapB.set {w : World} {b : Nat} (h : CapB w b) (d j : Nat) (x : Value) : CapB (w.setCell ⟨d, j, none⟩ x) b := by
  obtain ⟨cs, h⟩ := h
  by_cases e : b = d
  · subst e
    exact ⟨_, heap_setCell_same w b j _ _ x h⟩
  · exact ⟨cs, (heap_setCell_other _ _ _ _ e).trans h⟩
theorem Tk.put {w0 w1 : World} {B g m a h k : Nat} {v : Value} {ws : List Nat} {t : Nat} {es : List Ent} (T : Tk w0 w1 B g m a h k v ws t es) {b : Nat} (C : CapB w1 b) (hb : w0.heap.size ≤ b) (j : Nat) (x : Value) : Tk w0 (w1.setCell ⟨b, j, none⟩ x) B g m a h k v ws t es := by
  obtain ⟨cs, hc⟩ := C
  obtain ⟨y, z, hm⟩ := T.orc.map.isMap
  have hr : w1.heap[h]? = some _ := T.tape.row
  have f := foot_set w1 ⟨b, j, none⟩ x
  refine ⟨T.orc.foot f (fun e => ?_) (fun e => ?_) (fun r hr e => ?_), T.tape.foot f (fun e => ?_) (fun e => ?_), ⟨T.new.b0, T.new.a0, T.new.h0, T.new.bel.trans (f.below T.new.bel.size fun k e => ?_), Nat.le_trans T.new.bs f.size⟩⟩
  · obtain rfl : g = b := e
    rw [T.orc.box] at hc; cases hc
  · obtain rfl : m = b := e
    rw [hm] at hc; cases hc
  · obtain rfl : r = b := e
    obtain ⟨cur, h1, _⟩ := owns_block T.orc.row hr; rw [h1] at hc; cases hc
  · obtain rfl : a = b := e
    rw [T.tape.box] at hc; cases hc
  · obtain rfl : h = b := e
    rw [hr] at hc; simp at hc
  · obtain rfl : k = b := e
    omega
theorem Left.put {w0 w w1 : World} {B g m a h k : Nat} {v : Value} {ws : List Nat} {X : Ans} (L : Left w0 w B g m a h k v ws w1 X) {b : Nat} (C : CapB w1 b) (hw : w0.heap.size ≤ w.heap.size) (hb : w.heap.size ≤ b) (j : Nat) (x : Value) : Left w0 w B g m a h k v ws (w1.setCell ⟨b, j, none⟩ x) X := by
  obtain ⟨v', T, F, hv⟩ := L
  refine ⟨v', T.put C (Nat.le_trans hw hb) j x, F.trans (foot_set w1 ⟨b, j, none⟩ x) (fun k e => ?_), hv⟩
  obtain rfl : k = b := e
  exact .inr hb
theorem CBox.set3 {w : World} {b p o r c : Nat} (h : CBox w b p o r c) (y : Nat) : CBox (w.setCell ⟨b, 3, none⟩ (.int .u64 (y : Int))) b p o r y := by
  have := heap_setCell_same w b 3 _ _ (.int .u64 (y : Int)) h
  exact this
def resV (X : Ans) (p o mask : Nat) : Value := match X.ok with | true => .agg #[.int .u64 (p : Int), .int .u32 (o : Int), .int .u8 (mask : Int), .int .u64 (X.x : Int)] | false => .agg #[.int .u64 0, .int .u32 0, .int .u8 0, .int .u64 0]
set_option maxHeartbeats 1600000 in
theorem tres_any (w0 : World) (B g m a h k : Nat) (v : Value) (ws : List Nat) (t : Nat) (es : List Ent) (p o c mask : Nat) (w : World) (S : Tk w0 w B g m a h k v ws t es) (hc : c ≤ 18446744073709551615) (hr : mask ≤ 255) (hl : es.length ≤ 1000) :
    Calls Tryd.prog 15 #[.pointer (some ⟨g, 0, none⟩), .agg #[.int .u64 (p : Int), .int .u32 (o : Int), .int .u8 255, .int .u64 (c : Int)], .int .u8 (mask : Int)] w fun e w' => e = .returned (.tuple #[resV (ofF ws t es c mask) p o mask, erV (ofF ws t es c mask).ok]) ∧
      Left w0 w B g m a h k v ws w' (ofF ws t es c mask) := by
  have HS := hide hc
  have HK := hide S
  have HL := hide hl
  have HR := hide hr
  obtain ⟨X, hX⟩ : ∃ X, ofF ws t es c mask = X := ⟨_, rfl⟩
  rw [hX]
  have HXX := hide hX
  clear hc hr hl S hX
  obtain ⟨x, ok, t', es'⟩ := X
  go_enter Tryd.func15, Tryd.ntmps15
  go_wp2_with fail
  have b1 : Below w.heap.size w ((w.alloc (.cells #[.int .u64 (p : Int), .int .u32 (o : Int), .int .u8 255, .int .u64 (c : Int)] 41)).alloc (.cells #[.int .u64 0, .int .u32 0, .int .u8 0, .int .u64 0] 41)) := (below_alloc w _).alloc (below_alloc w _).size _
  refine (tof_any w0 B g m a h k v ws t es c mask _ (HK.out.grow b1) HS.out HR.out HL.out).mono ?_; rintro e w1 ⟨rfl, L⟩
  rw [HXX.out] at L ⊢
  have HL1 := hide (L.start b1)
  have HC : Hid (CBox w1 w.heap.size p o 255 c) := by
    obtain ⟨v', _, F, _⟩ := L
    exact ((CBox.new w p o 255 c).grow (below_alloc _ _)).ask (HK.out.grow b1) F
  have HD : Hid (CBox w1 (w.heap.size + 1) 0 0 0 0) := by
    obtain ⟨v', _, F, _⟩ := L
    have := (CBox.new (w.alloc (.cells #[.int .u64 (p : Int), .int .u32 (o : Int), .int .u8 255, .int .u64 (c : Int)] 41)) 0 0 0 0).ask (HK.out.grow b1) F
    rw [show w.heap.size + 1 = (w.alloc (.cells #[.int .u64 (p : Int), .int .u32 (o : Int), .int .u8 255, .int .u64 (c : Int)] 41)).heap.size from by simp]
    exact this
  clear L HXX b1
  obtain ⟨G, hG⟩ : ∃ G, w.heap.size + 1 = G := ⟨_, rfl⟩
  rw [hG] at HD ⊢
  have HG := hide hG
  have hne : w.heap.size ≠ G := by omega
  clear hG
  have c0 := HC.out.c0
  have c1 := HC.out.c1
  have c2 := HC.out.c2
  have c3 := HC.out.c3
  have z := HC.out.z
  have d0 : w1.cell? ⟨G, 0, none⟩ = some (.int .u64 0) := HD.out.c0
  have d1 : w1.cell? ⟨G, 1, none⟩ = some (.int .u32 0) := HD.out.c1
  have d2 : w1.cell? ⟨G, 2, none⟩ = some (.int .u8 0) := HD.out.c2
  have d3 : w1.cell? ⟨G, 3, none⟩ = some (.int .u64 0) := HD.out.c3
  have y := HD.out.z
  cases ok <;> simp only [erV]
  · go_wp2
    refine bodyPost_ret (by simp [results, Tryd.results15, go_sem, d0, d1, d2, d3]; rfl) rfl ?_
    have hg := HG.out
    have D := HD.out.capB
    have W := HK.out.new.bel.size
    exact ⟨rfl, (((HL1.out.put D W (by omega) _ _).put (D.set _ _ _) W (by omega) _ _).put ((D.set _ _ _).set _ _ _) W (by omega) _ _).put (((D.set _ _ _).set _ _ _).set _ _ _) W (by omega) _ _⟩
  · go_wp2
    have e0 := fun x y => (World.cell?_setCell_far (w1.setCell ⟨w.heap.size, 2, none⟩ x) ⟨w.heap.size, 3, none⟩ ⟨G, 0, none⟩ y hne).trans ((World.cell?_setCell_far w1 ⟨w.heap.size, 2, none⟩ ⟨G, 0, none⟩ x hne).trans d0)
    have e1 := fun x y => (World.cell?_setCell_far (w1.setCell ⟨w.heap.size, 2, none⟩ x) ⟨w.heap.size, 3, none⟩ ⟨G, 1, none⟩ y hne).trans ((World.cell?_setCell_far w1 ⟨w.heap.size, 2, none⟩ ⟨G, 1, none⟩ x hne).trans d1)
    have e2 := fun x y => (World.cell?_setCell_far (w1.setCell ⟨w.heap.size, 2, none⟩ x) ⟨w.heap.size, 3, none⟩ ⟨G, 2, none⟩ y hne).trans ((World.cell?_setCell_far w1 ⟨w.heap.size, 2, none⟩ ⟨G, 2, none⟩ x hne).trans d2)
    have e3 := fun x y => (World.cell?_setCell_far (w1.setCell ⟨w.heap.size, 2, none⟩ x) ⟨w.heap.size, 3, none⟩ ⟨G, 3, none⟩ y hne).trans ((World.cell?_setCell_far w1 ⟨w.heap.size, 2, none⟩ ⟨G, 3, none⟩ x hne).trans d3)
    refine bodyPost_ret (by simp [results, Tryd.results15, go_sem, e0, e1, e2, e3]; rfl) rfl ?_
    have hg := HG.out
    have C := HC.out.capB
    have D := HD.out.capB
    have W := HK.out.new.bel.size
    have L2 := (HL1.out.put C W (Nat.le_refl _) 2 (.int .u8 mask)).put (C.set _ _ _) W (Nat.le_refl _) 3 (.int .u64 x)
    have D2 := (D.set w.heap.size 2 (.int .u8 mask)).set w.heap.size 3 (.int .u64 x)
    exact ⟨rfl, (((L2.put D2 W (by omega) _ _).put (D2.set _ _ _) W (by omega) _ _).put ((D2.set _ _ _).set _ _ _) W (by omega) _ _).put (((D2.set _ _ _).set _ _ _).set _ _ _) W (by omega) _ _⟩
set_option maxHeartbeats 400000 in
theorem tport_any (w0 : World) (B g m a h k : Nat) (v : Value) (ws : List Nat) (t : Nat) (es : List Ent) (i : Nat) (w : World) (S : Tk w0 w B g m a h k v ws t es) (hi : i ≤ 18446744073709551615) (hl : es.length ≤ 1000) :
    Calls Tryd.prog 11 #[.pointer (some ⟨g, 0, none⟩), .int .u64 (i : Int)] w fun e w' => e = .returned (.tuple #[.int .u64 ((ansF ws t es 0 (i % 281474976710656)).x : Nat), erV (ansF ws t es 0 (i % 281474976710656)).ok]) ∧
      Left w0 w B g m a h k v ws w' (ansF ws t es 0 (i % 281474976710656)) := by
  obtain ⟨X, hX⟩ : ∃ X, ansF ws t es 0 (i % 281474976710656) = X := ⟨_, rfl⟩
  rw [hX]
  have HXX := hide hX
  have HI := hide hi
  have HK := hide S
  have HL := hide hl
  clear hi S hl hX
  obtain ⟨x, ok, t', es'⟩ := X
  go_enter Tryd.func11, Tryd.ntmps11
  go_wp2_with fail
  refine (ask_ans w0 B g m a h k v ws t es 0 i _ HK.out (by omega) HI.out HL.out).mono ?_
  rw [HXX.out]
  rintro e w1 ⟨rfl, L⟩
  have HL1 := hide L
  clear L HXX
  cases ok <;> simp only [erV]
  · go_wp2
    go_ret2
    exact ⟨rfl, HL1.out⟩
  · go_wp2
    go_ret2
    exact ⟨rfl, HL1.out⟩
set_option maxHeartbeats 1600000 in
theorem awake_any (w : World) :
    Calls Tryd.prog 6 #[] w fun e w' => e = .returned (.bool true) ∧ Below w.heap.size w w' := by
  go_enter Tryd.func6, Tryd.ntmps6
  go_wp2_with fail
  refine (oof_any _ ⟨_, rfl⟩ _).mono ?_; rintro e w1 ⟨g, m, rfl, O1, bel1⟩
  have HB1 := hide bel1
  clear O1 bel1
  go_wp2_with fail
  refine (tof_owner _ 5 _ (by omega)).mono ?_; rintro e w2 ⟨rfl, rfl⟩
  rw [show ((5 % 281474976710656 : Nat) : Int) = 5 from rfl]
  go_wp2_with fail
  refine (tres_no _ 0 0 1 0 1 _ (by omega)).mono ?_; rintro e w3 ⟨rfl, bel3⟩
  have HB3 := hide (HB1.out.trans (bel3.mono HB1.out.size))
  clear bel3
  go_wp2_with fail
  refine (is_same 2 _).mono ?_; rintro e w4 ⟨rfl, rfl⟩
  go_wp2
  go_ret
  exact ⟨rfl, HB3.out.alloc HB3.out.size _⟩
/- what came in: two of an oracle of a new tape -/
theorem Tk.made {w0 w1 w2 w3 : World} {a h k g m : Nat} {ws : List Nat} (b1 : Below w0.heap.size w0 w1) (T : TapeAt w2 a h ws 0 k) (ha : w1.heap.size ≤ a) (hh : w1.heap.size ≤ h) (b2 : Below w1.heap.size w1 w2) (O : Orc w3 w2.heap.size g m (.pointer (some ⟨a, 0, none⟩)) (.slice none 0 0) []) (b3 : Below w2.heap.size w2 w3) :
    Tk w0 w3 w2.heap.size g m a h k (.slice none 0 0) ws 0 [] := by
  have hB := b1.trans (b2.mono b1.size)
  exact ⟨O, T.grow b3, ⟨hB.size, Nat.le_trans b1.size ha, Nat.le_trans b1.size hh, hB.trans (b3.mono hB.size), b3.size⟩⟩
end Go.Proofs.YtdpdbiciagplkaaDoor
