/-
  AmapOrder (P10.1): two areas that do not overlap make the same map, whichever is added first: its walk.
-/
import Derived.Test.YtigbicggcohcgaaDoorAAwake
import Derived.Test.YtigbicggcohcgaaDoorAOpen
import Derived.Test.YtigbicggcohcgaaDoorAMath2
namespace Go.Proofs.YtigbicggcohcgaaDoor
open Go.RowKit
def Box5 (w : World) (g : Nat) (x : Ar) : Prop := w.cell? ⟨g, 0, none⟩ = some (.int .i64 x.b) ∧ w.cell? ⟨g, 1, none⟩ = some (.int .i64 x.s) ∧ w.cell? ⟨g, 2, none⟩ = some (.int .i64 x.g) ∧ w.cell? ⟨g, 3, none⟩ = some (.int .i64 x.o) ∧ w.cell? ⟨g, 4, none⟩ = some (.bool x.w)
theorem five_new (w : World) (x : Ar) (t : TypeId) : Box5 (w.alloc (.cells #[.int .i64 x.b, .int .i64 x.s, .int .i64 x.g, .int .i64 x.o, .bool x.w] t)) w.heap.size x := by
  refine ⟨?_, ?_, ?_, ?_, ?_⟩ <;> simp
theorem Box5.lt {w : World} {g : Nat} {x : Ar} (h : Box5 w g x) : g < w.heap.size := lt_of_cell h.1
theorem Box5.carry {w w' : World} {g : Nat} {x : Ar} (h : Box5 w g x) (b : Below w.heap.size w w') : Box5 w' g x := by
  have hl := h.lt
  obtain ⟨h0, h1, h2, h3, h4⟩ := h
  exact ⟨by rw [b.cell (p := ⟨g, 0, none⟩) hl, h0], by rw [b.cell (p := ⟨g, 1, none⟩) hl, h1], by rw [b.cell (p := ⟨g, 2, none⟩) hl, h2], by rw [b.cell (p := ⟨g, 3, none⟩) hl, h3], by rw [b.cell (p := ⟨g, 4, none⟩) hl, h4]⟩
def fillA (w : World) (g : Nat) (x : Ar) : World := ((((w.setCell ⟨g, 0, none⟩ (.int .i64 x.b)).setCell ⟨g, 1, none⟩ (.int .i64 x.s)).setCell ⟨g, 2, none⟩ (.int .i64 x.g)).setCell ⟨g, 3, none⟩ (.int .i64 x.o)).setCell ⟨g, 4, none⟩ (.bool x.w)
theorem fill_box {w : World} {g : Nat} {x y : Ar} (h : Box5 w g y) : Box5 (fillA w g x) g x := by
  obtain ⟨k0, k1, k2, k3, k4⟩ := h
  unfold fillA
  refine ⟨?_, ?_, ?_, ?_, ?_⟩ <;> simp [go_sem, k0, k1, k2, k3, k4]
theorem fill_foot (w : World) (g : Nat) (x : Ar) : Foot (fun k => k = g) w (fillA w g x) :=
  ((((foot_set w ⟨g, 0, none⟩ (.int .i64 x.b)).then (foot_set _ ⟨g, 1, none⟩ (.int .i64 x.s))).then (foot_set _ ⟨g, 2, none⟩ (.int .i64 x.g))).then (foot_set _ ⟨g, 3, none⟩ (.int .i64 x.o))).then (foot_set _ ⟨g, 4, none⟩ (.bool x.w))
theorem fill_far {w : World} {g b : Nat} {x y : Ar} (h : Box5 w g y) (hne : b ≠ g) : Box5 (fillA w b x) g y := by
  have hl := h.lt
  have f := fill_foot w b x
  have c := fun o => f.cell ⟨g, o, none⟩ hl (fun e : g = b => hne e.symm)
  obtain ⟨k0, k1, k2, k3, k4⟩ := h
  exact ⟨by rw [c, k0], by rw [c, k1], by rw [c, k2], by rw [c, k3], by rw [c, k4]⟩
theorem fill_below {B : Nat} {a w : World} {g : Nat} {x : Ar} (h : Below B a w) (hg : B ≤ g) : Below B a (fillA w g x) := by
  unfold fillA
  exact ((((h.setCell hg _).setCell hg _).setCell hg _).setCell hg _).setCell hg _
theorem fill_size (w : World) (g : Nat) (x : Ar) : (fillA w g x).heap.size = w.heap.size := by simp [fillA]
theorem bcell {W w1 : World} (hb : Below W.heap.size W w1) : (∀ b o, b < W.heap.size → w1.cell? ⟨b, o, none⟩ = W.cell? ⟨b, o, none⟩) ∧ (∀ b o, b < W.heap.size → w1.frozen? ⟨b, o, none⟩ = W.frozen? ⟨b, o, none⟩) :=
  ⟨fun b o h => hb.cell (p := ⟨b, o, none⟩) h, fun b o h => hb.frozen (p := ⟨b, o, none⟩) h⟩
def TwoA (w : World) (s t : Ar) (x y : Value) (wx : World) : Prop := ∃ gx gy, x = .pointer (some ⟨gx, 0, none⟩) ∧ y = .pointer (some ⟨gy, 0, none⟩) ∧ Hid (Box5 wx gx s) ∧ Hid (Box5 wx gy t) ∧ Hid (Below w.heap.size w wx)
theorem rel1 {w w1 wy : World} {s t : Ar} (b1 : Below w.heap.size w w1) (bw : Below w1.heap.size w1 wy) :
    TwoA w s t (.pointer (some ⟨wy.heap.size, 0, none⟩)) (.pointer (some ⟨wy.heap.size + 1, 0, none⟩)) ((wy.alloc (.cells #[.int .i64 s.b, .int .i64 s.s, .int .i64 s.g, .int .i64 s.o, .bool s.w] 24)).alloc (.cells #[.int .i64 t.b, .int .i64 t.s, .int .i64 t.g, .int .i64 t.o, .bool t.w] 24)) := by
  have hs : (wy.alloc (.cells #[.int .i64 s.b, .int .i64 s.s, .int .i64 s.g, .int .i64 s.o, .bool s.w] 24)).heap.size = wy.heap.size + 1 := by simp
  have h2 := five_new (wy.alloc (.cells #[.int .i64 s.b, .int .i64 s.s, .int .i64 s.g, .int .i64 s.o, .bool s.w] 24)) t 24
  rw [hs] at h2
  exact ⟨_, _, rfl, rfl, (five_new wy s _).carry (below_alloc _ _), h2, below_one (below_one b1 bw) (below_one (below_alloc wy _) (below_alloc _ _))⟩
theorem rel2 {w w1 wy : World} {s t : Ar} (b1 : Below w.heap.size w w1) (bw : Below w1.heap.size w1 wy) :
    TwoA w s t (.pointer (some ⟨wy.heap.size + 1, 0, none⟩)) (.pointer (some ⟨wy.heap.size, 0, none⟩)) ((wy.alloc (.cells #[.int .i64 t.b, .int .i64 t.s, .int .i64 t.g, .int .i64 t.o, .bool t.w] 24)).alloc (.cells #[.int .i64 s.b, .int .i64 s.s, .int .i64 s.g, .int .i64 s.o, .bool s.w] 24)) := by
  have hs : (wy.alloc (.cells #[.int .i64 t.b, .int .i64 t.s, .int .i64 t.g, .int .i64 t.o, .bool t.w] 24)).heap.size = wy.heap.size + 1 := by simp
  have h2 := five_new (wy.alloc (.cells #[.int .i64 t.b, .int .i64 t.s, .int .i64 t.g, .int .i64 t.o, .bool t.w] 24)) s 24
  rw [hs] at h2
  exact ⟨_, _, rfl, rfl, h2, (five_new wy t _).carry (below_alloc _ _), below_one (below_one b1 bw) (below_one (below_alloc wy _) (below_alloc _ _))⟩
theorem rel3 {w w1 wy : World} {s t : Ar} (g : Nat) (b1 : Below w.heap.size w w1) (bw : Below w1.heap.size w1 wy) (hb : Box5 wy g Ar.zero) (hg : w1.heap.size ≤ g) :
    TwoA w s t (.pointer (some ⟨g, 0, none⟩)) (.pointer (some ⟨wy.heap.size, 0, none⟩)) ((fillA wy g s).alloc (.cells #[.int .i64 t.b, .int .i64 t.s, .int .i64 t.g, .int .i64 t.o, .bool t.w] 24)) := by
  have h2 := five_new (fillA wy g s) t 24
  rw [fill_size] at h2
  exact ⟨_, _, rfl, rfl, (fill_box hb).carry (below_alloc _ _), h2, below_one (below_one b1 (fill_below bw hg)) (below_alloc _ _)⟩
theorem rel5 {w w1 wy : World} {s t : Ar} (g : Nat) (b1 : Below w.heap.size w w1) (bw : Below w1.heap.size w1 wy) (hb : Box5 wy g Ar.zero) (hg : w1.heap.size ≤ g) :
    TwoA w s t (.pointer (some ⟨wy.heap.size, 0, none⟩)) (.pointer (some ⟨g, 0, none⟩)) ((fillA wy g t).alloc (.cells #[.int .i64 s.b, .int .i64 s.s, .int .i64 s.g, .int .i64 s.o, .bool s.w] 24)) := by
  have h2 := five_new (fillA wy g t) s 24
  rw [fill_size] at h2
  exact ⟨_, _, rfl, rfl, h2, (fill_box hb).carry (below_alloc _ _), below_one (below_one b1 (fill_below bw hg)) (below_alloc _ _)⟩
theorem rel4 {w w1 wy : World} {s t : Ar} (g h : Nat) (b1 : Below w.heap.size w w1) (bw : Below w1.heap.size w1 wy) (hb : Box5 wy g Ar.zero) (hc : Box5 wy h Ar.zero) (hne : g ≠ h) (hg : w1.heap.size ≤ g) (hh : w1.heap.size ≤ h) :
    TwoA w s t (.pointer (some ⟨g, 0, none⟩)) (.pointer (some ⟨h, 0, none⟩)) (fillA (fillA wy g s) h t) :=
  ⟨_, _, rfl, rfl, fill_far (fill_box hb) (fun e => hne e.symm), fill_box (fill_far hc hne), below_one b1 (fill_below (fill_below bw hg) hh)⟩
/- the two orders -/
theorem one_add {x : Ar} (hx : okA x) : addE [] x = 0 ∧ addL [] x = [x] := by
  have h := addE_is (L := []) hx (fun _ h => by simp at h) (by decide)
  refine ⟨h, ?_⟩
  unfold addL; rw [if_pos h, putA_ins]; rfl
theorem two_no {x y : Ar} (hl : lapA y x = true) (hy : okA y) : addE [x] y = 14 ∧ addL [x] y = [] := by
  obtain ⟨k1, k2, k3, ⟨k4, _⟩, k5, _⟩ := hy
  have e1 : outA y.b y.s = false := by unfold outA; simp; omega
  have h : addE [x] y = 14 := by
    unfold addE
    rw [if_neg (by rw [e1]; simp; omega), if_neg (by simp; omega), if_pos (by simp [hl])]
  exact ⟨h, by unfold addL; rw [h]; rfl⟩
theorem two_yes {x y : Ar} (hy : okA y) (hl : lapA y x = false) : addE [x] y = 0 ∧ addL [x] y = if x.b < y.b then [x, y] else [y, x] := by
  have h := addE_is (L := [x]) hy (fun z hz => by rw [List.mem_singleton.1 hz]; exact hl) (by simp)
  refine ⟨h, ?_⟩
  unfold addL; rw [if_pos h, putA_ins]
  unfold insA
  split <;> rfl
theorem two_same {x y : Ar} (hx : okA x) (hy : okA y) : addE [x] y = addE [y] x ∧ addL [x] y = addL [y] x := by
  cases hl : lapA y x with
  | true =>
    have a := two_no hl hy
    have b := two_no (by rw [lapA_comm]; exact hl) hx
    exact ⟨a.1.trans b.1.symm, a.2.trans b.2.symm⟩
  | false =>
    have a := two_yes hy hl
    have b := two_yes hx (by rw [lapA_comm]; exact hl)
    refine ⟨a.1.trans b.1.symm, a.2.trans ?_⟩
    rw [b.2]
    have := (lapA_iff hy hx).1 hl
    have := hx.2.1
    have := hy.2.1
    by_cases c : x.b < y.b
    · rw [if_pos c, if_neg (by omega)]
    · rw [if_neg c, if_pos (by omega)]
def OrdRel (w8 : World) (m gk : Nat) (vi : Value) (wr : World) : Prop := ∃ i : Nat, i + gk = m ∧ vi = .int .i64 (i : Int) ∧ Below w8.heap.size w8 wr
set_option maxRecDepth 20000 in
set_option maxHeartbeats 4000000 in
theorem walk_order (a b : Ar) (w : World) (hg : Glob w) :
    Calls Tryd.prog 7 #[.agg #[.int .i64 a.b, .int .i64 a.s, .int .i64 a.g, .int .i64 a.o, .bool a.w], .agg #[.int .i64 b.b, .int .i64 b.s, .int .i64 b.g, .int .i64 b.o, .bool b.w]] w fun e w' => e = .returned (.bool true) ∧ Below w.heap.size w w' := by
  obtain ⟨s, hs⟩ : ∃ s, smallA a = s := ⟨_, rfl⟩
  obtain ⟨t, ht⟩ : ∃ t, smallA b = t := ⟨_, rfl⟩
  have HS := hide hs
  have HT := hide ht
  have HOS := hide (hs ▸ (small_ok a))
  have HOT := hide (ht ▸ (small_ok b))
  have HG := hide hg
  have HB0 := hide (below_one (below_alloc w (.cells #[.int .i64 a.b, .int .i64 a.s, .int .i64 a.g, .int .i64 a.o, .bool a.w] 24)) (below_alloc _ (.cells #[.int .i64 b.b, .int .i64 b.s, .int .i64 b.g, .int .i64 b.o, .bool b.w] 24)))
  have HX0 := hide ((five_new w a 24).carry (below_alloc _ (.cells #[.int .i64 b.b, .int .i64 b.s, .int .i64 b.g, .int .i64 b.o, .bool b.w] 24)))
  have HY0 : Hid (Box5 ((w.alloc (.cells #[.int .i64 a.b, .int .i64 a.s, .int .i64 a.g, .int .i64 a.o, .bool a.w] 24)).alloc (.cells #[.int .i64 b.b, .int .i64 b.s, .int .i64 b.g, .int .i64 b.o, .bool b.w] 24)) (w.heap.size + 1) b) := by
    have h := five_new (w.alloc (.cells #[.int .i64 a.b, .int .i64 a.s, .int .i64 a.g, .int .i64 a.o, .bool a.w] 24)) b 24
    rw [show (w.alloc (.cells #[.int .i64 a.b, .int .i64 a.s, .int .i64 a.g, .int .i64 a.o, .bool a.w] 24)).heap.size = w.heap.size + 1 from by simp] at h
    exact h
  clear hs ht hg
  go_enter Tryd.func7, Tryd.ntmps7
  go_wp2_with fail
  refine (awake_any _ (HG.out.grow HB0.out HG.out.lt)).mono ?_; rintro e w1 ⟨rfl, bel1⟩
  have b1 : Below w.heap.size w w1 := below_one HB0.out bel1
  have HX1 := hide (HX0.out.carry bel1)
  have HY1 := hide (HY0.out.carry bel1)
  clear HB0 HX0 HY0 bel1
  go_wp2_with fail
  go_cut [5, 6] from 16 to 19 (fun x y wx => TwoA w s t x y wx)
  case first =>
    have bb : Below w1.heap.size w1 w1.drew := (Below.refl _ _).drew
    have hz0 : w1.heap.size ≤ w1.heap.size := Nat.le_refl _
    go_region_held (fun w' => (w'.cell? ⟨w.heap.size, 0, none⟩ = some (.int .i64 a.b) ∧ w'.cell? ⟨w.heap.size, 1, none⟩ = some (.int .i64 a.s) ∧ w'.cell? ⟨w.heap.size, 2, none⟩ = some (.int .i64 a.g) ∧ w'.cell? ⟨w.heap.size, 3, none⟩ = some (.int .i64 a.o) ∧ w'.cell? ⟨w.heap.size, 4, none⟩ = some (.bool a.w)) ∧ (w'.cell? ⟨w.heap.size + 1, 0, none⟩ = some (.int .i64 b.b) ∧ w'.cell? ⟨w.heap.size + 1, 1, none⟩ = some (.int .i64 b.s) ∧ w'.cell? ⟨w.heap.size + 1, 2, none⟩ = some (.int .i64 b.g) ∧ w'.cell? ⟨w.heap.size + 1, 3, none⟩ = some (.int .i64 b.o) ∧ w'.cell? ⟨w.heap.size + 1, 4, none⟩ = some (.bool b.w)))
      (exact ⟨HX1.out.carry (by go_grown), HY1.out.carry (by go_grown)⟩)
      (first
        | (go_at_call_of 10 (Value.agg #[.int .i64 a.b, .int .i64 a.s, .int .i64 a.g, .int .i64 a.o, .bool a.w]); refine (small_any a _).mono ?_; rintro e wx ⟨rfl, bel⟩; rw [HS.out]; have bb : Below w1.heap.size w1 wx := below_one (by go_grown) bel; obtain ⟨hc1, hf1⟩ := bcell bel; have hq1 := bel.size; have hzx := bb.size; (try simp only [World.size_alloc, World.size_drew] at hq1); (try have y1 : w1.heap.size < wx.heap.size := by omega); (try have y2 : w1.heap.size + 1 < wx.heap.size := by omega); (try have y3 : w1.heap.size < wx.heap.size + 1 := by omega); (try have y4 : w1.heap.size < wx.heap.size + 1 + 1 := by omega); clear bel)
        | (go_at_call_of 10 (Value.agg #[.int .i64 b.b, .int .i64 b.s, .int .i64 b.g, .int .i64 b.o, .bool b.w]); refine (small_any b _).mono ?_; rintro e wy ⟨rfl, bel⟩; rw [HT.out]; have bb : Below w1.heap.size w1 wy := below_one (by go_grown) bel; obtain ⟨hc2, hf2⟩ := bcell bel; have hq2 := bel.size; have hzy := bb.size; (try simp only [World.size_alloc] at hq2); (try have t1 : w1.heap.size < wy.heap.size := by omega); (try have t2 : w1.heap.size + 1 < wy.heap.size := by omega); (try have t3 : wx.heap.size < wy.heap.size := by omega); (try have t4 : wx.heap.size + 1 < wy.heap.size := by omega); clear bel))
    all_goals go_wp2_with fail
    all_goals go_meet
    · exact rel1 b1 bb
    · exact rel2 b1 bb
    · exact rel3 _ b1 bb (by refine ⟨?_, ?_, ?_, ?_, ?_⟩ <;> go_simp <;> rfl) (by omega)
    · exact rel4 _ _ b1 bb (by refine ⟨?_, ?_, ?_, ?_, ?_⟩ <;> go_simp <;> rfl) (by refine ⟨?_, ?_, ?_, ?_, ?_⟩ <;> go_simp <;> rfl) (by omega) (by omega) (by omega)
    · exact rel5 _ b1 bb (by refine ⟨?_, ?_, ?_, ?_, ?_⟩ <;> go_simp <;> rfl) (by omega)
    · exact rel4 _ _ b1 bb (by refine ⟨?_, ?_, ?_, ?_, ?_⟩ <;> go_simp <;> rfl) (by refine ⟨?_, ?_, ?_, ?_, ?_⟩ <;> go_simp <;> rfl) (by omega) (by omega) (by omega)
    · exact rel3 _ b1 bb (by refine ⟨?_, ?_, ?_, ?_, ?_⟩ <;> go_simp <;> rfl) (by omega)
    · exact rel4 _ _ b1 bb (by refine ⟨?_, ?_, ?_, ?_, ?_⟩ <;> go_simp <;> rfl) (by refine ⟨?_, ?_, ?_, ?_, ?_⟩ <;> go_simp <;> rfl) (by omega) (by omega) (by omega)
    · exact rel4 _ _ b1 bb (by refine ⟨?_, ?_, ?_, ?_, ?_⟩ <;> go_simp <;> rfl) (by refine ⟨?_, ?_, ?_, ?_, ?_⟩ <;> go_simp <;> rfl) (by omega) (by omega) (by omega)
    · exact rel5 _ b1 bb (by refine ⟨?_, ?_, ?_, ?_, ?_⟩ <;> go_simp <;> rfl) (by omega)
    · exact rel4 _ _ b1 bb (by refine ⟨?_, ?_, ?_, ?_, ?_⟩ <;> go_simp <;> rfl) (by refine ⟨?_, ?_, ?_, ?_, ?_⟩ <;> go_simp <;> rfl) (by omega) (by omega) (by omega)
    · exact rel4 _ _ b1 bb (by refine ⟨?_, ?_, ?_, ?_, ?_⟩ <;> go_simp <;> rfl) (by refine ⟨?_, ?_, ?_, ?_, ?_⟩ <;> go_simp <;> rfl) (by omega) (by omega) (by omega)
  case rest =>
    clear HX1 HY1 b1
    obtain ⟨gx, gy, rfl, rfl, HX2, HY2, HB2⟩ := hcut
    obtain ⟨x0, x1, x2, x3, x4⟩ := HX2.out
    obtain ⟨y0, y1, y2, y3, y4⟩ := HY2.out
    go_wp2_with fail
    refine (add_any s none 0 0 [] _ (ars_nil _) HOS.out.1.fit (by decide)).mono ?_; rintro e w3 ⟨r3, c3, rfl, A3, b3⟩
    rw [(one_add HOS.out.1).2] at A3
    rw [(one_add HOS.out.1).1, (one_add HOS.out.1).2, erN_zero]
    have HA3 := hide (show Ars w3 r3 1 c3 [s] from A3)
    have HB3 := hide (below_one HB2.out b3)
    have HX3 := hide (HX2.out.carry b3)
    have HY3 := hide (HY2.out.carry b3)
    clear x0 x1 x2 x3 x4 y0 y1 y2 y3 y4 A3 b3 HX2 HY2 HB2
    obtain ⟨y0, y1, y2, y3, y4⟩ := HY3.out
    go_wp2_with fail
    refine (add_any t r3 1 c3 [s] _ HA3.out HOT.out.1.fit (by simp)).mono ?_; rintro e w4 ⟨r4, c4, rfl, A4, b4⟩
    obtain ⟨K, hK⟩ : ∃ K, addE [s] t = K := ⟨_, rfl⟩
    obtain ⟨R, hR⟩ : ∃ R, addL [s] t = R := ⟨_, rfl⟩
    have HK2 := hide ((two_same HOS.out.1 HOT.out.1).1.symm.trans hK)
    have HR2 := hide ((two_same HOS.out.1 HOT.out.1).2.symm.trans hR)
    obtain ⟨m, hm⟩ : ∃ m, R.length = m := ⟨_, rfl⟩
    rw [hR, hm] at A4
    rw [hK, hR, hm]
    have HK := hide hK
    have HR := hide hR
    have HM := hide hm
    have HM4 := hide A4
    have HB4 := hide (below_one HB3.out b4)
    have HX4 := hide (HX3.out.carry b4)
    have HY4 := hide (HY3.out.carry b4)
    clear y0 y1 y2 y3 y4 A4 b4 HX3 HY3 HB3 HA3 hK hR hm
    obtain ⟨y0, y1, y2, y3, y4⟩ := HY4.out
    go_wp2_with fail
    refine (add_any t none 0 0 [] _ (ars_nil _) HOT.out.1.fit (by decide)).mono ?_; rintro e w5 ⟨r5, c5, rfl, A5, b5⟩
    rw [(one_add HOT.out.1).2] at A5
    rw [(one_add HOT.out.1).1, (one_add HOT.out.1).2, erN_zero]
    have HA5 := hide (show Ars w5 r5 1 c5 [t] from A5)
    have HB5 := hide (below_one HB4.out b5)
    have HX5 := hide (HX4.out.carry b5)
    have HY5 := hide (HY4.out.carry b5)
    have HM5 := hide (HM4.out.carry b5)
    clear y0 y1 y2 y3 y4 A5 b5 HX4 HY4 HB4 HM4
    obtain ⟨x0, x1, x2, x3, x4⟩ := HX5.out
    go_wp2_with fail
    refine (add_any s r5 1 c5 [t] _ HA5.out HOS.out.1.fit (by simp)).mono ?_; rintro e w6 ⟨r6, c6, rfl, A6, b6⟩
    rw [HR2.out, HM.out] at A6
    rw [HK2.out, HR2.out, HM.out]
    have HN6 := hide A6
    have HB6 := hide (below_one HB5.out b6)
    have HX6 := hide (HX5.out.carry b6)
    have HY6 := hide (HY5.out.carry b6)
    have HM6 := hide (HM5.out.carry b6)
    have hc4 : c4 ≤ 9223372036854775807 := HM6.out.2.2.1
    have hm4 : m ≤ c4 := HM6.out.2.1
    have hc6 : c6 ≤ 9223372036854775807 := HN6.out.2.2.1
    have hm6 : m ≤ c6 := HN6.out.2.1
    have hmm : ((m : Int) == (m : Int)) = true := by simp
    clear x0 x1 x2 x3 x4 A6 b6 HX5 HY5 HB5 HM5 HA5
    cases hl : lapA t s with
    | true =>
      have hk14 : K = 14 := HK.out.symm.trans (two_no hl HOT.out.1).1
      have hno : ¬ (t.b + t.s ≤ s.b) ∧ ¬ (s.b + s.s ≤ t.b) := by
        have := (lapA_iff HOT.out.1 HOS.out.1).2
        rw [hl] at this
        constructor
        · intro c; cases this (.inl c)
        · intro c; cases this (.inr c)
      have HNO := hide hno
      subst hk14
      rw [erN_not (by decide)]
      clear hl hno
      go_wp2_with fail
      go_quiet (fail)
      go_wp2
      go_loopg [64] m (fun gk vi wr => OrdRel w6 m gk vi wr)
      case atStart => exact ⟨0, by omega, rfl, below_drewN (Below.refl _ _) _⟩
      case round =>
        obtain ⟨k, hk, rfl, b9⟩ := hrel
        have HB9 := hide b9
        clear b9
        cases gk with
        | zero =>
          obtain rfl : k = m := by omega
          have hlt : ¬ ((k : Int) < (k : Int)) := by omega
          have HX9 := hide (HX6.out.carry HB9.out)
          have HY9 := hide (HY6.out.carry HB9.out)
          have x0 := fun q => (show (wr.drewN q).cell? _ = _ from HX9.out.1)
          have x1 := fun q => (show (wr.drewN q).cell? _ = _ from HX9.out.2.1)
          have y0 := fun q => (show (wr.drewN q).cell? _ = _ from HY9.out.1)
          have y1 := fun q => (show (wr.drewN q).cell? _ = _ from HY9.out.2.1)
          have hw1 : IntKind.i64.wrap (s.b + s.s) = s.b + s.s := wrap_in ⟨by have := HOS.out.1.1; have := HOS.out.1.2.1; omega, by have := HOS.out.2.1; omega⟩
          have hw2 : IntKind.i64.wrap (t.b + t.s) = t.b + t.s := wrap_in ⟨by have := HOT.out.1.1; have := HOT.out.1.2.1; omega, by have := HOT.out.2.1; omega⟩
          have c1 : ¬ (s.b + s.s ≤ t.b) := by have := HNO.out; omega
          have c2 : ¬ (t.b + t.s ≤ s.b) := by have := HNO.out; omega
          go_wp2_with fail
          go_quiet (fail)
          go_wp2
          go_ret
          refine ⟨?_, below_drewN (HB6.out.trans (HB9.out.mono HB6.out.size)) _⟩
          show Ending.returned (Value.bool (!decide (s.b + s.s ≤ t.b) && !decide (t.b + t.s ≤ s.b))) = _
          rw [decide_eq_false (show ¬ (s.b + s.s ≤ t.b) by have := HNO.out; omega), decide_eq_false (show ¬ (t.b + t.s ≤ s.b) by have := HNO.out; omega)]
          rfl
        | succ g1 =>
          have hlt : (k : Int) < (m : Int) := by omega
          have hki : k < m := by omega
          obtain ⟨ad, rfl⟩ := HM6.out.there hki
          obtain ⟨ad', rfl⟩ := HN6.out.there hki
          obtain ⟨y, hy⟩ : ∃ y, R.getD k Ar.zero = y := ⟨_, rfl⟩
          have HE1 := hide ((HM6.out.carry HB9.out).elem k hki)
          have HE2 := hide ((HN6.out.carry HB9.out).elem k hki)
          rw [hy] at HE1 HE2
          have c0 := fun q => (show (wr.drewN q).cell? _ = _ from HE1.out.c0)
          have d0 := fun q => (show (wr.drewN q).cell? _ = _ from HE2.out.c0)
          have c1 := fun q => (show (wr.drewN q).cell? _ = _ from HE1.out.c1)
          have d1 := fun q => (show (wr.drewN q).cell? _ = _ from HE2.out.c1)
          have c2 := fun q => (show (wr.drewN q).cell? _ = _ from HE1.out.c2)
          have d2 := fun q => (show (wr.drewN q).cell? _ = _ from HE2.out.c2)
          have c3 := fun q => (show (wr.drewN q).cell? _ = _ from HE1.out.c3)
          have d3 := fun q => (show (wr.drewN q).cell? _ = _ from HE2.out.c3)
          have c4 := fun q => (show (wr.drewN q).cell? _ = _ from HE1.out.c4)
          have d4 := fun q => (show (wr.drewN q).cell? _ = _ from HE2.out.c4)
          have hne : ∀ W, (binOp .neq 24 (.agg #[.int .i64 y.b, .int .i64 y.s, .int .i64 y.g, .int .i64 y.o, .bool y.w]) (.agg #[.int .i64 y.b, .int .i64 y.s, .int .i64 y.g, .int .i64 y.o, .bool y.w])).run Tryd.prog W = .ok (.bool false) W := fun W => by rw [neq_area, show sameA y y = true from decide_eq_true rfl]; rfl
          have hgd := eqGuardA
          clear hy
          go_wp2_with fail
          go_quiet (fail)
          go_wp2
          go_roundg g1
          case measure => omega
          case rel => exact ⟨k + 1, by omega, by go_num, below_drewN HB9.out _⟩
    | false =>
      have hk0 : K = 0 := HK.out.symm.trans (two_yes HOT.out.1 hl).1
      have HYES := hide ((lapA_iff HOT.out.1 HOS.out.1).1 hl)
      subst hk0
      rw [erN_zero]
      clear hl
      go_wp2_with fail
      go_quiet (fail)
      go_wp2
      go_loopg [64] m (fun gk vi wr => OrdRel w6 m gk vi wr)
      case atStart => exact ⟨0, by omega, rfl, below_drewN (Below.refl _ _) _⟩
      case round =>
        obtain ⟨k, hk, rfl, b9⟩ := hrel
        have HB9 := hide b9
        clear b9
        cases gk with
        | zero =>
          obtain rfl : k = m := by omega
          have hlt : ¬ ((k : Int) < (k : Int)) := by omega
          have HX9 := hide (HX6.out.carry HB9.out)
          have HY9 := hide (HY6.out.carry HB9.out)
          have x0 := fun q => (show (wr.drewN q).cell? _ = _ from HX9.out.1)
          have x1 := fun q => (show (wr.drewN q).cell? _ = _ from HX9.out.2.1)
          have y0 := fun q => (show (wr.drewN q).cell? _ = _ from HY9.out.1)
          have y1 := fun q => (show (wr.drewN q).cell? _ = _ from HY9.out.2.1)
          have hw1 : IntKind.i64.wrap (s.b + s.s) = s.b + s.s := wrap_in ⟨by have := HOS.out.1.1; have := HOS.out.1.2.1; omega, by have := HOS.out.2.1; omega⟩
          have hw2 : IntKind.i64.wrap (t.b + t.s) = t.b + t.s := wrap_in ⟨by have := HOT.out.1.1; have := HOT.out.1.2.1; omega, by have := HOT.out.2.1; omega⟩
          by_cases c1 : s.b + s.s ≤ t.b
          · go_wp2_with fail
            go_quiet (fail)
            go_wp2
            go_ret
            exact ⟨rfl, below_drewN (HB6.out.trans (HB9.out.mono HB6.out.size)) _⟩
          · have c2 : t.b + t.s ≤ s.b := by have := HYES.out; omega
            go_wp2_with fail
            go_quiet (fail)
            go_wp2
            go_ret
            exact ⟨rfl, below_drewN (HB6.out.trans (HB9.out.mono HB6.out.size)) _⟩
        | succ g1 =>
          have hlt : (k : Int) < (m : Int) := by omega
          have hki : k < m := by omega
          obtain ⟨ad, rfl⟩ := HM6.out.there hki
          obtain ⟨ad', rfl⟩ := HN6.out.there hki
          obtain ⟨y, hy⟩ : ∃ y, R.getD k Ar.zero = y := ⟨_, rfl⟩
          have HE1 := hide ((HM6.out.carry HB9.out).elem k hki)
          have HE2 := hide ((HN6.out.carry HB9.out).elem k hki)
          rw [hy] at HE1 HE2
          have c0 := fun q => (show (wr.drewN q).cell? _ = _ from HE1.out.c0)
          have d0 := fun q => (show (wr.drewN q).cell? _ = _ from HE2.out.c0)
          have c1 := fun q => (show (wr.drewN q).cell? _ = _ from HE1.out.c1)
          have d1 := fun q => (show (wr.drewN q).cell? _ = _ from HE2.out.c1)
          have c2 := fun q => (show (wr.drewN q).cell? _ = _ from HE1.out.c2)
          have d2 := fun q => (show (wr.drewN q).cell? _ = _ from HE2.out.c2)
          have c3 := fun q => (show (wr.drewN q).cell? _ = _ from HE1.out.c3)
          have d3 := fun q => (show (wr.drewN q).cell? _ = _ from HE2.out.c3)
          have c4 := fun q => (show (wr.drewN q).cell? _ = _ from HE1.out.c4)
          have d4 := fun q => (show (wr.drewN q).cell? _ = _ from HE2.out.c4)
          have hne : ∀ W, (binOp .neq 24 (.agg #[.int .i64 y.b, .int .i64 y.s, .int .i64 y.g, .int .i64 y.o, .bool y.w]) (.agg #[.int .i64 y.b, .int .i64 y.s, .int .i64 y.g, .int .i64 y.o, .bool y.w])).run Tryd.prog W = .ok (.bool false) W := fun W => by rw [neq_area, show sameA y y = true from decide_eq_true rfl]; rfl
          have hgd := eqGuardA
          clear hy
          go_wp2_with fail
          go_quiet (fail)
          go_wp2
          go_roundg g1
          case measure => omega
          case rel => exact ⟨k + 1, by omega, by go_num, below_drewN HB9.out _⟩
end Go.Proofs.YtigbicggcohcgaaDoor
