/-
  What match's helpers answer, as contracts: its function values, alone, find, Waits, Len, Cancel.
-/
import Derived.Test.YtfjchchjdjjepaaDoorJIdx
namespace Go.Proofs.YtfjchchjdjjepaaDoor
open Go.RowKit
def isP (x : Int) (y : Wt) : Bool := y.p == x
def isT (x : Int) (y : Wt) : Bool := y.t == x
def isTo (x : Int) (y : Ms) : Bool := y.ta == x
set_option maxHeartbeats 800000 in
theorem off_asks (g : Nat) (c : Int) : AsksW 14 g (.int .u64 c) (isP c) := by
  refine ⟨fun xs w => by kernel_rfl, ?_⟩
  intro y w hc
  have hg := lt_of_cell hc
  replace hg : g < w.heap.size := hg
  obtain ⟨r, hr⟩ : ∃ r, (y.p == c) = r := ⟨_, rfl⟩
  rw [show isP c y = r from hr]
  go_enter Tryd.func14, Tryd.ntmps14
  go_wp2
  go_ret
  exact ⟨rfl, below_alloc _ _⟩
set_option maxHeartbeats 800000 in
theorem fnd_asks (g : Nat) (c : Int) : AsksW 23 g (.int .i64 c) (isT c) := by
  refine ⟨fun xs w => by kernel_rfl, ?_⟩
  intro y w hc
  have hg := lt_of_cell hc
  replace hg : g < w.heap.size := hg
  obtain ⟨r, hr⟩ : ∃ r, (y.t == c) = r := ⟨_, rfl⟩
  rw [show isT c y = r from hr]
  go_enter Tryd.func23, Tryd.ntmps23
  go_wp2
  go_ret
  exact ⟨rfl, below_alloc _ _⟩
set_option maxHeartbeats 800000 in
theorem get_asks (g : Nat) (c : Int) : AsksM 20 g (.int .u64 c) (isTo c) := by
  refine ⟨fun xs w => by kernel_rfl, ?_⟩
  intro y w hc
  have hg := lt_of_cell hc
  replace hg : g < w.heap.size := hg
  obtain ⟨r, hr⟩ : ∃ r, (y.ta == c) = r := ⟨_, rfl⟩
  rw [show isTo c y = r from hr]
  go_enter Tryd.func20, Tryd.ntmps20
  go_wp2
  go_ret
  exact ⟨rfl, below_alloc _ _⟩
theorem size_al (w : World) (o : Obj) : (w.alloc o).heap.size = w.heap.size + 1 := by simp
structure AlEnd (w : World) (p p' : Ms) (w' : World) : Prop where
  nm : p'.nm = p.nm
  sn : p'.sn = p.sn
  has : p'.has w'
  new : New w p'.so
  b : Below w.heap.size w w'
set_option maxRecDepth 20000 in
set_option maxHeartbeats 1600000 in
theorem alone_any (p : Ms) (w : World) (hp : p.has w) (hs : p.sn ≤ 140737488355328) :
    Calls Tryd.prog 17 #[.agg #[.int .u64 p.ta, .int .u64 p.rp, .int .u32 p.id, .int .u16 p.op, .int .u16 p.st, .int .u64 p.p, .int .u32 p.o, .int .u8 p.r, .int .u64 p.c, .int .u64 p.ar, .slice p.so p.sn p.sc]] w fun e w' => ∃ p', e = .returned (.agg #[.int .u64 p'.ta, .int .u64 p'.rp, .int .u32 p'.id, .int .u16 p'.op, .int .u16 p'.st, .int .u64 p'.p, .int .u32 p'.o, .int .u8 p'.r, .int .u64 p'.c, .int .u64 p'.ar, .slice p'.so p'.sn p'.sc]) ∧ AlEnd w p p' w' := by
  obtain ⟨X, hX⟩ : ∃ X, (w.alloc (.cells #[.int .u64 p.ta, .int .u64 p.rp, .int .u32 p.id, .int .u16 p.op, .int .u16 p.st, .int .u64 p.p, .int .u32 p.o, .int .u8 p.r, .int .u64 p.c, .int .u64 p.ar, .slice p.so p.sn p.sc] 37)).alloc (.cells #[.int .u64 0, .int .u64 0, .int .u32 0, .int .u16 0, .int .u16 0, .int .u64 0, .int .u32 0, .int .u8 0, .int .u64 0, .int .u64 0, .slice none 0 0] 37) = X := ⟨_, rfl⟩
  have hb : Below w.heap.size w X := hX ▸ below_one (below_alloc w _) (below_alloc _ _)
  have bp : BoxM X w.heap.size p := hX ▸ (boxM_new w p).grow (below_alloc _ _)
  have bq : BoxM X (w.heap.size + 1) Ms.zero := by rw [← hX, ← size_al w (.cells #[.int .u64 p.ta, .int .u64 p.rp, .int .u32 p.id, .int .u16 p.op, .int .u16 p.st, .int .u64 p.p, .int .u32 p.o, .int .u8 p.r, .int .u64 p.c, .int .u64 p.ar, .slice p.so p.sn p.sc] 37)]; exact boxM_new (w.alloc (.cells #[.int .u64 p.ta, .int .u64 p.rp, .int .u32 p.id, .int .u16 p.op, .int .u16 p.st, .int .u64 p.p, .int .u32 p.o, .int .u8 p.r, .int .u64 p.c, .int .u64 p.ar, .slice p.so p.sn p.sc] 37)) Ms.zero
  have HB := hide hb
  have HBP := hide bp
  have HBQ := hide bq
  have HPX := hide (Bts.carry hp hb)
  have c10 := bp.all.2.2.2.2.2.2.2.2.2.2
  clear bp bq hb
  go_enter Tryd.func17, Tryd.ntmps17
  go_wp2_with fail
  refine (clone_any _ _ _ p.l _ HPX.out hs).mono ?_; rintro e w2 ⟨co, cc, rfl, B2, N2, b2⟩
  have hbx := HBP.out.grow b2
  have hby := HBQ.out.grow b2
  have d10 := hbx.all.2.2.2.2.2.2.2.2.2.2
  have dz10 := hbx.z 10
  obtain ⟨W, hW⟩ : ∃ W, w2.setCell ⟨w.heap.size, 10, none⟩ (.slice co p.sn cc) = W := ⟨_, rfl⟩
  obtain ⟨p', hp'⟩ : ∃ p' : Ms, p.at co p.sn cc = p' := ⟨_, rfl⟩
  have hbw : BoxM W w.heap.size p' := by rw [← hW, ← hp']; exact hbx.put10 co p.sn cc
  have ftW : Foot (fun jj => jj = w.heap.size) w2 W := by rw [← hW]; exact foot_set w2 ⟨w.heap.size, 10, none⟩ _
  have hbz : BoxM W (w.heap.size + 1) Ms.zero := (ftW.block _ (lt_of_heap hby) (by omega)).trans hby
  have HW1 : Hid (Foot (fun jj => w.heap.size ≤ jj ∧ jj ≤ w.heap.size + 1) w W) := ((below_foot _ (below_one HB.out b2)).then (ftW.mono (fun k e => by omega)))
  have hXs : w.heap.size + 1 < X.heap.size := lt_of_heap HBQ.out
  have HH : Hid (Bts W co p.sn cc p.l ∧ New w co ∧ New X co) := by
    refine ⟨Bts.foot B2 ftW (fun ad e _ => ?_), New.le N2 HB.out.size, N2⟩
    have := N2 ad e
    omega
  obtain ⟨k0, k1, k2, k3, k4, k5, k6, k7, k8, k9, k10⟩ := hbw.all
  obtain ⟨y0, y1, y2, y3, y4, y5, y6, y7, y8, y9, y10⟩ := hbz.all
  have z0 := hbz.z 0
  have z1 := hbz.z 1
  have z2 := hbz.z 2
  have z3 := hbz.z 3
  have z4 := hbz.z 4
  have z5 := hbz.z 5
  have z6 := hbz.z 6
  have z7 := hbz.z 7
  have z8 := hbz.z 8
  have z9 := hbz.z 9
  have z10 := hbz.z 10
  obtain ⟨V, hV⟩ : ∃ V, lay11 W (w.heap.size + 1) p' = V := ⟨_, rfl⟩
  have hbv : BoxM V (w.heap.size + 1) p' := hV ▸ hbz.lay p'
  have ftV : Foot (fun j => j = w.heap.size + 1) W V := hV ▸ foot_lay11 W _ p'
  unfold lay11 at hV
  obtain ⟨v0, v1, v2, v3, v4, v5, v6, v7, v8, v9, v10⟩ := hbv.all
  have HEND : Hid (AlEnd w p p' V) := by
    refine ⟨by rw [← hp']; rfl, by rw [← hp']; rfl, ?_, by rw [← hp']; exact HH.out.2.1, ((HW1.out.then (ftV.mono (fun k e => by omega))).below (Nat.le_refl _) (fun k e => e.1))⟩
    show Bts _ _ _ _ _
    rw [← hp']
    refine Bts.foot HH.out.1 ftV (fun ad e _ => ?_)
    have := HH.out.2.2 ad e
    omega
  clear hbx hby hbw hbz ftW B2 N2 b2 hp' hbv ftV hXs
  go_wp2
  refine bodyPost_ret (by simp [results, Tryd.results17, go_sem, v0, v1, v2, v3, v4, v5, v6, v7, v8, v9, v10]; rfl) rfl ?_
  exact ⟨p', rfl, HEND.out⟩
variable {w w' : World} {g : Nat} {S : Nat → Prop} {T : List Wt} {L : List Ms}
set_option maxRecDepth 20000 in
set_option maxHeartbeats 800000 in
theorem find_any (t : Int) (w : World) (x : St w g S T L) :
    Calls Tryd.prog 12 #[.pointer (some ⟨g, 0, none⟩), .int .i64 t] w fun e w' => ∃ r, e = .returned (.int .i64 r) ∧ IdxWIs (isT t) T r ∧ Below w.heap.size w w' := by
  obtain ⟨ao, ac, bo, bc, K, x, _⟩ := x
  obtain ⟨X, hX⟩ : ∃ X, w.alloc (.cells #[.int .i64 t] 3) = X := ⟨_, rfl⟩
  have bX : Below w.heap.size w X := hX ▸ below_alloc w _
  have HC : Hid (X.cell? ⟨w.heap.size, 0, none⟩ = some (.int .i64 t)) := by show _ = _; rw [← hX]; simp
  have HB := hide bX
  have HT := hide ((x.grow bX).thr)
  have k0 := (x.grow bX).c0
  clear bX x
  go_enter Tryd.func12, Tryd.ntmps12
  go_wp2_with fail
  refine (index_anyW _ (isT t) _ w.heap.size ao _ ac T _ HT.out HC.out (fnd_asks _ t)).mono ?_; rintro e w1 ⟨r, rfl, hr, b1⟩
  have HR := hide hr
  have HB1 := hide (below_one HB.out b1)
  clear b1 hr
  go_wp2
  go_ret
  exact ⟨r, rfl, HR.out, HB1.out⟩
/- does a thread wait -/
def waitsF (T : List Wt) (t : Int) : Bool := T.any (isT t)
theorem getW_mem (T : List Wt) (k : Nat) (h : k < T.length) : T.getD k Wt.zero ∈ T := by
  rw [List.getD_eq_getElem?_getD, List.getElem?_eq_getElem h]; exact List.getElem_mem h
theorem any_no {q : Wt → Bool} {T : List Wt} (h : ∀ j, j < T.length → q (T.getD j Wt.zero) = false) : T.any q = false := by
  rw [List.any_eq_false]
  intro y hy
  obtain ⟨j, hj, rfl⟩ := List.mem_iff_getElem.1 hy
  have := h j hj
  rw [List.getD_eq_getElem?_getD, List.getElem?_eq_getElem hj, Option.getD_some] at this
  rw [this]; decide
theorem any_yes {q : Wt → Bool} {T : List Wt} {i : Nat} (hi : i < T.length) (h : q (T.getD i Wt.zero) = true) : T.any q = true := by
  rw [List.any_eq_true]
  exact ⟨_, getW_mem T i hi, h⟩
theorem idxW_any {q : Wt → Bool} {T : List Wt} {r : Int} (h : IdxWIs q T r) : T.any q = decide (0 ≤ r) := by
  rcases h with ⟨rfl, h⟩ | ⟨i, hi, rfl, h, _⟩
  · rw [any_no h]; rfl
  · rw [any_yes hi h, decide_eq_true (by omega)]
set_option maxRecDepth 20000 in
set_option maxHeartbeats 800000 in
theorem waits_any (t : Int) (w : World) (x : St w g S T L) :
    Calls Tryd.prog 5 #[.pointer (some ⟨g, 0, none⟩), .int .i64 t] w fun e w' => e = .returned (.bool (waitsF T t)) ∧ Below w.heap.size w w' := by
  have HX := hide x
  clear x
  go_enter Tryd.func5, Tryd.ntmps5
  go_wp2_with fail
  refine (find_any t _ HX.out).mono ?_; rintro e w1 ⟨r, rfl, hr, b1⟩
  have HR := hide (idxW_any hr)
  have HB1 := hide b1
  clear b1 hr
  go_wp2
  go_ret
  exact ⟨by unfold waitsF; rw [HR.out]; rfl, HB1.out⟩
set_option maxHeartbeats 800000 in
theorem len_any (w : World) (x : St w g S T L) :
    Calls Tryd.prog 11 #[.pointer (some ⟨g, 0, none⟩)] w fun e w' => e = .returned (.tuple #[.int .i64 (T.length : Int), .int .i64 (L.length : Int)]) ∧ Below w.heap.size w w' := by
  obtain ⟨ao, ac, bo, bc, K, x, _, _, rfl⟩ := x
  have c0 : ∀ q, (w.drewN q).cell? ⟨g, 0, none⟩ = _ := fun q => x.c0
  have c1 : ∀ q, (w.drewN q).cell? ⟨g, 1, none⟩ = _ := fun q => x.c1
  rw [List.length_map]
  clear x
  go_enter Tryd.func11, Tryd.ntmps11
  go_wp2_with fail
  go_quiet (fail)
  go_wp2
  go_ret2
  exact ⟨rfl, below_drewN (Below.refl _ _) _⟩
set_option maxRecDepth 20000 in
set_option maxHeartbeats 800000 in
theorem cancel_no (t : Int) (w : World) (x : St w g S T L) (h : waitsF T t = false) :
    Calls Tryd.prog 10 #[.pointer (some ⟨g, 0, none⟩), .int .i64 t] w fun e w' => e = .returned (.bool false) ∧ Below w.heap.size w w' := by
  have HX := hide x
  have HH := hide h
  clear x h
  go_enter Tryd.func10, Tryd.ntmps10
  go_wp2_with fail
  refine (find_any t _ HX.out).mono ?_; rintro e w1 ⟨r, rfl, hr, b1⟩
  have hneg : r < 0 := by
    have := idxW_any hr
    have h2 : T.any (isT t) = false := HH.out
    rw [h2] at this
    exact Int.not_le.1 (of_decide_eq_false this.symm)
  have HB1 := hide b1
  clear b1 hr
  go_wp2
  go_ret
  exact ⟨rfl, HB1.out⟩
/- the first one that is asked for -/
def First {α : Type} (q : α → Bool) (z : α) (T : List α) (i : Nat) : Prop := i < T.length ∧ q (T.getD i z) = true ∧ ∀ j, j < i → q (T.getD j z) = false
theorem First.eq {α : Type} {q : α → Bool} {z : α} {T : List α} {i j : Nat} (h : First q z T i) (k : First q z T j) : i = j := by
  rcases Nat.lt_trichotomy i j with e | e | e
  · have := k.2.2 i e; rw [h.2.1] at this; cases this
  · exact e
  · have := h.2.2 j e; rw [k.2.1] at this; cases this
theorem idxW_first {q : Wt → Bool} {T : List Wt} {r : Int} {i : Nat} (h : IdxWIs q T r) (k : First q Wt.zero T i) : r = (i : Int) := by
  rcases h with ⟨_, h⟩ | ⟨j, h1, h2, h3, h4⟩
  · have := h i k.1; rw [k.2.1] at this; cases this
  · rw [h2, k.eq ⟨h1, h3, h4⟩]
theorem idxW_no {q : Wt → Bool} {T : List Wt} {r : Int} (h : IdxWIs q T r) (k : T.any q = false) : r = -1 := by
  rcases h with ⟨e, _⟩ | ⟨j, h1, h2, h3, h4⟩
  · exact e
  · rw [any_yes h1 h3] at k; cases k
theorem idxM_first {q : Ms → Bool} {T : List Ms} {r : Int} {i : Nat} (h : IdxMIs q T r) (k : First q Ms.zero T i) : r = (i : Int) := by
  rcases h with ⟨_, h⟩ | ⟨j, h1, h2, h3, h4⟩
  · have := h i k.1; rw [k.2.1] at this; cases this
  · rw [h2, k.eq ⟨h1, h3, h4⟩]
theorem anyM_yes {q : Ms → Bool} {T : List Ms} {i : Nat} (hi : i < T.length) (h : q (T.getD i Ms.zero) = true) : T.any q = true := by
  rw [List.any_eq_true]
  exact ⟨_, getM_mem T i hi, h⟩
theorem idxM_no {q : Ms → Bool} {T : List Ms} {r : Int} (h : IdxMIs q T r) (k : T.any q = false) : r = -1 := by
  rcases h with ⟨e, _⟩ | ⟨j, h1, h2, h3, h4⟩
  · exact e
  · rw [anyM_yes h1 h3] at k; cases k
set_option maxRecDepth 20000 in
set_option maxHeartbeats 1600000 in
theorem cancel_yes (t : Int) (i : Nat) (w : World) (x : St w g S T L) (hS : ∀ k, S k → k < w.heap.size) (h : First (isT t) Wt.zero T i) :
    Calls Tryd.prog 10 #[.pointer (some ⟨g, 0, none⟩), .int .i64 t] w fun e w' => e = .returned (.bool true) ∧ MtEnd w g S (T.eraseIdx i) L w' := by
  have HX := hide x
  have HH := hide h
  have HS := hide hS
  clear x h hS
  go_enter Tryd.func10, Tryd.ntmps10
  go_wp2_with fail
  refine (find_any t _ HX.out).mono ?_; rintro e w1 ⟨r, rfl, hr, b1⟩
  obtain rfl := idxW_first hr HH.out
  have hneg : ¬ ((i : Int) < 0) := by omega
  obtain ⟨ao, ac, bo, bc, K, x1, hT, hR, hK⟩ := HX.out.grow b1
  have HX1 := hide x1
  have HT := hide hT
  have HR := hide hR
  have HK := hide hK
  have HB1 := hide b1
  have k0 := x1.c0
  clear b1 hr x1 hT hR hK
  go_wp2_with fail
  refine (without_anyW i ao _ ac T _ HX1.out.thr HH.out.1 HX1.out.few.1).mono ?_; rintro e w2 ⟨co, c, rfl, hl, b2, hn⟩
  have d0 := (HX1.out.grow b2).c0
  have z0 := (HX1.out.grow b2).z 0
  have HEND := hide (HX1.out.put0 (S := S) HR.out (fun k hk => Nat.lt_of_lt_of_le (HS.out k hk) HB1.out.size) hl b2 hn (Nat.le_trans (List.length_eraseIdx_le T i) HX1.out.few.1))
  clear hl b2 hn k0
  go_wp2
  go_ret
  exact ⟨rfl, by rw [← HK.out]; exact HEND.out.from HB1.out⟩
end Go.Proofs.YtfjchchjdjjepaaDoor
