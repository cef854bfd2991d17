/-
  What served's find and forget answer, as contracts.
-/
import Derived.Test.YtnkfdnmaocfjnaaDoorNIdx
import Derived.Laws.CopyRow
namespace Go.Proofs.YtnkfdnmaocfjnaaDoor
open Go.RowKit
variable {w w' : World} {g : Nat} {T L : List Rq}
def isR (rp id : Int) (y : Rq) : Bool := y.p == rp && y.i == id
def isB (y : Rq) : Bool := y.b
set_option maxRecDepth 20000 in
set_option maxHeartbeats 1600000 in
theorem find_asks (h : Nat) (p : Ms) : AsksR 18 #[.pointer (some ⟨h, 0, none⟩)] (fun w => BoxM w h p) (isR p.rp p.id) := by
  refine ⟨fun xs w => by kernel_rfl, fun w w' hb b => BoxM.grow hb b, ?_⟩
  intro y w hb
  have hg := lt_of_heap hb
  have k1 := hb.all.2.1
  have k2 := hb.all.2.2.1
  obtain ⟨r, hr⟩ : ∃ r, (y.p == p.rp) = r := ⟨_, rfl⟩
  obtain ⟨s, hs⟩ : ∃ s, (y.i == p.id) = s := ⟨_, rfl⟩
  rw [show isR p.rp p.id y = (r && s) by unfold isR; rw [hr, hs]]
  show Calls _ _ #[.agg #[.int .u64 y.p, .int .u32 y.i, .bool y.b, .int .u64 y.m.ta, .int .u64 y.m.rp, .int .u32 y.m.id, .int .u16 y.m.op, .int .u16 y.m.st, .int .u64 y.m.p, .int .u32 y.m.o, .int .u8 y.m.r, .int .u64 y.m.c, .int .u64 y.m.ar, .slice y.m.so y.m.sn y.m.sc], .pointer (some ⟨h, 0, none⟩)] _ _
  clear hb
  cases r with
  | false =>
    have hne : ¬ y.p = p.rp := by simpa using hr
    clear hr hs
    go_enter Tryd.func18, Tryd.ntmps18
    go_wp2
    go_ret
    exact ⟨rfl, below_alloc _ _⟩
  | true =>
    go_enter Tryd.func18, Tryd.ntmps18
    go_wp2
    go_ret
    exact ⟨rfl, below_alloc _ _⟩
set_option maxRecDepth 20000 in
set_option maxHeartbeats 1600000 in
theorem forget_asks : AsksR 20 #[] (fun _ => True) isB := by
  refine ⟨fun xs w => by kernel_rfl, fun w w' _ _ => trivial, ?_⟩
  intro y w _
  show Calls _ _ #[.agg #[.int .u64 y.p, .int .u32 y.i, .bool y.b, .int .u64 y.m.ta, .int .u64 y.m.rp, .int .u32 y.m.id, .int .u16 y.m.op, .int .u16 y.m.st, .int .u64 y.m.p, .int .u32 y.m.o, .int .u8 y.m.r, .int .u64 y.m.c, .int .u64 y.m.ar, .slice y.m.so y.m.sn y.m.sc]] _ _
  unfold isB
  go_enter Tryd.func20, Tryd.ntmps20
  go_wp2
  go_ret
  exact ⟨rfl, below_alloc _ _⟩
/- s.requests[:n] -/
theorem Tryd.cut_h (W : World) (g n : Nat) (hn : n ≤ 32) : (Instr.sliceAt 35 (.pointer (some ⟨g, 0, none⟩)) none (some (.int .i64 (n : Int))) none).run Tryd.prog W = .ok (.slice (some ⟨g, 0, none⟩) n 32) W := by
  have hs : ∀ w, (sizeOf 34).run Tryd.prog w = .ok 14 w := fun w => by kernel_rfl
  have hu : Tryd.prog.underlying 35 = some (.array (Tryd.prog.arrayLen 35) (Tryd.prog.elem 35)) := by kernel_rfl
  have hl : Tryd.prog.arrayLen 35 = 32 := by kernel_rfl
  have he : Tryd.prog.elem 35 = 34 := by kernel_rfl
  rw [run_sliceAt_array_h W _ _ hu .i64 (n : Int) (by omega) (by rw [hl]; omega), he, hs]
  simp [slicedAt, hl, Addr.add]
/- s.requests[k:] -/
theorem Tryd.cut_l (W : World) (g k : Nat) (hk : k < 32) : (Instr.sliceAt 35 (.pointer (some ⟨g, 0, none⟩)) (some (.int .i64 (k : Int))) none none).run Tryd.prog W = .ok (.slice (some ⟨g, k * 14, none⟩) (32 - k) (32 - k)) W := by
  have hs : ∀ w, (sizeOf 34).run Tryd.prog w = .ok 14 w := fun w => by kernel_rfl
  have hu : Tryd.prog.underlying 35 = some (.array (Tryd.prog.arrayLen 35) (Tryd.prog.elem 35)) := by kernel_rfl
  have hl : Tryd.prog.arrayLen 35 = 32 := by kernel_rfl
  have he : Tryd.prog.elem 35 = 34 := by kernel_rfl
  rw [run_sliceAt_array_l W _ _ hu .i64 (k : Int) (by omega) (by rw [hl]; omega), he, hs]
  have h : ¬ 32 = k := by omega
  simp [slicedAt, hl, Addr.add, h]
  exact fun e => e.symm
/- s.requests[k+1:n] -/
def srcA (g k : Nat) : Addr := if 32 = k + 1 then ⟨g, 0, none⟩ else ⟨g, (k + 1) * 14, none⟩
theorem Tryd.cut_lh (W : World) (g k n : Nat) (hk : k < n) (hn : n ≤ 32) : (Instr.sliceAt 35 (.pointer (some ⟨g, 0, none⟩)) (some (.int .i64 ((k : Int) + 1))) (some (.int .i64 (n : Int))) none).run Tryd.prog W = .ok (.slice (some (srcA g k)) (n - (k + 1)) (32 - (k + 1))) W := by
  have hs : ∀ w, (sizeOf 34).run Tryd.prog w = .ok 14 w := fun w => by kernel_rfl
  have hu : Tryd.prog.underlying 35 = some (.array (Tryd.prog.arrayLen 35) (Tryd.prog.elem 35)) := by kernel_rfl
  have hl : Tryd.prog.arrayLen 35 = 32 := by kernel_rfl
  have he : Tryd.prog.elem 35 = 34 := by kernel_rfl
  rw [run_sliceAt_array_lh W _ _ hu .i64 .i64 ((k : Int) + 1) (n : Int) (by omega) (by omega) (by rw [hl]; omega), he, hs]
  have h1 : ((k : Int) + 1).toNat = k + 1 := by omega
  simp [slicedAt, hl, Addr.add, h1, srcA]
/- copy of elements of many cells, within a row that is known -/
theorem run_copy_rows {P : Program} (w : World) (dT sT ty elem : TypeId) (size g o n dLen dCap : Nat) (a : Addr) (sLen sCap : Nat) (cur : Array Value) (t : TypeId) (cs : List Value)
    (hu : P.underlying dT = some (.slice elem)) (hs : ∀ w, (sizeOf elem).run P w = .ok size w)
    (hg : w.heap[g]? = some (.cells cur t (0, 0))) (hmin : Nat.min sLen dLen = n) (hn : n * size = cs.length)
    (hsrc : ∀ j v, cs[j]? = some v → w.cell? (a.add j) = some v) (hfit : o + cs.length ≤ cur.size) (h1 : ∀ v ∈ cs, v.oneCell' = true) :
    (Builtin.copy_ #[dT, sT] ty #[.slice (some ⟨g, o, none⟩) dLen dCap, .slice (some a) sLen sCap]).run P w =
      .ok (goInt n) (w.setRow g (cur.toList.take o ++ cs ++ cur.toList.drop (o + cs.length)).toArray) := by
  have hl := run_loadCells_list (P := P) w a cs hsrc
  have hst := run_storeCells_at P g o t cs 0 cur w hg (by simpa using hfit) h1
  simp [Builtin.copy_, run_underlying hu, Builtin.lenOf, Builtin.firstCells, hs, hmin, hn, hl, hst]
def cellsR (xs : List Rq) : List Value := xs.flatMap Rq.cells
theorem cellsR_len (xs : List Rq) : (cellsR xs).length = xs.length * 14 := by
  induction xs with
  | nil => rfl
  | cons x r ih => simp only [cellsR, List.flatMap_cons, List.length_append, List.length_cons] at ih ⊢; rw [ih]; simp only [Rq.cells, List.length_cons, List.length_nil]; omega
theorem cellsR_one (xs : List Rq) : ∀ u ∈ cellsR xs, u.oneCell' = true := by
  intro u hu
  simp only [cellsR, List.mem_flatMap] at hu
  obtain ⟨x, _, hx⟩ := hu
  simp only [Rq.cells, List.mem_cons, List.not_mem_nil, or_false] at hx
  rcases hx with rfl | rfl | rfl | rfl | rfl | rfl | rfl | rfl | rfl | rfl | rfl | rfl | rfl | rfl <;> rfl
theorem cellsR_get (xs : List Rq) (k f : Nat) (h : k < xs.length) (hf : f < 14) : (cellsR xs)[k * 14 + f]? = (rq xs k).cells[f]? := by
  induction xs generalizing k with
  | nil => simp at h
  | cons x r ih =>
    simp only [cellsR, List.flatMap_cons] at ih ⊢
    have hl : x.cells.length = 14 := rfl
    cases k with
    | zero => rw [List.getElem?_append_left (by rw [hl]; omega)]; simp [rq]
    | succ k =>
      rw [List.getElem?_append_right (by rw [hl]; omega), hl, show (k + 1) * 14 + f - 14 = k * 14 + f from by omega, ih k (by simpa using h)]
      rfl
theorem rq_drop (T : List Rq) (k j : Nat) : rq (T.drop k) j = rq T (k + j) := by
  unfold rq; rw [List.getD_eq_getElem?_getD, List.getD_eq_getElem?_getD, List.getElem?_drop]
/- the cells behind a request go one place ahead -/
def gone (C : Array Value) (T : List Rq) (k : Nat) : Array Value := (C.toList.take (k * 14) ++ cellsR (T.drop (k + 1)) ++ C.toList.drop (k * 14 + (cellsR (T.drop (k + 1))).length)).toArray
theorem gone_size {C : Array Value} (h : StC C T) (k : Nat) (hk : k < T.length) (h32 : T.length ≤ 32) : (gone C T k).size = 449 := by
  have hs := h.size
  have hl := cellsR_len (T.drop (k + 1))
  rw [List.length_drop] at hl
  unfold gone
  simp only [List.size_toArray, List.length_append, List.length_take, List.length_drop, hl, Array.length_toList, hs]
  omega
theorem gone_get {C : Array Value} (h : StC C T) (k : Nat) (hk : k < T.length) (h32 : T.length ≤ 32) (j : Nat) : (gone C T k)[j]? = if j < k * 14 then C[j]? else if j < (T.length - 1) * 14 then (cellsR (T.drop (k + 1)))[j - k * 14]? else C[j]? := by
  have hs := h.size
  have hl := cellsR_len (T.drop (k + 1))
  rw [List.length_drop] at hl
  have ht : (C.toList.take (k * 14)).length = k * 14 := by rw [List.length_take, Array.length_toList, hs]; omega
  unfold gone
  rw [List.getElem?_toArray]
  by_cases h1 : j < k * 14
  · rw [if_pos h1, List.append_assoc, List.getElem?_append_left (by omega), List.getElem?_take, if_pos h1, Array.getElem?_toList]
  · rw [if_neg h1]
    by_cases h2 : j < (T.length - 1) * 14
    · rw [if_pos h2, List.append_assoc, List.getElem?_append_right (by omega), List.getElem?_append_left (by omega), ht]
    · rw [if_neg h2, List.getElem?_append_right (by rw [List.length_append]; omega), List.getElem?_drop, List.length_append, ht, Array.getElem?_toList]
      congr 1
      omega
theorem Sv.copy (x : Sv w g T) (k : Nat) (hk : k < T.length) : ∃ C, (∀ q, (Builtin.copy_ #[62, 62] 3 #[.slice (some ⟨g, k * 14, none⟩) (32 - k) (32 - k), .slice (some (srcA g k)) (T.length - (k + 1)) (32 - (k + 1))]).run Tryd.prog (w.drewN q) = .ok (goInt ((T.length - (k + 1) : Nat) : Int)) ((w.setRow g C).drewN q)) ∧ Foot (· = g) w (w.setRow g C) ∧ (w.setRow g C).cell? ⟨g, 448, none⟩ = some (.int .i64 (T.length : Int)) ∧ (w.setRow g C).frozen? ⟨g, 448, none⟩ = false ∧ Sv ((w.setRow g C).setCell ⟨g, 448, none⟩ (.int .i64 ((T.length : Int) - 1))) g (T.eraseIdx k) := by
  obtain ⟨C, h, c⟩ := x.box
  have h32 := x.few
  have hs := c.size
  have hl := cellsR_len (T.drop (k + 1))
  rw [List.length_drop] at hl
  have hrow : (w.setRow g (gone C T k)).heap[g]? = some (.cells (gone C T k) 37 (0, 0)) := setRow_heap w g C _ _ _ h
  have f : Foot (· = g) w (w.setRow g (gone C T k)) := ⟨rfl, rfl, rfl, by simp [World.setRow], fun j _ hj => setRow_other w g j _ hj⟩
  refine ⟨gone C T k, fun q => ?_, f, ?_, frozen_of_row _ g 448 _ _ hrow, ?_⟩
  · rw [run_copy_rows (P := Tryd.prog) (w.drewN q) _ _ _ 34 14 g (k * 14) (T.length - (k + 1)) _ _ _ _ _ C 37 (cellsR (T.drop (k + 1))) Tryd.underlying62 (fun w => by kernel_rfl) h (by show min _ _ = _; omega) hl.symm ?_ (by omega) (cellsR_one _)]
    · rfl
    · intro j v hv
      have hj : j < (cellsR (T.drop (k + 1))).length := by
        rcases Nat.lt_or_ge j (cellsR (T.drop (k + 1))).length with h | h
        · exact h
        · rw [List.getElem?_eq_none h] at hv; cases hv
      have hne : ¬ 32 = k + 1 := by omega
      unfold srcA
      rw [if_neg hne]
      show w.cell? _ = _
      rw [show (⟨g, (k + 1) * 14, none⟩ : Addr).add j = ⟨g, (k + 1) * 14 + j, none⟩ by unfold Addr.add; split <;> simp_all, cell_of_row w g _ _ _ _ h, ← hv]
      obtain ⟨i, e, hi, rfl⟩ : ∃ i e, e < 14 ∧ j = i * 14 + e := ⟨j / 14, j % 14, by omega, by omega⟩
      rw [cellsR_get _ i e (by rw [List.length_drop]; omega) hi, rq_drop, show (k + 1) * 14 + (i * 14 + e) = (k + 1 + i) * 14 + e by omega]
      exact c.c _ _ (by omega) hi
  · rw [cell_of_row _ g _ _ _ _ hrow, gone_get c k hk h32, if_neg (by omega), if_neg (by omega)]; exact c.b
  · have nb : ∀ k cur, w.heap[k]? = some (.cells cur 5 (0, 0)) → ¬ k = g := fun k cur e i => by
      rw [i, h] at e; cases e
    have ft := f.then (foot_set (w.setRow g (gone C T k)) ⟨g, 448, none⟩ (.int .i64 ((T.length : Int) - 1)))
    have hle : (T.eraseIdx k).length = T.length - 1 := by rw [List.length_eraseIdx, if_pos hk]
    refine ⟨⟨_, heap_setCell_same _ g 448 _ _ _ hrow, by simp [gone_size c k hk h32], ?_, fun j e hj he => ?_⟩, by omega, fun z hz => ?_⟩
    · rw [set_get _ _ _ _ (by rw [gone_size c k hk h32]; omega), if_pos rfl, hle]
      congr 2; omega
    · rw [hle] at hj
      rw [set_get _ _ _ _ (by rw [gone_size c k hk h32]; omega), if_neg (by omega), gone_get c k hk h32, rq_erase]
      by_cases h1 : j < k
      · rw [if_pos (by omega), if_pos h1]; exact c.c j e (by omega) he
      · rw [if_neg (by omega), if_pos (by omega), if_neg h1, show j * 14 + e - k * 14 = (j - k) * 14 + e by omega, cellsR_get _ _ _ (by rw [List.length_drop]; omega) he, rq_drop, show k + 1 + (j - k) = j + 1 by omega]
    · have hz' := x.has z (List.mem_of_mem_eraseIdx hz)
      exact ⟨hz'.2.1.has hz'.1 ft nb, hz'.2.1.foot ft nb, hz'.2.2⟩
set_option maxRecDepth 20000 in
set_option maxHeartbeats 1600000 in
theorem find_any (p : Ms) (x : Sv w g T) :
    Calls Tryd.prog 12 #[.pointer (some ⟨g, 0, none⟩), .agg #[.int .u64 p.ta, .int .u64 p.rp, .int .u32 p.id, .int .u16 p.op, .int .u16 p.st, .int .u64 p.p, .int .u32 p.o, .int .u8 p.r, .int .u64 p.c, .int .u64 p.ar, .slice p.so p.sn p.sc]] w fun e w' => ∃ r, e = .returned (.int .i64 r) ∧ IdxIs (isR p.rp p.id) T r ∧ Below w.heap.size w w' := by
  obtain ⟨X, hX⟩ : ∃ X, w.alloc (.cells #[.int .u64 p.ta, .int .u64 p.rp, .int .u32 p.id, .int .u16 p.op, .int .u16 p.st, .int .u64 p.p, .int .u32 p.o, .int .u8 p.r, .int .u64 p.c, .int .u64 p.ar, .slice p.so p.sn p.sc] 32) = X := ⟨_, rfl⟩
  have bX : Below w.heap.size w X := hX ▸ below_alloc w _
  have bp : BoxM X w.heap.size p := hX ▸ boxM_new w p
  have x1 := x.grow bX
  have cm : X.drew.cell? ⟨g, 448, none⟩ = some (.int .i64 (T.length : Int)) := x1.cm
  have hcut := fun W => Tryd.cut_h W g T.length x.few
  have HX := hide x1
  have HB := hide bX
  have HBP := hide bp
  clear x x1 bX bp
  go_enter Tryd.func12, Tryd.ntmps12
  go_wp2_with fail
  go_region_with (first | (go_at_call 17; go_must (refine (index_any _ _ (fun W => BoxM W w.heap.size p) (isR p.rp p.id) (HX.out.drewN 1) (HBP.out.grow (below_d X 1)) (find_asks _ p) _ rfl).mono ?_); rintro e w1 ⟨r, rfl, hr, b1⟩; have HR := hide hr; have HB1 := hide (below_one (below_one HB.out (below_d X 1)) b1); clear hr b1) | fail)
  all_goals (go_wp2; go_ret; exact ⟨r, rfl, HR.out, HB1.out⟩)
set_option maxRecDepth 20000 in
set_option maxHeartbeats 1600000 in
theorem forget_no (x : Sv w g T) (hn : ∀ j, j < T.length → (rq T j).b = false) :
    Calls Tryd.prog 15 #[.pointer (some ⟨g, 0, none⟩)] w fun e w' => e = .returned (.bool false) ∧ Below w.heap.size w w' := by
  have cm : w.drew.cell? ⟨g, 448, none⟩ = some (.int .i64 (T.length : Int)) := x.cm
  have hcut := fun W => Tryd.cut_h W g T.length x.few
  have HX := hide x
  have HN := hide hn
  clear x hn
  go_enter Tryd.func15, Tryd.ntmps15
  go_wp2_with fail
  go_region_with (first | (go_at_call 17; go_must (refine (index_any _ _ (fun _ => True) isB (HX.out.drewN 1) trivial forget_asks _ rfl).mono ?_); rintro e w1 ⟨r, rfl, hr, b1⟩; obtain rfl := hr.none HN.out; have HB1 := hide (below_one (below_d w 1) b1); clear hr b1) | fail)
  all_goals (go_wp2; go_ret; exact ⟨rfl, HB1.out⟩)
set_option maxRecDepth 20000 in
set_option maxHeartbeats 3200000 in
theorem forget_at (x : Sv w g T) (k : Nat) (hk : k < T.length) (hq : (rq T k).b = true) (hn : ∀ j, j < k → (rq T j).b = false) :
    Calls Tryd.prog 15 #[.pointer (some ⟨g, 0, none⟩)] w fun e w' => e = .returned (.bool true) ∧ Sv w' g (T.eraseIdx k) ∧ Foot (· = g) w w' := by
  have cm : w.drew.cell? ⟨g, 448, none⟩ = some (.int .i64 (T.length : Int)) := x.cm
  have h32 := x.few
  have hcut := fun W => Tryd.cut_h W g T.length x.few
  have hcut2 := fun W => Tryd.cut_l W g k (by omega)
  have hcut3 := fun W => Tryd.cut_lh W g k T.length hk x.few
  have hwa : IntKind.i64.wrap ((k : Int) + 1) = (k : Int) + 1 := by rw [IntKind.wrap_i64]; omega
  have hwb : IntKind.i64.wrap ((T.length : Int) - 1) = (T.length : Int) - 1 := by rw [IntKind.wrap_i64]; omega
  have hwc : wrap64 ((k : Int) + 1) = (k : Int) + 1 := by unfold wrap64; omega
  have hwd : wrap64 ((T.length : Int) - 1) = (T.length : Int) - 1 := by unfold wrap64; omega
  obtain ⟨dn, hdn⟩ : ∃ v, 32 - k = v := ⟨_, rfl⟩
  obtain ⟨sn, hsn⟩ : ∃ v, T.length - (k + 1) = v := ⟨_, rfl⟩
  obtain ⟨sc, hsc⟩ : ∃ v, 32 - (k + 1) = v := ⟨_, rfl⟩
  obtain ⟨o, ho⟩ : ∃ v, k * 14 = v := ⟨_, rfl⟩
  obtain ⟨sa, hsa⟩ : ∃ v, srcA g k = v := ⟨_, rfl⟩
  rw [hdn, ho] at hcut2
  rw [hsn, hsc, hsa] at hcut3
  have HE : Hid (32 - k = dn ∧ T.length - (k + 1) = sn ∧ 32 - (k + 1) = sc ∧ k * 14 = o ∧ srcA g k = sa) := ⟨hdn, hsn, hsc, ho, hsa⟩
  have HX := hide x
  have HN := hide hn
  have HQ := hide hq
  have HK := hide hk
  obtain ⟨n, hn'⟩ : ∃ n, T.length = n := ⟨_, rfl⟩
  have HNN := hide hn'
  rw [hn'] at hcut hcut3 cm hwb hwd
  clear x hn hq hk hdn hsn hsc ho hsa h32 hn'
  go_enter Tryd.func15, Tryd.ntmps15
  go_wp2_with fail
  go_region_with (first | (go_at_call 17; go_must (refine (index_any _ _ (fun _ => True) isB (HX.out.drewN 1) trivial forget_asks _ HNN.out.symm).mono ?_); rintro e w1 ⟨r, rfl, hr, b1⟩; obtain rfl := hr.some k HK.out HQ.out HN.out; have HB1 := hide (below_one (below_d w 1) b1); clear hr b1) | fail)
  all_goals
    obtain ⟨C, hcp, f1, cm2, z2, S2⟩ := (HX.out.grow HB1.out).copy k HK.out
    obtain ⟨V, hV⟩ : ∃ V, w1.setRow g C = V := ⟨_, rfl⟩
    have hcq := hcp 1
    rw [HE.out.1, HE.out.2.1, HE.out.2.2.1, HE.out.2.2.2.1, HE.out.2.2.2.2, hV] at hcq
    rw [HNN.out] at cm2 S2
    rw [hV] at cm2 z2 S2 f1
    have cm1 : w1.drew.cell? ⟨g, 448, none⟩ = some (.int .i64 (n : Int)) := by rw [← HNN.out]; exact (HX.out.grow HB1.out).cm
    have hcr : (Builtin.copy_ #[62, 62] 3 #[.slice (some ⟨g, o, none⟩) dn dn, .slice (some sa) sn sc]).run Tryd.prog w1.drew = .ok (goInt (sn : Int)) V.drew := hcq
    have cm3 : V.drew.cell? ⟨g, 448, none⟩ = some (.int .i64 (n : Int)) := cm2
    have z3 : V.drew.frozen? ⟨g, 448, none⟩ = false := z2
    have HEND : Hid (Sv (V.drew.setCell ⟨g, 448, none⟩ (.int .i64 ((n : Int) - 1))) g (T.eraseIdx k) ∧ Foot (· = g) w (V.drew.setCell ⟨g, 448, none⟩ (.int .i64 ((n : Int) - 1)))) := ⟨S2.grow (below_d _ 1), ((below_foot _ HB1.out).then (f1.drewN 1)).put _ _⟩
    clear hcp f1 cm2 z2 S2 hcq hV
    go_wp2_with fail
    go_region_with (fail)
    all_goals (go_wp2; go_ret; exact ⟨rfl, HEND.out⟩)
end Go.Proofs.YtnkfdnmaocfjnaaDoor
