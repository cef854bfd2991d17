/-
  What the model's create and grow answer, as contracts; what became of the model.
-/
import Derived.Test.YtppdammgmnihgaaDoorSMod
import Derived.Deep.RegionLaw
namespace Go.Proofs.YtppdammgmnihgaaDoor
open Go.RowKit
variable {w w' : World} {B mo st n : Nat} {L : Nat → Option (List UInt8)} {sl : Nat → Value}
/- an append whose run is known, at a step of a region that draws its order -/
theorem step_append_run {P : Program} {w : World} {ops : Array Oper} {o : Oper} {a : Act} {K : Act → World → Prop} {Q : Exit → Act → World → Prop} {E : Prop} (hgd : o.guard = none) (s x : Operand) (ts : Array TypeId)
    (ho : o.op = .call { callee := .builtin .append, args := #[s, x], argTypes := ts }) (v u v' : Value) (w' : World) (hs : a.eval s = v) (hx : a.eval x = u) (hr : (Builtin.append_ ts o.type #[v, u]).run P w = .ok v' w') (h : K (a.put o.dst v') w') :
    if Region.wanted o (yielded ops a.tmps) = true then Oper.wp P o a w K Q else E := by
  have hw : Region.wanted o (yielded ops a.tmps) = true := by simp [Region.wanted, hgd]
  rw [if_pos hw]
  unfold Oper.wp execOp
  simp only [ho, resolve, invoke, builtin, Sem.run_bind, Sem.run_pure, Result.andThen_ok, List.map_toArray, List.map_cons, List.map_nil, hs, hx, hr]
  exact h
/- what a call on the model leaves: no block but the model's has turned -/
def MEnd (w : World) (B mo n : Nat) (L : Nat → Option (List UInt8)) (w' : World) : Prop := (∃ sl, ModAt w' B mo n L sl) ∧ Foot (fun k => k = mo) w w'
theorem MEnd.same (x : ModAt w B mo n L sl) : MEnd w B mo n L w := ⟨⟨sl, x⟩, Foot.refl _ _⟩
set_option maxRecDepth 100000 in
theorem make_long (n : Nat) (hn : n ≤ 262144) (w : World) :
    (Instr.makeSlice 28 (.int .i64 (n : Int)) (.int .i64 (n : Int))).run Tryd.prog w = .ok (.slice (some ⟨w.heap.size, 0, none⟩) n n) (w.alloc (.cells (cellsB (zeros n)).toArray 5)) := by
  rw [run_make_row' (P := Tryd.prog) 28 5 (.int .u8 0) 1 Tryd.underlying28 Tryd.info5 rfl .i64 .i64 n (by omega) (by omega) w]
  congr 2
  apply congrArg (fun x => Obj.cells x 5 (0, 0))
  apply Array.ext'
  rw [toList_madeCells_one, cellsB_zeros]
theorem mod_made (x : ModAt w B mo n L sl) (hB : B ≤ w.heap.size) (i s : Nat) (C : Array Value) (hC : (cellsB (zeros s)).toArray = C) (hs : s ≤ 262144) (X : World)
    (hb : X.heap[mo]? = some (.cells (boxM n (upd L i (some (zeros s))) (upd sl i (.slice (some ⟨w.heap.size, 0, none⟩) s s))) 31 (0, 0))) (F : Foot (fun k => k = mo) w X) (hc : X.heap[w.heap.size]? = some (.cells C 5 (0, 0))) : MEnd w B mo n (upd L i (some (zeros s))) X := by
  refine ⟨⟨_, x.put i (some (zeros s)) _ hb (keep_foot F fun _ _ _ h => h) (fun e => by cases e) (fun l e => ?_) (fun r e => ?_)⟩, F⟩
  · obtain rfl := Option.some.inj e
    subst hC
    refine ⟨by rw [cellsB_len, Nat.mul_one], .inr ⟨w.heap.size, s, _, by rw [zeros_len], hB, hc, by rw [zeros_len]; omega, by unfold maxLen; omega, by simp [cellsB_len, zeros_len], ?_⟩⟩
    rw [Nat.mul_one, List.take_of_length_le (by simp [cellsB_len])]
  · cases e; exact Nat.le_refl _
/- both cells of a segment in the model's block, laid one after the other -/
theorem two_sets (x : ModAt w B mo n L sl) (i : Nat) (h : i < 64) (o : Option (List UInt8)) (v : Value) : ((w.setCell ⟨mo, i, none⟩ (.bool o.isSome)).setCell ⟨mo, 64 + i, none⟩ v).heap[mo]? = some (.cells (boxM n (upd L i o) (upd sl i v)) 31 (0, 0)) := by
  rw [heap_setCell_same _ mo (64 + i) _ 31 _ (heap_setCell_same w mo i _ 31 _ x.box), boxM_there n L sl i h, boxM_slot n _ sl i h]
theorem two_sets' (x : ModAt w B mo n L sl) (i : Nat) (h : i < 64) (o : Option (List UInt8)) (v : Value) : ((w.setCell ⟨mo, 64 + i, none⟩ v).setCell ⟨mo, i, none⟩ (.bool o.isSome)).heap[mo]? = some (.cells (boxM n (upd L i o) (upd sl i v)) 31 (0, 0)) := by
  rw [heap_setCell_same _ mo i _ 31 _ (heap_setCell_same w mo (64 + i) _ 31 _ x.box), boxM_slot n L sl i h, boxM_there n L _ i h]
theorem foot_two (w : World) (mo i j : Nat) (u v : Value) : Foot (fun k => k = mo) w ((w.setCell ⟨mo, i, none⟩ u).setCell ⟨mo, j, none⟩ v) := (foot_set w ⟨mo, i, none⟩ u).then (foot_set _ ⟨mo, j, none⟩ v)
theorem mbox_ct {X : World} (h : X.heap[mo]? = some (.cells (boxM n L sl) 31 (0, 0))) (i : Nat) (hi : i < 64) : X.cell? ⟨mo, i, none⟩ = some (.bool (L i).isSome) := by
  rw [cell_of_row X mo i _ _ _ h]
  simp only [boxM, List.getElem?_toArray]
  rw [List.append_assoc, List.getElem?_append_left (by rw [thereV_len]; exact hi)]
  simp [thereV, List.getElem?_range hi]
theorem mbox_cs {X : World} (h : X.heap[mo]? = some (.cells (boxM n L sl) 31 (0, 0))) (i : Nat) (hi : i < 64) : X.cell? ⟨mo, 64 + i, none⟩ = some (sl i) := by
  rw [cell_of_row X mo (64 + i) _ _ _ h]
  simp only [boxM, List.getElem?_toArray]
  rw [List.append_assoc, List.getElem?_append_right (by rw [thereV_len]; omega), thereV_len, List.getElem?_append_left (by rw [slotsV_len]; omega)]
  simp [slotsV, List.getElem?_range hi]
theorem mbox_z {X : World} (h : X.heap[mo]? = some (.cells (boxM n L sl) 31 (0, 0))) (j : Nat) : X.frozen? ⟨mo, j, none⟩ = false := frozen_of_row X mo j _ _ h
theorem mbox_there {X : World} (h : X.heap[mo]? = some (.cells (boxM n L sl) 31 (0, 0))) (i : Nat) (hi : i < 64) (o : Option (List UInt8)) : (X.setCell ⟨mo, i, none⟩ (.bool o.isSome)).heap[mo]? = some (.cells (boxM n (upd L i o) sl) 31 (0, 0)) := by
  rw [heap_setCell_same X mo i _ 31 _ h, boxM_there n L sl i hi]
theorem mbox_slot {X : World} (h : X.heap[mo]? = some (.cells (boxM n L sl) 31 (0, 0))) (i : Nat) (hi : i < 64) (v : Value) : (X.setCell ⟨mo, 64 + i, none⟩ v).heap[mo]? = some (.cells (boxM n L (upd sl i v)) 31 (0, 0)) := by
  rw [heap_setCell_same X mo (64 + i) _ 31 _ h, boxM_slot n L sl i hi]
theorem mbox_alloc {X : World} (h : X.heap[mo]? = some (.cells (boxM n L sl) 31 (0, 0))) (o : Obj) : (X.alloc o).heap[mo]? = some (.cells (boxM n L sl) 31 (0, 0)) := by
  rw [Below.heap_alloc X o mo (lt_of_heap h)]; exact h
def MIdx (L : Nat → Option (List UInt8)) (gk : Nat) (v : Value) : Prop := ∃ k : Nat, k + gk = 64 ∧ v = .int .i64 k ∧ Hid (∀ i, i < k → (L i).isNone = false)
set_option maxHeartbeats 800000 in
theorem mcreate_arg (size : Int) (w : World) (hs : size < 0 ∨ 262144 < size) :
    Calls Tryd.prog 20 #[.pointer (some ⟨mo, 0, none⟩), .int .i64 size] w fun e w' => e = .returned (.tuple #[.int .i64 0, .int .i64 4]) ∧ w' = w := by
  by_cases h0 : size < 0
  · clear hs
    go_enter Tryd.func20, Tryd.ntmps20
    go_wp2
    go_ret2
    exact ⟨rfl, rfl⟩
  · have h1 : 262144 < size := by omega
    clear hs
    go_enter Tryd.func20, Tryd.ntmps20
    go_wp2
    go_ret2
    exact ⟨rfl, rfl⟩
set_option maxRecDepth 20000 in
set_option maxHeartbeats 1600000 in
theorem mcreate_rest (s : Nat) (w : World) (x : ModAt w B mo n L sl) (hB : B ≤ w.heap.size) (hn : n ≤ 4096) (hs : s ≤ 262144) (hsum : sumF (fun i => lens (L i)) 64 ≤ n) :
    Calls Tryd.prog 20 #[.pointer (some ⟨mo, 0, none⟩), .int .i64 (s : Int)] w fun e w' => e = .returned (.tuple #[.int .i64 (createN n L (s : Int) : Int), .int .i64 (createE n L (s : Int))]) ∧ MEnd w B mo n (createL n L (s : Int)) w' := by
  have H := hide x
  have HSUM := hide hsum
  obtain ⟨E, hE⟩ : ∃ E, createE n L (s : Int) = E := ⟨_, rfl⟩
  obtain ⟨N, hN⟩ : ∃ N, createN n L (s : Int) = N := ⟨_, rfl⟩
  obtain ⟨L', hL'⟩ : ∃ L', createL n L (s : Int) = L' := ⟨_, rfl⟩
  rw [hE, hN, hL']
  unfold createN at hN
  unfold createL at hL'
  rw [hE] at hN hL'
  unfold createE at hE
  rw [if_neg (by omega), Int.toNat_natCast] at hE
  rw [Int.toNat_natCast] at hL'
  have HE := hide hE
  have HN := hide hN
  have HL := hide hL'
  have hmk := make_long s hs
  obtain ⟨C, hC⟩ : ∃ C, (cellsB (zeros s)).toArray = C := ⟨_, rfl⟩
  rw [hC] at hmk
  have HC := hide hC
  have hnd : ((s : Int) + 63) / 64 = (need s : Int) := by unfold need; omega
  have hnt : ((s : Int) + 63).tdiv 64 = (need s : Int) := by rw [Int.tdiv_eq_ediv_of_nonneg (by omega)]; exact hnd
  obtain ⟨d, hd⟩ : ∃ d, need s = d := ⟨_, rfl⟩
  rw [hd] at hnd hnt
  have hd4 : d ≤ 4096 := by rw [← hd]; unfold need; omega
  have HD := hide hd
  obtain ⟨lf, hlf⟩ : ∃ x, leftL n L = x := ⟨_, rfl⟩
  have HLF := hide hlf
  have hlf4 : lf ≤ 4096 := by rw [← hlf]; unfold leftL; omega
  clear x hsum hE hN hL' hC hd hlf
  go_enter Tryd.func20, Tryd.ntmps20
  go_wp2
  go_loopg [6] 64 (fun gk v wr => MIdx L gk v ∧ wr = w)
  case atStart => exact ⟨⟨0, by omega, rfl, fun i hi => by omega⟩, rfl⟩
  case round =>
    obtain ⟨⟨k, hk, rfl, HK⟩, rfl⟩ := hrel
    cases gk with
    | zero =>
      obtain rfl : k = 64 := by omega
      have HLW := hide (lowS_is L 64 (by omega) HK.out (fun h => by omega))
      go_wp2
      go_ret2
      have h1 := HE.out
      rw [if_pos HLW.out] at h1
      have h2 := HN.out
      have h3 := HL.out
      rw [← h1] at h2 h3
      rw [if_neg (by decide)] at h2 h3
      exact ⟨by rw [← h1, ← h2]; rfl, by rw [← h3]; exact MEnd.same H.out⟩
    | succ g1 =>
      have hlt : ((k : Int) < 64) := by omega
      have hk64 : k < 64 := by omega
      have hke : ¬ ((k : Int) = 64) := by omega
      have ct := H.out.ct k hk64
      cases hL : L k with
      | some l =>
        rw [hL] at ct
        have HB : Hid ((L k).isNone = false) := by rw [hL]; rfl
        replace ct : wr.cell? ⟨mo, k, none⟩ = some (.bool true) := ct
        clear hL
        go_wp2
        go_roundg g1
        case measure => omega
        case rel => exact ⟨⟨k + 1, by omega, by go_num, fun i hi => by
          by_cases e : i = k
          · rw [e]; exact HB.out
          · exact HK.out i (by omega)⟩, rfl⟩
      | none =>
        rw [hL] at ct
        replace ct : wr.cell? ⟨mo, k, none⟩ = some (.bool false) := ct
        have HLW := hide (lowS_is L k (by omega) HK.out (fun _ => by rw [hL]; rfl))
        have HLN := hide hL
        have cs := H.out.cs k hk64
        rw [H.out.nil k hL] at cs
        have z1 := H.out.z k
        have z2 := H.out.z (64 + k)
        clear hL
        have h1 := HE.out
        rw [if_neg (by rw [HLW.out]; omega), HLF.out, HD.out] at h1
        have HE1 := hide h1
        clear h1 HE
        by_cases hgt : lf < d
        · have hgt' : (lf : Int) < (d : Int) := by omega
          have h1 := HE1.out
          rw [if_pos hgt] at h1
          have h2 := HN.out
          have h3 := HL.out
          rw [← h1] at h2 h3
          rw [if_neg (by decide)] at h2 h3
          subst h1
          subst h2
          subst h3
          go_wp2_with fail
          refine (mleft_any _ H.out hn HSUM.out).mono ?_; rintro e w2 ⟨rfl, rfl⟩
          rw [HLF.out]
          go_wp2
          go_ret2
          exact ⟨rfl, MEnd.same H.out⟩
        · have hgt' : ¬ ((lf : Int) < (d : Int)) := by omega
          have h1 := HE1.out
          rw [if_neg hgt] at h1
          have h2 := HN.out
          have h3 := HL.out
          rw [← h1] at h2 h3
          rw [if_pos rfl] at h2 h3
          rw [HLW.out] at h2 h3
          subst h1
          subst h2
          have HL3 := hide h3
          clear h3
          go_wp2_with fail
          refine (mleft_any _ H.out hn HSUM.out).mono ?_; rintro e w2 ⟨rfl, rfl⟩
          rw [HLF.out]
          have bx := H.out.box
          have bA := mbox_alloc bx (.cells C 5)
          have bS := mbox_there bx k hk64 (some (zeros s))
          have bSA := mbox_alloc bS (.cells C 5)
          have bAS := mbox_there bA k hk64 (some (zeros s))
          have bAV := mbox_slot bA k hk64 (.slice (some ⟨w2.heap.size, 0, none⟩) s s)
          have a1 := mbox_ct bA k hk64
          have a2 := mbox_cs bA k hk64
          have a3 := mbox_z bA k
          have a4 := mbox_z bA (64 + k)
          have a5 := mbox_cs bS k hk64
          have a6 := mbox_z bS (64 + k)
          have a7 := mbox_cs bSA k hk64
          have a8 := mbox_z bSA (64 + k)
          have a9 := mbox_cs bAS k hk64
          have a10 := mbox_z bAS (64 + k)
          have a11 := mbox_ct bAV k hk64
          have a12 := mbox_z bAV k
          rw [H.out.nil k HLN.out] at a2 a5 a7 a9
          rw [HLN.out] at a1 a11
          simp only [Option.isSome_some] at a5 a6 a7 a8 a9 a10
          simp only [Option.isSome_none] at a1 a11
          have hmo : w2.heap.size ≠ mo := fun e => by have := lt_of_heap bx; omega
          have X1 : Hid (MEnd w2 B mo n L' (((w2.alloc (.cells C 5)).setCell ⟨mo, k, none⟩ (.bool true)).setCell ⟨mo, 64 + k, none⟩ (.slice (some ⟨w2.heap.size, 0, none⟩) s s)).drew) := by
            rw [← HL3.out]
            refine mod_made H.out hB k s C HC.out hs _ (mbox_slot bAS k hk64 _) (((foot_alloc _ w2 _).then (foot_two _ _ _ _ _ _)).drewN 1) ?_
            show ((((w2.alloc (.cells C 5)).setCell ⟨mo, k, none⟩ (.bool true)).setCell ⟨mo, 64 + k, none⟩ (.slice (some ⟨w2.heap.size, 0, none⟩) s s)).heap[w2.heap.size]?) = _
            rw [heap_setCell_other _ _ _ _ hmo, heap_setCell_other _ _ _ _ hmo]; exact heap_alloc_new _ _
          have X2 : Hid (MEnd w2 B mo n L' (((w2.setCell ⟨mo, k, none⟩ (.bool true)).alloc (.cells C 5)).setCell ⟨mo, 64 + k, none⟩ (.slice (some ⟨w2.heap.size, 0, none⟩) s s)).drew) := by
            rw [← HL3.out]
            refine mod_made H.out hB k s C HC.out hs _ (mbox_slot bSA k hk64 _) ((((foot_set w2 ⟨mo, k, none⟩ _).then (foot_alloc _ _ _)).then (foot_set _ ⟨mo, 64 + k, none⟩ _)).drewN 1) ?_
            show ((((w2.setCell ⟨mo, k, none⟩ (.bool true)).alloc (.cells C 5)).setCell ⟨mo, 64 + k, none⟩ (.slice (some ⟨w2.heap.size, 0, none⟩) s s)).heap[w2.heap.size]?) = _
            rw [heap_setCell_other _ _ _ _ hmo]
            have hz : (w2.setCell ⟨mo, k, none⟩ (.bool true)).heap.size = w2.heap.size := by simp [World.setCell]
            rw [← hz]; exact heap_alloc_new _ _
          clear bx bA bS bSA bAS bAV
          go_wp2_with fail
          go_region
          all_goals go_wp2
          all_goals go_ret2
          · exact ⟨rfl, X1.out⟩
          · exact ⟨rfl, X2.out⟩
theorem mcreate_any (size : Int) (w : World) (x : ModAt w B mo n L sl) (hB : B ≤ w.heap.size) (hn : n ≤ 4096) (hsum : sumF (fun i => lens (L i)) 64 ≤ n) :
    Calls Tryd.prog 20 #[.pointer (some ⟨mo, 0, none⟩), .int .i64 size] w fun e w' => e = .returned (.tuple #[.int .i64 (createN n L size : Int), .int .i64 (createE n L size)]) ∧ MEnd w B mo n (createL n L size) w' := by
  by_cases h0 : size < 0 ∨ 262144 < size
  · have e : createE n L size = 4 := if_pos h0
    unfold createN createL
    rw [e]
    exact (mcreate_arg size w h0).mono fun e w1 ⟨h1, h2⟩ => by subst h1; subst h2; exact ⟨rfl, MEnd.same x⟩
  · obtain ⟨s, rfl⟩ := Int.eq_ofNat_of_zero_le (show 0 ≤ size by omega)
    exact mcreate_rest s w x hB hn (by omega) hsum
theorem app_nil_nil (w : World) : (Builtin.append_ #[28, 28] 28 #[.slice none 0 0, .slice none 0 0]).run Tryd.prog w = .ok (.slice none 0 0) w := by
  obtain ⟨i0, hi0, hz0, hz1, hz2⟩ := info_parts Tryd.info5
  simp [Builtin.append_, run_underlying Tryd.underlying28, sizeOf, typeInfo, hi0, Builtin.lenOf, Builtin.firstCells]
/- bytes, and zeros behind them, in memory of their own -/
theorem app_both {co : Option Addr} {m cc : Nat} {l : List UInt8} (w : World) (hb : Bts w co m cc l) (x : Nat) (hm : m + x ≤ 262144) :
    ∃ v1 w1 v2 w2, (Builtin.append_ #[28, 28] 28 #[.slice none 0 0, .slice co m cc]).run Tryd.prog w = .ok v1 w1 ∧ (Builtin.append_ #[28, 3] 28 #[v1, .int .i64 (x : Int)]).run Tryd.prog w1 = .ok v2 w2 ∧
      w2.ownsRow w.heap.size 5 1 v2 (m + x) (cellsB (l ++ zeros x)) ∧ Below w.heap.size w w2 := by
  obtain ⟨i0, hi0, hz0, hz1, hz2⟩ := info_parts Tryd.info5
  have one : ∃ v1 w1, (Builtin.append_ #[28, 28] 28 #[.slice none 0 0, .slice co m cc]).run Tryd.prog w = .ok v1 w1 ∧ w1.ownsRow w.heap.size 5 1 v1 m (cellsB l) ∧ Below w.heap.size w w1 := by
    cases co with
    | none =>
      obtain ⟨rfl, rfl⟩ := hb.none rfl
      obtain rfl : l = [] := List.eq_nil_of_length_eq_zero hb.1.symm
      exact ⟨_, w, app_nil_nil w, World.ownsRow_nil _ _ _ _, Below.refl _ _⟩
    | some ad =>
      obtain ⟨v1, w1, h1, h2, h3, _⟩ := run_append_own (P := Tryd.prog) w w.heap.size 28 28 5 i0 (.int .u8 0) 1 1 Tryd.underlying28 hi0 hz0 hz1 hz2 rfl (by decide) (.slice none 0 0) 0 [] (World.ownsRow_nil _ _ _ _) ad m cc (cellsB l) (by rw [cellsB_len, ← hb.1]; omega) (hb.news ad rfl) (cellsB_one l) (by unfold maxLen; omega) (by omega) (Nat.le_refl _)
      rw [Nat.zero_add, List.nil_append] at h2
      exact ⟨v1, w1, h1, h2, (Below.refl _ _).grown h3 (Nat.le_refl _) (fun k e => by cases e)⟩
  obtain ⟨v1, w1, h1, r1, b1⟩ := one
  obtain ⟨iz, KZ, hKb⟩ := Tryd.byteCell
  obtain ⟨v2, w2, h2, r2, g2, _⟩ := run_append_zeros (P := Tryd.prog) (ty := 28) w1 w.heap.size KZ v1 m (cellsB l) r1 x (by omega) (by rw [hKb]; omega) b1.size
  rw [cellsB_more] at r2
  exact ⟨v1, w1, v2, w2, h1, h2, r2, b1.grown g2 b1.size (fun k e => (r1.lt k e).1)⟩
theorem thereV_same (L : Nat → Option (List UInt8)) (i : Nat) (l l' : List UInt8) (h : L i = some l) : thereV (upd L i (some l')) = thereV L := by
  unfold thereV
  apply List.map_congr_left
  intro j _
  by_cases e : j = i
  · subst e; rw [upd_same, h]; rfl
  · rw [upd_other _ _ _ _ e]
theorem boxM_same (n : Nat) (L : Nat → Option (List UInt8)) (sl : Nat → Value) (i : Nat) (l l' : List UInt8) (h : L i = some l) : boxM n (upd L i (some l')) sl = boxM n L sl := by
  unfold boxM; rw [thereV_same L i l l' h]
set_option maxRecDepth 20000 in
set_option maxHeartbeats 1600000 in
theorem mgrow_any (i : Nat) (l : List UInt8) (size : Int) (w : World) (x : ModAt w B mo n L sl) (hB : B ≤ w.heap.size) (hn : n ≤ 4096) (hsum : sumF (fun i => lens (L i)) 64 ≤ n) (hi : i < 64) (hl : L i = some l) (hlen : l.length ≤ 262144) :
    Calls Tryd.prog 21 #[.pointer (some ⟨mo, 0, none⟩), .int .i64 (i : Int), .int .i64 size] w fun e w' => e = .returned (.int .i64 (growE n L l size)) ∧ MEnd w B mo n (growL n L i l size) w' := by
  have H := hide x
  have HSUM := hide hsum
  have HL := hide hl
  obtain ⟨co, cc, hform, hcc, hlc⟩ := x.form i l hl
  have cs := x.cs i hi
  rw [hform] at cs
  have HBT : Hid (Bts w co l.length cc l) := row5_bts (by rw [← hform]; exact x.row i l hl)
  obtain ⟨E, hE⟩ : ∃ E, growE n L l size = E := ⟨_, rfl⟩
  obtain ⟨L', hL'⟩ : ∃ L', growL n L i l size = L' := ⟨_, rfl⟩
  rw [hE, hL']
  unfold growL at hL'
  rw [hE] at hL'
  unfold growE at hE
  obtain ⟨m, hm⟩ : ∃ m, l.length = m := ⟨_, rfl⟩
  rw [hm] at cs hlc hlen hE hL' HBT
  by_cases h0 : size < (m : Int) ∨ 262144 < size
  · rw [if_pos h0] at hE
    subst hE
    rw [if_neg (by decide)] at hL'
    subst hL'
    clear x hsum hl hform hm
    by_cases h1 : size < (m : Int)
    · clear h0
      go_enter Tryd.func21, Tryd.ntmps21
      go_wp2
      go_ret
      exact ⟨rfl, MEnd.same H.out⟩
    · have h2 : 262144 < size := by omega
      clear h0
      go_enter Tryd.func21, Tryd.ntmps21
      go_wp2
      go_ret
      exact ⟨rfl, MEnd.same H.out⟩
  · rw [if_neg h0] at hE
    obtain ⟨s, rfl⟩ := Int.eq_ofNat_of_zero_le (show 0 ≤ size by omega)
    rw [Int.toNat_natCast] at hE hL'
    have hs : m ≤ s ∧ s ≤ 262144 := by omega
    have h1 : ¬ ((s : Int) < (m : Int)) := by omega
    have h2 : ¬ (262144 < (s : Int)) := by omega
    have hnd : ((s : Int) + 63) / 64 = (need s : Int) := by unfold need; omega
    have hnt : ((s : Int) + 63).tdiv 64 = (need s : Int) := by rw [Int.tdiv_eq_ediv_of_nonneg (by omega)]; exact hnd
    have hod : ((m : Int) + 63) / 64 = (need m : Int) := by unfold need; omega
    have hot : ((m : Int) + 63).tdiv 64 = (need m : Int) := by rw [Int.tdiv_eq_ediv_of_nonneg (by omega)]; exact hod
    have hmono := need_mono hs.1
    obtain ⟨d, hd⟩ : ∃ d, need s = d := ⟨_, rfl⟩
    obtain ⟨o, ho⟩ : ∃ o, need m = o := ⟨_, rfl⟩
    rw [hd] at hnd hnt hmono hE
    rw [ho] at hod hot hmono hE
    have hd4 : d ≤ 4096 := by rw [← hd]; unfold need; omega
    have hdo : (d : Int) - (o : Int) = ((d - o : Nat) : Int) := by omega
    obtain ⟨lf, hlf⟩ : ∃ x, leftL n L = x := ⟨_, rfl⟩
    rw [hlf] at hE
    have HLF := hide hlf
    have hlf4 : lf ≤ 4096 := by rw [← hlf]; unfold leftL; omega
    by_cases hgt : lf < d - o
    · rw [if_pos hgt] at hE
      subst hE
      rw [if_neg (by decide)] at hL'
      subst hL'
      have hgt' : (lf : Int) < ((d - o : Nat) : Int) := by omega
      clear x hsum hl hform hm h0 hd ho hlf hgt
      go_enter Tryd.func21, Tryd.ntmps21
      go_wp2_with fail
      refine (mleft_any _ H.out hn HSUM.out).mono ?_; rintro e w2 ⟨rfl, rfl⟩
      rw [HLF.out]
      go_wp2
      go_ret
      exact ⟨rfl, MEnd.same H.out⟩
    · rw [if_neg hgt] at hE
      subst hE
      rw [if_pos rfl] at hL'
      have HL' := hide hL'
      have hgt' : ¬ ((lf : Int) < ((d - o : Nat) : Int)) := by omega
      have hsm : (s : Int) - (m : Int) = ((s - m : Nat) : Int) := by omega
      have hi64 : (i : Int) < 64 := by omega
      have hi0 : (0 : Int) ≤ (i : Int) := by omega
      obtain ⟨v1, w1, v2, w2, a1, a2, r2, b2⟩ := app_both w.drew (HBT.out.drewN 1) (s - m) (by omega)
      rw [show m + (s - m) = s by omega] at r2
      have hwr : IntKind.i64.wrap ((s - m : Nat) : Int) = ((s - m : Nat) : Int) := by rw [IntKind.wrap_i64]; omega
      have k2 : w2.cell? ⟨mo, 64 + i, none⟩ = some (.slice co m cc) := (b2.cell (p := ⟨mo, 64 + i, none⟩) (lt_of_heap x.box)).trans cs
      have bx2 : w2.heap[mo]? = some (.cells (boxM n L sl) 31 (0, 0)) := (b2.block mo (lt_of_heap x.box)).trans x.box
      have z2 := mbox_z bx2 (64 + i)
      obtain ⟨cv, ccv, rfl, bv⟩ := owns_bts r2
      have HX : Hid (MEnd w B mo n L' (w2.setCell ⟨mo, 64 + i, none⟩ (.slice cv s ccv))) := by
        have F : Foot (fun k => k = mo) w (w2.setCell ⟨mo, 64 + i, none⟩ (.slice cv s ccv)) := ((Foot.refl (fun k => k = mo) w).drewN 1).then ((below_foot _ b2).then (foot_set w2 ⟨mo, 64 + i, none⟩ _))
        have hbx := mbox_slot bx2 i hi (.slice cv s ccv)
        rw [← boxM_same n L _ i l (l ++ zeros (s - m)) HL.out] at hbx
        rw [← HL'.out]
        refine ⟨⟨_, H.out.put i (some (l ++ zeros (s - m))) _ hbx (keep_foot F fun _ _ _ h => h) (fun e => by cases e) (fun l2 e => ?_) (fun r e => ?_)⟩, F⟩
        · obtain rfl := Option.some.inj e
          have r3 : (w2.setCell ⟨mo, 64 + i, none⟩ (.slice cv s ccv)).ownsRow w.heap.size 5 1 (.slice cv s ccv) s (cellsB (l ++ zeros (s - m))) :=
            ownsRow_keep (keep_foot (P := fun k _ => k ≠ mo) (foot_set w2 ⟨mo, 64 + i, none⟩ _) fun _ _ _ h e => h e) r2 fun g c _ e => by
              obtain ⟨_, cur, hg⟩ := row5_is r2 e; exact tyne hg bx2 (by decide)
          have e2 : (l ++ zeros (s - m)).length = s := by rw [List.length_append, zeros_len, hm]; omega
          rw [e2]
          exact ⟨r3.1, r3.2.imp id (fun ⟨g, cap, cur, e, hb, rest⟩ => ⟨g, cap, cur, e, Nat.le_trans hB hb, rest⟩)⟩
        · exact (row5_is r2 e).1
      clear x hsum hl hform hm h0 hd ho hlf hgt bx2 r2 b2 hL' bv
      go_enter Tryd.func21, Tryd.ntmps21
      go_wp2_with fail
      refine (mleft_any _ H.out hn HSUM.out).mono ?_; rintro e wy ⟨rfl, rfl⟩
      rw [HLF.out]
      go_wp2_with fail
      go_region_law ((first | refine step_append_run (by rfl) _ _ _ (by rfl) (.slice none 0 0) (.slice co m cc) v1 w1 (by rfl) (by rfl) a1 ?_ | refine step_append_run (by rfl) _ _ _ (by rfl) v1 (.int .i64 ((s - m : Nat) : Int)) (.slice cv s ccv) w2 (by rfl) (by rfl) a2 ?_))
      all_goals go_wp2
      all_goals go_ret
      all_goals exact ⟨rfl, HX.out⟩
end Go.Proofs.YtppdammgmnihgaaDoor
