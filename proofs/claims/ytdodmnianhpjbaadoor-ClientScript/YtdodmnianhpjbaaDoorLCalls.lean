/-
  What client's helpers answer, as contracts: alone, Of, Len, find, older.
-/
import Derived.Test.YtdodmnianhpjbaaDoorLRow
import Derived.Lib.MinMax
import Derived.Deep.RegionLaw
namespace Go.Proofs.YtdodmnianhpjbaaDoor
open Go.RowKit
set_option maxHeartbeats 800000 in
theorem clone_own (ao : Option Addr) (n cap : Nat) (l : List UInt8) (w : World) (hb : Bts w ao n cap l) (hr : n ≤ 140737488355328) :
    Calls Tryd.prog 20 #[.slice ao n cap] w fun e w' => ∃ co cc, e = .returned (.slice co n cc) ∧ Bts w' co n cc l ∧ New w co ∧ Below w.heap.size w w' ∧ ∀ ad, co = some ad → ∃ cur, w'.heap[ad.block]? = some (.cells cur 5 (0, 0)) := by
  have HB : Hid (Bts w ao n cap l) := hb
  clear hb
  cases ao with
  | none =>
    obtain ⟨rfl, rfl⟩ := HB.out.none rfl
    have he := run_eql_slice_nil (P := Tryd.prog) w 33 5 none 0 0 Tryd.underlying33
    go_enter Tryd.func20, Tryd.ntmps20
    go_wp2
    go_ret
    exact ⟨none, 0, rfl, HB.out, new_none _, Below.refl _ _, fun _ e => by cases e⟩
  | some ad =>
    obtain ⟨i0, hi, hz0, hz1, hz2⟩ := info_parts Tryd.info5
    have hcm : cap ≤ 9223372036854775807 := HB.out.2.2.1
    have he := run_eql_slice_nil (P := Tryd.prog) w 33 5 (some ad) n cap Tryd.underlying33
    go_enter Tryd.func20, Tryd.ntmps20
    go_wp2_with (at_builtin; refine wpList_append_own _ rfl _ _ 33 rfl w.heap.size 5 i0 (.int .u8 0) 1 1 Tryd.underlying33 hi hz0 hz1 hz2 rfl (by decide) _ 0 [] rfl (own_empty w) ad n cap (cellsB l) rfl (by rw [cellsB_len]; have := HB.out.1; omega) ?c1 (cellsB_one l) (by unfold maxLen; omega) (by omega) ?c5 ?_)
    case c1 => exact (HB.out.carry (below_alloc w _)).news ad rfl
    case c5 => exact (below_alloc w _).size
    intro v' w2 hown2 hgrow2 _
    obtain ⟨co, cc, rfl, hb2⟩ := owns_bts hown2
    have HW : Hid (New w co) := owns_new hown2
    have HT : Hid (∀ ad, co = some ad → ∃ cur, w2.heap[ad.block]? = some (.cells cur 5 (0, 0))) := fun ad e => by
      rcases hown2.2 with ⟨h0, _⟩ | ⟨g, cap, cur, h1, _, h3, _⟩
      · cases h0; cases e
      · cases h1; cases e; exact ⟨cur, h3⟩
    have bel2 : Below w.heap.size w w2 := (below_alloc w (Obj.cells #[] 5)).grown hgrow2 (below_alloc w _).size (fun k e => by cases e; exact Nat.le_refl _)
    have HB2 : Hid (Bts w2 co n cc l) := hb2
    clear hown2 hgrow2 hb2
    go_wp2
    go_ret
    exact ⟨co, cc, rfl, HB2.out, HW.out, bel2, HT.out⟩
structure AlEnd (w : World) (p p' : Ms) (w' : World) : Prop where
  nm : p'.nm = p.nm
  sn : p'.sn = p.sn
  has : p'.has w'
  own : OwnD w' p'
  new : New w p'.so
  b : Below w.heap.size w w'
set_option maxRecDepth 20000 in
set_option maxHeartbeats 1600000 in
theorem alone_any (p : Ms) (w : World) (hp : p.has w) (hs : p.sn ≤ 140737488355328) :
    Calls Tryd.prog 16 #[.agg #[.int .u64 p.ta, .int .u64 p.rp, .int .u32 p.id, .int .u16 p.op, .int .u16 p.st, .int .u64 p.p, .int .u32 p.o, .int .u8 p.r, .int .u64 p.c, .int .u64 p.ar, .slice p.so p.sn p.sc]] w fun e w' => ∃ p', e = .returned (.agg #[.int .u64 p'.ta, .int .u64 p'.rp, .int .u32 p'.id, .int .u16 p'.op, .int .u16 p'.st, .int .u64 p'.p, .int .u32 p'.o, .int .u8 p'.r, .int .u64 p'.c, .int .u64 p'.ar, .slice p'.so p'.sn p'.sc]) ∧ AlEnd w p p' w' := by
  obtain ⟨X, hX⟩ : ∃ X, (w.alloc (.cells #[.int .u64 p.ta, .int .u64 p.rp, .int .u32 p.id, .int .u16 p.op, .int .u16 p.st, .int .u64 p.p, .int .u32 p.o, .int .u8 p.r, .int .u64 p.c, .int .u64 p.ar, .slice p.so p.sn p.sc] 35)).alloc (.cells #[.int .u64 0, .int .u64 0, .int .u32 0, .int .u16 0, .int .u16 0, .int .u64 0, .int .u32 0, .int .u8 0, .int .u64 0, .int .u64 0, .slice none 0 0] 35) = X := ⟨_, rfl⟩
  have hb : Below w.heap.size w X := hX ▸ below_one (below_alloc w _) (below_alloc _ _)
  have bp : BoxM X w.heap.size p := hX ▸ (boxM_new w p).grow (below_alloc _ _)
  have bq : BoxM X (w.heap.size + 1) Ms.zero := by rw [← hX, ← size_al w (.cells #[.int .u64 p.ta, .int .u64 p.rp, .int .u32 p.id, .int .u16 p.op, .int .u16 p.st, .int .u64 p.p, .int .u32 p.o, .int .u8 p.r, .int .u64 p.c, .int .u64 p.ar, .slice p.so p.sn p.sc] 35)]; exact boxM_new (w.alloc (.cells #[.int .u64 p.ta, .int .u64 p.rp, .int .u32 p.id, .int .u16 p.op, .int .u16 p.st, .int .u64 p.p, .int .u32 p.o, .int .u8 p.r, .int .u64 p.c, .int .u64 p.ar, .slice p.so p.sn p.sc] 35)) Ms.zero
  have HB := hide hb
  have HBP := hide bp
  have HBQ := hide bq
  have HPX := hide (Bts.carry hp hb)
  have c10 := bp.all.2.2.2.2.2.2.2.2.2.2
  clear bp bq hb
  go_enter Tryd.func16, Tryd.ntmps16
  go_wp2_with fail
  refine (clone_own _ _ _ p.l _ HPX.out hs).mono ?_; rintro e w2 ⟨co, cc, rfl, B2, N2, b2, T2⟩
  have hbx := HBP.out.grow b2
  have hby := HBQ.out.grow b2
  have d10 := hbx.all.2.2.2.2.2.2.2.2.2.2
  have dz10 := hbx.z 10
  obtain ⟨W, hW⟩ : ∃ W, w2.setCell ⟨w.heap.size, 10, none⟩ (.slice co p.sn cc) = W := ⟨_, rfl⟩
  obtain ⟨p', hp'⟩ : ∃ p' : Ms, p.at co p.sn cc = p' := ⟨_, rfl⟩
  have hbw : BoxM W w.heap.size p' := by rw [← hW, ← hp']; exact hbx.put10 co p.sn cc
  have ftW : Foot (fun jj => jj = w.heap.size) w2 W := by rw [← hW]; exact foot_set w2 ⟨w.heap.size, 10, none⟩ _
  have hbz : BoxM W (w.heap.size + 1) Ms.zero := (ftW.block _ (lt_of_heap hby) (by omega)).trans hby
  have HW1 : Hid (Foot (fun jj => w.heap.size ≤ jj ∧ jj ≤ w.heap.size + 1) w W) := ((below_foot _ (below_one HB.out b2)).then (ftW.mono (fun k e => by omega)))
  have hXs : w.heap.size + 1 < X.heap.size := lt_of_heap HBQ.out
  have HH : Hid (Bts W co p.sn cc p.l ∧ New w co ∧ New X co ∧ ∀ ad, co = some ad → ∃ cur, W.heap[ad.block]? = some (.cells cur 5 (0, 0))) := by
    refine ⟨Bts.foot B2 ftW (fun ad e _ => ?_), New.le N2 HB.out.size, N2, fun ad e => ?_⟩
    · have := N2 ad e
      omega
    · obtain ⟨cur, hc⟩ := T2 ad e
      exact ⟨cur, (ftW.block _ (lt_of_heap hc) (by have := N2 ad e; omega)).trans hc⟩
  obtain ⟨k0, k1, k2, k3, k4, k5, k6, k7, k8, k9, k10⟩ := hbw.all
  obtain ⟨y0, y1, y2, y3, y4, y5, y6, y7, y8, y9, y10⟩ := hbz.all
  have z0 := hbz.z 0
  have z1 := hbz.z 1
  have z2 := hbz.z 2
  have z3 := hbz.z 3
  have z4 := hbz.z 4
  have z5 := hbz.z 5
  have z6 := hbz.z 6
  have z7 := hbz.z 7
  have z8 := hbz.z 8
  have z9 := hbz.z 9
  have z10 := hbz.z 10
  obtain ⟨V, hV⟩ : ∃ V, lay11 W (w.heap.size + 1) p' = V := ⟨_, rfl⟩
  have hbv : BoxM V (w.heap.size + 1) p' := hV ▸ hbz.lay p'
  have ftV : Foot (fun j => j = w.heap.size + 1) W V := hV ▸ foot_lay11 W _ p'
  unfold lay11 at hV
  obtain ⟨v0, v1, v2, v3, v4, v5, v6, v7, v8, v9, v10⟩ := hbv.all
  have HEND : Hid (AlEnd w p p' V) := by
    refine ⟨by rw [← hp']; rfl, by rw [← hp']; rfl, ?_, ?_, by rw [← hp']; exact HH.out.2.1, ((HW1.out.then (ftV.mono (fun k e => by omega))).below (Nat.le_refl _) (fun k e => e.1))⟩
    · show Bts _ _ _ _ _
      rw [← hp']
      refine Bts.foot HH.out.1 ftV (fun ad e _ => ?_)
      have := HH.out.2.2.1 ad e
      omega
    · intro _ ad e
      rw [← hp'] at e
      obtain ⟨cur, hc⟩ := HH.out.2.2.2 ad e
      exact ⟨cur, (ftV.block _ (lt_of_heap hc) (by have := HH.out.2.2.1 ad e; omega)).trans hc⟩
  clear hbx hby hbw hbz ftW B2 N2 b2 T2 hp' hbv ftV hXs
  go_wp2
  refine bodyPost_ret (by simp [results, Tryd.results16, go_sem, v0, v1, v2, v3, v4, v5, v6, v7, v8, v9, v10]; rfl) rfl ?_
  exact ⟨p', rfl, HEND.out⟩
/- a client without calls -/
def zeroC : List Value := [.int .u64 0, .int .i64 0, .int .i64 0, .int .i64 0] ++ (List.replicate 64 Cl.zero).flatMap Cl.cells
theorem Tryd.zeroClient (w : World) : (zeroValue 63).run Tryd.prog w = .ok (.agg zeroC.toArray) w := by kernel_rfl
def newC (rp wt tr : Int) : Array Value := ((zeroC.toArray.setIfInBounds 0 (.int .u64 rp)).setIfInBounds 1 (.int .i64 wt)).setIfInBounds 2 (.int .i64 tr)
theorem rep_get (n k f : Nat) (hk : k < n) (hf : f < 14) : ((List.replicate n Cl.zero).flatMap Cl.cells)[k * 14 + f]? = Cl.zero.cells[f]? := by
  induction n generalizing k with
  | zero => omega
  | succ n ih =>
    rw [List.replicate_succ, List.flatMap_cons]
    have hl : Cl.zero.cells.length = 14 := rfl
    cases k with
    | zero => rw [List.getElem?_append_left (by rw [hl]; omega)]; simp
    | succ k =>
      rw [List.getElem?_append_right (by rw [hl]; omega), hl, show (k + 1) * 14 + f - 14 = k * 14 + f from by omega, ih k (by omega)]
theorem rep_len (n : Nat) : ((List.replicate n Cl.zero).flatMap Cl.cells).length = n * 14 := by
  induction n with
  | zero => rfl
  | succ n ih => rw [List.replicate_succ, List.flatMap_cons, List.length_append, ih]; show 14 + n * 14 = _; omega
theorem zeroC_len : zeroC.length = 900 := by
  unfold zeroC; rw [List.length_append, rep_len]; rfl
theorem newC_ok (rp wt tr : Int) : CtC (newC rp wt tr) rp wt tr [] := by
  have hs : zeroC.toArray.size = 900 := by rw [List.size_toArray]; exact zeroC_len
  have get : ∀ j, (newC rp wt tr)[j]? = if j = 2 then some (.int .i64 tr) else if j = 1 then some (.int .i64 wt) else if j = 0 then some (.int .u64 rp) else zeroC[j]? := fun j => by
    unfold newC
    rw [set_get _ _ _ _ (by simp only [Array.size_setIfInBounds]; omega), set_get _ _ _ _ (by simp only [Array.size_setIfInBounds]; omega), set_get _ _ _ _ (by omega), List.getElem?_toArray]
  refine ⟨by unfold newC; simp only [Array.size_setIfInBounds]; exact hs, by rw [get]; rfl, by rw [get]; rfl, by rw [get]; rfl, ?_, fun j f hj hf => ?_⟩
  · rw [get, if_neg (by omega), if_neg (by omega), if_neg (by omega)]
    unfold zeroC
    rw [List.getElem?_append_left (by decide)]; rfl
  · rw [get, if_neg (by omega), if_neg (by omega), if_neg (by omega), cl_ge [] j (Nat.zero_le _)]
    unfold zeroC
    rw [List.getElem?_append_right (by show 4 ≤ _; omega)]
    show ((List.replicate 64 Cl.zero).flatMap Cl.cells)[4 + j * 14 + f - 4]? = _
    rw [show 4 + j * 14 + f - 4 = j * 14 + f from by omega]
    exact rep_get 64 j f hj hf
theorem Tryd.buildC (rp wt tr : Int) (w : World) : (Instr.build 63 #[(0, .int .u64 rp), (1, .int .i64 wt), (2, .int .i64 tr)]).run Tryd.prog w = .ok (.agg (newC rp wt tr)) w := by kernel_rfl
def pos1 (n : Int) : Int := max n 1
def OfEnd (w : World) (rp wt tr : Int) (e : Ending) (w' : World) : Prop := ∃ g, e = .returned (.pointer (some ⟨g, 0, none⟩)) ∧ w.heap.size ≤ g ∧ St w' g rp (pos1 wt) (pos1 tr) [] ∧ Below w.heap.size w w'
theorem pos1_rng (n : Int) (h : n ≤ 9223372036854775807) : 1 ≤ pos1 n ∧ pos1 n ≤ 9223372036854775807 := by unfold pos1; omega
theorem of_end (w : World) (rp wt tr : Int) (hw : wt ≤ 9223372036854775807) (ht : tr ≤ 9223372036854775807) : OfEnd w rp wt tr (.returned (.pointer (some ⟨w.heap.size, 0, none⟩))) (w.alloc (.cells (newC rp (pos1 wt) (pos1 tr)) 63)) :=
  ⟨w.heap.size, rfl, Nat.le_refl _, ⟨[], ⟨⟨_, heap_alloc_new _ _, newC_ok _ _ _⟩, Nat.zero_le _, ⟨(pos1_rng wt hw).1, (pos1_rng wt hw).2, (pos1_rng tr ht).1, (pos1_rng tr ht).2⟩, (fun _ h => by cases h), fun _ h => by cases h⟩, rfl⟩, below_alloc _ _⟩
set_option maxRecDepth 20000 in
set_option maxHeartbeats 1600000 in
theorem of_any (rp wt tr : Int) (w : World) (hw : wt ≤ 9223372036854775807) (ht : tr ≤ 9223372036854775807) :
    Calls Tryd.prog 8 #[.int .u64 rp, .int .i64 wt, .int .i64 tr] w fun e w' => OfEnd w rp wt tr e w' := by
  have hz := Tryd.zeroClient
  have HE := hide (of_end w rp wt tr hw ht)
  clear hw ht
  go_enter Tryd.func8, Tryd.ntmps8
  go_wp2
  go_ret
  exact HE.out
set_option maxHeartbeats 800000 in
theorem len_any {w : World} {g : Nat} {rp wt tr : Int} {L : List Cl} (x : St w g rp wt tr L) :
    Calls Tryd.prog 15 #[.pointer (some ⟨g, 0, none⟩)] w fun e w' => e = .returned (.int .i64 (L.length : Int)) ∧ Below w.heap.size w w' := by
  obtain ⟨T, x, rfl⟩ := x
  have c3 := x.c3
  rw [List.length_map]
  clear x
  go_enter Tryd.func15, Tryd.ntmps15
  go_wp2
  go_ret
  exact ⟨rfl, Below.refl _ _⟩
end Go.Proofs.YtdodmnianhpjbaaDoor
