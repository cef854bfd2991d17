/-
  What mailbox's helpers answer, as contracts: alone, agrees, at any function that asks; Of, Len.
-/
import Derived.Test.YtibdhjohjkdgdaaDoorMChan
import Derived.Conc.LoneSelectN
import Derived.Recover
import Derived.Defers
import Derived.Lib.MinMax
import Derived.Deep.RegionLaw
namespace Go.Proofs.YtibdhjohjkdgdaaDoor
open Go.RowKit Go.Conc
/- where data lies that is one's own: in a block of bytes -/
def OwnD (w : World) (x : Ms) : Prop := 0 < x.sn → ∀ ad, x.so = some ad → ∃ cur, w.heap[ad.block]? = some (.cells cur 5 (0, 0))
theorem OwnD.grow {w w' : World} {x : Ms} (h : OwnD w x) (b : Below w.heap.size w w') : OwnD w' x := fun hn ad e => by
  obtain ⟨cur, hc⟩ := h hn ad e
  exact ⟨cur, (b.block _ (lt_of_heap hc)).trans hc⟩
theorem OwnD.chan {w w' : World} {x : Ms} (h : OwnD w x) {c N : Nat} {K : List Ms} (k : Ch w c N K) (f : Foot (· = c) w w') : OwnD w' x := fun hn ad e => by
  obtain ⟨cur, hc⟩ := h hn ad e
  exact ⟨cur, k.other f hc⟩
theorem OwnD.foot {S : Nat → Prop} {w w' : World} {x : Ms} (h : OwnD w x) (f : Foot S w w') (hS : ∀ k cur, w.heap[k]? = some (.cells cur 5 (0, 0)) → ¬ S k) : OwnD w' x := fun hn ad e => by
  obtain ⟨cur, hc⟩ := h hn ad e
  exact ⟨cur, (f.block _ (lt_of_heap hc) (hS _ _ hc)).trans hc⟩
set_option maxHeartbeats 800000 in
theorem clone_own (ao : Option Addr) (n cap : Nat) (l : List UInt8) (w : World) (hb : Bts w ao n cap l) (hr : n ≤ 140737488355328) :
    Calls Tryd.prog 23 #[.slice ao n cap] w fun e w' => ∃ co cc, e = .returned (.slice co n cc) ∧ Bts w' co n cc l ∧ New w co ∧ Below w.heap.size w w' ∧ ∀ ad, co = some ad → ∃ cur, w'.heap[ad.block]? = some (.cells cur 5 (0, 0)) := by
  have HB : Hid (Bts w ao n cap l) := hb
  clear hb
  cases ao with
  | none =>
    obtain ⟨rfl, rfl⟩ := HB.out.none rfl
    have he := run_eql_slice_nil (P := Tryd.prog) w 33 5 none 0 0 Tryd.underlying33
    go_enter Tryd.func23, Tryd.ntmps23
    go_wp2
    go_ret
    exact ⟨none, 0, rfl, HB.out, new_none _, Below.refl _ _, fun _ e => by cases e⟩
  | some ad =>
    obtain ⟨i0, hi, hz0, hz1, hz2⟩ := info_parts Tryd.info5
    have hcm : cap ≤ 9223372036854775807 := HB.out.2.2.1
    have he := run_eql_slice_nil (P := Tryd.prog) w 33 5 (some ad) n cap Tryd.underlying33
    go_enter Tryd.func23, Tryd.ntmps23
    go_wp2_with (at_builtin; refine wpList_append_own _ rfl _ _ 33 rfl w.heap.size 5 i0 (.int .u8 0) 1 1 Tryd.underlying33 hi hz0 hz1 hz2 rfl (by decide) _ 0 [] rfl (own_empty w) ad n cap (cellsB l) rfl (by rw [cellsB_len]; have := HB.out.1; omega) ?c1 (cellsB_one l) (by unfold maxLen; omega) (by omega) ?c5 ?_)
    case c1 => exact (HB.out.carry (below_alloc w _)).news ad rfl
    case c5 => exact (below_alloc w _).size
    intro v' w2 hown2 hgrow2 _
    obtain ⟨co, cc, rfl, hb2⟩ := owns_bts hown2
    have HW : Hid (New w co) := owns_new hown2
    have HT : Hid (∀ ad, co = some ad → ∃ cur, w2.heap[ad.block]? = some (.cells cur 5 (0, 0))) := fun ad e => by
      rcases hown2.2 with ⟨h0, _⟩ | ⟨g, cap, cur, h1, _, h3, _⟩
      · cases h0; cases e
      · cases h1; cases e; exact ⟨cur, h3⟩
    have bel2 : Below w.heap.size w w2 := (below_alloc w (Obj.cells #[] 5)).grown hgrow2 (below_alloc w _).size (fun k e => by cases e; exact Nat.le_refl _)
    have HB2 : Hid (Bts w2 co n cc l) := hb2
    clear hown2 hgrow2 hb2
    go_wp2
    go_ret
    exact ⟨co, cc, rfl, HB2.out, HW.out, bel2, HT.out⟩
theorem size_al (w : World) (o : Obj) : (w.alloc o).heap.size = w.heap.size + 1 := by simp
structure AlEnd (w : World) (p p' : Ms) (w' : World) : Prop where
  nm : p'.nm = p.nm
  sn : p'.sn = p.sn
  has : p'.has w'
  own : OwnD w' p'
  new : New w p'.so
  b : Below w.heap.size w w'
set_option maxRecDepth 20000 in
set_option maxHeartbeats 1600000 in
theorem alone_any (p : Ms) (w : World) (hp : p.has w) (hs : p.sn ≤ 140737488355328) :
    Calls Tryd.prog 18 #[.agg #[.int .u64 p.ta, .int .u64 p.rp, .int .u32 p.id, .int .u16 p.op, .int .u16 p.st, .int .u64 p.p, .int .u32 p.o, .int .u8 p.r, .int .u64 p.c, .int .u64 p.ar, .slice p.so p.sn p.sc]] w fun e w' => ∃ p', e = .returned (.agg #[.int .u64 p'.ta, .int .u64 p'.rp, .int .u32 p'.id, .int .u16 p'.op, .int .u16 p'.st, .int .u64 p'.p, .int .u32 p'.o, .int .u8 p'.r, .int .u64 p'.c, .int .u64 p'.ar, .slice p'.so p'.sn p'.sc]) ∧ AlEnd w p p' w' := by
  obtain ⟨X, hX⟩ : ∃ X, (w.alloc (.cells #[.int .u64 p.ta, .int .u64 p.rp, .int .u32 p.id, .int .u16 p.op, .int .u16 p.st, .int .u64 p.p, .int .u32 p.o, .int .u8 p.r, .int .u64 p.c, .int .u64 p.ar, .slice p.so p.sn p.sc] 35)).alloc (.cells #[.int .u64 0, .int .u64 0, .int .u32 0, .int .u16 0, .int .u16 0, .int .u64 0, .int .u32 0, .int .u8 0, .int .u64 0, .int .u64 0, .slice none 0 0] 35) = X := ⟨_, rfl⟩
  have hb : Below w.heap.size w X := hX ▸ below_one (below_alloc w _) (below_alloc _ _)
  have bp : BoxM X w.heap.size p := hX ▸ (boxM_new w p).grow (below_alloc _ _)
  have bq : BoxM X (w.heap.size + 1) Ms.zero := by rw [← hX, ← size_al w (.cells #[.int .u64 p.ta, .int .u64 p.rp, .int .u32 p.id, .int .u16 p.op, .int .u16 p.st, .int .u64 p.p, .int .u32 p.o, .int .u8 p.r, .int .u64 p.c, .int .u64 p.ar, .slice p.so p.sn p.sc] 35)]; exact boxM_new (w.alloc (.cells #[.int .u64 p.ta, .int .u64 p.rp, .int .u32 p.id, .int .u16 p.op, .int .u16 p.st, .int .u64 p.p, .int .u32 p.o, .int .u8 p.r, .int .u64 p.c, .int .u64 p.ar, .slice p.so p.sn p.sc] 35)) Ms.zero
  have HB := hide hb
  have HBP := hide bp
  have HBQ := hide bq
  have HPX := hide (Bts.carry hp hb)
  have c10 := bp.all.2.2.2.2.2.2.2.2.2.2
  clear bp bq hb
  go_enter Tryd.func18, Tryd.ntmps18
  go_wp2_with fail
  refine (clone_own _ _ _ p.l _ HPX.out hs).mono ?_; rintro e w2 ⟨co, cc, rfl, B2, N2, b2, T2⟩
  have hbx := HBP.out.grow b2
  have hby := HBQ.out.grow b2
  have d10 := hbx.all.2.2.2.2.2.2.2.2.2.2
  have dz10 := hbx.z 10
  obtain ⟨W, hW⟩ : ∃ W, w2.setCell ⟨w.heap.size, 10, none⟩ (.slice co p.sn cc) = W := ⟨_, rfl⟩
  obtain ⟨p', hp'⟩ : ∃ p' : Ms, p.at co p.sn cc = p' := ⟨_, rfl⟩
  have hbw : BoxM W w.heap.size p' := by rw [← hW, ← hp']; exact hbx.put10 co p.sn cc
  have ftW : Foot (fun jj => jj = w.heap.size) w2 W := by rw [← hW]; exact foot_set w2 ⟨w.heap.size, 10, none⟩ _
  have hbz : BoxM W (w.heap.size + 1) Ms.zero := (ftW.block _ (lt_of_heap hby) (by omega)).trans hby
  have HW1 : Hid (Foot (fun jj => w.heap.size ≤ jj ∧ jj ≤ w.heap.size + 1) w W) := ((below_foot _ (below_one HB.out b2)).then (ftW.mono (fun k e => by omega)))
  have hXs : w.heap.size + 1 < X.heap.size := lt_of_heap HBQ.out
  have HH : Hid (Bts W co p.sn cc p.l ∧ New w co ∧ New X co ∧ ∀ ad, co = some ad → ∃ cur, W.heap[ad.block]? = some (.cells cur 5 (0, 0))) := by
    refine ⟨Bts.foot B2 ftW (fun ad e _ => ?_), New.le N2 HB.out.size, N2, fun ad e => ?_⟩
    · have := N2 ad e
      omega
    · obtain ⟨cur, hc⟩ := T2 ad e
      exact ⟨cur, (ftW.block _ (lt_of_heap hc) (by have := N2 ad e; omega)).trans hc⟩
  obtain ⟨k0, k1, k2, k3, k4, k5, k6, k7, k8, k9, k10⟩ := hbw.all
  obtain ⟨y0, y1, y2, y3, y4, y5, y6, y7, y8, y9, y10⟩ := hbz.all
  have z0 := hbz.z 0
  have z1 := hbz.z 1
  have z2 := hbz.z 2
  have z3 := hbz.z 3
  have z4 := hbz.z 4
  have z5 := hbz.z 5
  have z6 := hbz.z 6
  have z7 := hbz.z 7
  have z8 := hbz.z 8
  have z9 := hbz.z 9
  have z10 := hbz.z 10
  obtain ⟨V, hV⟩ : ∃ V, lay11 W (w.heap.size + 1) p' = V := ⟨_, rfl⟩
  have hbv : BoxM V (w.heap.size + 1) p' := hV ▸ hbz.lay p'
  have ftV : Foot (fun j => j = w.heap.size + 1) W V := hV ▸ foot_lay11 W _ p'
  unfold lay11 at hV
  obtain ⟨v0, v1, v2, v3, v4, v5, v6, v7, v8, v9, v10⟩ := hbv.all
  have HEND : Hid (AlEnd w p p' V) := by
    refine ⟨by rw [← hp']; rfl, by rw [← hp']; rfl, ?_, ?_, by rw [← hp']; exact HH.out.2.1, ((HW1.out.then (ftV.mono (fun k e => by omega))).below (Nat.le_refl _) (fun k e => e.1))⟩
    · show Bts _ _ _ _ _
      rw [← hp']
      refine Bts.foot HH.out.1 ftV (fun ad e _ => ?_)
      have := HH.out.2.2.1 ad e
      omega
    · intro _ ad e
      rw [← hp'] at e
      obtain ⟨cur, hc⟩ := HH.out.2.2.2 ad e
      exact ⟨cur, (ftV.block _ (lt_of_heap hc) (by have := HH.out.2.2.1 ad e; omega)).trans hc⟩
  clear hbx hby hbw hbz ftW B2 N2 b2 T2 hp' hbv ftV hXs
  go_wp2
  refine bodyPost_ret (by simp [results, Tryd.results18, go_sem, v0, v1, v2, v3, v4, v5, v6, v7, v8, v9, v10]; rfl) rfl ?_
  exact ⟨p', rfl, HEND.out⟩
/- F, with so much beside it, asks q of a message, and changes nothing, while block g holds o -/
structure AsksOf (F : Nat) (cap : Array Value) (g : Nat) (o : Obj) (q : Ms → Bool) : Prop where
  enter : ∀ (xs : Array Value) (w : World), (callFunc F xs).run Tryd.prog w = .ok (.enter F xs) w
  call : ∀ (y : Ms) (w : World), w.heap[g]? = some o → Calls Tryd.prog F (#[.agg #[.int .u64 y.ta, .int .u64 y.rp, .int .u32 y.id, .int .u16 y.op, .int .u16 y.st, .int .u64 y.p, .int .u32 y.o, .int .u8 y.r, .int .u64 y.c, .int .u64 y.ar, .slice y.so y.sn y.sc]] ++ cap) w fun e w' => e = .returned (.bool (q y)) ∧ Below w.heap.size w w'
  nm : ∀ y y' : Ms, y.nm = y'.nm → q y = q y'
theorem rec_idle (w : World) : CallsD Tryd.prog 33 #[] .returning w fun e u' w' => e = .returned (.tuple #[]) ∧ u' = .returning ∧ w' = w := by
  refine callsD_of_wpS Tryd.func33 rfl fun c₀ cs hu => ?_
  apply wpS_region
  simp [wpOpsS, go_sem, recoverD, hu, Tryd.ntmps33]
  cases c₀
  simp_all [bodyPostS, results, Tryd.results33]
set_option maxHeartbeats 1600000 in
theorem agrees_any {F : Nat} {cap : Array Value} {g : Nat} {o : Obj} {q : Ms → Bool} (hF : AsksOf F cap g o q) (y : Ms) (w : World) (hg : w.heap[g]? = some o) :
    Calls Tryd.prog 29 #[.func (.func F) #[] cap, .agg #[.int .u64 y.ta, .int .u64 y.rp, .int .u32 y.id, .int .u16 y.op, .int .u16 y.st, .int .u64 y.p, .int .u32 y.o, .int .u8 y.r, .int .u64 y.c, .int .u64 y.ar, .slice y.so y.sn y.sc]] w fun e w' => e = .returned (.bool (q y)) ∧ Below w.heap.size w w' := by
  have hmf : ∀ (fn : Fn) (first cap : Array Value) (w : World), (Instr.makeFunc fn first cap).run Tryd.prog w = .ok (.func fn first cap) w := fun _ _ _ _ => rfl
  obtain ⟨X, hX⟩ : ∃ X, w.alloc (.cells #[.int .u64 y.ta, .int .u64 y.rp, .int .u32 y.id, .int .u16 y.op, .int .u16 y.st, .int .u64 y.p, .int .u32 y.o, .int .u8 y.r, .int .u64 y.c, .int .u64 y.ar, .slice y.so y.sn y.sc] 35) = X := ⟨_, rfl⟩
  have bX : Below w.heap.size w X := hX ▸ below_alloc w _
  have bp : BoxM X w.heap.size y := hX ▸ boxM_new w y
  obtain ⟨k0, k1, k2, k3, k4, k5, k6, k7, k8, k9, k10⟩ := bp.all
  have HG : Hid (X.heap[g]? = some o) := (bX.block g (lt_of_heap hg)).trans hg
  have HB := hide bX
  have HFF := hide hF
  have hent := hF.enter
  clear hF hg bX bp
  go_enter_defers Tryd.func29, Tryd.ntmps29
  go_wp2_with fail
  refine (HFF.out.call y _ HG.out).mono ?_; rintro e w1 ⟨rfl, b1⟩
  have HB1 := hide (below_one HB.out b1)
  clear b1
  go_wp2
  refine leaves_cons (f := 33) (args := #[]) (by simp) (by simp [go_sem]) ?_
  refine (rec_idle _).mono ?_
  rintro e u' w'' ⟨rfl, rfl, rfl⟩
  simp [Leaves, settle, results, Tryd.results29, go_sem]
  exact HB1.out
/- a box: its two channels, their messages -/
structure Bx (w : World) (b cu co N : Nat) (U O : List Ms) : Prop where
  box : w.heap[b]? = some (.cells #[.chan (some cu), .chan (some co)] 60 (0, 0))
  urg : Ch w cu N U
  oth : Ch w co N O
  ne : cu ≠ co
  has : ∀ x ∈ U ++ O, x.has w ∧ OwnD w x ∧ x.sn ≤ 140737488355328
  few : U.length ≤ N ∧ O.length ≤ N ∧ N ≤ 64
theorem Bx.c0 {w : World} {b cu co N : Nat} {U O : List Ms} (x : Bx w b cu co N U O) : w.cell? ⟨b, 0, none⟩ = some (.chan (some cu)) := by rw [cell_of_row w b _ _ _ _ x.box]; rfl
theorem Bx.c1 {w : World} {b cu co N : Nat} {U O : List Ms} (x : Bx w b cu co N U O) : w.cell? ⟨b, 1, none⟩ = some (.chan (some co)) := by rw [cell_of_row w b _ _ _ _ x.box]; rfl
theorem Bx.grow {w w' : World} {b cu co N : Nat} {U O : List Ms} (x : Bx w b cu co N U O) (e : Below w.heap.size w w') : Bx w' b cu co N U O :=
  ⟨(e.block b (lt_of_heap x.box)).trans x.box, x.urg.grow e, x.oth.grow e, x.ne, fun y hy => ⟨Bts.carry (x.has y hy).1 e, (x.has y hy).2.1.grow e, (x.has y hy).2.2⟩, x.few⟩
def OfEnd (w : World) (N : Nat) (e : Ending) (w' : World) : Prop := ∃ b cu co, e = .returned (.pointer (some ⟨b, 0, none⟩)) ∧ Bx w' b cu co N [] [] ∧ Below w.heap.size w w' ∧ w.heap.size ≤ b ∧ w.heap.size ≤ cu ∧ w.heap.size ≤ co
theorem of_two (w : World) (N cu co : Nat) (hN : N ≤ 64) (h : cu = w.heap.size ∧ co = w.heap.size + 1 ∨ cu = w.heap.size + 1 ∧ co = w.heap.size) :
    OfEnd w N (.returned (.pointer (some ⟨w.heap.size + 1 + 1, 0, none⟩))) (((w.alloc (.chan N #[] false 0 0 false)).alloc (.chan N #[] false 0 0 false)).alloc (.cells #[.chan (some cu), .chan (some co)] 60)).drew := by
  obtain ⟨X, hX⟩ : ∃ X, w.alloc (.chan N #[] false 0 0 false) = X := ⟨_, rfl⟩
  obtain ⟨Y, hY⟩ : ∃ Y, X.alloc (.chan N #[] false 0 0 false) = Y := ⟨_, rfl⟩
  obtain ⟨Z, hZ⟩ : ∃ Z, Y.alloc (.cells #[.chan (some cu), .chan (some co)] 60) = Z := ⟨_, rfl⟩
  have sX : X.heap.size = w.heap.size + 1 := by rw [← hX]; simp
  have sY : Y.heap.size = w.heap.size + 1 + 1 := by rw [← hY, ← sX]; simp
  have bX : Below w.heap.size w X := hX ▸ below_alloc w _
  have bY : Below X.heap.size X Y := hY ▸ below_alloc X _
  have bZ : Below Y.heap.size Y Z := hZ ▸ below_alloc Y _
  have h1 : Ch X w.heap.size N [] := ⟨0, 0, by rw [← hX]; exact heap_alloc_new w _⟩
  have h2 : Ch Y (w.heap.size + 1) N [] := ⟨0, 0, by rw [← sX, ← hY]; exact heap_alloc_new X _⟩
  have h1 := (h1.grow bY).grow bZ
  have h2 := h2.grow bZ
  have h3 : Z.heap[w.heap.size + 1 + 1]? = some (.cells #[.chan (some cu), .chan (some co)] 60 (0, 0)) := by rw [← sY, ← hZ]; exact heap_alloc_new Y _
  rw [hX, hY, hZ]
  have key : Bx Z (w.heap.size + 1 + 1) cu co N [] [] := by
    refine ⟨h3, ?_, ?_, ?_, (fun x hx => by cases hx), Nat.zero_le _, Nat.zero_le _, hN⟩
    · rcases h with ⟨rfl, rfl⟩ | ⟨rfl, rfl⟩ <;> assumption
    · rcases h with ⟨rfl, rfl⟩ | ⟨rfl, rfl⟩ <;> assumption
    · omega
  exact ⟨_, cu, co, rfl, key.grow (below_d Z 1), below_one (below_one (below_one bX bY) bZ) (below_d Z 1), by omega, by omega, by omega⟩
theorem mk_chan (N : Nat) (hN : N ≤ 64) (w : World) : (Instr.makeChan 58 (.int .i64 (N : Int))).run Tryd.prog w = .ok (.chan (some w.heap.size)) (w.alloc (.chan N #[] false 0 0 false)) := by
  obtain ⟨i0, hi, hz0, hz1, hz2⟩ := info_parts Tryd.infoM
  exact run_makeChan (P := Tryd.prog) (w := w) Tryd.underlying58 hi .i64 N (by omega) (by rw [hz2]; omega)
def roomF (r : Int) : Nat := (min (max r 0) 64).toNat
theorem roomF_le (r : Int) : roomF r ≤ 64 := by unfold roomF; omega
set_option maxHeartbeats 1600000 in
theorem of_any (r : Int) (w : World) :
    Calls Tryd.prog 8 #[.int .i64 r] w fun e w' => OfEnd w (roomF r) e w' := by
  obtain ⟨N, hN⟩ : ∃ N, roomF r = N := ⟨_, rfl⟩
  have hN64 : N ≤ 64 := hN ▸ roomF_le r
  have hmk := mk_chan N hN64
  have h1 : min (max r 0) 64 = (N : Int) := by rw [← hN]; unfold roomF; omega
  rw [hN]
  clear hN
  go_enter Tryd.func8, Tryd.ntmps8
  go_wp2_with fail

  go_region
  all_goals go_wp2
  · go_ret
    exact of_two w N _ _ hN64 (.inl ⟨rfl, rfl⟩)
  · go_ret
    exact of_two w N _ _ hN64 (.inr ⟨rfl, rfl⟩)
set_option maxHeartbeats 1600000 in
theorem len_any {b cu co N : Nat} {U O : List Ms} (w : World) (x : Bx w b cu co N U O) :
    Calls Tryd.prog 15 #[.pointer (some ⟨b, 0, none⟩)] w fun e w' => e = .returned (.tuple #[.int .i64 (U.length : Int), .int .i64 (O.length : Int)]) ∧ Below w.heap.size w w' := by
  have c0 : ∀ q, (w.drewN q).cell? ⟨b, 0, none⟩ = some (.chan (some cu)) := fun q => x.c0
  have c1 : ∀ q, (w.drewN q).cell? ⟨b, 1, none⟩ = some (.chan (some co)) := fun q => x.c1
  obtain ⟨s, r, hu⟩ := x.urg
  obtain ⟨s', r', ho⟩ := x.oth
  have hlu : ∀ q ty, (Builtin.len_ #[58] ty #[.chan (some cu)]).run Tryd.prog (w.drewN q) = .ok (.int .i64 (U.length : Int)) (w.drewN q) := fun q ty => by
    rw [← vals_size U]; exact run_len_chan (P := Tryd.prog) (w := w.drewN q) 58 ty Tryd.underlying58 hu
  have hlo : ∀ q ty, (Builtin.len_ #[58] ty #[.chan (some co)]).run Tryd.prog (w.drewN q) = .ok (.int .i64 (O.length : Int)) (w.drewN q) := fun q ty => by
    rw [← vals_size O]; exact run_len_chan (P := Tryd.prog) (w := w.drewN q) 58 ty Tryd.underlying58 ho
  clear x hu ho
  go_enter Tryd.func15, Tryd.ntmps15
  go_wp2_with fail
  go_quiet (fail)
  go_wp2
  go_returns
  exact ⟨rfl, below_d w _⟩
end Go.Proofs.YtibdhjohjkdgdaaDoor
