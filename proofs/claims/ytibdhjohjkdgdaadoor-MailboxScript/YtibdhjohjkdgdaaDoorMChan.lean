/-
  A channel of messages in memory, and what a row's put and get answer, as contracts: a select of one case and a default, by the steps of the machine of one goroutine.
-/
import Derived.Test.YtibdhjohjkdgdaaDoorMRow
import Derived.Conc.LoneCalls
import Derived.Conc.LoneSelect
namespace Go.Proofs.YtibdhjohjkdgdaaDoor
open Go.RowKit Go.Conc
def vals (K : List Ms) : Array Value := (K.map Ms.val).toArray
theorem vals_push (K : List Ms) (x : Ms) : (vals K).push x.val = vals (K ++ [x]) := by simp [vals]
theorem vals_size (K : List Ms) : (vals K).size = K.length := by simp [vals]
theorem vals_head (x : Ms) (K : List Ms) : (vals (x :: K)).getD 0 undef = x.val := by simp [vals]
theorem vals_tail (x : Ms) (K : List Ms) : (vals (x :: K)).extract 1 (vals (x :: K)).size = vals K := by simp [vals, List.take_of_length_le]
/- a channel with room for N, its messages in order -/
def Ch (w : World) (c N : Nat) (K : List Ms) : Prop := ∃ s r, w.heap[c]? = some (.chan N (vals K) false s r false)
theorem Ch.lt {w : World} {c N : Nat} {K : List Ms} (h : Ch w c N K) : c < w.heap.size := by obtain ⟨s, r, h⟩ := h; exact lt_of_heap h
theorem Ch.foot {S : Nat → Prop} {w w' : World} {c N : Nat} {K : List Ms} (h : Ch w c N K) (f : Foot S w w') (hS : ¬ S c) : Ch w' c N K := by
  obtain ⟨s, r, h⟩ := h
  exact ⟨s, r, (f.block c (lt_of_heap h) hS).trans h⟩
theorem Ch.grow {w w' : World} {c N : Nat} {K : List Ms} (h : Ch w c N K) (b : Below w.heap.size w w') : Ch w' c N K := h.foot (below_foot (fun _ => False) b) id
theorem foot_chan (w : World) (c cap : Nat) (buf : Array Value) (cl : Bool) (s r : Nat) (tm : Bool) : Foot (· = c) w (w.setChan c cap buf cl s r tm) :=
  ⟨rfl, rfl, rfl, by simp [World.setChan], fun k _ hn => by simp only [World.setChan]; rw [Array.getElem?_setIfInBounds_ne (fun e => hn e.symm)]⟩
theorem ch_set {w : World} {c : Nat} (h : c < w.heap.size) (N : Nat) (K : List Ms) (s r : Nat) : Ch (w.setChan c N (vals K) false s r false) c N K := ⟨s, r, heap_setChan w c N _ false s r false h⟩
/- a block that is no channel stays when a channel turns -/
theorem Ch.other {w w' : World} {c N g : Nat} {K : List Ms} (h : Ch w c N K) (f : Foot (· = c) w w') {cs : Array Value} {t : TypeId} {fr : Nat × Nat} (hg : w.heap[g]? = some (.cells cs t fr)) : w'.heap[g]? = some (.cells cs t fr) :=
  (f.block g (lt_of_heap hg) (fun e => by obtain ⟨s, r, h⟩ := h; rw [e, h] at hg; cases hg)).trans hg
theorem cell_cells {w : World} {a : Addr} {v : Value} (h : w.cell? a = some v) : ∃ cs t fr, w.heap[a.block]? = some (.cells cs t fr) := by
  unfold World.cell? at h
  cases hb : w.heap[a.block]? with
  | none => rw [hb] at h; cases h
  | some o =>
    cases o with
    | cells cs t fr => exact ⟨cs, t, fr, rfl⟩
    | _ => rw [hb] at h; simp at h
theorem Ch.cell {w w' : World} {c N : Nat} {K : List Ms} (h : Ch w c N K) (f : Foot (· = c) w w') {a : Addr} {v : Value} (hv : w.cell? a = some v) : w'.cell? a = some v := by
  obtain ⟨cs, t, fr, hg⟩ := cell_cells hv
  rw [← hv]
  unfold World.cell?
  rw [h.other f hg, hg]
theorem Ch.bts {w w' : World} {c N : Nat} {K : List Ms} (h : Ch w c N K) (f : Foot (· = c) w w') {ao : Option Addr} {n cap : Nat} {l : List UInt8} (hb : Bts w ao n cap l) : Bts w' ao n cap l :=
  ⟨hb.1, hb.2.1, hb.2.2.1, hb.2.2.2.1, fun ad e j hj => h.cell f (hb.2.2.2.2 ad e j hj)⟩
theorem Ch.lies {w w' : World} {c N : Nat} {K : List Ms} (h : Ch w c N K) (f : Foot (· = c) w w') {sz : Nat} {ao : Option Addr} {n cap : Nat} {cs : List Value} (hb : Lies sz w ao n cap cs) : Lies sz w' ao n cap cs :=
  ⟨hb.1, hb.2.1, hb.2.2.1, hb.2.2.2.1, fun ad e j u hu => h.cell f (hb.2.2.2.2 ad e j u hu)⟩
theorem Ch.owns {w w' : World} {c N : Nat} {K : List Ms} (h : Ch w c N K) (f : Foot (· = c) w w') {B : Nat} {e : TypeId} {sz n : Nat} {v : Value} {xs : List Value} (ho : w.ownsRow B e sz v n xs) : w'.ownsRow B e sz v n xs := by
  refine ⟨ho.1, ?_⟩
  rcases ho.2 with h0 | ⟨k, cap, cur, h1, h2, h3, h4⟩
  · exact .inl h0
  · exact .inr ⟨k, cap, cur, h1, h2, h.other f h3, h4⟩
set_option maxRecDepth 100000 in
set_option maxHeartbeats 1600000 in
theorem put_room (x : Ms) (c N : Nat) (K : List Ms) (w : World) (h : Ch w c N K) (hN : K.length < N) :
    Calls Tryd.prog 17 #[.chan (some c), .agg #[.int .u64 x.ta, .int .u64 x.rp, .int .u32 x.id, .int .u16 x.op, .int .u16 x.st, .int .u64 x.p, .int .u32 x.o, .int .u8 x.r, .int .u64 x.c, .int .u64 x.ar, .slice x.so x.sn x.sc]] w fun e w' => e = .returned (.nilIface) ∧ Ch w' c N (K ++ [x]) ∧ Foot (· = c) w w' := by
  obtain ⟨s, r, hc⟩ := h
  obtain ⟨X, hX⟩ : ∃ X, w.alloc (.cells #[.int .u64 x.ta, .int .u64 x.rp, .int .u32 x.id, .int .u16 x.op, .int .u16 x.st, .int .u64 x.p, .int .u32 x.o, .int .u8 x.r, .int .u64 x.c, .int .u64 x.ar, .slice x.so x.sn x.sc] 35) = X := ⟨_, rfl⟩
  have bX : Below w.heap.size w X := hX ▸ below_alloc w _
  have hcX : X.heap[c]? = some (.chan N (vals K) false s r false) := (bX.block c (lt_of_heap hc)).trans hc
  have bp : BoxM X w.heap.size x := hX ▸ boxM_new w x
  obtain ⟨k0, k1, k2, k3, k4, k5, k6, k7, k8, k9, k10⟩ := bp.all
  refine calls_of_loneTo fun cs => ?_
  have e : Frame.enter Tryd.prog 17 #[.chan (some c), .agg #[.int .u64 x.ta, .int .u64 x.rp, .int .u32 x.id, .int .u16 x.op, .int .u16 x.st, .int .u64 x.p, .int .u32 x.o, .int .u8 x.r, .int .u64 x.c, .int .u64 x.ar, .slice x.so x.sn x.sc]] .normal = (base 17).at ⟨#[.chan (some c), .agg #[.int .u64 x.ta, .int .u64 x.rp, .int .u32 x.id, .int .u16 x.op, .int .u16 x.st, .int .u64 x.p, .int .u32 x.o, .int .u8 x.r, .int .u64 x.c, .int .u64 x.ar, .slice x.so x.sn x.sc], undef, undef, undef, undef, undef, undef, undef, undef, undef], []⟩ [.code (Tryd.f17.body.getD .skip)] := by
    simp [Frame.enter, Frame.at, Tryd.func17, base, Tryd.f17]
  rw [e]
  refine LoneTo.goes (n := 40) ?_
  simp only [Tryd.f17, Option.getD_some]
  s_c stepG_seq
  s_reg
  s_op
  s_op
  s_c stepG_region_end
  s_c stepG_seq
  s_c stepG_seq
  s_reg
  s_op
  s_c stepG_region_end
  s_reg
  s_op
  s_c stepG_region_end
  s_c stepG_seq
  s_reg
  s_stop
  refine LoneTo.step (step_lone_select_send_room (c := c) (v := .agg #[.int .u64 x.ta, .int .u64 x.rp, .int .u32 x.id, .int .u16 x.op, .int .u16 x.st, .int .u64 x.p, .int .u32 x.o, .int .u8 x.r, .int .u64 x.c, .int .u64 x.ar, .slice x.so x.sn x.sc]) (z' := .agg #[.int .u64 0, .int .u64 0, .int .u32 0, .int .u16 0, .int .u16 0, .int .u64 0, .int .u32 0, .int .u8 0, .int .u64 0, .int .u64 0, .slice none 0 0]) (cap := N) (s := s) (r := r) (tm := false) (stepG_comm (cases := #[scase c (.agg #[.int .u64 x.ta, .int .u64 x.rp, .int .u32 x.id, .int .u16 x.op, .int .u16 x.st, .int .u64 x.p, .int .u32 x.o, .int .u8 x.r, .int .u64 x.c, .int .u64 x.ar, .slice x.so x.sn x.sc]) (.agg #[.int .u64 0, .int .u64 0, .int .u32 0, .int .u16 0, .int .u16 0, .int .u64 0, .int .u32 0, .int .u8 0, .int .u64 0, .int .u64 0, .slice none 0 0])]) (blocking := false) (shape := .select) (w' := X) rfl rfl (by decide) (by simp [go_sem, execOp, scase, Act.eval])) hcX (by rw [vals_size]; exact hN)) ?_
  rw [Frame.finish_at]
  walk_nrm
  refine LoneTo.goes (n := 40) ?_
  s_op
  s_op
  s_c stepG_region_end
  s_c stepG_block
  s_cond true
  s_c stepG_seq
  s_reg
  s_op
  s_c stepG_region_end
  s_c stepG_ret'
  s_stop
  refine LoneTo.done ⟨.returned (.nilIface), _, rfl, ⟨rfl, ?_, ?_⟩, rfl, rfl, rfl, rfl, _, Tryd.func17, by simp [results, Tryd.f17, Frame.at]⟩
  · have := ch_set (lt_of_heap hcX) N (K ++ [x]) (s + 1) r
    rw [← vals_push] at this
    exact this
  · exact (below_foot _ bX).then (foot_chan X c _ _ _ _ _ _)
set_option maxRecDepth 100000 in
set_option maxHeartbeats 1600000 in
theorem put_full (x : Ms) (c N : Nat) (K : List Ms) (w : World) (h : Ch w c N K) (hN : N ≤ K.length) :
    Calls Tryd.prog 17 #[.chan (some c), .agg #[.int .u64 x.ta, .int .u64 x.rp, .int .u32 x.id, .int .u16 x.op, .int .u16 x.st, .int .u64 x.p, .int .u32 x.o, .int .u8 x.r, .int .u64 x.c, .int .u64 x.ar, .slice x.so x.sn x.sc]] w fun e w' => e = .returned (.iface 42 (.int .i64 5)) ∧ Below w.heap.size w w' := by
  obtain ⟨s, r, hc⟩ := h
  obtain ⟨X, hX⟩ : ∃ X, w.alloc (.cells #[.int .u64 x.ta, .int .u64 x.rp, .int .u32 x.id, .int .u16 x.op, .int .u16 x.st, .int .u64 x.p, .int .u32 x.o, .int .u8 x.r, .int .u64 x.c, .int .u64 x.ar, .slice x.so x.sn x.sc] 35) = X := ⟨_, rfl⟩
  have bX : Below w.heap.size w X := hX ▸ below_alloc w _
  have hcX : X.heap[c]? = some (.chan N (vals K) false s r false) := (bX.block c (lt_of_heap hc)).trans hc
  have bp : BoxM X w.heap.size x := hX ▸ boxM_new w x
  obtain ⟨k0, k1, k2, k3, k4, k5, k6, k7, k8, k9, k10⟩ := bp.all
  refine calls_of_loneTo fun cs => ?_
  have e : Frame.enter Tryd.prog 17 #[.chan (some c), .agg #[.int .u64 x.ta, .int .u64 x.rp, .int .u32 x.id, .int .u16 x.op, .int .u16 x.st, .int .u64 x.p, .int .u32 x.o, .int .u8 x.r, .int .u64 x.c, .int .u64 x.ar, .slice x.so x.sn x.sc]] .normal = (base 17).at ⟨#[.chan (some c), .agg #[.int .u64 x.ta, .int .u64 x.rp, .int .u32 x.id, .int .u16 x.op, .int .u16 x.st, .int .u64 x.p, .int .u32 x.o, .int .u8 x.r, .int .u64 x.c, .int .u64 x.ar, .slice x.so x.sn x.sc], undef, undef, undef, undef, undef, undef, undef, undef, undef], []⟩ [.code (Tryd.f17.body.getD .skip)] := by
    simp [Frame.enter, Frame.at, Tryd.func17, base, Tryd.f17]
  rw [e]
  refine LoneTo.goes (n := 40) ?_
  simp only [Tryd.f17, Option.getD_some]
  s_c stepG_seq
  s_reg
  s_op
  s_op
  s_c stepG_region_end
  s_c stepG_seq
  s_c stepG_seq
  s_reg
  s_op
  s_c stepG_region_end
  s_reg
  s_op
  s_c stepG_region_end
  s_c stepG_seq
  s_reg
  s_stop
  refine LoneTo.step (step_lone_select_send_full (c := c) (v := .agg #[.int .u64 x.ta, .int .u64 x.rp, .int .u32 x.id, .int .u16 x.op, .int .u16 x.st, .int .u64 x.p, .int .u32 x.o, .int .u8 x.r, .int .u64 x.c, .int .u64 x.ar, .slice x.so x.sn x.sc]) (z' := .agg #[.int .u64 0, .int .u64 0, .int .u32 0, .int .u16 0, .int .u16 0, .int .u64 0, .int .u32 0, .int .u8 0, .int .u64 0, .int .u64 0, .slice none 0 0]) (cap := N) (s := s) (r := r) (tm := false) (stepG_comm (cases := #[scase c (.agg #[.int .u64 x.ta, .int .u64 x.rp, .int .u32 x.id, .int .u16 x.op, .int .u16 x.st, .int .u64 x.p, .int .u32 x.o, .int .u8 x.r, .int .u64 x.c, .int .u64 x.ar, .slice x.so x.sn x.sc]) (.agg #[.int .u64 0, .int .u64 0, .int .u32 0, .int .u16 0, .int .u16 0, .int .u64 0, .int .u32 0, .int .u8 0, .int .u64 0, .int .u64 0, .slice none 0 0])]) (blocking := false) (shape := .select) (w' := X) rfl rfl (by decide) (by simp [go_sem, execOp, scase, Act.eval])) hcX (by rw [vals_size]; exact hN)) ?_
  rw [Frame.finish_at]
  walk_nrm
  refine LoneTo.goes (n := 40) ?_
  s_op
  s_op
  s_c stepG_region_end
  s_c stepG_block
  s_cond false
  s_c stepG_seq
  s_reg
  s_op
  s_op
  s_c stepG_region_end
  s_c stepG_ret'
  s_stop
  refine LoneTo.done ⟨.returned (.iface 42 (.int .i64 5)), _, rfl, ⟨rfl, bX⟩, rfl, rfl, rfl, rfl, _, Tryd.func17, by simp [results, Tryd.f17, Frame.at]⟩
set_option maxRecDepth 100000 in
set_option maxHeartbeats 3200000 in
theorem get_some (x : Ms) (K : List Ms) (c N : Nat) (w : World) (h : Ch w c N (x :: K)) :
    Calls Tryd.prog 20 #[.chan (some c)] w fun e w' => e = .returned (.tuple #[.agg #[.int .u64 x.ta, .int .u64 x.rp, .int .u32 x.id, .int .u16 x.op, .int .u16 x.st, .int .u64 x.p, .int .u32 x.o, .int .u8 x.r, .int .u64 x.c, .int .u64 x.ar, .slice x.so x.sn x.sc], .bool true]) ∧ Ch w' c N K ∧ Foot (· = c) w w' := by
  obtain ⟨s, r, hc⟩ := h
  obtain ⟨X, hX⟩ : ∃ X, w.alloc (.cells #[.int .u64 0, .int .u64 0, .int .u32 0, .int .u16 0, .int .u16 0, .int .u64 0, .int .u32 0, .int .u8 0, .int .u64 0, .int .u64 0, .slice none 0 0] 35) = X := ⟨_, rfl⟩
  have bX : Below w.heap.size w X := hX ▸ below_alloc w _
  have hcX : X.heap[c]? = some (.chan N (vals (x :: K)) false s r false) := (bX.block c (lt_of_heap hc)).trans hc
  have bp : BoxM X w.heap.size Ms.zero := hX ▸ boxM_new w Ms.zero
  refine calls_of_loneTo fun cs => ?_
  have e : Frame.enter Tryd.prog 20 #[.chan (some c)] .normal = (base 20).at ⟨#[.chan (some c), undef, undef, undef, undef, undef, undef, undef, undef, undef, undef, undef], []⟩ [.code (Tryd.f20.body.getD .skip)] := by
    simp [Frame.enter, Frame.at, Tryd.func20, base, Tryd.f20]
  rw [e]
  refine LoneTo.goes (n := 40) ?_
  simp only [Tryd.f20, Option.getD_some]
  s_c stepG_seq
  s_reg
  s_op
  s_op
  s_c stepG_region_end
  s_c stepG_seq
  s_reg
  s_op
  s_c stepG_region_end
  s_c stepG_seq
  s_reg
  s_stop
  refine LoneTo.step (step_lone_select_recv_buf (c := c) (z := .agg #[.int .u64 0, .int .u64 0, .int .u32 0, .int .u16 0, .int .u16 0, .int .u64 0, .int .u32 0, .int .u8 0, .int .u64 0, .int .u64 0, .slice none 0 0]) (cap := N) (s := s) (r := r) (tm := false) (stepG_comm (cases := #[rcase c (.agg #[.int .u64 0, .int .u64 0, .int .u32 0, .int .u16 0, .int .u16 0, .int .u64 0, .int .u32 0, .int .u8 0, .int .u64 0, .int .u64 0, .slice none 0 0])]) (blocking := false) (shape := .select) (w' := X) rfl rfl (by decide) (by simp [go_sem, execOp, rcase, Act.eval])) hcX (by rw [vals_size]; exact Nat.succ_pos _)) ?_
  rw [Frame.finish_at, vals_head, vals_tail]
  unfold Ms.val
  obtain ⟨Y, hY⟩ : ∃ Y, X.setChan c N (vals K) false s (r + 1) false = Y := ⟨_, rfl⟩
  rw [hY]
  have ftY : Foot (· = c) X Y := hY ▸ foot_chan X c _ _ _ _ _ _
  have hne : w.heap.size ≠ c := by have := lt_of_heap hc; omega
  have hcY : Ch Y c N K := hY ▸ ch_set (lt_of_heap hcX) N K s (r + 1)
  have bY : BoxM Y w.heap.size Ms.zero := bp.foot ftY hne
  have sY : Y.heap.size = w.heap.size + 1 := by rw [← hY, size_setChan, ← hX]; simp
  obtain ⟨Z, hZ⟩ : ∃ Z, Y.alloc (.cells #[.int .u64 x.ta, .int .u64 x.rp, .int .u32 x.id, .int .u16 x.op, .int .u16 x.st, .int .u64 x.p, .int .u32 x.o, .int .u8 x.r, .int .u64 x.c, .int .u64 x.ar, .slice x.so x.sn x.sc] 35) = Z := ⟨_, rfl⟩
  have bZ : Below Y.heap.size Y Z := hZ ▸ below_alloc Y _
  have bv : BoxM Z (w.heap.size + 1) x := by rw [← sY, ← hZ]; exact boxM_new Y x
  have bz := bY.grow bZ
  obtain ⟨k0, k1, k2, k3, k4, k5, k6, k7, k8, k9, k10⟩ := bv.all
  obtain ⟨y0, y1, y2, y3, y4, y5, y6, y7, y8, y9, y10⟩ := bz.all
  have z := bz.z
  have z0 := z 0
  have z1 := z 1
  have z2 := z 2
  have z3 := z 3
  have z4 := z 4
  have z5 := z 5
  have z6 := z 6
  have z7 := z 7
  have z8 := z 8
  have z9 := z 9
  have z10 := z 10
  obtain ⟨V, hV⟩ : ∃ V, lay11 Z w.heap.size x = V := ⟨_, rfl⟩
  have hbv : BoxM V w.heap.size x := hV ▸ bz.lay x
  have ftV : Foot (fun j => j = w.heap.size) Z V := hV ▸ foot_lay11 Z _ x
  have HEND : Hid (Ch V c N K ∧ Foot (· = c) w V) := ⟨(hcY.grow bZ).foot ftV (fun e => hne e.symm), ((below_foot _ bX).then (ftY.then (below_foot _ bZ))).trans (S' := fun j => j = w.heap.size) ftV (fun j e => .inr (by omega))⟩
  unfold lay11 at hV
  obtain ⟨v0, v1, v2, v3, v4, v5, v6, v7, v8, v9, v10⟩ := hbv.all
  clear z hbv ftV bv bz bY bZ hcY ftY hY hX bX hcX hc bp e
  walk_nrm
  refine LoneTo.goes (n := 40) ?_
  s_op
  s_op
  s_c stepG_region_end
  s_c stepG_block
  s_cond true
  s_c stepG_seq
  s_reg
  s_op
  s_op
  s_op
  s_c stepG_region_end
  s_c stepG_seq
  s_reg
  s_op
  s_op
  s_op
  s_c stepG_region_end
  s_c stepG_ret'
  s_stop
  refine LoneTo.done ⟨.returned (.tuple #[.agg #[.int .u64 x.ta, .int .u64 x.rp, .int .u32 x.id, .int .u16 x.op, .int .u16 x.st, .int .u64 x.p, .int .u32 x.o, .int .u8 x.r, .int .u64 x.c, .int .u64 x.ar, .slice x.so x.sn x.sc], .bool true]), _, rfl, ⟨rfl, HEND.out⟩, rfl, rfl, rfl, rfl, _, Tryd.func20, by simp [results, Tryd.f20, Frame.at, go_sem, v0, v1, v2, v3, v4, v5, v6, v7, v8, v9, v10]⟩
set_option maxRecDepth 100000 in
set_option maxHeartbeats 3200000 in
theorem get_none (c N : Nat) (w : World) (h : Ch w c N ([])) :
    Calls Tryd.prog 20 #[.chan (some c)] w fun e w' => e = .returned (.tuple #[.agg #[.int .u64 0, .int .u64 0, .int .u32 0, .int .u16 0, .int .u16 0, .int .u64 0, .int .u32 0, .int .u8 0, .int .u64 0, .int .u64 0, .slice none 0 0], .bool false]) ∧ Below w.heap.size w w' := by
  obtain ⟨s, r, hc⟩ := h
  obtain ⟨X, hX⟩ : ∃ X, w.alloc (.cells #[.int .u64 0, .int .u64 0, .int .u32 0, .int .u16 0, .int .u16 0, .int .u64 0, .int .u32 0, .int .u8 0, .int .u64 0, .int .u64 0, .slice none 0 0] 35) = X := ⟨_, rfl⟩
  have bX : Below w.heap.size w X := hX ▸ below_alloc w _
  have hcX : X.heap[c]? = some (.chan N (vals ([])) false s r false) := (bX.block c (lt_of_heap hc)).trans hc
  have bp : BoxM X w.heap.size Ms.zero := hX ▸ boxM_new w Ms.zero
  refine calls_of_loneTo fun cs => ?_
  have e : Frame.enter Tryd.prog 20 #[.chan (some c)] .normal = (base 20).at ⟨#[.chan (some c), undef, undef, undef, undef, undef, undef, undef, undef, undef, undef, undef], []⟩ [.code (Tryd.f20.body.getD .skip)] := by
    simp [Frame.enter, Frame.at, Tryd.func20, base, Tryd.f20]
  rw [e]
  refine LoneTo.goes (n := 40) ?_
  simp only [Tryd.f20, Option.getD_some]
  s_c stepG_seq
  s_reg
  s_op
  s_op
  s_c stepG_region_end
  s_c stepG_seq
  s_reg
  s_op
  s_c stepG_region_end
  s_c stepG_seq
  s_reg
  s_stop
  refine LoneTo.step (step_lone_select_default (c := c) (z := .agg #[.int .u64 0, .int .u64 0, .int .u32 0, .int .u16 0, .int .u16 0, .int .u64 0, .int .u32 0, .int .u8 0, .int .u64 0, .int .u64 0, .slice none 0 0]) (cap := N) (s := s) (r := r) (tm := false) (stepG_comm (cases := #[rcase c (.agg #[.int .u64 0, .int .u64 0, .int .u32 0, .int .u16 0, .int .u16 0, .int .u64 0, .int .u32 0, .int .u8 0, .int .u64 0, .int .u64 0, .slice none 0 0])]) (blocking := false) (shape := .select) (w' := X) rfl rfl (by decide) (by simp [go_sem, execOp, rcase, Act.eval])) hcX) ?_
  rw [Frame.finish_at]
  obtain ⟨y0, y1, y2, y3, y4, y5, y6, y7, y8, y9, y10⟩ := bp.all
  have z := bp.z
  have z0 := z 0
  have z1 := z 1
  have z2 := z 2
  have z3 := z 3
  have z4 := z 4
  have z5 := z 5
  have z6 := z 6
  have z7 := z 7
  have z8 := z 8
  have z9 := z 9
  have z10 := z 10
  obtain ⟨V, hV⟩ : ∃ V, lay11 X w.heap.size Ms.zero = V := ⟨_, rfl⟩
  have hbv : BoxM V w.heap.size Ms.zero := hV ▸ bp.lay Ms.zero
  have ftV : Foot (fun j => j = w.heap.size) X V := hV ▸ foot_lay11 X _ Ms.zero
  have HEND : Hid (Below w.heap.size w V) := ((below_foot (fun j => j = w.heap.size) bX).then ftV).below (Nat.le_refl _) (fun k e => by omega)
  unfold lay11 at hV
  obtain ⟨v0, v1, v2, v3, v4, v5, v6, v7, v8, v9, v10⟩ := hbv.all
  simp only [Ms.zero] at *
  clear z hbv ftV hX bX hcX hc bp e
  walk_nrm
  refine LoneTo.goes (n := 40) ?_
  s_op
  s_op
  s_c stepG_region_end
  s_c stepG_block
  s_cond false
  s_c stepG_seq
  s_reg
  s_op
  s_op
  s_op
  s_c stepG_region_end
  s_c stepG_ret'
  s_stop
  refine LoneTo.done ⟨.returned (.tuple #[.agg #[.int .u64 0, .int .u64 0, .int .u32 0, .int .u16 0, .int .u16 0, .int .u64 0, .int .u32 0, .int .u8 0, .int .u64 0, .int .u64 0, .slice none 0 0], .bool false]), _, rfl, ⟨rfl, HEND.out⟩, rfl, rfl, rfl, rfl, _, Tryd.func20, by simp [results, Tryd.f20, Frame.at, go_sem, v0, v1, v2, v3, v4, v5, v6, v7, v8, v9, v10]⟩
end Go.Proofs.YtibdhjohjkdgdaaDoor
