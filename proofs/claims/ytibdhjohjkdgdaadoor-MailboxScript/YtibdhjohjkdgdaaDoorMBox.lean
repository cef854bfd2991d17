/-
  What a box's Put and Get answer, as contracts.
-/
import Derived.Test.YtibdhjohjkdgdaaDoorMCalls
namespace Go.Proofs.YtibdhjohjkdgdaaDoor
open Go.RowKit Go.Conc
variable {w w' : World} {b cu co N : Nat} {U O : List Ms}
/- the blocks that a box's deeds turn -/
def Two (cu co : Nat) (k : Nat) : Prop := k = cu ∨ k = co
theorem Bx.other (x : Bx w b cu co N U O) (f : Foot (Two cu co) w w') {g : Nat} {cs : Array Value} {t : TypeId} {fr : Nat × Nat} (hg : w.heap[g]? = some (.cells cs t fr)) : w'.heap[g]? = some (.cells cs t fr) :=
  (f.block g (lt_of_heap hg) (fun e => by
    rcases e with e | e
    · obtain ⟨s, r, h⟩ := x.urg; rw [e, h] at hg; cases hg
    · obtain ⟨s, r, h⟩ := x.oth; rw [e, h] at hg; cases hg)).trans hg
theorem Bx.cell (x : Bx w b cu co N U O) (f : Foot (Two cu co) w w') {a : Addr} {v : Value} (hv : w.cell? a = some v) : w'.cell? a = some v := by
  obtain ⟨cs, t, fr, hg⟩ := cell_cells hv
  rw [← hv]
  unfold World.cell?
  rw [x.other f hg, hg]
theorem Bx.bts (x : Bx w b cu co N U O) (f : Foot (Two cu co) w w') {ao : Option Addr} {n cap : Nat} {l : List UInt8} (hb : Bts w ao n cap l) : Bts w' ao n cap l :=
  ⟨hb.1, hb.2.1, hb.2.2.1, hb.2.2.2.1, fun ad e j hj => x.cell f (hb.2.2.2.2 ad e j hj)⟩
theorem Bx.lies (x : Bx w b cu co N U O) (f : Foot (Two cu co) w w') {sz : Nat} {ao : Option Addr} {n cap : Nat} {cs : List Value} (hb : Lies sz w ao n cap cs) : Lies sz w' ao n cap cs :=
  ⟨hb.1, hb.2.1, hb.2.2.1, hb.2.2.2.1, fun ad e j u hu => x.cell f (hb.2.2.2.2 ad e j u hu)⟩
theorem Bx.ownD (x : Bx w b cu co N U O) (f : Foot (Two cu co) w w') {y : Ms} (h : OwnD w y) : OwnD w' y := fun hn ad e => by
  obtain ⟨cur, hc⟩ := h hn ad e
  exact ⟨cur, x.other f hc⟩
theorem Bx.owns (x : Bx w b cu co N U O) (f : Foot (Two cu co) w w') {B : Nat} {e : TypeId} {sz n : Nat} {v : Value} {xs : List Value} (ho : w.ownsRow B e sz v n xs) : w'.ownsRow B e sz v n xs := by
  refine ⟨ho.1, ?_⟩
  rcases ho.2 with h0 | ⟨k, cap, cur, h1, h2, h3, h4⟩
  · exact .inl h0
  · exact .inr ⟨k, cap, cur, h1, h2, x.other f h3, h4⟩
theorem foot_u {c d : Nat} (f : Foot (· = c) w w') : Foot (Two c d) w w' := f.mono fun _ e => .inl e
theorem foot_o {c d : Nat} (f : Foot (· = d) w w') : Foot (Two c d) w w' := f.mono fun _ e => .inr e
/- one of the two has turned -/
theorem Bx.turnU (x : Bx w b cu co N U O) {U' : List Ms} (f : Foot (· = cu) w w') (h : Ch w' cu N U') (hl : U'.length ≤ N) (hU : ∀ y ∈ U', y ∈ U ∨ (y.has w' ∧ OwnD w' y ∧ y.sn ≤ 140737488355328)) : Bx w' b cu co N U' O :=
  ⟨x.other (foot_u f) x.box, h, x.oth.foot f (fun e => x.ne e.symm), x.ne, fun y hy => by
    have old : ∀ z ∈ U ++ O, z.has w' ∧ OwnD w' z ∧ z.sn ≤ 140737488355328 := fun z hz => ⟨x.bts (foot_u f) (x.has z hz).1, x.ownD (foot_u f) (x.has z hz).2.1, (x.has z hz).2.2⟩
    rcases List.mem_append.1 hy with hy | hy
    · rcases hU y hy with h | h
      · exact old y (List.mem_append_left _ h)
      · exact h
    · exact old y (List.mem_append_right _ hy), hl, x.few.2.1, x.few.2.2⟩
theorem Bx.turnO (x : Bx w b cu co N U O) {O' : List Ms} (f : Foot (· = co) w w') (h : Ch w' co N O') (hl : O'.length ≤ N) (hU : ∀ y ∈ O', y ∈ O ∨ (y.has w' ∧ OwnD w' y ∧ y.sn ≤ 140737488355328)) : Bx w' b cu co N U O' :=
  ⟨x.other (foot_o f) x.box, x.urg.foot f x.ne, h, x.ne, fun y hy => by
    have old : ∀ z ∈ U ++ O, z.has w' ∧ OwnD w' z ∧ z.sn ≤ 140737488355328 := fun z hz => ⟨x.bts (foot_o f) (x.has z hz).1, x.ownD (foot_o f) (x.has z hz).2.1, (x.has z hz).2.2⟩
    rcases List.mem_append.1 hy with hy | hy
    · exact old y (List.mem_append_left _ hy)
    · rcases hU y hy with h | h
      · exact old y (List.mem_append_right _ h)
      · exact h, x.few.1, hl, x.few.2.2⟩
theorem Bx.drewN (x : Bx w b cu co N U O) (q : Nat) : Bx (w.drewN q) b cu co N U O := x.grow (below_d w q)
def errV : Value := .iface 42 (.int .i64 5)
/- what Put leaves where there is room -/
structure PutU (w : World) (b cu co N : Nat) (U O : List Ms) (p : Ms) (e : Ending) (w' : World) : Prop where
  un : ∃ p', e = .returned .nilIface ∧ p'.nm = p.nm ∧ New w p'.so ∧ Bx w' b cu co N (U ++ [p']) O
  ft : Foot (Two cu co) w w'
structure PutO (w : World) (b cu co N : Nat) (U O : List Ms) (p : Ms) (e : Ending) (w' : World) : Prop where
  un : ∃ p', e = .returned .nilIface ∧ p'.nm = p.nm ∧ New w p'.so ∧ Bx w' b cu co N U (O ++ [p'])
  ft : Foot (Two cu co) w w'
theorem putU_end {w1 w4 w5 : World} {p p' : Ms} (x : Bx w b cu co N U O) (b4 : Below w.heap.size w w4) (E : AlEnd w1 p p' w4) (hs : p.sn ≤ 140737488355328) (hn : New w p'.so) (C : Ch w5 cu N (U ++ [p'])) (F : Foot (· = cu) w4 w5) (hN : U.length < N) : PutU w b cu co N U O p (.returned .nilIface) w5 := by
  have x4 := x.grow b4
  refine ⟨⟨p', rfl, E.nm, hn, x4.turnU F C (by simp; omega) (fun y hy => ?_)⟩, (below_foot _ b4).then (foot_u F)⟩
  rcases List.mem_append.1 hy with hy | hy
  · exact .inl hy
  · rw [List.mem_singleton.1 hy]
    exact .inr ⟨x4.bts (foot_u F) E.has, x4.ownD (foot_u F) E.own, by rw [E.sn]; exact hs⟩
theorem putO_end {w1 w4 w5 : World} {p p' : Ms} (x : Bx w b cu co N U O) (b4 : Below w.heap.size w w4) (E : AlEnd w1 p p' w4) (hs : p.sn ≤ 140737488355328) (hn : New w p'.so) (C : Ch w5 co N (O ++ [p'])) (F : Foot (· = co) w4 w5) (hN : O.length < N) : PutO w b cu co N U O p (.returned .nilIface) w5 := by
  have x4 := x.grow b4
  refine ⟨⟨p', rfl, E.nm, hn, x4.turnO F C (by simp; omega) (fun y hy => ?_)⟩, (below_foot _ b4).then (foot_o F)⟩
  rcases List.mem_append.1 hy with hy | hy
  · exact .inl hy
  · rw [List.mem_singleton.1 hy]
    exact .inr ⟨x4.bts (foot_o F) E.has, x4.ownD (foot_o F) E.own, by rw [E.sn]; exact hs⟩
set_option maxRecDepth 20000 in
set_option maxHeartbeats 3200000 in
theorem putU_room (p : Ms) (w : World) (x : Bx w b cu co N U O) (hp : p.has w) (hs : p.sn ≤ 140737488355328) (hN : U.length < N) :
    Calls Tryd.prog 9 #[.pointer (some ⟨b, 0, none⟩), .agg #[.int .u64 p.ta, .int .u64 p.rp, .int .u32 p.id, .int .u16 p.op, .int .u16 p.st, .int .u64 p.p, .int .u32 p.o, .int .u8 p.r, .int .u64 p.c, .int .u64 p.ar, .slice p.so p.sn p.sc], .bool true] w fun e w' => PutU w b cu co N U O p e w' := by
  obtain ⟨X, hX⟩ : ∃ X, w.alloc (.cells #[.int .u64 p.ta, .int .u64 p.rp, .int .u32 p.id, .int .u16 p.op, .int .u16 p.st, .int .u64 p.p, .int .u32 p.o, .int .u8 p.r, .int .u64 p.c, .int .u64 p.ar, .slice p.so p.sn p.sc] 35) = X := ⟨_, rfl⟩
  have bX : Below w.heap.size w X := hX ▸ below_alloc w _
  have HB := hide bX
  have HO := hide x
  have HX := hide (x.grow bX)
  have HPX := hide (Bts.carry hp bX)
  have bp : BoxM X w.heap.size p := hX ▸ boxM_new w p
  have c0 := HX.out.c0
  obtain ⟨k0, k1, k2, k3, k4, k5, k6, k7, k8, k9, k10⟩ := bp.all
  clear x hp bX bp
  go_enter Tryd.func9, Tryd.ntmps9
  go_wp2_with fail
  go_region_with (first
    | (go_at_call 18
       go_must (refine (alone_any p _ (Bts.carry HPX.out (below_d X 1)) hs).mono ?_)
       rintro e w4 ⟨p', rfl, E4⟩
       have b4 := below_one (below_d X 1) E4.b
       have c4 := (HX.out.grow b4).c0
       have HE4 := hide E4
       have HB4 := hide b4
       clear E4 b4)
    | (go_at_call 17
       go_must (refine (put_room p' cu N U _ (HX.out.grow HB4.out).urg hN).mono ?_)
       rintro e w5 ⟨rfl, C5, F5⟩
       have HC5 := hide C5
       have HF5 := hide F5
       clear C5 F5))
  all_goals
    go_wp2
    go_ret
    exact putU_end HO.out (below_one HB.out HB4.out) HE4.out hs (New.le HE4.out.new HB.out.size) HC5.out HF5.out hN
set_option maxRecDepth 20000 in
set_option maxHeartbeats 3200000 in
theorem putO_room (p : Ms) (w : World) (x : Bx w b cu co N U O) (hp : p.has w) (hs : p.sn ≤ 140737488355328) (hN : O.length < N) :
    Calls Tryd.prog 9 #[.pointer (some ⟨b, 0, none⟩), .agg #[.int .u64 p.ta, .int .u64 p.rp, .int .u32 p.id, .int .u16 p.op, .int .u16 p.st, .int .u64 p.p, .int .u32 p.o, .int .u8 p.r, .int .u64 p.c, .int .u64 p.ar, .slice p.so p.sn p.sc], .bool false] w fun e w' => PutO w b cu co N U O p e w' := by
  obtain ⟨X, hX⟩ : ∃ X, w.alloc (.cells #[.int .u64 p.ta, .int .u64 p.rp, .int .u32 p.id, .int .u16 p.op, .int .u16 p.st, .int .u64 p.p, .int .u32 p.o, .int .u8 p.r, .int .u64 p.c, .int .u64 p.ar, .slice p.so p.sn p.sc] 35) = X := ⟨_, rfl⟩
  have bX : Below w.heap.size w X := hX ▸ below_alloc w _
  have HB := hide bX
  have HO := hide x
  have HX := hide (x.grow bX)
  have HPX := hide (Bts.carry hp bX)
  have bp : BoxM X w.heap.size p := hX ▸ boxM_new w p
  have c0 := HX.out.c1
  obtain ⟨k0, k1, k2, k3, k4, k5, k6, k7, k8, k9, k10⟩ := bp.all
  clear x hp bX bp
  go_enter Tryd.func9, Tryd.ntmps9
  go_wp2_with fail
  go_region_with (first
    | (go_at_call 18
       go_must (refine (alone_any p _ (Bts.carry HPX.out (below_d X 1)) hs).mono ?_)
       rintro e w4 ⟨p', rfl, E4⟩
       have b4 := below_one (below_d X 1) E4.b
       have c4 := (HX.out.grow b4).c1
       have HE4 := hide E4
       have HB4 := hide b4
       clear E4 b4)
    | (go_at_call 17
       go_must (refine (put_room p' co N O _ (HX.out.grow HB4.out).oth hN).mono ?_)
       rintro e w5 ⟨rfl, C5, F5⟩
       have HC5 := hide C5
       have HF5 := hide F5
       clear C5 F5))
  all_goals
    go_wp2
    go_ret
    exact putO_end HO.out (below_one HB.out HB4.out) HE4.out hs (New.le HE4.out.new HB.out.size) HC5.out HF5.out hN
set_option maxRecDepth 20000 in
set_option maxHeartbeats 3200000 in
theorem putU_full (p : Ms) (w : World) (x : Bx w b cu co N U O) (hp : p.has w) (hs : p.sn ≤ 140737488355328) (hN : N ≤ U.length) :
    Calls Tryd.prog 9 #[.pointer (some ⟨b, 0, none⟩), .agg #[.int .u64 p.ta, .int .u64 p.rp, .int .u32 p.id, .int .u16 p.op, .int .u16 p.st, .int .u64 p.p, .int .u32 p.o, .int .u8 p.r, .int .u64 p.c, .int .u64 p.ar, .slice p.so p.sn p.sc], .bool true] w fun e w' => e = .returned errV ∧ Below w.heap.size w w' := by
  obtain ⟨X, hX⟩ : ∃ X, w.alloc (.cells #[.int .u64 p.ta, .int .u64 p.rp, .int .u32 p.id, .int .u16 p.op, .int .u16 p.st, .int .u64 p.p, .int .u32 p.o, .int .u8 p.r, .int .u64 p.c, .int .u64 p.ar, .slice p.so p.sn p.sc] 35) = X := ⟨_, rfl⟩
  have bX : Below w.heap.size w X := hX ▸ below_alloc w _
  have HB := hide bX
  have HO := hide x
  have HX := hide (x.grow bX)
  have HPX := hide (Bts.carry hp bX)
  have bp : BoxM X w.heap.size p := hX ▸ boxM_new w p
  have c0 := HX.out.c0
  obtain ⟨k0, k1, k2, k3, k4, k5, k6, k7, k8, k9, k10⟩ := bp.all
  clear x hp bX bp
  go_enter Tryd.func9, Tryd.ntmps9
  go_wp2_with fail
  go_region_with (first
    | (go_at_call 18
       go_must (refine (alone_any p _ (Bts.carry HPX.out (below_d X 1)) hs).mono ?_)
       rintro e w4 ⟨p', rfl, E4⟩
       have b4 := below_one (below_d X 1) E4.b
       have c4 := (HX.out.grow b4).c0
       have HE4 := hide E4
       have HB4 := hide b4
       clear E4 b4)
    | (go_at_call 17
       go_must (refine (put_full p' cu N U _ (HX.out.grow HB4.out).urg hN).mono ?_)
       rintro e w5 ⟨rfl, B5⟩
       have HB5 := hide B5
       clear B5))
  all_goals
    go_wp2
    go_ret
    exact ⟨rfl, below_one (below_one HB.out HB4.out) HB5.out⟩
set_option maxRecDepth 20000 in
set_option maxHeartbeats 3200000 in
theorem putO_full (p : Ms) (w : World) (x : Bx w b cu co N U O) (hp : p.has w) (hs : p.sn ≤ 140737488355328) (hN : N ≤ O.length) :
    Calls Tryd.prog 9 #[.pointer (some ⟨b, 0, none⟩), .agg #[.int .u64 p.ta, .int .u64 p.rp, .int .u32 p.id, .int .u16 p.op, .int .u16 p.st, .int .u64 p.p, .int .u32 p.o, .int .u8 p.r, .int .u64 p.c, .int .u64 p.ar, .slice p.so p.sn p.sc], .bool false] w fun e w' => e = .returned errV ∧ Below w.heap.size w w' := by
  obtain ⟨X, hX⟩ : ∃ X, w.alloc (.cells #[.int .u64 p.ta, .int .u64 p.rp, .int .u32 p.id, .int .u16 p.op, .int .u16 p.st, .int .u64 p.p, .int .u32 p.o, .int .u8 p.r, .int .u64 p.c, .int .u64 p.ar, .slice p.so p.sn p.sc] 35) = X := ⟨_, rfl⟩
  have bX : Below w.heap.size w X := hX ▸ below_alloc w _
  have HB := hide bX
  have HO := hide x
  have HX := hide (x.grow bX)
  have HPX := hide (Bts.carry hp bX)
  have bp : BoxM X w.heap.size p := hX ▸ boxM_new w p
  have c0 := HX.out.c1
  obtain ⟨k0, k1, k2, k3, k4, k5, k6, k7, k8, k9, k10⟩ := bp.all
  clear x hp bX bp
  go_enter Tryd.func9, Tryd.ntmps9
  go_wp2_with fail
  go_region_with (first
    | (go_at_call 18
       go_must (refine (alone_any p _ (Bts.carry HPX.out (below_d X 1)) hs).mono ?_)
       rintro e w4 ⟨p', rfl, E4⟩
       have b4 := below_one (below_d X 1) E4.b
       have c4 := (HX.out.grow b4).c1
       have HE4 := hide E4
       have HB4 := hide b4
       clear E4 b4)
    | (go_at_call 17
       go_must (refine (put_full p' co N O _ (HX.out.grow HB4.out).oth hN).mono ?_)
       rintro e w5 ⟨rfl, B5⟩
       have HB5 := hide B5
       clear B5))
  all_goals
    go_wp2
    go_ret
    exact ⟨rfl, below_one (below_one HB.out HB4.out) HB5.out⟩
/- what Get leaves: the message that it answered, with its data -/
structure GetEnd (w : World) (b cu co N : Nat) (U O : List Ms) (p : Ms) (w' : World) : Prop where
  bx : Bx w' b cu co N U O
  has : p.has w'
  own : OwnD w' p
  low : p.sn ≤ 140737488355328
  ft : Foot (Two cu co) w w'
theorem get_end {w1 w2 Z V : World} {p : Ms} {U' O' : List Ms} (x : Bx w b cu co N U' O') (b1 : Below w.heap.size w w1) (f2 : Foot (Two cu co) w1 w2) (x2 : Bx w2 b cu co N U O) (bZ : Below w2.heap.size w2 Z) (fV : Foot (fun j => j = w.heap.size) Z V) (hb : BoxM Z w.heap.size Ms.zero) (hp : p.has w1 ∧ OwnD w1 p ∧ p.sn ≤ 140737488355328) : GetEnd w b cu co N U O p V := by
  have x1 := x.grow b1
  have xZ := x2.grow bZ
  have h1 : p.has Z := Bts.carry (x1.bts f2 hp.1) bZ
  have h2 : OwnD Z p := (x1.ownD f2 hp.2.1).grow bZ
  have hty : ∀ k cur, Z.heap[k]? = some (.cells cur 5 (0, 0)) → ¬ (k = w.heap.size) := fun k cur hk e => two_types hk hb (by decide) e
  have old : ∀ z : Ms, z.has Z → OwnD Z z → z.has V := fun z h h' => by
    refine ⟨h.1, h.2.1, h.2.2.1, h.2.2.2.1, fun ad e j hj => ?_⟩
    have hc := h.2.2.2.2 ad e j hj
    obtain ⟨cur, hk⟩ := h' (by have := h.1; omega) ad e
    rw [fV.cell _ (lt_of_cell hc) (by rw [add_block]; exact hty _ _ hk), hc]
  have ne1 : ¬ b = w.heap.size := by have := lt_of_heap x.box; omega
  have ne2 : ¬ cu = w.heap.size := by have := x.urg.lt; omega
  have ne3 : ¬ co = w.heap.size := by have := x.oth.lt; omega
  refine ⟨⟨(fV.block b (lt_of_heap xZ.box) ne1).trans xZ.box, xZ.urg.foot fV ne2, xZ.oth.foot fV ne3, x.ne, fun y hy => ⟨old y (xZ.has y hy).1 (xZ.has y hy).2.1, (xZ.has y hy).2.1.foot fV hty, (xZ.has y hy).2.2⟩, xZ.few⟩, old p h1 h2, h2.foot fV hty, hp.2.2, ?_⟩
  exact ((below_foot _ b1).then (f2.then (below_foot _ bZ))).trans fV (fun j e => .inr (by omega))
set_option maxRecDepth 20000 in
set_option maxHeartbeats 3200000 in
theorem getU (p : Ms) (w : World) (x : Bx w b cu co N (p :: U) O) :
    Calls Tryd.prog 11 #[.pointer (some ⟨b, 0, none⟩)] w fun e w' => e = .returned (.tuple #[.agg #[.int .u64 p.ta, .int .u64 p.rp, .int .u32 p.id, .int .u16 p.op, .int .u16 p.st, .int .u64 p.p, .int .u32 p.o, .int .u8 p.r, .int .u64 p.c, .int .u64 p.ar, .slice p.so p.sn p.sc], .bool true]) ∧ GetEnd w b cu co N U O p w' := by
  obtain ⟨X, hX⟩ : ∃ X, w.alloc (.cells #[.int .u64 0, .int .u64 0, .int .u32 0, .int .u16 0, .int .u16 0, .int .u64 0, .int .u32 0, .int .u8 0, .int .u64 0, .int .u64 0, .slice none 0 0] 35) = X := ⟨_, rfl⟩
  have bX : Below w.heap.size w X := hX ▸ below_alloc w _
  have HB := hide bX
  have HX := hide (x.grow bX)
  have HO := hide x
  have HBP : Hid (BoxM X w.heap.size Ms.zero) := hX ▸ boxM_new w Ms.zero
  have c0 := HX.out.c0
  clear x bX
  go_enter Tryd.func11, Tryd.ntmps11
  go_wp2_with fail
  refine (get_some p U cu N _ HX.out.urg).mono ?_; rintro e w2 ⟨rfl, C2, F2⟩
  have x2 := HX.out.turnU F2 C2 (by have := HX.out.few.1; simp at this; omega) (fun y hy => .inl (List.mem_cons_of_mem _ hy))
  have hby : BoxM w2 w.heap.size Ms.zero := HX.out.other (foot_u F2) HBP.out
  obtain ⟨Z, hZ⟩ : ∃ Z, w2.alloc (.cells #[.int .u64 p.ta, .int .u64 p.rp, .int .u32 p.id, .int .u16 p.op, .int .u16 p.st, .int .u64 p.p, .int .u32 p.o, .int .u8 p.r, .int .u64 p.c, .int .u64 p.ar, .slice p.so p.sn p.sc] 35) = Z := ⟨_, rfl⟩
  have bZ : Below w2.heap.size w2 Z := hZ ▸ below_alloc w2 _
  have bv : BoxM Z w2.heap.size p := hZ ▸ boxM_new w2 p
  have hbz := hby.grow bZ
  obtain ⟨k0, k1, k2, k3, k4, k5, k6, k7, k8, k9, k10⟩ := bv.all
  obtain ⟨y0, y1, y2, y3, y4, y5, y6, y7, y8, y9, y10⟩ := hbz.all
  have z0 := hbz.z 0
  have z1 := hbz.z 1
  have z2 := hbz.z 2
  have z3 := hbz.z 3
  have z4 := hbz.z 4
  have z5 := hbz.z 5
  have z6 := hbz.z 6
  have z7 := hbz.z 7
  have z8 := hbz.z 8
  have z9 := hbz.z 9
  have z10 := hbz.z 10
  obtain ⟨V, hV⟩ : ∃ V, lay11 Z w.heap.size p = V := ⟨_, rfl⟩
  have hbv : BoxM V w.heap.size p := hV ▸ hbz.lay p
  have ftV : Foot (fun j => j = w.heap.size) Z V := hV ▸ foot_lay11 Z _ p
  have HEND : Hid (GetEnd w b cu co N U O p V) := get_end HO.out HB.out (foot_u F2) x2 bZ ftV hbz (HX.out.has p (by simp))
  unfold lay11 at hV
  obtain ⟨v0, v1, v2, v3, v4, v5, v6, v7, v8, v9, v10⟩ := hbv.all
  clear x2 hby bZ bv hbz hbv ftV C2 F2
  go_wp2
  refine bodyPost_ret (by simp [results, Tryd.results11, go_sem, v0, v1, v2, v3, v4, v5, v6, v7, v8, v9, v10]; rfl) rfl ?_
  exact ⟨rfl, HEND.out⟩
set_option maxRecDepth 20000 in
set_option maxHeartbeats 3200000 in
theorem getO (p : Ms) (w : World) (x : Bx w b cu co N [] (p :: O)) :
    Calls Tryd.prog 11 #[.pointer (some ⟨b, 0, none⟩)] w fun e w' => e = .returned (.tuple #[.agg #[.int .u64 p.ta, .int .u64 p.rp, .int .u32 p.id, .int .u16 p.op, .int .u16 p.st, .int .u64 p.p, .int .u32 p.o, .int .u8 p.r, .int .u64 p.c, .int .u64 p.ar, .slice p.so p.sn p.sc], .bool true]) ∧ GetEnd w b cu co N [] O p w' := by
  obtain ⟨X, hX⟩ : ∃ X, w.alloc (.cells #[.int .u64 0, .int .u64 0, .int .u32 0, .int .u16 0, .int .u16 0, .int .u64 0, .int .u32 0, .int .u8 0, .int .u64 0, .int .u64 0, .slice none 0 0] 35) = X := ⟨_, rfl⟩
  have bX : Below w.heap.size w X := hX ▸ below_alloc w _
  have HB := hide bX
  have HX := hide (x.grow bX)
  have HO := hide x
  have HBP : Hid (BoxM X w.heap.size Ms.zero) := hX ▸ boxM_new w Ms.zero
  have c0 := HX.out.c0
  clear x bX
  go_enter Tryd.func11, Tryd.ntmps11
  go_wp2_with fail
  refine (get_none cu N _ HX.out.urg).mono ?_; rintro e w2 ⟨rfl, b2⟩
  have x2 := HX.out.grow b2
  have HX2 := hide x2
  have HB2 := hide (below_one HB.out b2)
  have bz2 := below_alloc w2 (.cells #[.int .u64 0, .int .u64 0, .int .u32 0, .int .u16 0, .int .u16 0, .int .u64 0, .int .u32 0, .int .u8 0, .int .u64 0, .int .u64 0, .slice none 0 0] 35)
  have HBZ2 := hide bz2
  have HB3 : Hid (BoxM w2 w.heap.size Ms.zero) := HBP.out.grow b2
  have c1 := (x2.grow bz2).c1
  clear b2 bz2 x2
  go_wp2_with fail
  refine (get_some p O co N _ (HX2.out.grow HBZ2.out).oth).mono ?_; rintro e Z ⟨rfl, C2, F2⟩
  have xz := HX2.out.grow HBZ2.out
  have x2 := xz.turnO F2 C2 (by have := xz.few.2.1; simp at this; omega) (fun y hy => .inl (List.mem_cons_of_mem _ hy))
  have hbz : BoxM Z w.heap.size Ms.zero := xz.other (foot_o F2) (HB3.out.grow HBZ2.out)
  obtain ⟨y0, y1, y2, y3, y4, y5, y6, y7, y8, y9, y10⟩ := hbz.all
  have z0 := hbz.z 0
  have z1 := hbz.z 1
  have z2 := hbz.z 2
  have z3 := hbz.z 3
  have z4 := hbz.z 4
  have z5 := hbz.z 5
  have z6 := hbz.z 6
  have z7 := hbz.z 7
  have z8 := hbz.z 8
  have z9 := hbz.z 9
  have z10 := hbz.z 10
  obtain ⟨V, hV⟩ : ∃ V, lay11 Z w.heap.size p = V := ⟨_, rfl⟩
  have hbv : BoxM V w.heap.size p := hV ▸ hbz.lay p
  have ftV : Foot (fun j => j = w.heap.size) Z V := hV ▸ foot_lay11 Z _ p
  have HEND : Hid (GetEnd w b cu co N [] O p V) := get_end HO.out (below_one HB2.out HBZ2.out) (foot_o F2) x2 (Below.refl _ _) ftV hbz (xz.has p (by simp))
  unfold lay11 at hV
  obtain ⟨v0, v1, v2, v3, v4, v5, v6, v7, v8, v9, v10⟩ := hbv.all
  clear x2 hbz hbv ftV C2 F2 xz
  go_wp2
  refine bodyPost_ret (by simp [results, Tryd.results11, go_sem, v0, v1, v2, v3, v4, v5, v6, v7, v8, v9, v10]; rfl) rfl ?_
  exact ⟨rfl, HEND.out⟩
set_option maxRecDepth 20000 in
set_option maxHeartbeats 3200000 in
theorem get_zero (w : World) (x : Bx w b cu co N [] []) :
    Calls Tryd.prog 11 #[.pointer (some ⟨b, 0, none⟩)] w fun e w' => e = .returned (.tuple #[.agg #[.int .u64 0, .int .u64 0, .int .u32 0, .int .u16 0, .int .u16 0, .int .u64 0, .int .u32 0, .int .u8 0, .int .u64 0, .int .u64 0, .slice none 0 0], .bool false]) ∧ Below w.heap.size w w' := by
  obtain ⟨X, hX⟩ : ∃ X, w.alloc (.cells #[.int .u64 0, .int .u64 0, .int .u32 0, .int .u16 0, .int .u16 0, .int .u64 0, .int .u32 0, .int .u8 0, .int .u64 0, .int .u64 0, .slice none 0 0] 35) = X := ⟨_, rfl⟩
  have bX : Below w.heap.size w X := hX ▸ below_alloc w _
  have HB := hide bX
  have HX := hide (x.grow bX)
  have HO := hide x
  have HBP : Hid (BoxM X w.heap.size Ms.zero) := hX ▸ boxM_new w Ms.zero
  have c0 := HX.out.c0
  clear x bX
  go_enter Tryd.func11, Tryd.ntmps11
  go_wp2_with fail
  refine (get_none cu N _ HX.out.urg).mono ?_; rintro e w2 ⟨rfl, b2⟩
  have x2 := HX.out.grow b2
  have HX2 := hide x2
  have HB2 := hide (below_one HB.out b2)
  have bz2 := below_alloc w2 (.cells #[.int .u64 0, .int .u64 0, .int .u32 0, .int .u16 0, .int .u16 0, .int .u64 0, .int .u32 0, .int .u8 0, .int .u64 0, .int .u64 0, .slice none 0 0] 35)
  have HBZ2 := hide bz2
  have HB3 : Hid (BoxM w2 w.heap.size Ms.zero) := HBP.out.grow b2
  have c1 := (x2.grow bz2).c1
  clear b2 bz2 x2
  go_wp2_with fail
  refine (get_none co N _ (HX2.out.grow HBZ2.out).oth).mono ?_; rintro e Z ⟨rfl, b3⟩
  have hbz : BoxM Z w.heap.size Ms.zero := (HB3.out.grow HBZ2.out).grow b3
  obtain ⟨y0, y1, y2, y3, y4, y5, y6, y7, y8, y9, y10⟩ := hbz.all
  have z0 := hbz.z 0
  have z1 := hbz.z 1
  have z2 := hbz.z 2
  have z3 := hbz.z 3
  have z4 := hbz.z 4
  have z5 := hbz.z 5
  have z6 := hbz.z 6
  have z7 := hbz.z 7
  have z8 := hbz.z 8
  have z9 := hbz.z 9
  have z10 := hbz.z 10
  obtain ⟨V, hV⟩ : ∃ V, lay11 Z w.heap.size Ms.zero = V := ⟨_, rfl⟩
  have hbv : BoxM V w.heap.size Ms.zero := hV ▸ hbz.lay Ms.zero
  have ftV : Foot (fun j => j = w.heap.size) Z V := hV ▸ foot_lay11 Z _ Ms.zero
  have HEND : Hid (Below w.heap.size w V) := ((below_foot (fun j => j = w.heap.size) (below_one (below_one HB2.out HBZ2.out) b3)).then ftV).below (Nat.le_refl _) (fun k e => by omega)
  unfold lay11 at hV
  obtain ⟨v0, v1, v2, v3, v4, v5, v6, v7, v8, v9, v10⟩ := hbv.all
  simp only [Ms.zero] at hV v0 v1 v2 v3 v4 v5 v6 v7 v8 v9 v10 y0 y1 y2 y3 y4 y5 y6 y7 y8 y9 y10
  clear hbz hbv ftV b3
  go_wp2
  refine bodyPost_ret (by simp [results, Tryd.results11, go_sem, v0, v1, v2, v3, v4, v5, v6, v7, v8, v9, v10]; rfl) rfl ?_
  exact ⟨rfl, HEND.out⟩
end Go.Proofs.YtibdhjohjkdgdaaDoor
