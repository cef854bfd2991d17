/-
  The walk of ServedApart.
-/
import Derived.Test.YtnkfdnmaocfjnaaNAwake
import Derived.Test.YtnkfdnmaocfjnaaJSame
import Derived.Test.YtnkfdnmaocfjnaaLMsg
import Derived.Deep.RegionHeld
namespace Go.Proofs.Ytnkfdnmaocfjnaa
open Go.RowKit
theorem Bx.from {w w0 W : World} {g : Nat} {L : List Rq} {M : List (Nat × Ms)} (h : Bx w0 g L M W) (b : Below w.heap.size w w0) : Bx w g L M W := ⟨h.st, h.box, below_one b h.b, Nat.le_trans b.size h.g⟩
theorem isR_of {rp id : Int} {y : Rq} (h1 : y.p = rp) (h2 : y.i = id) : isR rp id y = true := by simp [isR, h1, h2]
theorem isR_ne {rp id : Int} {y : Rq} (h : ¬ (y.p = rp ∧ y.i = id)) : isR rp id y = false := by
  unfold isR
  rw [Bool.and_eq_false_iff, beq_eq_false_iff_ne, beq_eq_false_iff_ne]
  by_cases e : y.p = rp
  · exact .inr fun e2 => h ⟨e, e2⟩
  · exact .inl e
/- messages in variables -/
def Bs (w0 : World) (M : List (Nat × Ms)) (W : World) : Prop := (∀ q ∈ M, BoxM W q.1 q.2) ∧ Below w0.heap.size w0 W
theorem Bs.grow {w0 W W' : World} {M : List (Nat × Ms)} (h : Bs w0 M W) (b : Below W.heap.size W W') : Bs w0 M W' := ⟨fun q hq => (h.1 q hq).grow b, below_one h.2 b⟩
theorem Bs.new {w0 W : World} {M : List (Nat × Ms)} (h : Bs w0 M W) (q : Ms) : Bs w0 ((W.heap.size, q) :: M) (W.alloc (.cells #[.int .u64 q.ta, .int .u64 q.rp, .int .u32 q.id, .int .u16 q.op, .int .u16 q.st, .int .u64 q.p, .int .u32 q.o, .int .u8 q.r, .int .u64 q.c, .int .u64 q.ar, .slice q.so q.sn q.sc] 29)) := by
  refine ⟨fun z hz => ?_, below_one h.2 (below_alloc W _)⟩
  rcases List.mem_cons.1 hz with rfl | hz
  · exact boxM_new W q
  · exact (h.1 z hz).grow (below_alloc W _)
theorem Bs.none (w : World) : Bs w [] w := ⟨(fun _ h => by cases h), Below.refl _ _⟩
theorem Bs.all {w0 W : World} {M : List (Nat × Ms)} (h : Bs w0 M W) : Bx w0 W.heap.size [] M (W.alloc (.cells zeroC.toArray 36)) :=
  ⟨new_ok W, fun q hq => ⟨(h.1 q hq).grow (below_alloc W _), by have := lt_of_heap (h.1 q hq); omega⟩, below_one h.2 (below_alloc W _), h.2.size⟩
theorem Bx.four {w0 W : World} {g : Nat} {L : List Rq} {n1 n2 n3 n4 : Nat} {a b x y : Ms} (h : Bx w0 g L [(n1, a), (n2, b), (n3, x), (n4, y)] W) : (W.cell? ⟨n1, 0, none⟩ = some (.int .u64 a.ta) ∧ W.cell? ⟨n1, 1, none⟩ = some (.int .u64 a.rp) ∧ W.cell? ⟨n1, 2, none⟩ = some (.int .u32 a.id) ∧ W.cell? ⟨n1, 3, none⟩ = some (.int .u16 a.op) ∧ W.cell? ⟨n1, 4, none⟩ = some (.int .u16 a.st) ∧ W.cell? ⟨n1, 5, none⟩ = some (.int .u64 a.p) ∧ W.cell? ⟨n1, 6, none⟩ = some (.int .u32 a.o) ∧ W.cell? ⟨n1, 7, none⟩ = some (.int .u8 a.r) ∧ W.cell? ⟨n1, 8, none⟩ = some (.int .u64 a.c) ∧ W.cell? ⟨n1, 9, none⟩ = some (.int .u64 a.ar) ∧ W.cell? ⟨n1, 10, none⟩ = some (.slice a.so a.sn a.sc)) ∧ (W.cell? ⟨n2, 0, none⟩ = some (.int .u64 b.ta) ∧ W.cell? ⟨n2, 1, none⟩ = some (.int .u64 b.rp) ∧ W.cell? ⟨n2, 2, none⟩ = some (.int .u32 b.id) ∧ W.cell? ⟨n2, 3, none⟩ = some (.int .u16 b.op) ∧ W.cell? ⟨n2, 4, none⟩ = some (.int .u16 b.st) ∧ W.cell? ⟨n2, 5, none⟩ = some (.int .u64 b.p) ∧ W.cell? ⟨n2, 6, none⟩ = some (.int .u32 b.o) ∧ W.cell? ⟨n2, 7, none⟩ = some (.int .u8 b.r) ∧ W.cell? ⟨n2, 8, none⟩ = some (.int .u64 b.c) ∧ W.cell? ⟨n2, 9, none⟩ = some (.int .u64 b.ar) ∧ W.cell? ⟨n2, 10, none⟩ = some (.slice b.so b.sn b.sc)) ∧ (W.cell? ⟨n3, 0, none⟩ = some (.int .u64 x.ta) ∧ W.cell? ⟨n3, 1, none⟩ = some (.int .u64 x.rp) ∧ W.cell? ⟨n3, 2, none⟩ = some (.int .u32 x.id) ∧ W.cell? ⟨n3, 3, none⟩ = some (.int .u16 x.op) ∧ W.cell? ⟨n3, 4, none⟩ = some (.int .u16 x.st) ∧ W.cell? ⟨n3, 5, none⟩ = some (.int .u64 x.p) ∧ W.cell? ⟨n3, 6, none⟩ = some (.int .u32 x.o) ∧ W.cell? ⟨n3, 7, none⟩ = some (.int .u8 x.r) ∧ W.cell? ⟨n3, 8, none⟩ = some (.int .u64 x.c) ∧ W.cell? ⟨n3, 9, none⟩ = some (.int .u64 x.ar) ∧ W.cell? ⟨n3, 10, none⟩ = some (.slice x.so x.sn x.sc)) ∧ (W.cell? ⟨n4, 0, none⟩ = some (.int .u64 y.ta) ∧ W.cell? ⟨n4, 1, none⟩ = some (.int .u64 y.rp) ∧ W.cell? ⟨n4, 2, none⟩ = some (.int .u32 y.id) ∧ W.cell? ⟨n4, 3, none⟩ = some (.int .u16 y.op) ∧ W.cell? ⟨n4, 4, none⟩ = some (.int .u16 y.st) ∧ W.cell? ⟨n4, 5, none⟩ = some (.int .u64 y.p) ∧ W.cell? ⟨n4, 6, none⟩ = some (.int .u32 y.o) ∧ W.cell? ⟨n4, 7, none⟩ = some (.int .u8 y.r) ∧ W.cell? ⟨n4, 8, none⟩ = some (.int .u64 y.c) ∧ W.cell? ⟨n4, 9, none⟩ = some (.int .u64 y.ar) ∧ W.cell? ⟨n4, 10, none⟩ = some (.slice y.so y.sn y.sc)) :=
  ⟨(h.at (.head _)).all, (h.at (.tail _ (.head _))).all, (h.at (.tail _ (.tail _ (.head _)))).all, (h.at (.tail _ (.tail _ (.tail _ (.head _))))).all⟩
def Ms.inc (b : Ms) : Ms := ⟨b.ta, b.rp, IntKind.u32.wrap (b.id + 1), b.op, b.st, b.p, b.o, b.r, b.c, b.ar, b.so, b.sn, b.sc, b.l⟩
theorem box_inc {w : World} {h : Nat} {b : Ms} (x : BoxM w h b) : BoxM (w.setCell ⟨h, 2, none⟩ (.int .u32 (IntKind.u32.wrap (b.id + 1)))) h b.inc := by
  have h1 := heap_setCell_same w h 2 _ _ (.int .u32 (IntKind.u32.wrap (b.id + 1))) x
  unfold BoxM
  rw [h1]; rfl
set_option maxRecDepth 20000 in
set_option maxHeartbeats 6400000 in
theorem walk_apart (a b x y : Ms) (w : World) (hx : x.has w) (hy : y.has w) (hxs : x.sn ≤ 140737488355328) (hys : y.sn ≤ 140737488355328) :
    Calls Try.prog 4 #[.agg #[.int .u64 a.ta, .int .u64 a.rp, .int .u32 a.id, .int .u16 a.op, .int .u16 a.st, .int .u64 a.p, .int .u32 a.o, .int .u8 a.r, .int .u64 a.c, .int .u64 a.ar, .slice a.so a.sn a.sc], .agg #[.int .u64 b.ta, .int .u64 b.rp, .int .u32 b.id, .int .u16 b.op, .int .u16 b.st, .int .u64 b.p, .int .u32 b.o, .int .u8 b.r, .int .u64 b.c, .int .u64 b.ar, .slice b.so b.sn b.sc], .agg #[.int .u64 x.ta, .int .u64 x.rp, .int .u32 x.id, .int .u16 x.op, .int .u16 x.st, .int .u64 x.p, .int .u32 x.o, .int .u8 x.r, .int .u64 x.c, .int .u64 x.ar, .slice x.so x.sn x.sc], .agg #[.int .u64 y.ta, .int .u64 y.rp, .int .u32 y.id, .int .u16 y.op, .int .u16 y.st, .int .u64 y.p, .int .u32 y.o, .int .u8 y.r, .int .u64 y.c, .int .u64 y.ar, .slice y.so y.sn y.sc]] w fun e w' => e = .returned (.bool true) ∧ Below w.heap.size w w' := by
  have hz := Try.zeroServed
  obtain ⟨X, hX⟩ : ∃ X, (((w.alloc (.cells #[.int .u64 a.ta, .int .u64 a.rp, .int .u32 a.id, .int .u16 a.op, .int .u16 a.st, .int .u64 a.p, .int .u32 a.o, .int .u8 a.r, .int .u64 a.c, .int .u64 a.ar, .slice a.so a.sn a.sc] 29)).alloc (.cells #[.int .u64 b.ta, .int .u64 b.rp, .int .u32 b.id, .int .u16 b.op, .int .u16 b.st, .int .u64 b.p, .int .u32 b.o, .int .u8 b.r, .int .u64 b.c, .int .u64 b.ar, .slice b.so b.sn b.sc] 29)).alloc (.cells #[.int .u64 x.ta, .int .u64 x.rp, .int .u32 x.id, .int .u16 x.op, .int .u16 x.st, .int .u64 x.p, .int .u32 x.o, .int .u8 x.r, .int .u64 x.c, .int .u64 x.ar, .slice x.so x.sn x.sc] 29)).alloc (.cells #[.int .u64 y.ta, .int .u64 y.rp, .int .u32 y.id, .int .u16 y.op, .int .u16 y.st, .int .u64 y.p, .int .u32 y.o, .int .u8 y.r, .int .u64 y.c, .int .u64 y.ar, .slice y.so y.sn y.sc] 29) = X := ⟨_, rfl⟩
  have s0 : Bs w _ X := hX ▸ ((((Bs.none w).new a).new b).new x).new y
  rw [size_al, size_al, size_al] at s0
  have HS0 := hide s0
  have HX := hide hx
  have HY := hide hy
  have HXS := hide hxs
  have HYS := hide hys
  clear s0 hx hy hxs hys
  go_enter Try.func4, Try.ntmps4
  go_wp2_with fail
  refine (awake_any _).mono ?_; rintro e w0 ⟨rfl, b0⟩
  obtain ⟨G, hG⟩ : ∃ G, w0.alloc (.cells zeroC.toArray 36) = G := ⟨_, rfl⟩
  obtain ⟨g, hgs⟩ : ∃ g, w0.heap.size = g := ⟨_, rfl⟩
  have B0 : Bx w g [] [(w.heap.size, a), (w.heap.size + 1, b), (w.heap.size + 1 + 1, x), (w.heap.size + 1 + 1 + 1, y)] G := by
    rw [← hG, ← hgs]
    exact (HS0.out.grow b0).all.less (fun q hq => by
      simp only [List.mem_cons, List.not_mem_nil, or_false] at hq ⊢
      rcases hq with rfl | rfl | rfl | rfl
      · exact .inr (.inr (.inr rfl))
      · exact .inr (.inr (.inl rfl))
      · exact .inr (.inl rfl)
      · exact .inl rfl)
  have hp1 := (B0.at (.head _)).all.2.1
  have hp2 := (B0.at (.head _)).all.2.2.1
  have q1 := (B0.at (.tail _ (.head _))).all.2.1
  have q2 := (B0.at (.tail _ (.head _))).all.2.2.1
  have qz := (B0.at (.tail _ (.head _))).z 2
  have HB0 := hide B0
  clear b0 B0
  by_cases h1 : a.rp = b.rp
  · have p1 : G.cell? ⟨w.heap.size, 1, none⟩ = some (.int .u64 b.rp) := by rw [← h1]; exact hp1
    by_cases h2 : a.id = b.id
    · have p2 : G.cell? ⟨w.heap.size, 2, none⟩ = some (.int .u32 b.id) := by rw [← h2]; exact hp2
      obtain ⟨b', hb'⟩ : ∃ b', b.inc = b' := ⟨_, rfl⟩
      have HNE : Hid (¬ (a.rp = b'.rp ∧ a.id = b'.id)) := by
        rintro ⟨_, e⟩
        rw [← hb', h2] at e
        have e' : b.id = IntKind.u32.wrap (b.id + 1) := e
        rw [IntKind.wrap_u32] at e'
        omega
      have f0 := foot_set G ⟨w.heap.size + 1, 2, none⟩ (.int .u32 ((b.id + 1) % 4294967296))
      have k0 : BoxM (G.setCell ⟨w.heap.size + 1, 2, none⟩ (.int .u32 ((b.id + 1) % 4294967296))) (w.heap.size + 1) b' := by
        rw [← hb']
        have := box_inc (HB0.out.at (.tail _ (.head _)))
        rwa [IntKind.wrap_u32] at this
      obtain ⟨U, hU⟩ : ∃ U, G.setCell ⟨w.heap.size + 1, 2, none⟩ (.int .u32 ((b.id + 1) % 4294967296)) = U := ⟨_, rfl⟩
      rw [hU] at f0 k0
      have B : Bx w g [] [(w.heap.size, a), (w.heap.size + 1, b'), (w.heap.size + 1 + 1, x), (w.heap.size + 1 + 1 + 1, y)] U := by
        refine ⟨HB0.out.st.foot f0 (fun k cur t hk ht e => ?_), fun q hq => ?_, foot_on (g := w.heap.size + 1) HB0.out.b (by omega) f0, HB0.out.g⟩
        · subst e
          rcases ht with rfl | rfl
          · exact two_types hk (HB0.out.at (.tail _ (.head _))) (by decide) rfl
          · exact two_types hk (HB0.out.at (.tail _ (.head _))) (by decide) rfl
        · simp only [List.mem_cons, List.not_mem_nil, or_false] at hq
          rcases hq with rfl | rfl | rfl | rfl
          · exact ⟨(HB0.out.at (.head _)).foot f0 (by show ¬ w.heap.size = w.heap.size + 1; omega), (HB0.out.box _ (.head _)).2⟩
          · exact ⟨k0, (HB0.out.box _ (.tail _ (.head _))).2⟩
          · exact ⟨(HB0.out.at (.tail _ (.tail _ (.head _)))).foot f0 (by show ¬ w.heap.size + 1 + 1 = w.heap.size + 1; omega), (HB0.out.box _ (.tail _ (.tail _ (.head _)))).2⟩
          · exact ⟨(HB0.out.at (.tail _ (.tail _ (.tail _ (.head _))))).foot f0 (by show ¬ w.heap.size + 1 + 1 + 1 = w.heap.size + 1; omega), (HB0.out.box _ (.tail _ (.tail _ (.tail _ (.head _))))).2⟩
      have HB := hide B
      clear h1 h2 hp1 hp2 hb' f0 k0 B
      go_upto_region 6 with fail
      clear p1 p2 q1 q2 qz
      have hka := (HB.out.at (.head _)).all
      obtain ⟨i0, i1, i2, i3, i4, i5, i6, i7, i8, i9, i10⟩ := hka
      go_wp2_with fail
      refine (take_new a HB.out.st (by show 0 < 32; omega) (fun j hj => by cases hj)).mono ?_; rintro e w1 ⟨rfl, E1⟩
      have HB1 : Hid (Bx w g [⟨a.rp, a.id, false, Ms.zero⟩] [(w.heap.size, a), (w.heap.size + 1, b'), (w.heap.size + 1 + 1, x), (w.heap.size + 1 + 1 + 1, y)] (w1.alloc (.cells #[.int .u64 0, .int .u64 0, .int .u32 0, .int .u16 0, .int .u16 0, .int .u64 0, .int .u32 0, .int .u8 0, .int .u64 0, .int .u64 0, .slice none 0 0] 29))) := (HB.out.deed E1).grow (below_alloc w1 _)
      clear E1 i0 i1 i2 i3 i4 i5 i6 i7 i8 i9 i10
      obtain ⟨i0, i1, i2, i3, i4, i5, i6, i7, i8, i9, i10⟩ := (HB1.out.at (.tail _ (.head _))).all
      go_wp2_with fail
      refine (take_new b' HB1.out.st (by show 1 < 32; omega) (fun j hj => by obtain rfl : j = 0 := (by have : j < 1 := hj; omega); exact isR_ne HNE.out)).mono ?_; rintro e w2 ⟨rfl, E2⟩
      have HB2 : Hid (Bx w g [⟨a.rp, a.id, false, Ms.zero⟩, ⟨b'.rp, b'.id, false, Ms.zero⟩] [(w.heap.size, a), (w.heap.size + 1, b'), (w.heap.size + 1 + 1, x), (w.heap.size + 1 + 1 + 1, y)] (w2.alloc (.cells #[.int .u64 0, .int .u64 0, .int .u32 0, .int .u16 0, .int .u16 0, .int .u64 0, .int .u32 0, .int .u8 0, .int .u64 0, .int .u64 0, .slice none 0 0] 29))) := (HB1.out.deed E2).grow (below_alloc w2 _)
      clear E2 i0 i1 i2 i3 i4 i5 i6 i7 i8 i9 i10
      have HBY : Hid (Bx w g [⟨a.rp, a.id, false, Ms.zero⟩, ⟨b'.rp, b'.id, false, Ms.zero⟩] [(w.heap.size, a), (w.heap.size + 1, b'), (w.heap.size + 1 + 1, x), (w.heap.size + 1 + 1 + 1, y)] (w2.alloc (.cells #[.int .u64 0, .int .u64 0, .int .u32 0, .int .u16 0, .int .u16 0, .int .u64 0, .int .u32 0, .int .u8 0, .int .u64 0, .int .u64 0, .slice none 0 0] 29)).drew) := HB2.out.grow (below_d _ 1)
      go_upto_region 8 with fail
      go_cut [16, 17] from 58 to 65 (fun va vb wx => va = .bool true ∧ vb = .bool true ∧ Bx w g [⟨a.rp, a.id, true, x.nm⟩, ⟨b'.rp, b'.id, true, y.nm⟩] [(w.heap.size, a), (w.heap.size + 1, b'), (w.heap.size + 1 + 1, x), (w.heap.size + 1 + 1 + 1, y)] wx)
      case first =>
        go_region_held (fun w' => (w'.cell? ⟨w.heap.size, 0, none⟩ = some (.int .u64 a.ta) ∧ w'.cell? ⟨w.heap.size, 1, none⟩ = some (.int .u64 a.rp) ∧ w'.cell? ⟨w.heap.size, 2, none⟩ = some (.int .u32 a.id) ∧ w'.cell? ⟨w.heap.size, 3, none⟩ = some (.int .u16 a.op) ∧ w'.cell? ⟨w.heap.size, 4, none⟩ = some (.int .u16 a.st) ∧ w'.cell? ⟨w.heap.size, 5, none⟩ = some (.int .u64 a.p) ∧ w'.cell? ⟨w.heap.size, 6, none⟩ = some (.int .u32 a.o) ∧ w'.cell? ⟨w.heap.size, 7, none⟩ = some (.int .u8 a.r) ∧ w'.cell? ⟨w.heap.size, 8, none⟩ = some (.int .u64 a.c) ∧ w'.cell? ⟨w.heap.size, 9, none⟩ = some (.int .u64 a.ar) ∧ w'.cell? ⟨w.heap.size, 10, none⟩ = some (.slice a.so a.sn a.sc)) ∧ (w'.cell? ⟨(w.heap.size + 1), 0, none⟩ = some (.int .u64 b'.ta) ∧ w'.cell? ⟨(w.heap.size + 1), 1, none⟩ = some (.int .u64 b'.rp) ∧ w'.cell? ⟨(w.heap.size + 1), 2, none⟩ = some (.int .u32 b'.id) ∧ w'.cell? ⟨(w.heap.size + 1), 3, none⟩ = some (.int .u16 b'.op) ∧ w'.cell? ⟨(w.heap.size + 1), 4, none⟩ = some (.int .u16 b'.st) ∧ w'.cell? ⟨(w.heap.size + 1), 5, none⟩ = some (.int .u64 b'.p) ∧ w'.cell? ⟨(w.heap.size + 1), 6, none⟩ = some (.int .u32 b'.o) ∧ w'.cell? ⟨(w.heap.size + 1), 7, none⟩ = some (.int .u8 b'.r) ∧ w'.cell? ⟨(w.heap.size + 1), 8, none⟩ = some (.int .u64 b'.c) ∧ w'.cell? ⟨(w.heap.size + 1), 9, none⟩ = some (.int .u64 b'.ar) ∧ w'.cell? ⟨(w.heap.size + 1), 10, none⟩ = some (.slice b'.so b'.sn b'.sc)) ∧ (w'.cell? ⟨(w.heap.size + 1 + 1), 0, none⟩ = some (.int .u64 x.ta) ∧ w'.cell? ⟨(w.heap.size + 1 + 1), 1, none⟩ = some (.int .u64 x.rp) ∧ w'.cell? ⟨(w.heap.size + 1 + 1), 2, none⟩ = some (.int .u32 x.id) ∧ w'.cell? ⟨(w.heap.size + 1 + 1), 3, none⟩ = some (.int .u16 x.op) ∧ w'.cell? ⟨(w.heap.size + 1 + 1), 4, none⟩ = some (.int .u16 x.st) ∧ w'.cell? ⟨(w.heap.size + 1 + 1), 5, none⟩ = some (.int .u64 x.p) ∧ w'.cell? ⟨(w.heap.size + 1 + 1), 6, none⟩ = some (.int .u32 x.o) ∧ w'.cell? ⟨(w.heap.size + 1 + 1), 7, none⟩ = some (.int .u8 x.r) ∧ w'.cell? ⟨(w.heap.size + 1 + 1), 8, none⟩ = some (.int .u64 x.c) ∧ w'.cell? ⟨(w.heap.size + 1 + 1), 9, none⟩ = some (.int .u64 x.ar) ∧ w'.cell? ⟨(w.heap.size + 1 + 1), 10, none⟩ = some (.slice x.so x.sn x.sc)) ∧ (w'.cell? ⟨(w.heap.size + 1 + 1 + 1), 0, none⟩ = some (.int .u64 y.ta) ∧ w'.cell? ⟨(w.heap.size + 1 + 1 + 1), 1, none⟩ = some (.int .u64 y.rp) ∧ w'.cell? ⟨(w.heap.size + 1 + 1 + 1), 2, none⟩ = some (.int .u32 y.id) ∧ w'.cell? ⟨(w.heap.size + 1 + 1 + 1), 3, none⟩ = some (.int .u16 y.op) ∧ w'.cell? ⟨(w.heap.size + 1 + 1 + 1), 4, none⟩ = some (.int .u16 y.st) ∧ w'.cell? ⟨(w.heap.size + 1 + 1 + 1), 5, none⟩ = some (.int .u64 y.p) ∧ w'.cell? ⟨(w.heap.size + 1 + 1 + 1), 6, none⟩ = some (.int .u32 y.o) ∧ w'.cell? ⟨(w.heap.size + 1 + 1 + 1), 7, none⟩ = some (.int .u8 y.r) ∧ w'.cell? ⟨(w.heap.size + 1 + 1 + 1), 8, none⟩ = some (.int .u64 y.c) ∧ w'.cell? ⟨(w.heap.size + 1 + 1 + 1), 9, none⟩ = some (.int .u64 y.ar) ∧ w'.cell? ⟨(w.heap.size + 1 + 1 + 1), 10, none⟩ = some (.slice y.so y.sn y.sc))) (first | exact HB4.out.four | exact HB3.out.four | exact HBY.out.four) (first | (have := HB3.out; go_at_call 7; refine (reply_yes b' y HB3.out.st 1 (by show 1 < 2; omega) (isR_of rfl rfl) (fun j hj => by obtain rfl : j = 0 := (by omega); exact isR_ne HNE.out) rfl (Bts.carry HY.out HB3.out.b) (OffG.of HY.out HB3.out.g) HYS.out).mono ?_; rintro e w4 ⟨rfl, E4⟩; have HB4 : Hid (Bx w g [⟨a.rp, a.id, true, x.nm⟩, ⟨b'.rp, b'.id, true, y.nm⟩] [(w.heap.size, a), (w.heap.size + 1, b'), (w.heap.size + 1 + 1, x), (w.heap.size + 1 + 1 + 1, y)] w4) := (HB3.out.deed E4); clear E4) | (go_at_call 7; refine (reply_yes a x HBY.out.st 0 (by show 0 < 2; omega) (isR_of rfl rfl) (fun j hj => by omega) rfl (Bts.carry HX.out HBY.out.b) (OffG.of HX.out HBY.out.g) HXS.out).mono ?_; rintro e w3 ⟨rfl, E3⟩; have HB3 : Hid (Bx w g [⟨a.rp, a.id, true, x.nm⟩, ⟨b'.rp, b'.id, false, Ms.zero⟩] [(w.heap.size, a), (w.heap.size + 1, b'), (w.heap.size + 1 + 1, x), (w.heap.size + 1 + 1 + 1, y)] w3) := (HBY.out.deed E3); clear E3))
        all_goals (go_wp2_with fail; go_meet; exact ⟨rfl, rfl, HB4.out⟩)
      case rest =>
        obtain ⟨rfl, rfl, B4⟩ := hcut
        clear HBY HB2
        obtain ⟨i0, i1, i2, i3, i4, i5, i6, i7, i8, i9, i10⟩ := (B4.at (.head _)).all
        have HB4 := hide B4
        clear B4
        go_wp2_with fail
        refine (take_known a HB4.out.st 0 (by show 0 < 2; omega) (isR_of rfl rfl) (fun j hj => by omega) (fun h => by cases h) 2 rfl).mono ?_; rintro e w5 ⟨q5, rfl, hq5, hs5, hh5, ho5, hw5, b5⟩
        have hn5 : q5.nm = x.nm := hq5
        obtain ⟨Y5, hY5⟩ : ∃ Y, w5.alloc (.cells #[.int .u64 q5.ta, .int .u64 q5.rp, .int .u32 q5.id, .int .u16 q5.op, .int .u16 q5.st, .int .u64 q5.p, .int .u32 q5.o, .int .u8 q5.r, .int .u64 q5.c, .int .u64 q5.ar, .slice q5.so q5.sn q5.sc] 29) = Y := ⟨_, rfl⟩
        have B5 : Bx w g [⟨a.rp, a.id, true, x.nm⟩, ⟨b'.rp, b'.id, true, y.nm⟩] ((w5.heap.size, q5) :: [(w.heap.size, a), (w.heap.size + 1, b'), (w.heap.size + 1 + 1, x), (w.heap.size + 1 + 1 + 1, y)]) Y5 := by rw [← hY5]; exact (HB4.out.grow b5).new q5
        have HQ5 : Hid (q5.nm = x.nm ∧ q5.has Y5) := ⟨hn5, hY5 ▸ Bts.carry hh5 (below_alloc w5 _)⟩
        clear i0 i1 i2 i3 i4 i5 i6 i7 i8 i9 i10
        obtain ⟨i0, i1, i2, i3, i4, i5, i6, i7, i8, i9, i10⟩ := (B5.at (.tail _ (.tail _ (.head _)))).all
        have HB5 := hide B5
        clear B5 hq5 hs5 hh5 ho5 hw5 b5 hn5
        go_wp2_with fail
        refine (take_known b' HB5.out.st 1 (by show 1 < 2; omega) (isR_of rfl rfl) (fun j hj => by obtain rfl : j = 0 := (by omega); exact isR_ne HNE.out) (fun h => by cases h) 2 rfl).mono ?_; rintro e w6 ⟨q6, rfl, hq6, hs6, hh6, ho6, hw6, b6⟩
        have hn6 : q6.nm = y.nm := hq6
        obtain ⟨Y6, hY6⟩ : ∃ Y, w6.alloc (.cells #[.int .u64 q6.ta, .int .u64 q6.rp, .int .u32 q6.id, .int .u16 q6.op, .int .u16 q6.st, .int .u64 q6.p, .int .u32 q6.o, .int .u8 q6.r, .int .u64 q6.c, .int .u64 q6.ar, .slice q6.so q6.sn q6.sc] 29) = Y := ⟨_, rfl⟩
        have B6 : Bx w g [⟨a.rp, a.id, true, x.nm⟩, ⟨b'.rp, b'.id, true, y.nm⟩] ((w6.heap.size, q6) :: (w5.heap.size, q5) :: [(w.heap.size, a), (w.heap.size + 1, b'), (w.heap.size + 1 + 1, x), (w.heap.size + 1 + 1 + 1, y)]) Y6 := by rw [← hY6]; exact (HB5.out.grow b6).new q6
        have HQ6 : Hid (q6.nm = y.nm ∧ q6.has Y6 ∧ q5.has Y6) := ⟨hn6, hY6 ▸ Bts.carry hh6 (below_alloc w6 _), Bts.carry HQ5.out.2 (hY6 ▸ below_one b6 (below_alloc w6 _))⟩
        clear i0 i1 i2 i3 i4 i5 i6 i7 i8 i9 i10
        obtain ⟨i0, i1, i2, i3, i4, i5, i6, i7, i8, i9, i10⟩ := (B6.at (.tail _ (.head _))).all
        obtain ⟨k0, k1, k2, k3, k4, k5, k6, k7, k8, k9, k10⟩ := (B6.at (.tail _ (.tail _ (.tail _ (.tail _ (.head _)))))).all
        have HB6 := hide B6
        clear B6 hq6 hs6 hh6 ho6 hw6 b6 hn6
        go_wp2_with fail
        refine (same_yes q5 x _ HQ6.out.2.2 (Bts.carry HX.out HB6.out.b) HQ5.out.1).mono ?_; rintro e w7 ⟨rfl, b7⟩
        have B7 := HB6.out.grow b7
        clear i0 i1 i2 i3 i4 i5 i6 i7 i8 i9 i10 k0 k1 k2 k3 k4 k5 k6 k7 k8 k9 k10
        obtain ⟨i0, i1, i2, i3, i4, i5, i6, i7, i8, i9, i10⟩ := (B7.at (.head _)).all
        obtain ⟨k0, k1, k2, k3, k4, k5, k6, k7, k8, k9, k10⟩ := (B7.at (.tail _ (.tail _ (.tail _ (.tail _ (.tail _ (.head _))))))).all
        have HB7 := hide B7
        have HQ7 := hide (Bts.carry HQ6.out.2.1 b7)
        clear B7 b7
        go_wp2_with fail
        refine (same_yes q6 y _ HQ7.out (Bts.carry HY.out HB7.out.b) HQ6.out.1).mono ?_; rintro e w8 ⟨rfl, b8⟩
        have HB8 := hide (below_one HB7.out.b b8)
        clear b8
        go_wp2
        go_ret
        exact ⟨rfl, HB8.out⟩
    · have HB := HB0
      have HNE : Hid (¬ (a.rp = b.rp ∧ a.id = b.id)) := fun e => h2 e.2
      clear h1 hp1
      go_upto_region 6 with fail
      clear p1 hp2 q1 q2 qz h2
      have hka := (HB.out.at (.head _)).all
      obtain ⟨i0, i1, i2, i3, i4, i5, i6, i7, i8, i9, i10⟩ := hka
      go_wp2_with fail
      refine (take_new a HB.out.st (by show 0 < 32; omega) (fun j hj => by cases hj)).mono ?_; rintro e w1 ⟨rfl, E1⟩
      have HB1 : Hid (Bx w g [⟨a.rp, a.id, false, Ms.zero⟩] [(w.heap.size, a), (w.heap.size + 1, b), (w.heap.size + 1 + 1, x), (w.heap.size + 1 + 1 + 1, y)] (w1.alloc (.cells #[.int .u64 0, .int .u64 0, .int .u32 0, .int .u16 0, .int .u16 0, .int .u64 0, .int .u32 0, .int .u8 0, .int .u64 0, .int .u64 0, .slice none 0 0] 29))) := (HB.out.deed E1).grow (below_alloc w1 _)
      clear E1 i0 i1 i2 i3 i4 i5 i6 i7 i8 i9 i10
      obtain ⟨i0, i1, i2, i3, i4, i5, i6, i7, i8, i9, i10⟩ := (HB1.out.at (.tail _ (.head _))).all
      go_wp2_with fail
      refine (take_new b HB1.out.st (by show 1 < 32; omega) (fun j hj => by obtain rfl : j = 0 := (by have : j < 1 := hj; omega); exact isR_ne HNE.out)).mono ?_; rintro e w2 ⟨rfl, E2⟩
      have HB2 : Hid (Bx w g [⟨a.rp, a.id, false, Ms.zero⟩, ⟨b.rp, b.id, false, Ms.zero⟩] [(w.heap.size, a), (w.heap.size + 1, b), (w.heap.size + 1 + 1, x), (w.heap.size + 1 + 1 + 1, y)] (w2.alloc (.cells #[.int .u64 0, .int .u64 0, .int .u32 0, .int .u16 0, .int .u16 0, .int .u64 0, .int .u32 0, .int .u8 0, .int .u64 0, .int .u64 0, .slice none 0 0] 29))) := (HB1.out.deed E2).grow (below_alloc w2 _)
      clear E2 i0 i1 i2 i3 i4 i5 i6 i7 i8 i9 i10
      have HBY : Hid (Bx w g [⟨a.rp, a.id, false, Ms.zero⟩, ⟨b.rp, b.id, false, Ms.zero⟩] [(w.heap.size, a), (w.heap.size + 1, b), (w.heap.size + 1 + 1, x), (w.heap.size + 1 + 1 + 1, y)] (w2.alloc (.cells #[.int .u64 0, .int .u64 0, .int .u32 0, .int .u16 0, .int .u16 0, .int .u64 0, .int .u32 0, .int .u8 0, .int .u64 0, .int .u64 0, .slice none 0 0] 29)).drew) := HB2.out.grow (below_d _ 1)
      go_upto_region 8 with fail
      go_cut [16, 17] from 58 to 65 (fun va vb wx => va = .bool true ∧ vb = .bool true ∧ Bx w g [⟨a.rp, a.id, true, x.nm⟩, ⟨b.rp, b.id, true, y.nm⟩] [(w.heap.size, a), (w.heap.size + 1, b), (w.heap.size + 1 + 1, x), (w.heap.size + 1 + 1 + 1, y)] wx)
      case first =>
        go_region_held (fun w' => (w'.cell? ⟨w.heap.size, 0, none⟩ = some (.int .u64 a.ta) ∧ w'.cell? ⟨w.heap.size, 1, none⟩ = some (.int .u64 a.rp) ∧ w'.cell? ⟨w.heap.size, 2, none⟩ = some (.int .u32 a.id) ∧ w'.cell? ⟨w.heap.size, 3, none⟩ = some (.int .u16 a.op) ∧ w'.cell? ⟨w.heap.size, 4, none⟩ = some (.int .u16 a.st) ∧ w'.cell? ⟨w.heap.size, 5, none⟩ = some (.int .u64 a.p) ∧ w'.cell? ⟨w.heap.size, 6, none⟩ = some (.int .u32 a.o) ∧ w'.cell? ⟨w.heap.size, 7, none⟩ = some (.int .u8 a.r) ∧ w'.cell? ⟨w.heap.size, 8, none⟩ = some (.int .u64 a.c) ∧ w'.cell? ⟨w.heap.size, 9, none⟩ = some (.int .u64 a.ar) ∧ w'.cell? ⟨w.heap.size, 10, none⟩ = some (.slice a.so a.sn a.sc)) ∧ (w'.cell? ⟨(w.heap.size + 1), 0, none⟩ = some (.int .u64 b.ta) ∧ w'.cell? ⟨(w.heap.size + 1), 1, none⟩ = some (.int .u64 b.rp) ∧ w'.cell? ⟨(w.heap.size + 1), 2, none⟩ = some (.int .u32 b.id) ∧ w'.cell? ⟨(w.heap.size + 1), 3, none⟩ = some (.int .u16 b.op) ∧ w'.cell? ⟨(w.heap.size + 1), 4, none⟩ = some (.int .u16 b.st) ∧ w'.cell? ⟨(w.heap.size + 1), 5, none⟩ = some (.int .u64 b.p) ∧ w'.cell? ⟨(w.heap.size + 1), 6, none⟩ = some (.int .u32 b.o) ∧ w'.cell? ⟨(w.heap.size + 1), 7, none⟩ = some (.int .u8 b.r) ∧ w'.cell? ⟨(w.heap.size + 1), 8, none⟩ = some (.int .u64 b.c) ∧ w'.cell? ⟨(w.heap.size + 1), 9, none⟩ = some (.int .u64 b.ar) ∧ w'.cell? ⟨(w.heap.size + 1), 10, none⟩ = some (.slice b.so b.sn b.sc)) ∧ (w'.cell? ⟨(w.heap.size + 1 + 1), 0, none⟩ = some (.int .u64 x.ta) ∧ w'.cell? ⟨(w.heap.size + 1 + 1), 1, none⟩ = some (.int .u64 x.rp) ∧ w'.cell? ⟨(w.heap.size + 1 + 1), 2, none⟩ = some (.int .u32 x.id) ∧ w'.cell? ⟨(w.heap.size + 1 + 1), 3, none⟩ = some (.int .u16 x.op) ∧ w'.cell? ⟨(w.heap.size + 1 + 1), 4, none⟩ = some (.int .u16 x.st) ∧ w'.cell? ⟨(w.heap.size + 1 + 1), 5, none⟩ = some (.int .u64 x.p) ∧ w'.cell? ⟨(w.heap.size + 1 + 1), 6, none⟩ = some (.int .u32 x.o) ∧ w'.cell? ⟨(w.heap.size + 1 + 1), 7, none⟩ = some (.int .u8 x.r) ∧ w'.cell? ⟨(w.heap.size + 1 + 1), 8, none⟩ = some (.int .u64 x.c) ∧ w'.cell? ⟨(w.heap.size + 1 + 1), 9, none⟩ = some (.int .u64 x.ar) ∧ w'.cell? ⟨(w.heap.size + 1 + 1), 10, none⟩ = some (.slice x.so x.sn x.sc)) ∧ (w'.cell? ⟨(w.heap.size + 1 + 1 + 1), 0, none⟩ = some (.int .u64 y.ta) ∧ w'.cell? ⟨(w.heap.size + 1 + 1 + 1), 1, none⟩ = some (.int .u64 y.rp) ∧ w'.cell? ⟨(w.heap.size + 1 + 1 + 1), 2, none⟩ = some (.int .u32 y.id) ∧ w'.cell? ⟨(w.heap.size + 1 + 1 + 1), 3, none⟩ = some (.int .u16 y.op) ∧ w'.cell? ⟨(w.heap.size + 1 + 1 + 1), 4, none⟩ = some (.int .u16 y.st) ∧ w'.cell? ⟨(w.heap.size + 1 + 1 + 1), 5, none⟩ = some (.int .u64 y.p) ∧ w'.cell? ⟨(w.heap.size + 1 + 1 + 1), 6, none⟩ = some (.int .u32 y.o) ∧ w'.cell? ⟨(w.heap.size + 1 + 1 + 1), 7, none⟩ = some (.int .u8 y.r) ∧ w'.cell? ⟨(w.heap.size + 1 + 1 + 1), 8, none⟩ = some (.int .u64 y.c) ∧ w'.cell? ⟨(w.heap.size + 1 + 1 + 1), 9, none⟩ = some (.int .u64 y.ar) ∧ w'.cell? ⟨(w.heap.size + 1 + 1 + 1), 10, none⟩ = some (.slice y.so y.sn y.sc))) (first | exact HB4.out.four | exact HB3.out.four | exact HBY.out.four) (first | (have := HB3.out; go_at_call 7; refine (reply_yes b y HB3.out.st 1 (by show 1 < 2; omega) (isR_of rfl rfl) (fun j hj => by obtain rfl : j = 0 := (by omega); exact isR_ne HNE.out) rfl (Bts.carry HY.out HB3.out.b) (OffG.of HY.out HB3.out.g) HYS.out).mono ?_; rintro e w4 ⟨rfl, E4⟩; have HB4 : Hid (Bx w g [⟨a.rp, a.id, true, x.nm⟩, ⟨b.rp, b.id, true, y.nm⟩] [(w.heap.size, a), (w.heap.size + 1, b), (w.heap.size + 1 + 1, x), (w.heap.size + 1 + 1 + 1, y)] w4) := (HB3.out.deed E4); clear E4) | (go_at_call 7; refine (reply_yes a x HBY.out.st 0 (by show 0 < 2; omega) (isR_of rfl rfl) (fun j hj => by omega) rfl (Bts.carry HX.out HBY.out.b) (OffG.of HX.out HBY.out.g) HXS.out).mono ?_; rintro e w3 ⟨rfl, E3⟩; have HB3 : Hid (Bx w g [⟨a.rp, a.id, true, x.nm⟩, ⟨b.rp, b.id, false, Ms.zero⟩] [(w.heap.size, a), (w.heap.size + 1, b), (w.heap.size + 1 + 1, x), (w.heap.size + 1 + 1 + 1, y)] w3) := (HBY.out.deed E3); clear E3))
        all_goals (go_wp2_with fail; go_meet; exact ⟨rfl, rfl, HB4.out⟩)
      case rest =>
        obtain ⟨rfl, rfl, B4⟩ := hcut
        clear HBY HB2
        obtain ⟨i0, i1, i2, i3, i4, i5, i6, i7, i8, i9, i10⟩ := (B4.at (.head _)).all
        have HB4 := hide B4
        clear B4
        go_wp2_with fail
        refine (take_known a HB4.out.st 0 (by show 0 < 2; omega) (isR_of rfl rfl) (fun j hj => by omega) (fun h => by cases h) 2 rfl).mono ?_; rintro e w5 ⟨q5, rfl, hq5, hs5, hh5, ho5, hw5, b5⟩
        have hn5 : q5.nm = x.nm := hq5
        obtain ⟨Y5, hY5⟩ : ∃ Y, w5.alloc (.cells #[.int .u64 q5.ta, .int .u64 q5.rp, .int .u32 q5.id, .int .u16 q5.op, .int .u16 q5.st, .int .u64 q5.p, .int .u32 q5.o, .int .u8 q5.r, .int .u64 q5.c, .int .u64 q5.ar, .slice q5.so q5.sn q5.sc] 29) = Y := ⟨_, rfl⟩
        have B5 : Bx w g [⟨a.rp, a.id, true, x.nm⟩, ⟨b.rp, b.id, true, y.nm⟩] ((w5.heap.size, q5) :: [(w.heap.size, a), (w.heap.size + 1, b), (w.heap.size + 1 + 1, x), (w.heap.size + 1 + 1 + 1, y)]) Y5 := by rw [← hY5]; exact (HB4.out.grow b5).new q5
        have HQ5 : Hid (q5.nm = x.nm ∧ q5.has Y5) := ⟨hn5, hY5 ▸ Bts.carry hh5 (below_alloc w5 _)⟩
        clear i0 i1 i2 i3 i4 i5 i6 i7 i8 i9 i10
        obtain ⟨i0, i1, i2, i3, i4, i5, i6, i7, i8, i9, i10⟩ := (B5.at (.tail _ (.tail _ (.head _)))).all
        have HB5 := hide B5
        clear B5 hq5 hs5 hh5 ho5 hw5 b5 hn5
        go_wp2_with fail
        refine (take_known b HB5.out.st 1 (by show 1 < 2; omega) (isR_of rfl rfl) (fun j hj => by obtain rfl : j = 0 := (by omega); exact isR_ne HNE.out) (fun h => by cases h) 2 rfl).mono ?_; rintro e w6 ⟨q6, rfl, hq6, hs6, hh6, ho6, hw6, b6⟩
        have hn6 : q6.nm = y.nm := hq6
        obtain ⟨Y6, hY6⟩ : ∃ Y, w6.alloc (.cells #[.int .u64 q6.ta, .int .u64 q6.rp, .int .u32 q6.id, .int .u16 q6.op, .int .u16 q6.st, .int .u64 q6.p, .int .u32 q6.o, .int .u8 q6.r, .int .u64 q6.c, .int .u64 q6.ar, .slice q6.so q6.sn q6.sc] 29) = Y := ⟨_, rfl⟩
        have B6 : Bx w g [⟨a.rp, a.id, true, x.nm⟩, ⟨b.rp, b.id, true, y.nm⟩] ((w6.heap.size, q6) :: (w5.heap.size, q5) :: [(w.heap.size, a), (w.heap.size + 1, b), (w.heap.size + 1 + 1, x), (w.heap.size + 1 + 1 + 1, y)]) Y6 := by rw [← hY6]; exact (HB5.out.grow b6).new q6
        have HQ6 : Hid (q6.nm = y.nm ∧ q6.has Y6 ∧ q5.has Y6) := ⟨hn6, hY6 ▸ Bts.carry hh6 (below_alloc w6 _), Bts.carry HQ5.out.2 (hY6 ▸ below_one b6 (below_alloc w6 _))⟩
        clear i0 i1 i2 i3 i4 i5 i6 i7 i8 i9 i10
        obtain ⟨i0, i1, i2, i3, i4, i5, i6, i7, i8, i9, i10⟩ := (B6.at (.tail _ (.head _))).all
        obtain ⟨k0, k1, k2, k3, k4, k5, k6, k7, k8, k9, k10⟩ := (B6.at (.tail _ (.tail _ (.tail _ (.tail _ (.head _)))))).all
        have HB6 := hide B6
        clear B6 hq6 hs6 hh6 ho6 hw6 b6 hn6
        go_wp2_with fail
        refine (same_yes q5 x _ HQ6.out.2.2 (Bts.carry HX.out HB6.out.b) HQ5.out.1).mono ?_; rintro e w7 ⟨rfl, b7⟩
        have B7 := HB6.out.grow b7
        clear i0 i1 i2 i3 i4 i5 i6 i7 i8 i9 i10 k0 k1 k2 k3 k4 k5 k6 k7 k8 k9 k10
        obtain ⟨i0, i1, i2, i3, i4, i5, i6, i7, i8, i9, i10⟩ := (B7.at (.head _)).all
        obtain ⟨k0, k1, k2, k3, k4, k5, k6, k7, k8, k9, k10⟩ := (B7.at (.tail _ (.tail _ (.tail _ (.tail _ (.tail _ (.head _))))))).all
        have HB7 := hide B7
        have HQ7 := hide (Bts.carry HQ6.out.2.1 b7)
        clear B7 b7
        go_wp2_with fail
        refine (same_yes q6 y _ HQ7.out (Bts.carry HY.out HB7.out.b) HQ6.out.1).mono ?_; rintro e w8 ⟨rfl, b8⟩
        have HB8 := hide (below_one HB7.out.b b8)
        clear b8
        go_wp2
        go_ret
        exact ⟨rfl, HB8.out⟩
  · have HB := HB0
    have HNE : Hid (¬ (a.rp = b.rp ∧ a.id = b.id)) := fun e => h1 e.1
    go_upto_region 6 with fail
    clear hp1 hp2 q1 q2 qz h1
    have hka := (HB.out.at (.head _)).all
    obtain ⟨i0, i1, i2, i3, i4, i5, i6, i7, i8, i9, i10⟩ := hka
    go_wp2_with fail
    refine (take_new a HB.out.st (by show 0 < 32; omega) (fun j hj => by cases hj)).mono ?_; rintro e w1 ⟨rfl, E1⟩
    have HB1 : Hid (Bx w g [⟨a.rp, a.id, false, Ms.zero⟩] [(w.heap.size, a), (w.heap.size + 1, b), (w.heap.size + 1 + 1, x), (w.heap.size + 1 + 1 + 1, y)] (w1.alloc (.cells #[.int .u64 0, .int .u64 0, .int .u32 0, .int .u16 0, .int .u16 0, .int .u64 0, .int .u32 0, .int .u8 0, .int .u64 0, .int .u64 0, .slice none 0 0] 29))) := (HB.out.deed E1).grow (below_alloc w1 _)
    clear E1 i0 i1 i2 i3 i4 i5 i6 i7 i8 i9 i10
    obtain ⟨i0, i1, i2, i3, i4, i5, i6, i7, i8, i9, i10⟩ := (HB1.out.at (.tail _ (.head _))).all
    go_wp2_with fail
    refine (take_new b HB1.out.st (by show 1 < 32; omega) (fun j hj => by obtain rfl : j = 0 := (by have : j < 1 := hj; omega); exact isR_ne HNE.out)).mono ?_; rintro e w2 ⟨rfl, E2⟩
    have HB2 : Hid (Bx w g [⟨a.rp, a.id, false, Ms.zero⟩, ⟨b.rp, b.id, false, Ms.zero⟩] [(w.heap.size, a), (w.heap.size + 1, b), (w.heap.size + 1 + 1, x), (w.heap.size + 1 + 1 + 1, y)] (w2.alloc (.cells #[.int .u64 0, .int .u64 0, .int .u32 0, .int .u16 0, .int .u16 0, .int .u64 0, .int .u32 0, .int .u8 0, .int .u64 0, .int .u64 0, .slice none 0 0] 29))) := (HB1.out.deed E2).grow (below_alloc w2 _)
    clear E2 i0 i1 i2 i3 i4 i5 i6 i7 i8 i9 i10
    have HBY : Hid (Bx w g [⟨a.rp, a.id, false, Ms.zero⟩, ⟨b.rp, b.id, false, Ms.zero⟩] [(w.heap.size, a), (w.heap.size + 1, b), (w.heap.size + 1 + 1, x), (w.heap.size + 1 + 1 + 1, y)] (w2.alloc (.cells #[.int .u64 0, .int .u64 0, .int .u32 0, .int .u16 0, .int .u16 0, .int .u64 0, .int .u32 0, .int .u8 0, .int .u64 0, .int .u64 0, .slice none 0 0] 29)).drew) := HB2.out.grow (below_d _ 1)
    go_upto_region 8 with fail
    go_cut [16, 17] from 58 to 65 (fun va vb wx => va = .bool true ∧ vb = .bool true ∧ Bx w g [⟨a.rp, a.id, true, x.nm⟩, ⟨b.rp, b.id, true, y.nm⟩] [(w.heap.size, a), (w.heap.size + 1, b), (w.heap.size + 1 + 1, x), (w.heap.size + 1 + 1 + 1, y)] wx)
    case first =>
      go_region_held (fun w' => (w'.cell? ⟨w.heap.size, 0, none⟩ = some (.int .u64 a.ta) ∧ w'.cell? ⟨w.heap.size, 1, none⟩ = some (.int .u64 a.rp) ∧ w'.cell? ⟨w.heap.size, 2, none⟩ = some (.int .u32 a.id) ∧ w'.cell? ⟨w.heap.size, 3, none⟩ = some (.int .u16 a.op) ∧ w'.cell? ⟨w.heap.size, 4, none⟩ = some (.int .u16 a.st) ∧ w'.cell? ⟨w.heap.size, 5, none⟩ = some (.int .u64 a.p) ∧ w'.cell? ⟨w.heap.size, 6, none⟩ = some (.int .u32 a.o) ∧ w'.cell? ⟨w.heap.size, 7, none⟩ = some (.int .u8 a.r) ∧ w'.cell? ⟨w.heap.size, 8, none⟩ = some (.int .u64 a.c) ∧ w'.cell? ⟨w.heap.size, 9, none⟩ = some (.int .u64 a.ar) ∧ w'.cell? ⟨w.heap.size, 10, none⟩ = some (.slice a.so a.sn a.sc)) ∧ (w'.cell? ⟨(w.heap.size + 1), 0, none⟩ = some (.int .u64 b.ta) ∧ w'.cell? ⟨(w.heap.size + 1), 1, none⟩ = some (.int .u64 b.rp) ∧ w'.cell? ⟨(w.heap.size + 1), 2, none⟩ = some (.int .u32 b.id) ∧ w'.cell? ⟨(w.heap.size + 1), 3, none⟩ = some (.int .u16 b.op) ∧ w'.cell? ⟨(w.heap.size + 1), 4, none⟩ = some (.int .u16 b.st) ∧ w'.cell? ⟨(w.heap.size + 1), 5, none⟩ = some (.int .u64 b.p) ∧ w'.cell? ⟨(w.heap.size + 1), 6, none⟩ = some (.int .u32 b.o) ∧ w'.cell? ⟨(w.heap.size + 1), 7, none⟩ = some (.int .u8 b.r) ∧ w'.cell? ⟨(w.heap.size + 1), 8, none⟩ = some (.int .u64 b.c) ∧ w'.cell? ⟨(w.heap.size + 1), 9, none⟩ = some (.int .u64 b.ar) ∧ w'.cell? ⟨(w.heap.size + 1), 10, none⟩ = some (.slice b.so b.sn b.sc)) ∧ (w'.cell? ⟨(w.heap.size + 1 + 1), 0, none⟩ = some (.int .u64 x.ta) ∧ w'.cell? ⟨(w.heap.size + 1 + 1), 1, none⟩ = some (.int .u64 x.rp) ∧ w'.cell? ⟨(w.heap.size + 1 + 1), 2, none⟩ = some (.int .u32 x.id) ∧ w'.cell? ⟨(w.heap.size + 1 + 1), 3, none⟩ = some (.int .u16 x.op) ∧ w'.cell? ⟨(w.heap.size + 1 + 1), 4, none⟩ = some (.int .u16 x.st) ∧ w'.cell? ⟨(w.heap.size + 1 + 1), 5, none⟩ = some (.int .u64 x.p) ∧ w'.cell? ⟨(w.heap.size + 1 + 1), 6, none⟩ = some (.int .u32 x.o) ∧ w'.cell? ⟨(w.heap.size + 1 + 1), 7, none⟩ = some (.int .u8 x.r) ∧ w'.cell? ⟨(w.heap.size + 1 + 1), 8, none⟩ = some (.int .u64 x.c) ∧ w'.cell? ⟨(w.heap.size + 1 + 1), 9, none⟩ = some (.int .u64 x.ar) ∧ w'.cell? ⟨(w.heap.size + 1 + 1), 10, none⟩ = some (.slice x.so x.sn x.sc)) ∧ (w'.cell? ⟨(w.heap.size + 1 + 1 + 1), 0, none⟩ = some (.int .u64 y.ta) ∧ w'.cell? ⟨(w.heap.size + 1 + 1 + 1), 1, none⟩ = some (.int .u64 y.rp) ∧ w'.cell? ⟨(w.heap.size + 1 + 1 + 1), 2, none⟩ = some (.int .u32 y.id) ∧ w'.cell? ⟨(w.heap.size + 1 + 1 + 1), 3, none⟩ = some (.int .u16 y.op) ∧ w'.cell? ⟨(w.heap.size + 1 + 1 + 1), 4, none⟩ = some (.int .u16 y.st) ∧ w'.cell? ⟨(w.heap.size + 1 + 1 + 1), 5, none⟩ = some (.int .u64 y.p) ∧ w'.cell? ⟨(w.heap.size + 1 + 1 + 1), 6, none⟩ = some (.int .u32 y.o) ∧ w'.cell? ⟨(w.heap.size + 1 + 1 + 1), 7, none⟩ = some (.int .u8 y.r) ∧ w'.cell? ⟨(w.heap.size + 1 + 1 + 1), 8, none⟩ = some (.int .u64 y.c) ∧ w'.cell? ⟨(w.heap.size + 1 + 1 + 1), 9, none⟩ = some (.int .u64 y.ar) ∧ w'.cell? ⟨(w.heap.size + 1 + 1 + 1), 10, none⟩ = some (.slice y.so y.sn y.sc))) (first | exact HB4.out.four | exact HB3.out.four | exact HBY.out.four) (first | (have := HB3.out; go_at_call 7; refine (reply_yes b y HB3.out.st 1 (by show 1 < 2; omega) (isR_of rfl rfl) (fun j hj => by obtain rfl : j = 0 := (by omega); exact isR_ne HNE.out) rfl (Bts.carry HY.out HB3.out.b) (OffG.of HY.out HB3.out.g) HYS.out).mono ?_; rintro e w4 ⟨rfl, E4⟩; have HB4 : Hid (Bx w g [⟨a.rp, a.id, true, x.nm⟩, ⟨b.rp, b.id, true, y.nm⟩] [(w.heap.size, a), (w.heap.size + 1, b), (w.heap.size + 1 + 1, x), (w.heap.size + 1 + 1 + 1, y)] w4) := (HB3.out.deed E4); clear E4) | (go_at_call 7; refine (reply_yes a x HBY.out.st 0 (by show 0 < 2; omega) (isR_of rfl rfl) (fun j hj => by omega) rfl (Bts.carry HX.out HBY.out.b) (OffG.of HX.out HBY.out.g) HXS.out).mono ?_; rintro e w3 ⟨rfl, E3⟩; have HB3 : Hid (Bx w g [⟨a.rp, a.id, true, x.nm⟩, ⟨b.rp, b.id, false, Ms.zero⟩] [(w.heap.size, a), (w.heap.size + 1, b), (w.heap.size + 1 + 1, x), (w.heap.size + 1 + 1 + 1, y)] w3) := (HBY.out.deed E3); clear E3))
      all_goals (go_wp2_with fail; go_meet; exact ⟨rfl, rfl, HB4.out⟩)
    case rest =>
      obtain ⟨rfl, rfl, B4⟩ := hcut
      clear HBY HB2
      obtain ⟨i0, i1, i2, i3, i4, i5, i6, i7, i8, i9, i10⟩ := (B4.at (.head _)).all
      have HB4 := hide B4
      clear B4
      go_wp2_with fail
      refine (take_known a HB4.out.st 0 (by show 0 < 2; omega) (isR_of rfl rfl) (fun j hj => by omega) (fun h => by cases h) 2 rfl).mono ?_; rintro e w5 ⟨q5, rfl, hq5, hs5, hh5, ho5, hw5, b5⟩
      have hn5 : q5.nm = x.nm := hq5
      obtain ⟨Y5, hY5⟩ : ∃ Y, w5.alloc (.cells #[.int .u64 q5.ta, .int .u64 q5.rp, .int .u32 q5.id, .int .u16 q5.op, .int .u16 q5.st, .int .u64 q5.p, .int .u32 q5.o, .int .u8 q5.r, .int .u64 q5.c, .int .u64 q5.ar, .slice q5.so q5.sn q5.sc] 29) = Y := ⟨_, rfl⟩
      have B5 : Bx w g [⟨a.rp, a.id, true, x.nm⟩, ⟨b.rp, b.id, true, y.nm⟩] ((w5.heap.size, q5) :: [(w.heap.size, a), (w.heap.size + 1, b), (w.heap.size + 1 + 1, x), (w.heap.size + 1 + 1 + 1, y)]) Y5 := by rw [← hY5]; exact (HB4.out.grow b5).new q5
      have HQ5 : Hid (q5.nm = x.nm ∧ q5.has Y5) := ⟨hn5, hY5 ▸ Bts.carry hh5 (below_alloc w5 _)⟩
      clear i0 i1 i2 i3 i4 i5 i6 i7 i8 i9 i10
      obtain ⟨i0, i1, i2, i3, i4, i5, i6, i7, i8, i9, i10⟩ := (B5.at (.tail _ (.tail _ (.head _)))).all
      have HB5 := hide B5
      clear B5 hq5 hs5 hh5 ho5 hw5 b5 hn5
      go_wp2_with fail
      refine (take_known b HB5.out.st 1 (by show 1 < 2; omega) (isR_of rfl rfl) (fun j hj => by obtain rfl : j = 0 := (by omega); exact isR_ne HNE.out) (fun h => by cases h) 2 rfl).mono ?_; rintro e w6 ⟨q6, rfl, hq6, hs6, hh6, ho6, hw6, b6⟩
      have hn6 : q6.nm = y.nm := hq6
      obtain ⟨Y6, hY6⟩ : ∃ Y, w6.alloc (.cells #[.int .u64 q6.ta, .int .u64 q6.rp, .int .u32 q6.id, .int .u16 q6.op, .int .u16 q6.st, .int .u64 q6.p, .int .u32 q6.o, .int .u8 q6.r, .int .u64 q6.c, .int .u64 q6.ar, .slice q6.so q6.sn q6.sc] 29) = Y := ⟨_, rfl⟩
      have B6 : Bx w g [⟨a.rp, a.id, true, x.nm⟩, ⟨b.rp, b.id, true, y.nm⟩] ((w6.heap.size, q6) :: (w5.heap.size, q5) :: [(w.heap.size, a), (w.heap.size + 1, b), (w.heap.size + 1 + 1, x), (w.heap.size + 1 + 1 + 1, y)]) Y6 := by rw [← hY6]; exact (HB5.out.grow b6).new q6
      have HQ6 : Hid (q6.nm = y.nm ∧ q6.has Y6 ∧ q5.has Y6) := ⟨hn6, hY6 ▸ Bts.carry hh6 (below_alloc w6 _), Bts.carry HQ5.out.2 (hY6 ▸ below_one b6 (below_alloc w6 _))⟩
      clear i0 i1 i2 i3 i4 i5 i6 i7 i8 i9 i10
      obtain ⟨i0, i1, i2, i3, i4, i5, i6, i7, i8, i9, i10⟩ := (B6.at (.tail _ (.head _))).all
      obtain ⟨k0, k1, k2, k3, k4, k5, k6, k7, k8, k9, k10⟩ := (B6.at (.tail _ (.tail _ (.tail _ (.tail _ (.head _)))))).all
      have HB6 := hide B6
      clear B6 hq6 hs6 hh6 ho6 hw6 b6 hn6
      go_wp2_with fail
      refine (same_yes q5 x _ HQ6.out.2.2 (Bts.carry HX.out HB6.out.b) HQ5.out.1).mono ?_; rintro e w7 ⟨rfl, b7⟩
      have B7 := HB6.out.grow b7
      clear i0 i1 i2 i3 i4 i5 i6 i7 i8 i9 i10 k0 k1 k2 k3 k4 k5 k6 k7 k8 k9 k10
      obtain ⟨i0, i1, i2, i3, i4, i5, i6, i7, i8, i9, i10⟩ := (B7.at (.head _)).all
      obtain ⟨k0, k1, k2, k3, k4, k5, k6, k7, k8, k9, k10⟩ := (B7.at (.tail _ (.tail _ (.tail _ (.tail _ (.tail _ (.head _))))))).all
      have HB7 := hide B7
      have HQ7 := hide (Bts.carry HQ6.out.2.1 b7)
      clear B7 b7
      go_wp2_with fail
      refine (same_yes q6 y _ HQ7.out (Bts.carry HY.out HB7.out.b) HQ6.out.1).mono ?_; rintro e w8 ⟨rfl, b8⟩
      have HB8 := hide (below_one HB7.out.b b8)
      clear b8
      go_wp2
      go_ret
      exact ⟨rfl, HB8.out⟩
end Go.Proofs.Ytnkfdnmaocfjnaa
