/-
  The walk of ServedOnce.
-/
import Derived.Test.YtnkfdnmaocfjnaaNAwake
import Derived.Test.YtnkfdnmaocfjnaaJSame
import Derived.Test.YtnkfdnmaocfjnaaLMsg
namespace Go.Proofs.Ytnkfdnmaocfjnaa
open Go.RowKit
theorem isR_of {rp id : Int} {y : Rq} (h1 : y.p = rp) (h2 : y.i = id) : isR rp id y = true := by simp [isR, h1, h2]
theorem isR_nop {rp id : Int} {y : Rq} (h : y.p ≠ rp) : isR rp id y = false := by simp [isR, h]
theorem isR_not {rp id : Int} {y : Rq} (h : y.i ≠ id) : isR rp id y = false := by simp [isR, h]
theorem Bx.from {w w0 W : World} {g : Nat} {L : List Rq} {M : List (Nat × Ms)} (h : Bx w0 g L M W) (b : Below w.heap.size w w0) : Bx w g L M W := ⟨h.st, h.box, below_one b h.b, Nat.le_trans b.size h.g⟩
theorem Bx.add {w0 W : World} {g n : Nat} {q : Ms} {L : List Rq} {M : List (Nat × Ms)} (h : Bx w0 g L M W) (x : BoxM W n q) (hn : n < w0.heap.size) : Bx w0 g L ((n, q) :: M) W :=
  ⟨h.st, fun z hz => by
    rcases List.mem_cons.1 hz with rfl | hz
    · exact ⟨x, by have := h.g; show n ≠ g; omega⟩
    · exact h.box z hz, h.b, h.g⟩
/- the port one on -/
def nxt (p : Int) : Int := (p + 1) % 18446744073709551616
theorem nxt_ne (p : Int) : nxt p ≠ p := by unfold nxt; omega
/- a request, and k others -/
def oth (p : Int) (k : Nat) : List Rq := (List.range k).map fun j : Nat => (⟨nxt p, (j : Int), false, Ms.zero⟩ : Rq)
theorem oth_len (p : Int) (k : Nat) : (oth p k).length = k := by simp [oth]
theorem oth_at (p : Int) (k j : Nat) (h : j < k) : rq (oth p k) j = ⟨nxt p, (j : Int), false, Ms.zero⟩ := by
  unfold rq oth
  rw [List.getD_eq_getElem?_getD, List.getElem?_map, List.getElem?_range h]; rfl
theorem oth_succ (p : Int) (k : Nat) : oth p k ++ [⟨nxt p, (k : Int), false, Ms.zero⟩] = oth p (k + 1) := by
  simp [oth, List.range_succ]
def onl (m r : Ms) (k : Nat) : List Rq := ⟨m.rp, m.id, true, r.nm⟩ :: oth m.rp k
theorem onl_len (m r : Ms) (k : Nat) : (onl m r k).length = k + 1 := by unfold onl; rw [List.length_cons, oth_len]
theorem onl_zero (m r : Ms) (k : Nat) : rq (onl m r k) 0 = ⟨m.rp, m.id, true, r.nm⟩ := rfl
theorem onl_at (m r : Ms) (k j : Nat) (h : j < k) : rq (onl m r k) (j + 1) = ⟨nxt m.rp, (j : Int), false, Ms.zero⟩ := oth_at m.rp k j h
theorem onl_succ (m r : Ms) (k : Nat) : onl m r k ++ [⟨nxt m.rp, (k : Int), false, Ms.zero⟩] = onl m r (k + 1) := by
  unfold onl; rw [List.cons_append, oth_succ]
def othM (p : Int) (k : Int) : Ms := ⟨0, nxt p, k, 0, 0, 0, 0, 0, 0, 0, none, 0, 0, []⟩
/- while it comes: none of it ahead of the first time, then one -/
def busL (m : Ms) (k : Nat) : List Rq := if k = 0 then [] else [⟨m.rp, m.id, false, Ms.zero⟩]
def frs (k : Nat) : Int := if k = 0 then 0 else 1
def Rel1 (w : World) (g : Nat) (m r : Ms) (n gk : Nat) (vf vk : Value) (wr : World) : Prop := ∃ k : Nat, k + gk = n + 1 ∧ vk = .int .i64 (k : Int) ∧ vf = .int .i64 (frs k) ∧ Bx w g (busL m k) [(w.heap.size, m), (w.heap.size + 1, r)] wr
def Rel2 (w : World) (g : Nat) (m r : Ms) (n gk : Nat) (vk : Value) (wr : World) : Prop := ∃ k : Nat, k + gk = n ∧ vk = .int .i64 (k : Int) ∧ Bx w g (onl m r k) [(w.heap.size, m), (w.heap.size + 1, r)] wr
set_option maxRecDepth 20000 in
set_option maxHeartbeats 6400000 in
theorem walk_once (m r : Ms) (ti ot : Nat) (w : World) (hr : r.has w) (hrs : r.sn ≤ 140737488355328) :
    Calls Try.prog 3 #[.agg #[.int .u64 m.ta, .int .u64 m.rp, .int .u32 m.id, .int .u16 m.op, .int .u16 m.st, .int .u64 m.p, .int .u32 m.o, .int .u8 m.r, .int .u64 m.c, .int .u64 m.ar, .slice m.so m.sn m.sc], .agg #[.int .u64 r.ta, .int .u64 r.rp, .int .u32 r.id, .int .u16 r.op, .int .u16 r.st, .int .u64 r.p, .int .u32 r.o, .int .u8 r.r, .int .u64 r.c, .int .u64 r.ar, .slice r.so r.sn r.sc], .int .u8 (ti : Int), .int .u8 (ot : Int)] w fun e w' => e = .returned (.bool true) ∧ Below w.heap.size w w' := by
  have hz := Try.zeroServed
  obtain ⟨X, hX⟩ : ∃ X, (w.alloc (.cells #[.int .u64 m.ta, .int .u64 m.rp, .int .u32 m.id, .int .u16 m.op, .int .u16 m.st, .int .u64 m.p, .int .u32 m.o, .int .u8 m.r, .int .u64 m.c, .int .u64 m.ar, .slice m.so m.sn m.sc] 29)).alloc (.cells #[.int .u64 r.ta, .int .u64 r.rp, .int .u32 r.id, .int .u16 r.op, .int .u16 r.st, .int .u64 r.p, .int .u32 r.o, .int .u8 r.r, .int .u64 r.c, .int .u64 r.ar, .slice r.so r.sn r.sc] 29) = X := ⟨_, rfl⟩
  have bX : Below w.heap.size w X := hX ▸ below_one (below_alloc w _) (below_alloc _ _)
  have bm : BoxM X w.heap.size m := hX ▸ (boxM_new w m).grow (below_alloc _ _)
  have br : BoxM X (w.heap.size + 1) r := by rw [← hX, ← size_al w (.cells #[.int .u64 m.ta, .int .u64 m.rp, .int .u32 m.id, .int .u16 m.op, .int .u16 m.st, .int .u64 m.p, .int .u32 m.o, .int .u8 m.r, .int .u64 m.c, .int .u64 m.ar, .slice m.so m.sn m.sc] 29)]; exact boxM_new (w.alloc (.cells #[.int .u64 m.ta, .int .u64 m.rp, .int .u32 m.id, .int .u16 m.op, .int .u16 m.st, .int .u64 m.p, .int .u32 m.o, .int .u8 m.r, .int .u64 m.c, .int .u64 m.ar, .slice m.so m.sn m.sc] 29)) r
  obtain ⟨N, hN⟩ : ∃ N, ti % 20 = N := ⟨_, rfl⟩
  have hNi : (ti : Int) % 20 = (N : Int) := by omega
  have hN20 : N < 20 := by omega
  obtain ⟨O, hO⟩ : ∃ O, ot % 31 = O := ⟨_, rfl⟩
  have hOi : (ot : Int) % 31 = (O : Int) := by omega
  have hO31 : O < 31 := by omega
  have HBX := hide bX
  have HBM := hide bm
  have HBR := hide br
  have HR := hide hr
  have HRS := hide hrs
  clear bX bm br hr hrs hN hO
  go_enter Try.func3, Try.ntmps3
  go_wp2_with fail
  refine (awake_any _).mono ?_; rintro e w0 ⟨rfl, b0⟩
  obtain ⟨g, hgs⟩ : ∃ g, w0.heap.size = g := ⟨_, rfl⟩
  obtain ⟨G, hG⟩ : ∃ G, w0.alloc (.cells zeroC.toArray 36) = G := ⟨_, rfl⟩
  have B0 : Bx w g [] [(w.heap.size, m), (w.heap.size + 1, r)] G := by
    rw [← hG, ← hgs]
    have b1 := below_one b0 (below_alloc w0 (.cells zeroC.toArray 36))
    have h0 := (bx_zero w0).from (below_one HBX.out b0)
    have l0 := lt_of_heap HBM.out
    have l1 := lt_of_heap HBR.out
    have ls := b0.size
    exact ⟨h0.st, fun z hz => by
      simp only [List.mem_cons, List.not_mem_nil, or_false] at hz
      rcases hz with rfl | rfl
      · exact ⟨HBM.out.grow b1, by show w.heap.size ≠ w0.heap.size; omega⟩
      · exact ⟨HBR.out.grow b1, by show w.heap.size + 1 ≠ w0.heap.size; omega⟩, h0.b, h0.g⟩
  have HST : Hid (Rel1 w g m r N (N + 1) (.int .i64 0) (.int .i64 0) G) := ⟨0, by omega, rfl, rfl, B0⟩
  clear b0 B0
  go_wp2
  go_loopg [10, 11] (N + 1) (fun gk vf vk wr => Rel1 w g m r N gk vf vk wr)
  case atStart => exact HST.out
  case round =>
    obtain ⟨k, hk, rfl, rfl, B⟩ := hrel
    have hm := (B.at (.head _)).all
    obtain ⟨i0, i1, i2, i3, i4, i5, i6, i7, i8, i9, i10⟩ := hm
    have HB := hide B
    clear B HST
    cases gk with
    | succ g1 =>
      have hle : (k : Int) ≤ (N : Int) := by omega
      by_cases hk0 : k = 0
      · subst hk0
        rw [show frs 0 = 0 from rfl]
        go_wp2_with fail
        refine (take_new m HB.out.st (by show 0 < 32; omega) (fun j hj => by cases hj)).mono ?_; rintro e w1 ⟨rfl, E1⟩
        have HB1 : Hid (Bx w g (busL m 1) [(w.heap.size, m), (w.heap.size + 1, r)] (w1.alloc (.cells #[.int .u64 0, .int .u64 0, .int .u32 0, .int .u16 0, .int .u16 0, .int .u64 0, .int .u32 0, .int .u8 0, .int .u64 0, .int .u64 0, .slice none 0 0] 29))) := (HB.out.deed E1).grow (below_alloc w1 _)
        clear E1
        go_wp2
        go_roundg g1
        case measure => omega
        case rel => exact ⟨1, by omega, by go_num, by rfl, HB1.out⟩
      · have hb : busL m k = [⟨m.rp, m.id, false, Ms.zero⟩] := if_neg hk0
        have hf : frs k = 1 := if_neg hk0
        rw [hf]
        have HST1 : Hid (Bx w g [⟨m.rp, m.id, false, Ms.zero⟩] [(w.heap.size, m), (w.heap.size + 1, r)] wr) := by rw [← hb]; exact HB.out
        have HBB : Hid (busL m (k + 1) = [⟨m.rp, m.id, false, Ms.zero⟩]) := rfl
        clear hb hf
        go_wp2_with fail
        refine (take_known m HST1.out.st 0 (by show 0 < 1; omega) (isR_of rfl rfl) (fun j hj => by omega) (fun _ => rfl) 1 rfl).mono ?_; rintro e w1 ⟨q1, rfl, hq1, hs1, hh1, ho1, hw1, b1⟩
        obtain ⟨Y, hY⟩ : ∃ Y, w1.alloc (.cells #[.int .u64 q1.ta, .int .u64 q1.rp, .int .u32 q1.id, .int .u16 q1.op, .int .u16 q1.st, .int .u64 q1.p, .int .u32 q1.o, .int .u8 q1.r, .int .u64 q1.c, .int .u64 q1.ar, .slice q1.so q1.sn q1.sc] 29) = Y := ⟨_, rfl⟩
        have HB1 : Hid (Bx w g (busL m (k + 1)) [(w.heap.size, m), (w.heap.size + 1, r)] Y) := by
          rw [HBB.out, ← hY]; exact (HST1.out.grow b1).grow (below_alloc w1 _)
        clear hq1 hs1 hh1 ho1 hw1 b1
        go_wp2
        go_roundg g1
        case measure => omega
        case rel => exact ⟨k + 1, by omega, by go_num, by rfl, HB1.out⟩
    | zero =>
      obtain rfl : k = N + 1 := by omega
      have hle : ¬ (((N + 1 : Nat) : Int) ≤ (N : Int)) := by omega
      rw [show frs (N + 1) = 1 from rfl]
      have HB1 : Hid (Bx w g [⟨m.rp, m.id, false, Ms.zero⟩] [(w.heap.size, m), (w.heap.size + 1, r)] wr) := HB.out
      obtain ⟨k0, k1, k2, k3, k4, k5, k6, k7, k8, k9, k10⟩ := (HB1.out.at (.tail _ (.head _))).all
      clear HB
      go_wp2_with fail
      refine (reply_yes m r HB1.out.st 0 (by show 0 < 1; omega) (isR_of rfl rfl) (fun j hj => by omega) rfl (Bts.carry HR.out HB1.out.b) (OffG.of HR.out HB1.out.g) HRS.out).mono ?_; rintro e w2 ⟨rfl, E2⟩
      have HST2 : Hid (Rel2 w g m r O O (.int .i64 0) w2) := ⟨0, by omega, rfl, HB1.out.deed E2⟩
      clear E2 i0 i1 i2 i3 i4 i5 i6 i7 i8 i9 i10 k0 k1 k2 k3 k4 k5 k6 k7 k8 k9 k10 hle hk
      go_wp2
      go_loopg [16] O (fun gk vk wr => Rel2 w g m r O gk vk wr)
      case atStart => exact HST2.out
      case round =>
        obtain ⟨k, hk, rfl, B⟩ := hrel
        have hm := (B.at (.head _)).all
        obtain ⟨i0, i1, i2, i3, i4, i5, i6, i7, i8, i9, i10⟩ := hm
        have HB := hide B
        clear B HST2
        cases gk with
        | succ g1 =>
          have hlt : (k : Int) < (O : Int) := by omega
          have hwk : IntKind.u32.wrap (k : Int) = (k : Int) := by rw [IntKind.wrap_u32]; omega
          go_wp2_with fail
          refine (take_new (othM m.rp (k : Int)) HB.out.st (by rw [onl_len]; omega) (fun j hj => by
            rw [onl_len] at hj
            cases j with
            | zero => exact isR_nop (by show m.rp ≠ nxt m.rp; exact fun e => nxt_ne m.rp e.symm)
            | succ j => rw [onl_at m r k j (by omega)]; exact isR_not (by show (j : Int) ≠ (k : Int); omega))).mono ?_; rintro e w3 ⟨rfl, E3⟩
          have HB3 : Hid (Bx w g (onl m r (k + 1)) [(w.heap.size, m), (w.heap.size + 1, r)] w3) := by
            have := HB.out.deed E3
            rw [← onl_succ]
            exact this
          clear E3
          go_wp2
          go_roundg g1
          case measure => omega
          case rel => exact ⟨k + 1, by omega, by go_num, HB3.out⟩
        | zero =>
          obtain rfl : k = O := by omega
          have hlt : ¬ ((k : Int) < (k : Int)) := by omega
          go_wp2_with fail
          refine (take_known m HB.out.st 0 (by rw [onl_len]; omega) (isR_of rfl rfl) (fun j hj => by omega) (fun h => by cases h) 2 rfl).mono ?_; rintro e w5 ⟨q5, rfl, hq5, hs5, hh5, ho5, hw5, b5⟩
          have hn5 : q5.nm = r.nm := hq5
          obtain ⟨Y5, hY5⟩ : ∃ Y, w5.alloc (.cells #[.int .u64 q5.ta, .int .u64 q5.rp, .int .u32 q5.id, .int .u16 q5.op, .int .u16 q5.st, .int .u64 q5.p, .int .u32 q5.o, .int .u8 q5.r, .int .u64 q5.c, .int .u64 q5.ar, .slice q5.so q5.sn q5.sc] 29) = Y := ⟨_, rfl⟩
          have B5 : Bx w g (onl m r k) ((w5.heap.size, q5) :: [(w.heap.size, m), (w.heap.size + 1, r)]) Y5 := by rw [← hY5]; exact (HB.out.grow b5).new q5
          have HQ5 : Hid (q5.nm = r.nm ∧ q5.has Y5) := ⟨hn5, hY5 ▸ Bts.carry hh5 (below_alloc w5 _)⟩
          obtain ⟨j0, j1, j2, j3, j4, j5, j6, j7, j8, j9, j10⟩ := (B5.at (.head _)).all
          obtain ⟨k0, k1, k2, k3, k4, k5, k6, k7, k8, k9, k10⟩ := (B5.at (.tail _ (.tail _ (.head _)))).all
          have HB5 := hide B5
          clear B5 hq5 hs5 hh5 ho5 hw5 b5 hn5 i0 i1 i2 i3 i4 i5 i6 i7 i8 i9 i10
          go_wp2_with fail
          refine (same_yes q5 r _ HQ5.out.2 (Bts.carry HR.out HB5.out.b) HQ5.out.1).mono ?_; rintro e w7 ⟨rfl, b7⟩
          have HB7 := hide (below_one HB5.out.b b7)
          clear b7
          go_wp2
          go_ret
          exact ⟨rfl, HB7.out⟩
end Go.Proofs.Ytnkfdnmaocfjnaa
