/-
  A Served and messages in variables; the statements' awake: the document's examples: it answers true.
-/
import Derived.Test.YtnkfdnmaocfjnaaDoorNReply
namespace Go.Proofs.YtnkfdnmaocfjnaaDoor
open Go.RowKit
variable {w w' : World} {g : Nat} {T L : List Rq}
/- a Served that is newer than w0, and messages in variables -/
structure Bx (w0 : World) (g : Nat) (L : List Rq) (M : List (Nat × Ms)) (W : World) : Prop where
  st : St W g L
  box : ∀ q ∈ M, BoxM W q.1 q.2 ∧ q.1 ≠ g
  b : Below w0.heap.size w0 W
  g : w0.heap.size ≤ g
variable {w0 W W' : World} {M : List (Nat × Ms)}
theorem Bx.grow (h : Bx w0 g L M W) (b : Below W.heap.size W W') : Bx w0 g L M W' := ⟨h.st.grow b, fun q hq => ⟨(h.box q hq).1.grow b, (h.box q hq).2⟩, below_one h.b b, h.g⟩
theorem Bx.deed {L' : List Rq} (h : Bx w0 g L M W) (e : StEnd W g L' W') : Bx w0 g L' M W' := ⟨e.1, fun q hq => ⟨(h.box q hq).1.foot e.2 (h.box q hq).2, (h.box q hq).2⟩, foot_on h.b h.g e.2, h.g⟩
theorem Bx.new (h : Bx w0 g L M W) (q : Ms) : Bx w0 g L ((W.heap.size, q) :: M) (W.alloc (.cells #[.int .u64 q.ta, .int .u64 q.rp, .int .u32 q.id, .int .u16 q.op, .int .u16 q.st, .int .u64 q.p, .int .u32 q.o, .int .u8 q.r, .int .u64 q.c, .int .u64 q.ar, .slice q.so q.sn q.sc] 32)) := by
  refine ⟨h.st.grow (below_alloc W _), fun z hz => ?_, below_one h.b (below_alloc W _), h.g⟩
  rcases List.mem_cons.1 hz with rfl | hz
  · exact ⟨boxM_new W q, by have := h.st.lt; show W.heap.size ≠ g; omega⟩
  · exact ⟨(h.box z hz).1.grow (below_alloc W _), (h.box z hz).2⟩
theorem Bx.less {N : List (Nat × Ms)} (h : Bx w0 g L M W) (hN : ∀ q ∈ N, q ∈ M) : Bx w0 g L N W := ⟨h.st, fun q hq => h.box q (hN q hq), h.b, h.g⟩
theorem Bx.at {n : Nat} {q : Ms} (h : Bx w0 g L M W) (hq : (n, q) ∈ M) : BoxM W n q := (h.box _ hq).1
theorem bx_zero (w : World) : Bx w w.heap.size [] [] (w.alloc (.cells zeroC.toArray 37)) := ⟨new_ok w, (fun _ h => by cases h), below_alloc w _, Nat.le_refl _⟩
theorem bx_st0 (h : Bx w0 g L M W) : St W g L := h.st
def mA : Ms := ⟨0, 1, 2, 0, 0, 0, 0, 0, 0, 0, none, 0, 0, []⟩
def rA : Ms := ⟨0, 0, 0, 0, 0, 0, 0, 0, 0, 3, none, 0, 0, []⟩
set_option maxRecDepth 20000 in
set_option maxHeartbeats 6400000 in
theorem awake_any (w : World) :
    Calls Tryd.prog 5 #[] w fun e w' => e = .returned (.bool true) ∧ Below w.heap.size w w' := by
  have hz := Tryd.zeroServed
  obtain ⟨G, hG⟩ : ∃ G, w.alloc (.cells zeroC.toArray 37) = G := ⟨_, rfl⟩
  have a0 : Bx w w.heap.size [] [] G := hG ▸ bx_zero w
  have a1 : Bx w w.heap.size [] _ _ := (a0.new mA).new rA
  rw [size_al] at a1
  have HA1 := hide a1
  clear a0 a1
  go_enter Tryd.func5, Tryd.ntmps5
  go_wp2_with fail
  refine (take_new mA HA1.out.st (by decide) (fun j hj => by cases hj)).mono ?_; rintro e w1 ⟨rfl, E1⟩
  have a2 : Bx w w.heap.size [⟨1, 2, false, Ms.zero⟩] [(G.heap.size + 1, rA), (G.heap.size, mA)] (w1.alloc (.cells #[.int .u64 0, .int .u64 0, .int .u32 0, .int .u16 0, .int .u16 0, .int .u64 0, .int .u32 0, .int .u8 0, .int .u64 0, .int .u64 0, .slice none 0 0] 32)) := (HA1.out.deed E1).grow (below_alloc w1 _)
  have hm := (a2.at (.tail _ (.head _))).all
  dsimp only [mA] at hm
  obtain ⟨m0, m1, m2, m3, m4, m5, m6, m7, m8, m9, m10⟩ := hm
  have HA2 := hide a2
  clear a2 E1
  go_wp2_with fail
  refine (take_known mA HA2.out.st 0 (by decide) rfl (fun j hj => by omega) (fun _ => rfl) 1 rfl).mono ?_; rintro e w2 ⟨q2, rfl, hq2, hs2, hh2, ho2, hw2, b2⟩
  obtain ⟨Y2, hY2⟩ : ∃ Y, w2.alloc (.cells #[.int .u64 q2.ta, .int .u64 q2.rp, .int .u32 q2.id, .int .u16 q2.op, .int .u16 q2.st, .int .u64 q2.p, .int .u32 q2.o, .int .u8 q2.r, .int .u64 q2.c, .int .u64 q2.ar, .slice q2.so q2.sn q2.sc] 32) = Y := ⟨_, rfl⟩
  have a3 : Bx w w.heap.size [⟨1, 2, false, Ms.zero⟩] [(G.heap.size + 1, rA), (G.heap.size, mA)] Y2 := by rw [← hY2]; exact (HA2.out.grow b2).grow (below_alloc w2 _)
  have hm := (a3.at (.tail _ (.head _))).all
  have hr := (a3.at (.head _)).all
  dsimp only [mA, rA] at hm hr
  clear m0 m1 m2 m3 m4 m5 m6 m7 m8 m9 m10
  obtain ⟨m0, m1, m2, m3, m4, m5, m6, m7, m8, m9, m10⟩ := hm
  obtain ⟨r0, r1, r2, r3, r4, r5, r6, r7, r8, r9, r10⟩ := hr
  have HA3 := hide a3
  clear a3 hq2 hs2 hh2 ho2 hw2 b2
  go_wp2_with fail
  refine (reply_yes mA rA HA3.out.st 0 (by decide) rfl (fun j hj => by omega) rfl (bts_nil _) (fun h => absurd h (by show ¬ 0 < 0; omega)) (by show 0 ≤ _; omega)).mono ?_; rintro e w3 ⟨rfl, E3⟩
  have a4 : Bx w w.heap.size [⟨1, 2, true, rA⟩] [(G.heap.size + 1, rA), (G.heap.size, mA)] w3 := HA3.out.deed E3
  have hm := (a4.at (.tail _ (.head _))).all
  dsimp only [mA] at hm
  clear m0 m1 m2 m3 m4 m5 m6 m7 m8 m9 m10 r0 r1 r2 r3 r4 r5 r6 r7 r8 r9 r10
  obtain ⟨m0, m1, m2, m3, m4, m5, m6, m7, m8, m9, m10⟩ := hm
  have HA4 := hide a4
  clear a4 E3
  go_wp2_with fail
  refine (take_known mA HA4.out.st 0 (by decide) rfl (fun j hj => by omega) (fun h => by cases h) 2 rfl).mono ?_; rintro e w4 ⟨q4, rfl, hq4, hs4, hh4, ho4, hw4, b4⟩
  have har : q4.ar = 3 := congrArg Ms.ar hq4
  obtain ⟨Y4, hY4⟩ : ∃ Y, w4.alloc (.cells #[.int .u64 q4.ta, .int .u64 q4.rp, .int .u32 q4.id, .int .u16 q4.op, .int .u16 q4.st, .int .u64 q4.p, .int .u32 q4.o, .int .u8 q4.r, .int .u64 q4.c, .int .u64 q4.ar, .slice q4.so q4.sn q4.sc] 32) = Y := ⟨_, rfl⟩
  have a5 : Bx w w.heap.size [⟨1, 2, true, rA⟩] [(w4.heap.size, q4), (G.heap.size + 1, rA), (G.heap.size, mA)] Y4 := by rw [← hY4]; exact (HA4.out.grow b4).new q4
  have hm := (a5.at (.tail _ (.tail _ (.head _)))).all
  have hr := (a5.at (.tail _ (.head _))).all
  have hx := (a5.at (.head _)).all.2.2.2.2.2.2.2.2.2.1
  rw [har] at hx
  dsimp only [mA, rA] at hm hr
  clear m0 m1 m2 m3 m4 m5 m6 m7 m8 m9 m10
  obtain ⟨m0, m1, m2, m3, m4, m5, m6, m7, m8, m9, m10⟩ := hm
  obtain ⟨r0, r1, r2, r3, r4, r5, r6, r7, r8, r9, r10⟩ := hr
  have HA5 := hide a5
  clear a5 hq4 hs4 hh4 ho4 hw4 b4 har
  go_wp2_with fail
  refine (reply_done mA rA HA5.out.st 0 (by decide) rfl (fun j hj => by omega) rfl).mono ?_; rintro e w5 ⟨rfl, b5⟩
  have HB := hide (below_one HA5.out.b b5)
  clear b5 m0 m1 m2 m3 m4 m5 m6 m7 m8 m9 m10 r0 r1 r2 r3 r4 r5 r6 r7 r8 r9 r10
  go_wp2
  go_ret
  exact ⟨rfl, HB.out⟩
end Go.Proofs.YtnkfdnmaocfjnaaDoor
