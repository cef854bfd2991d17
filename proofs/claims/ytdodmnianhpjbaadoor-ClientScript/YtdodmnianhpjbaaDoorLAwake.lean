/-
  The statements' awake: the document's examples: it answers true.
-/
import Derived.Test.YtdodmnianhpjbaaDoorLTick
import Derived.Test.YtdodmnianhpjbaaDoorLStart
import Derived.Test.YtdodmnianhpjbaaDoorKAlike
namespace Go.Proofs.YtdodmnianhpjbaaDoor
open Go.RowKit
variable {w w' : World} {g : Nat} {rp wt tr : Int} {T L : List Cl}
/- a message that bears a port alone -/
def msgT (t : Int) : Ms := ⟨t, 0, 0, 0, 0, 0, 0, 0, 0, 0, none, 0, 0, []⟩
theorem msgT_has (t : Int) (w : World) : (msgT t).has w := bts_nil w
theorem msgT_sn (t : Int) : (msgT t).sn ≤ 140737488355328 := by show 0 ≤ _; omega
theorem msgT_off (t : Int) (g : Nat) : OffG g (msgT t) := fun h => absurd h (by show ¬ 0 < 0; omega)
/- a request as it is sent, in a call that has so often been sent and is so old -/
def reqN (rp : Int) (k : Int) (p : Ms) : Ms := (reqF rp k p).nm
theorem number_any (k : Int) (w : World) (hg : Glob w) : Calls Tryd.prog 10 #[erN k] w fun e w' => e = .returned (.int .i64 k) ∧ Below w.heap.size w w' := by
  by_cases h : k = 0
  · subst h; rw [erN_zero]; exact number_nil w
  · rw [erN_not h]; exact number_errno k w hg
/- how many a Tick tells -/
theorem tick_len {e : Ending} (h : TickEnd w g rp wt tr L e w') : ∃ ao cap, e = .returned (.slice ao (tickM wt tr L).length cap) ∧ StEnd w g rp wt tr (tickL wt tr L) w' := by
  obtain ⟨ao, cap, R, rfl, _, hn, hs⟩ := h
  exact ⟨ao, cap, by rw [← hn, List.length_map], hs⟩
theorem box_on {h : Nat} {q : Ms} (b : BoxM w h q) (f : Foot (· = g) w w') (hne : h ≠ g) : BoxM w' h q := b.foot f hne
set_option maxRecDepth 20000 in
set_option maxHeartbeats 6400000 in
theorem awake_any (w : World) (hg : Glob w) :
    Calls Tryd.prog 7 #[] w fun e w' => e = .returned (.bool true) ∧ Below w.heap.size w w' := by
  have HG := hide hg
  clear hg
  go_enter Tryd.func7, Tryd.ntmps7
  go_wp2_with fail
  refine (of_any 7 2 2 _ (by decide) (by decide)).mono ?_; rintro e w1 ⟨g, rfl, hgl, s1, b1⟩
  rw [show pos1 2 = 2 from rfl] at s1
  have HS1 := hide s1
  have HB1 := hide b1
  have HGL := hide hgl
  clear s1 b1 hgl
  go_wp2_with fail
  refine (start_yes (msgT 3) _ HS1.out (msgT_has _ _) (msgT_off _ _) (msgT_sn _) (by decide)).mono ?_; rintro e w2 ⟨q, rfl, hq, hsn, hqh, E2⟩
  obtain ⟨s2, b2⟩ := E2.below HB1.out HGL.out
  obtain ⟨Y, hY⟩ : ∃ Y, w2.alloc (.cells #[.int .u64 q.ta, .int .u64 q.rp, .int .u32 q.id, .int .u16 q.op, .int .u16 q.st, .int .u64 q.p, .int .u32 q.o, .int .u8 q.r, .int .u64 q.c, .int .u64 q.ar, .slice q.so q.sn q.sc] 35) = Y := ⟨_, rfl⟩
  have bY : Below w2.heap.size w2 Y := hY ▸ below_alloc w2 _
  have bq : BoxM Y w2.heap.size q := hY ▸ boxM_new w2 q
  have hne : w2.heap.size ≠ g := by have := s2.lt; omega
  obtain ⟨m, hm⟩ : ∃ m : Ms, (reqF 7 (([] : List Cl).length + 1) (msgT 3)).nm = m := ⟨_, rfl⟩
  have HQ : Hid (q.id = 1 ∧ q.rp = 7) := ⟨congrArg Ms.id hq, congrArg Ms.rp hq⟩
  have HS2 : Hid (St Y g 7 2 2 [⟨1, m, 1, 0⟩]) := by have := s2.grow bY; rw [hm] at this; exact this
  have HB2 := hide (below_one b2 bY)
  have HBQ := hide bq
  have HNE := hide hne
  clear E2 s2 b2 bY bq hq hm hne hsn hqh
  go_wp2_with fail
  refine (tick_any _ HS2.out).mono ?_; rintro e w3 E
  obtain ⟨ao3, c3, rfl, E3⟩ := tick_len E
  rw [show (tickM 2 2 [⟨1, m, 1, 0⟩]).length = 0 from rfl]
  obtain ⟨s3, b3⟩ := E3.below HB2.out HGL.out
  have HS3 : Hid (St w3 g 7 2 2 [⟨1, m, 1, 1⟩]) := s3
  have HB3 := hide b3
  have HBQ3 := hide (HBQ.out.foot E3.2 HNE.out)
  clear E E3 s3 b3
  go_wp2_with fail
  refine (tick_any _ HS3.out).mono ?_; rintro e w4 E
  obtain ⟨ao4, c4, rfl, E4⟩ := tick_len E
  rw [show (tickM 2 2 [⟨1, m, 1, 1⟩]).length = 1 from rfl]
  obtain ⟨s4, b4⟩ := E4.below HB3.out HGL.out
  have HS4 : Hid (St w4 g 7 2 2 [⟨1, m, 2, 0⟩]) := s4
  have HB4 := hide b4
  have HBQ4 := hide (HBQ3.out.foot E4.2 HNE.out)
  clear E E4 s4 b4
  go_wp2_with fail
  refine (tick_any _ HS4.out).mono ?_; rintro e w5 E
  obtain ⟨ao5, c5, rfl, E5⟩ := tick_len E
  rw [show (tickM 2 2 [⟨1, m, 2, 0⟩]).length = 0 from rfl]
  obtain ⟨s5, b5⟩ := E5.below HB4.out HGL.out
  have HS5 : Hid (St w5 g 7 2 2 [⟨1, m, 2, 1⟩]) := s5
  have HB5 := hide b5
  have HBQ5 := hide (HBQ4.out.foot E5.2 HNE.out)
  clear E E5 s5 b5
  go_wp2_with fail
  refine (tick_any _ HS5.out).mono ?_; rintro e w6 E
  obtain ⟨ao6, c6, rfl, E6⟩ := tick_len E
  rw [show (tickM 2 2 [⟨1, m, 2, 1⟩]).length = 0 from rfl]
  obtain ⟨s6, b6⟩ := E6.below HB5.out HGL.out
  have HS6 : Hid (St w6 g 7 2 2 [⟨3, Ms.zero, 0, 0⟩]) := s6
  have HB6 := hide b6
  have HBQ6 := hide (HBQ5.out.foot E6.2 HNE.out)
  clear E E6 s6 b6
  go_wp2_with fail
  refine (get_fail 1 _ HS6.out rfl).mono ?_; rintro e w7 ⟨rfl, b7⟩
  rw [erN_not (by decide)]
  have bq7 := HBQ6.out.grow b7
  have k1 : ∀ o, (w7.alloc o).cell? ⟨w2.heap.size, 1, none⟩ = some (.int .u64 7) := fun o => by rw [← HQ.out.2]; exact (bq7.grow (below_alloc w7 o)).all.2.1
  have k2 : ∀ o, (w7.alloc o).cell? ⟨w2.heap.size, 2, none⟩ = some (.int .u32 1) := fun o => by rw [← HQ.out.1]; exact (bq7.grow (below_alloc w7 o)).all.2.2.1
  have HBZ : Hid (∀ o, Below w.heap.size w (w7.alloc o)) := fun o => below_one (below_one HB6.out b7) (below_alloc w7 o)
  clear b7 bq7
  go_wp2_with fail
  refine (number_errno 10 _ (HG.out.grow (HBZ.out _) HG.out.lt)).mono ?_; rintro e w8 ⟨rfl, b8⟩
  have HB8 := hide (below_one (HBZ.out _) b8)
  clear b8
  go_wp2
  go_ret
  exact ⟨rfl, HB8.out⟩
end Go.Proofs.YtdodmnianhpjbaaDoor
