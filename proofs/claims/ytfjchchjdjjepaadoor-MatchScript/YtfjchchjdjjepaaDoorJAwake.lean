/-
  The statements' awake: the document's examples: it answers true.
-/
import Derived.Test.YtfjchchjdjjepaaDoorJGet
namespace Go.Proofs.YtfjchchjdjjepaaDoor
open Go.RowKit
def NoS (_ : Nat) : Prop := False
theorem noS {w : World} : ∀ k, NoS k → k < w.heap.size := fun _ h => h.elim
/- a message that bears a port and a number alone -/
def msgI (tt id : Int) : Ms := ⟨tt, 0, id, 0, 0, 0, 0, 0, 0, 0, none, 0, 0, []⟩
theorem msgI_has (tt id : Int) (w : World) : (msgI tt id).has w := bts_nil w
theorem msgI_sn (tt id : Int) : (msgI tt id).sn ≤ 140737488355328 := by show 0 ≤ _; omega
theorem msgI_nm (tt id : Int) : (msgI tt id).nm = msgI tt id := rfl
theorem MtEnd.below {w w' w0 : World} {g : Nat} {S : Nat → Prop} {T : List Wt} {L : List Ms} (h : MtEnd w g S T L w') (b : Below w0.heap.size w0 w) (hg : w0.heap.size ≤ g) : St w' g S T L ∧ Below w0.heap.size w0 w' := ⟨h.1, foot_on b hg h.2⟩
set_option maxRecDepth 20000 in
set_option maxHeartbeats 3200000 in
theorem awake_any (w : World) :
    Calls Tryd.prog 4 #[] w fun e w' => e = .returned (.bool true) ∧ Below w.heap.size w w' := by
  obtain ⟨X, hX⟩ : ∃ X, w.alloc (.cells #[.slice none 0 0, .slice none 0 0] 28) = X := ⟨_, rfl⟩
  have HB : Hid (Below w.heap.size w X) := hX ▸ below_alloc w _
  have HS : Hid (St X w.heap.size NoS [] []) := hX ▸ st_new w NoS
  go_enter Tryd.func4, Tryd.ntmps4
  go_wp2_with fail
  refine (get_wait 5 1 _ HS.out noS rfl rfl (by decide)).mono ?_; rintro e w1 ⟨rfl, E1⟩
  obtain ⟨s1, b1⟩ := E1.below HB.out (Nat.le_refl _)
  have bz1 := below_alloc w1 (.cells #[.int .u64 0, .int .u64 0, .int .u32 0, .int .u16 0, .int .u16 0, .int .u64 0, .int .u32 0, .int .u8 0, .int .u64 0, .int .u64 0, .slice none 0 0] 37)
  have HS1 := hide (s1.grow bz1)
  have HB1 := hide (below_one b1 bz1)
  clear E1 s1 b1 bz1 hX
  go_wp2_with fail
  refine (get_wait 5 2 _ HS1.out noS rfl rfl (by decide)).mono ?_; rintro e w2 ⟨rfl, E2⟩
  obtain ⟨s2, b2⟩ := E2.below HB1.out (Nat.le_refl _)
  have bz2 := below_alloc w2 (.cells #[.int .u64 0, .int .u64 0, .int .u32 0, .int .u16 0, .int .u16 0, .int .u64 0, .int .u32 0, .int .u8 0, .int .u64 0, .int .u64 0, .slice none 0 0] 37)
  have HS2 := hide (show St _ _ _ [⟨5, 1⟩, ⟨5, 2⟩] [] from s2.grow bz2)
  have HB2 := hide (below_one b2 bz2)
  clear E2 s2 b2 bz2
  go_wp2_with fail
  refine (offer_hit (msgI 5 0) 0 _ HS2.out noS ⟨by decide, by decide, fun j hj => absurd hj (Nat.not_lt_zero _)⟩).mono ?_; rintro e w3 ⟨rfl, E3⟩
  obtain ⟨s3, b3⟩ := E3.below HB2.out (Nat.le_refl _)
  have HS3 := hide (show St _ _ _ [⟨5, 2⟩] [] from s3)
  have HB3 := hide b3
  rw [show (([⟨5, 1⟩, ⟨5, 2⟩] : List Wt).getD 0 Wt.zero).t = 1 from rfl]
  clear E3 s3 b3
  go_wp2_with fail
  refine (offer_wait (msgI 6 9) _ HS3.out noS (msgI_has _ _ _) (msgI_sn _ _) rfl (by decide)).mono ?_; rintro e w4 ⟨rfl, E4⟩
  obtain ⟨s4, b4⟩ := E4.below HB3.out (Nat.le_refl _)
  have HS4 := hide (show St _ _ _ [⟨5, 2⟩] [msgI 6 9] from s4)
  have HB4 := hide b4
  clear E4 s4 b4
  go_wp2_with fail
  refine (get_hit 6 1 0 _ HS4.out noS rfl ⟨by decide, by decide, fun j hj => absurd hj (Nat.not_lt_zero _)⟩).mono ?_; rintro e w5 ⟨q, rfl, hq, _, _, E5⟩
  obtain ⟨s5, b5⟩ := E5.below HB4.out (Nat.le_refl _)
  have hq9 : q.id = 9 := by
    have := congrArg Ms.id hq
    exact this
  obtain ⟨Y, hY⟩ : ∃ Y, w5.alloc (.cells #[.int .u64 q.ta, .int .u64 q.rp, .int .u32 q.id, .int .u16 q.op, .int .u16 q.st, .int .u64 q.p, .int .u32 q.o, .int .u8 q.r, .int .u64 q.c, .int .u64 q.ar, .slice q.so q.sn q.sc] 37) = Y := ⟨_, rfl⟩
  have hbq : BoxM Y w5.heap.size q := hY ▸ boxM_new w5 q
  have HB5 := hide (below_one b5 (hY ▸ below_alloc w5 _ : Below w5.heap.size w5 Y))
  have k2 := hbq.all.2.2.1
  obtain ⟨qi, hqi⟩ : ∃ qi, q.id = qi := ⟨_, rfl⟩
  rw [hqi] at k2 hY hq9
  subst hq9
  clear E5 s5 b5 hbq hq
  go_wp2
  go_ret
  exact ⟨rfl, HB5.out⟩
end Go.Proofs.YtfjchchjdjjepaaDoor
