/-
  The deeds Block, Wake and Exit of a script on threads: each is what the document says.
-/
import Derived.Test.YtnfpldndnmbplaaDoorUStep0
namespace Go.Proofs.YtnfpldndnmbplaaDoor
open Go.RowKit
variable {w0 : World} {B g m : Nat} {av rv : Value} {T : List Th} {R : List Int} {ao : Option Addr} {c : Nat}
set_option maxRecDepth 20000 in
set_option maxHeartbeats 1600000 in
theorem step_block_no (o : Nat) (id wi : Int) (w : World) (P : Pk w0 w B g m T R ao c av rv) (ho : (o : Int) % 6 = 1) (hob : o ≤ 255) (hid : -128 ≤ id ∧ id ≤ 127) (hs : ¬ (getF T id).s = 1) :
    Calls Tryd.prog 6 #[.pointer (some ⟨m, 0, none⟩), .pointer (some ⟨g, 0, none⟩), .agg #[.int .u8 (o : Int), .int .i8 id, .int .i64 wi]] w fun e w' => StepEnd w0 B g m T R e w' := by
  obtain ⟨X, hX⟩ : ∃ X, w.alloc (.cells #[.int .u8 (o : Int), .int .i8 id, .int .i64 wi] 39) = X := ⟨_, rfl⟩
  have pX : Pk w0 X B g m T R ao c av rv := hX ▸ P.grow (below_alloc w _)
  have aX : ActAt X w.heap.size (o : Int) id wi := hX ▸ act_new w _ _ _
  obtain ⟨d0, d1, d2⟩ : _ ∧ _ ∧ _ := ⟨aX.c0, aX.c1, aX.c2⟩
  obtain ⟨a, ha⟩ : ∃ a, w.heap.size = a := ⟨_, rfl⟩
  have HP := hide pX
  have HS := hide hs
  obtain ⟨y, hy⟩ : ∃ y, (getF T id).s = y := ⟨_, rfl⟩
  rw [hy] at hs
  have HY := hide hy
  clear P pX aX ha hy
  go_enter Tryd.func6, Tryd.ntmps6
  go_wp2_with fail
  refine (state_any id _ HP.out.pm.md).mono ?_; rintro e w1 ⟨rfl, rfl⟩
  rw [HY.out]
  go_wp2_with fail
  refine (block_no id wi _ HP.out.pm.tb HP.out.inv.few HS.out).mono ?_; rintro e w2 ⟨rfl, h2⟩
  obtain ⟨a2, c2, k2⟩ := HP.out.pm.table h2
  have H2 := hide k2
  have HG := hide (k2.glob HP.out.glob HP.out.pos)
  clear h2 k2 d0 d1 d2
  go_wp2_with fail
  refine (told_no _ HG.out).mono ?_; rintro e w3 ⟨rfl, b3⟩
  have H3 := hide (H2.out.grow b3)
  clear b3
  go_wp2
  go_ret
  exact ⟨rfl, _, _, _, _, H3.out⟩
set_option maxRecDepth 20000 in
set_option maxHeartbeats 1600000 in
theorem step_block_1 (o : Nat) (k : Nat) (wi : Int) (w : World) (P : Pk w0 w B g m T R ao c av rv) (ho : (o : Int) % 6 = 1) (hob : o ≤ 255) (hid : k ≤ 127) (hk : k < T.length) (hs : (thd T k).s = 1) :
    Calls Tryd.prog 6 #[.pointer (some ⟨m, 0, none⟩), .pointer (some ⟨g, 0, none⟩), .agg #[.int .u8 (o : Int), .int .i8 (k : Int), .int .i64 wi]] w fun e w' => StepEnd w0 B g m (setT T k 2 wi) (turnR R (k : Int) 2) e w' := by
  obtain ⟨X, hX⟩ : ∃ X, w.alloc (.cells #[.int .u8 (o : Int), .int .i8 (k : Int), .int .i64 wi] 39) = X := ⟨_, rfl⟩
  have pX : Pk w0 X B g m T R ao c av rv := hX ▸ P.grow (below_alloc w _)
  have aX : ActAt X w.heap.size (o : Int) (k : Int) wi := hX ▸ act_new w _ _ _
  have HACT := hide aX
  obtain ⟨d0, d1, d2⟩ : _ ∧ _ ∧ _ := ⟨aX.c0, aX.c1, aX.c2⟩
  have HP := hide pX
  have HK := hide hk
  have HS := hide hs
  have HY := hide (show (getF T (k : Int)).s = 1 by rw [getF_nat]; exact hs)
  clear P pX aX hk hs
  go_enter Tryd.func6, Tryd.ntmps6
  go_wp2_with fail
  refine (state_any (k : Int) _ HP.out.pm.md).mono ?_; rintro e w1 ⟨rfl, rfl⟩
  rw [HY.out]
  go_wp2_with fail
  refine (block_yes k wi _ HP.out.pm.tb HP.out.inv HK.out HS.out).mono ?_; rintro e w2 ⟨rfl, a2', c2', t2, f2, q2⟩
  have act2 := HACT.out.table HP.out.pm.tb f2
  obtain ⟨a2, c2, k2⟩ := HP.out.pm.table ⟨a2', c2', t2, f2, q2⟩
  have H2 := hide k2
  have e2 := act2.c2
  clear t2 f2 q2 act2 k2 d0 d1 d2
  go_wp2_with fail
  refine (turn_any k 2 wi _ H2.out.md HK.out HP.out.few H2.out.size).mono ?_; rintro e w3 ⟨rfl, h3⟩
  obtain ⟨av3, rv3, k3⟩ := H2.out.model h3
  have H3 := hide k3
  clear h3 k3 e2
  go_wp2_with fail
  refine (told_yes _).mono ?_; rintro e w4 ⟨rfl, b4⟩
  have H4 := hide (H3.out.grow b4)
  clear b4
  go_wp2
  go_ret
  exact ⟨rfl, _, _, _, _, H4.out⟩
set_option maxRecDepth 20000 in
set_option maxHeartbeats 1600000 in
theorem step_wake_no (o : Nat) (id wi : Int) (w : World) (P : Pk w0 w B g m T R ao c av rv) (ho : (o : Int) % 6 = 2) (hob : o ≤ 255) (hid : -128 ≤ id ∧ id ≤ 127) (hs : ¬ (getF T id).s = 2) :
    Calls Tryd.prog 6 #[.pointer (some ⟨m, 0, none⟩), .pointer (some ⟨g, 0, none⟩), .agg #[.int .u8 (o : Int), .int .i8 id, .int .i64 wi]] w fun e w' => StepEnd w0 B g m T R e w' := by
  obtain ⟨X, hX⟩ : ∃ X, w.alloc (.cells #[.int .u8 (o : Int), .int .i8 id, .int .i64 wi] 39) = X := ⟨_, rfl⟩
  have pX : Pk w0 X B g m T R ao c av rv := hX ▸ P.grow (below_alloc w _)
  have aX : ActAt X w.heap.size (o : Int) id wi := hX ▸ act_new w _ _ _
  obtain ⟨d0, d1, d2⟩ : _ ∧ _ ∧ _ := ⟨aX.c0, aX.c1, aX.c2⟩
  obtain ⟨a, ha⟩ : ∃ a, w.heap.size = a := ⟨_, rfl⟩
  have HP := hide pX
  have HS := hide hs
  obtain ⟨y, hy⟩ : ∃ y, (getF T id).s = y := ⟨_, rfl⟩
  rw [hy] at hs
  have HY := hide hy
  clear P pX aX ha hy
  go_enter Tryd.func6, Tryd.ntmps6
  go_wp2_with fail
  refine (state_any id _ HP.out.pm.md).mono ?_; rintro e w1 ⟨rfl, rfl⟩
  rw [HY.out]
  go_wp2_with fail
  refine (wake_no id _ HP.out.pm.tb HP.out.inv.few HS.out).mono ?_; rintro e w2 ⟨rfl, h2⟩
  obtain ⟨a2, c2, k2⟩ := HP.out.pm.table h2
  have H2 := hide k2
  have HG := hide (k2.glob HP.out.glob HP.out.pos)
  clear h2 k2 d0 d1 d2
  go_wp2_with fail
  refine (told_no _ HG.out).mono ?_; rintro e w3 ⟨rfl, b3⟩
  have H3 := hide (H2.out.grow b3)
  clear b3
  go_wp2
  go_ret
  exact ⟨rfl, _, _, _, _, H3.out⟩
set_option maxRecDepth 20000 in
set_option maxHeartbeats 1600000 in
theorem step_wake_2 (o : Nat) (k : Nat) (wi : Int) (w : World) (P : Pk w0 w B g m T R ao c av rv) (ho : (o : Int) % 6 = 2) (hob : o ≤ 255) (hid : k ≤ 127) (hk : k < T.length) (hs : (thd T k).s = 2) :
    Calls Tryd.prog 6 #[.pointer (some ⟨m, 0, none⟩), .pointer (some ⟨g, 0, none⟩), .agg #[.int .u8 (o : Int), .int .i8 (k : Int), .int .i64 wi]] w fun e w' => StepEnd w0 B g m (setT T k 1 0) (turnR R (k : Int) 1) e w' := by
  obtain ⟨X, hX⟩ : ∃ X, w.alloc (.cells #[.int .u8 (o : Int), .int .i8 (k : Int), .int .i64 wi] 39) = X := ⟨_, rfl⟩
  have pX : Pk w0 X B g m T R ao c av rv := hX ▸ P.grow (below_alloc w _)
  have aX : ActAt X w.heap.size (o : Int) (k : Int) wi := hX ▸ act_new w _ _ _
  have HACT := hide aX
  obtain ⟨d0, d1, d2⟩ : _ ∧ _ ∧ _ := ⟨aX.c0, aX.c1, aX.c2⟩
  have HP := hide pX
  have HK := hide hk
  have HS := hide hs
  have HY := hide (show (getF T (k : Int)).s = 2 by rw [getF_nat]; exact hs)
  clear P pX aX hk hs
  go_enter Tryd.func6, Tryd.ntmps6
  go_wp2_with fail
  refine (state_any (k : Int) _ HP.out.pm.md).mono ?_; rintro e w1 ⟨rfl, rfl⟩
  rw [HY.out]
  go_wp2_with fail
  refine (wake_yes k _ HP.out.pm.tb HP.out.inv HK.out HS.out).mono ?_; rintro e w2 ⟨rfl, a2', c2', t2, f2, q2⟩
  have act2 := HACT.out.table HP.out.pm.tb f2
  obtain ⟨a2, c2, k2⟩ := HP.out.pm.table ⟨a2', c2', t2, f2, q2⟩
  have H2 := hide k2
  have e2 := act2.c2
  clear t2 f2 q2 act2 k2 d0 d1 d2
  go_wp2_with fail
  refine (turn_any k 1 0 _ H2.out.md HK.out HP.out.few H2.out.size).mono ?_; rintro e w3 ⟨rfl, h3⟩
  obtain ⟨av3, rv3, k3⟩ := H2.out.model h3
  have H3 := hide k3
  clear h3 k3 e2
  go_wp2_with fail
  refine (told_yes _).mono ?_; rintro e w4 ⟨rfl, b4⟩
  have H4 := hide (H3.out.grow b4)
  clear b4
  go_wp2
  go_ret
  exact ⟨rfl, _, _, _, _, H4.out⟩
set_option maxRecDepth 20000 in
set_option maxHeartbeats 1600000 in
theorem step_exit_no (o : Nat) (id wi : Int) (w : World) (P : Pk w0 w B g m T R ao c av rv) (ho : (o : Int) % 6 = 3) (hob : o ≤ 255) (hid : -128 ≤ id ∧ id ≤ 127) (hs : ¬ (getF T id).s = 1 ∧ ¬ (getF T id).s = 2) :
    Calls Tryd.prog 6 #[.pointer (some ⟨m, 0, none⟩), .pointer (some ⟨g, 0, none⟩), .agg #[.int .u8 (o : Int), .int .i8 id, .int .i64 wi]] w fun e w' => StepEnd w0 B g m T R e w' := by
  obtain ⟨X, hX⟩ : ∃ X, w.alloc (.cells #[.int .u8 (o : Int), .int .i8 id, .int .i64 wi] 39) = X := ⟨_, rfl⟩
  have pX : Pk w0 X B g m T R ao c av rv := hX ▸ P.grow (below_alloc w _)
  have aX : ActAt X w.heap.size (o : Int) id wi := hX ▸ act_new w _ _ _
  obtain ⟨d0, d1, d2⟩ : _ ∧ _ ∧ _ := ⟨aX.c0, aX.c1, aX.c2⟩
  obtain ⟨a, ha⟩ : ∃ a, w.heap.size = a := ⟨_, rfl⟩
  have HP := hide pX
  have HS := hide hs
  obtain ⟨y, hy⟩ : ∃ y, (getF T id).s = y := ⟨_, rfl⟩
  rw [hy] at hs
  obtain ⟨hs1, hs2⟩ := hs
  have hn1 : (y == 1) = false := by simpa using hs1
  have hn2 : (y == 2) = false := by simpa using hs2
  clear hs1 hs2
  have HY := hide hy
  clear P pX aX ha hy
  go_enter Tryd.func6, Tryd.ntmps6
  go_wp2_with fail
  refine (state_any id _ HP.out.pm.md).mono ?_; rintro e w1 ⟨rfl, rfl⟩
  rw [HY.out]
  go_wp2_with fail
  refine (exit_no id _ HP.out.pm.tb HP.out.inv.few HS.out).mono ?_; rintro e w2 ⟨rfl, h2⟩
  obtain ⟨a2, c2, k2⟩ := HP.out.pm.table h2
  have H2 := hide k2
  have HG := hide (k2.glob HP.out.glob HP.out.pos)
  clear h2 k2 d0 d1 d2
  go_wp2_with fail
  refine (told_no _ HG.out).mono ?_; rintro e w3 ⟨rfl, b3⟩
  have H3 := hide (H2.out.grow b3)
  clear b3
  go_wp2
  go_ret
  exact ⟨rfl, _, _, _, _, H3.out⟩
set_option maxRecDepth 20000 in
set_option maxHeartbeats 1600000 in
theorem step_exit_1 (o : Nat) (k : Nat) (wi : Int) (w : World) (P : Pk w0 w B g m T R ao c av rv) (ho : (o : Int) % 6 = 3) (hob : o ≤ 255) (hid : k ≤ 127) (hk : k < T.length) (hs : (thd T k).s = 1) :
    Calls Tryd.prog 6 #[.pointer (some ⟨m, 0, none⟩), .pointer (some ⟨g, 0, none⟩), .agg #[.int .u8 (o : Int), .int .i8 (k : Int), .int .i64 wi]] w fun e w' => StepEnd w0 B g m (setT T k 3 0) (turnR R (k : Int) 3) e w' := by
  obtain ⟨X, hX⟩ : ∃ X, w.alloc (.cells #[.int .u8 (o : Int), .int .i8 (k : Int), .int .i64 wi] 39) = X := ⟨_, rfl⟩
  have pX : Pk w0 X B g m T R ao c av rv := hX ▸ P.grow (below_alloc w _)
  have aX : ActAt X w.heap.size (o : Int) (k : Int) wi := hX ▸ act_new w _ _ _
  have HACT := hide aX
  obtain ⟨d0, d1, d2⟩ : _ ∧ _ ∧ _ := ⟨aX.c0, aX.c1, aX.c2⟩
  have HP := hide pX
  have HK := hide hk
  have HS := hide hs
  have HY := hide (show (getF T (k : Int)).s = 1 by rw [getF_nat]; exact hs)
  clear P pX aX hk hs
  go_enter Tryd.func6, Tryd.ntmps6
  go_wp2_with fail
  refine (state_any (k : Int) _ HP.out.pm.md).mono ?_; rintro e w1 ⟨rfl, rfl⟩
  rw [HY.out]
  go_wp2_with fail
  refine (exit_yes k _ HP.out.pm.tb HP.out.inv HK.out (.inl HS.out)).mono ?_; rintro e w2 ⟨rfl, a2', c2', t2, f2, q2⟩
  have act2 := HACT.out.table HP.out.pm.tb f2
  obtain ⟨a2, c2, k2⟩ := HP.out.pm.table ⟨a2', c2', t2, f2, q2⟩
  have H2 := hide k2
  have e2 := act2.c2
  clear t2 f2 q2 act2 k2 d0 d1 d2
  go_wp2_with fail
  refine (turn_any k 3 0 _ H2.out.md HK.out HP.out.few H2.out.size).mono ?_; rintro e w3 ⟨rfl, h3⟩
  obtain ⟨av3, rv3, k3⟩ := H2.out.model h3
  have H3 := hide k3
  clear h3 k3 e2
  go_wp2_with fail
  refine (told_yes _).mono ?_; rintro e w4 ⟨rfl, b4⟩
  have H4 := hide (H3.out.grow b4)
  clear b4
  go_wp2
  go_ret
  exact ⟨rfl, _, _, _, _, H4.out⟩
set_option maxRecDepth 20000 in
set_option maxHeartbeats 1600000 in
theorem step_exit_2 (o : Nat) (k : Nat) (wi : Int) (w : World) (P : Pk w0 w B g m T R ao c av rv) (ho : (o : Int) % 6 = 3) (hob : o ≤ 255) (hid : k ≤ 127) (hk : k < T.length) (hs : (thd T k).s = 2) :
    Calls Tryd.prog 6 #[.pointer (some ⟨m, 0, none⟩), .pointer (some ⟨g, 0, none⟩), .agg #[.int .u8 (o : Int), .int .i8 (k : Int), .int .i64 wi]] w fun e w' => StepEnd w0 B g m (setT T k 3 0) (turnR R (k : Int) 3) e w' := by
  obtain ⟨X, hX⟩ : ∃ X, w.alloc (.cells #[.int .u8 (o : Int), .int .i8 (k : Int), .int .i64 wi] 39) = X := ⟨_, rfl⟩
  have pX : Pk w0 X B g m T R ao c av rv := hX ▸ P.grow (below_alloc w _)
  have aX : ActAt X w.heap.size (o : Int) (k : Int) wi := hX ▸ act_new w _ _ _
  have HACT := hide aX
  obtain ⟨d0, d1, d2⟩ : _ ∧ _ ∧ _ := ⟨aX.c0, aX.c1, aX.c2⟩
  have HP := hide pX
  have HK := hide hk
  have HS := hide hs
  have HY := hide (show (getF T (k : Int)).s = 2 by rw [getF_nat]; exact hs)
  clear P pX aX hk hs
  go_enter Tryd.func6, Tryd.ntmps6
  go_wp2_with fail
  refine (state_any (k : Int) _ HP.out.pm.md).mono ?_; rintro e w1 ⟨rfl, rfl⟩
  rw [HY.out]
  go_wp2_with fail
  refine (exit_yes k _ HP.out.pm.tb HP.out.inv HK.out (.inr HS.out)).mono ?_; rintro e w2 ⟨rfl, a2', c2', t2, f2, q2⟩
  have act2 := HACT.out.table HP.out.pm.tb f2
  obtain ⟨a2, c2, k2⟩ := HP.out.pm.table ⟨a2', c2', t2, f2, q2⟩
  have H2 := hide k2
  have e2 := act2.c2
  clear t2 f2 q2 act2 k2 d0 d1 d2
  go_wp2_with fail
  refine (turn_any k 3 0 _ H2.out.md HK.out HP.out.few H2.out.size).mono ?_; rintro e w3 ⟨rfl, h3⟩
  obtain ⟨av3, rv3, k3⟩ := H2.out.model h3
  have H3 := hide k3
  clear h3 k3 e2
  go_wp2_with fail
  refine (told_yes _).mono ?_; rintro e w4 ⟨rfl, b4⟩
  have H4 := hide (H3.out.grow b4)
  clear b4
  go_wp2
  go_ret
  exact ⟨rfl, _, _, _, _, H4.out⟩
end Go.Proofs.YtnfpldndnmbplaaDoor
