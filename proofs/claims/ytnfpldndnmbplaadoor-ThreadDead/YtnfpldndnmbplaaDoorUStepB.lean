/-
  The deeds Start and Pick of a script on threads: each is what the document says.
-/
import Derived.Test.YtnfpldndnmbplaaDoorUStep0
import Derived.Deep.RegionLaw
namespace Go.Proofs.YtnfpldndnmbplaaDoor
open Go.RowKit
variable {w0 : World} {B g m : Nat} {av rv : Value} {T : List Th} {R : List Int} {ao : Option Addr} {c : Nat}
/- an append whose run is known, at a step of a region that draws its order -/
theorem step_append_run {P : Program} {w : World} {ops : Array Oper} {o : Oper} {a : Act} {K : Act → World → Prop} {Q : Exit → Act → World → Prop} {E : Prop} (hgd : o.guard = none) (s x : Operand) (ts : Array TypeId)
    (ho : o.op = .call { callee := .builtin .append, args := #[s, x], argTypes := ts }) (v u v' : Value) (w' : World) (hs : a.eval s = v) (hx : a.eval x = u) (hr : (Builtin.append_ ts o.type #[v, u]).run P w = .ok v' w') (h : K (a.put o.dst v') w') :
    if Region.wanted o (yielded ops a.tmps) = true then Oper.wp P o a w K Q else E := by
  have hw : Region.wanted o (yielded ops a.tmps) = true := by simp [Region.wanted, hgd]
  rw [if_pos hw]
  unfold Oper.wp execOp
  simp only [ho, resolve, invoke, builtin, Sem.run_bind, Sem.run_pure, Result.andThen_ok, List.map_toArray, List.map_cons, List.map_nil, hs, hx, hr]
  exact h
set_option maxRecDepth 20000 in
set_option maxHeartbeats 1600000 in
theorem step_start_neg (o : Nat) (id wi : Int) (w : World) (P : Pk w0 w B g m T R ao c av rv) (ho : (o : Int) % 6 = 0) (hob : o ≤ 255) (hid : -128 ≤ id ∧ id ≤ 127) (h0 : id < 0) :
    Calls Tryd.prog 6 #[.pointer (some ⟨m, 0, none⟩), .pointer (some ⟨g, 0, none⟩), .agg #[.int .u8 (o : Int), .int .i8 id, .int .i64 wi]] w fun e w' => StepEnd w0 B g m T R e w' := by
  obtain ⟨X, hX⟩ : ∃ X, w.alloc (.cells #[.int .u8 (o : Int), .int .i8 id, .int .i64 wi] 39) = X := ⟨_, rfl⟩
  have pX : Pk w0 X B g m T R ao c av rv := hX ▸ P.grow (below_alloc w _)
  have aX : ActAt X w.heap.size (o : Int) id wi := hX ▸ act_new w _ _ _
  have HACT := hide aX
  obtain ⟨d0, d1, d2⟩ : _ ∧ _ ∧ _ := ⟨aX.c0, aX.c1, aX.c2⟩
  have HP := hide pX
  obtain ⟨y, hy⟩ : ∃ y, (getF T id).s = y := ⟨_, rfl⟩
  have HY := hide hy
  clear P pX aX hy
  go_enter Tryd.func6, Tryd.ntmps6
  go_wp2_with fail
  refine (state_any id _ HP.out.pm.md).mono ?_; rintro e w1 ⟨rfl, rfl⟩
  rw [HY.out]
  go_wp2_with fail
  refine (start_neg id _ HP.out.pm.tb h0).mono ?_; rintro e w2 ⟨rfl, h2⟩
  rw [erN_not (by decide)]
  obtain ⟨a2, c2, k2⟩ := HP.out.pm.table h2
  have H2 := hide k2
  have HG := hide (k2.glob HP.out.glob HP.out.pos)
  clear h2 k2 d0 d1 d2
  go_wp2_with fail
  refine (number_errno 4 _ HG.out).mono ?_; rintro e w3 ⟨rfl, b3⟩
  have H3 := hide (H2.out.grow b3)
  clear b3
  go_wp2
  go_ret
  exact ⟨rfl, _, _, _, _, H3.out⟩
set_option maxRecDepth 20000 in
set_option maxHeartbeats 1600000 in
theorem step_start_full (o : Nat) (id wi : Int) (w : World) (P : Pk w0 w B g m T R ao c av rv) (ho : (o : Int) % 6 = 0) (hob : o ≤ 255) (hid : -128 ≤ id ∧ id ≤ 127) (h0 : ¬ id < 0) (hl : T.length = 64) :
    Calls Tryd.prog 6 #[.pointer (some ⟨m, 0, none⟩), .pointer (some ⟨g, 0, none⟩), .agg #[.int .u8 (o : Int), .int .i8 id, .int .i64 wi]] w fun e w' => StepEnd w0 B g m T R e w' := by
  obtain ⟨X, hX⟩ : ∃ X, w.alloc (.cells #[.int .u8 (o : Int), .int .i8 id, .int .i64 wi] 39) = X := ⟨_, rfl⟩
  have pX : Pk w0 X B g m T R ao c av rv := hX ▸ P.grow (below_alloc w _)
  have aX : ActAt X w.heap.size (o : Int) id wi := hX ▸ act_new w _ _ _
  have HACT := hide aX
  obtain ⟨d0, d1, d2⟩ : _ ∧ _ ∧ _ := ⟨aX.c0, aX.c1, aX.c2⟩
  have HP := hide pX
  obtain ⟨y, hy⟩ : ∃ y, (getF T id).s = y := ⟨_, rfl⟩
  have HY := hide hy
  clear P pX aX hy
  have HL := hide hl
  clear hl
  go_enter Tryd.func6, Tryd.ntmps6
  go_wp2_with fail
  refine (state_any id _ HP.out.pm.md).mono ?_; rintro e w1 ⟨rfl, rfl⟩
  rw [HY.out]
  go_wp2_with fail
  refine (start_full id _ HP.out.pm.tb HP.out.inv (by omega) HL.out).mono ?_; rintro e w2 ⟨rfl, h2⟩
  rw [erN_not (by decide)]
  obtain ⟨a2, c2, k2⟩ := HP.out.pm.table h2
  obtain ⟨aa, ac, rfl, hac1, hac2⟩ := k2.md.form
  have c0 := k2.md.c0
  rw [HL.out] at c0 hac1
  have H2 := hide k2
  have HG := hide (k2.glob HP.out.glob HP.out.pos)
  clear h2 k2 d0 d1 d2
  go_wp2_with fail
  refine (number_errno 5 _ HG.out).mono ?_; rintro e w3 ⟨rfl, b3⟩
  have H3 := hide (H2.out.grow b3)
  clear b3
  go_wp2
  go_ret
  exact ⟨rfl, _, _, _, _, H3.out⟩
set_option maxRecDepth 20000 in
set_option maxHeartbeats 1600000 in
theorem step_start_yes (o : Nat) (id wi : Int) (w : World) (P : Pk w0 w B g m T R ao c av rv) (ho : (o : Int) % 6 = 0) (hob : o ≤ 255) (hid : -128 ≤ id ∧ id ≤ 127) (h0 : ¬ id < 0) (hl : T.length < 64) :
    Calls Tryd.prog 6 #[.pointer (some ⟨m, 0, none⟩), .pointer (some ⟨g, 0, none⟩), .agg #[.int .u8 (o : Int), .int .i8 id, .int .i64 wi]] w fun e w' => StepEnd w0 B g m (T ++ [⟨id, 1, 0⟩]) (R ++ [(T.length : Int)]) e w' := by
  obtain ⟨X, hX⟩ : ∃ X, w.alloc (.cells #[.int .u8 (o : Int), .int .i8 id, .int .i64 wi] 39) = X := ⟨_, rfl⟩
  have pX : Pk w0 X B g m T R ao c av rv := hX ▸ P.grow (below_alloc w _)
  have aX : ActAt X w.heap.size (o : Int) id wi := hX ▸ act_new w _ _ _
  have HACT := hide aX
  obtain ⟨d0, d1, d2⟩ : _ ∧ _ ∧ _ := ⟨aX.c0, aX.c1, aX.c2⟩
  have HP := hide pX
  obtain ⟨y, hy⟩ : ∃ y, (getF T id).s = y := ⟨_, rfl⟩
  have HY := hide hy
  clear P pX aX hy
  have HL := hide hl
  have hne : ¬ ((T.length : Int) = 64) := by omega
  obtain ⟨n, hn⟩ : ∃ n, T.length = n := ⟨_, rfl⟩
  have HN := hide hn
  rw [hn] at hne
  have hn64 : n < 64 := by omega
  clear hl hn
  go_enter Tryd.func6, Tryd.ntmps6
  go_wp2_with fail
  refine (state_any id _ HP.out.pm.md).mono ?_; rintro e w1 ⟨rfl, rfl⟩
  rw [HY.out]
  go_wp2_with fail
  refine (start_yes id _ HP.out.pm.tb HP.out.inv (by omega) HL.out).mono ?_; rintro e w2 ⟨rfl, h2⟩
  obtain ⟨a2, c2, k2⟩ := HP.out.pm.table h2
  have H2 := hide k2
  have c0 := k2.md.c0
  obtain ⟨v3, w3, hr3, o3, f3, m3⟩ := app_th (ty := 34) id 1 0 k2.md.all (by rw [HN.out]; omega) k2.size
  obtain ⟨aa, ac, rfl, hac1, hac2⟩ := k2.md.form
  obtain ⟨ba, bc, rfl, bl⟩ := owns_lies o3
  have hbc : bc ≤ 9223372036854775807 := bl.2.2.1
  have hnb : n + 1 ≤ bc := by have := bl.2.1; rw [HN.out] at this; exact this
  obtain ⟨nb, hnb'⟩ : ∃ nb, n + 1 = nb := ⟨_, rfl⟩
  have hsub : (nb : Int) - 1 = (n : Int) := by omega
  have hwr : IntKind.i64.wrap (n : Int) = (n : Int) := by rw [IntKind.wrap_i64]; omega
  rw [HN.out, hnb'] at o3 hr3 m3
  rw [HN.out] at c0 hac1 ⊢
  rw [hnb'] at hnb
  have e0 : w3.cell? ⟨m, 0, none⟩ = some (.slice aa n ac) := (f3.cell ⟨m, 0, none⟩ k2.md.lt k2.md.ma).trans c0
  have z0 : w3.frozen? ⟨m, 0, none⟩ = false := frozen_of_row w3 m 0 _ _ ((f3.block m k2.md.lt k2.md.ma).trans k2.md.box)
  obtain ⟨W4, hW4⟩ : ∃ W4, w3.setCell ⟨m, 0, none⟩ (.slice ba nb bc) = W4 := ⟨_, rfl⟩
  have x4 : Md W4 B m (.slice ba nb bc) rv (T ++ [⟨id, 1, 0⟩]) R := hW4 ▸ k2.md.row f3 o3
  have F4 : Foot (MdS m (.slice aa n ac) rv) w2 W4 := by
    rw [← hW4]
    have := (f3.mono (S' := MdS m (.slice aa n ac) rv) (fun j e => .inr (.inl (by rw [← e]; rw [HN.out])))).then ((foot_set w3 ⟨m, 0, none⟩ (.slice ba nb bc)).mono (S' := MdS m (.slice aa n ac) rv) fun j e => .inl e)
    exact this
  obtain ⟨ra, rc, rfl, hra⟩ := x4.nums
  have hrc : rc ≤ 9223372036854775807 := hra.2.2.1
  have hrl := hra.2.1
  have q0 := x4.c0
  have q1 := x4.c1
  have r0 := cell_al q0 (.cells #[.int .i64 (n : Int)] 3)
  have r1 := cell_al q1 (.cells #[.int .i64 (n : Int)] 3)
  obtain ⟨v5, w5, hr5, o5, f5, m5⟩ := app_one_d (ty := 29) (n : Int) x4.rdy (Nat.le_trans HP.out.few (by omega)) (Nat.le_trans k2.size F4.size)
  obtain ⟨ca, cc, rfl, cl⟩ := owns_lies o5
  have hb5 := (f5.block m x4.lt x4.mr).trans x4.box
  have q5 : w5.cell? ⟨m, 1, none⟩ = some (.slice ra R.length rc) := by rw [cell_of_row w5 m 1 _ _ _ hb5]; rfl
  have z5 : w5.frozen? ⟨m, 1, none⟩ = false := frozen_of_row w5 m 1 _ _ hb5
  obtain ⟨W6, hW6⟩ : ∃ W6, w5.setCell ⟨m, 1, none⟩ (.slice ca (R.length + 1) cc) = W6 := ⟨_, rfl⟩
  have x6 : Md W6 B m (.slice ba nb bc) (.slice ca (R.length + 1) cc) (T ++ [⟨id, 1, 0⟩]) (R ++ [(n : Int)]) := hW6 ▸ x4.more f5 o5
  have q6 := x6.c0
  have F6 : Foot (MdS m (.slice ba nb bc) (.slice ra R.length rc)) W4 W6 := by
    rw [← hW6]
    exact (f5.mono (S' := MdS m (.slice ba nb bc) (.slice ra R.length rc)) (fun j e => .inr (.inr e))).then ((foot_set w5 ⟨m, 1, none⟩ _).mono (S' := MdS m (.slice ba nb bc) (.slice ra R.length rc)) fun j e => .inl e)
  have E6 : MdEnd W4 B m (.slice ba nb bc) (.slice ra R.length rc) (T ++ [⟨id, 1, 0⟩]) (R ++ [(n : Int)]) W6 := ⟨_, _, x6, F6, Moved.refl _ _, m5⟩
  have E2 := MdEnd.then F4 m3 (Moved.refl _ _) E6
  rw [HN.out] at k2
  obtain ⟨av7, rv7, k7⟩ := k2.model E2
  have HE := hide k7
  have HR3 := hide hr3
  have HR5 := hide hr5
  clear h2 k2 d0 d1 d2 hr3 o3 f3 m3 bl x4 F4 hra o5 f5 m5 cl hb5 x6 F6 E6 E2 k7 hr5
  go_wp2_with (at_builtin; refine wpList_append_run rfl _ _ _ rfl _ _ _ _ rfl rfl HR3.out ?_)
  go_region_law ((first | refine step_append_run (by rfl) _ _ _ (by rfl) (.slice ra R.length rc) (.slice (some ⟨W4.heap.size, 0, none⟩) 1 1) (.slice ca (R.length + 1) cc) w5 (by rfl) (by rfl) HR5.out ?_))
  all_goals go_wp2
  all_goals go_ret
  all_goals
    rw [HN.out]
    exact ⟨rfl, _, _, _, _, HE.out⟩
set_option maxRecDepth 20000 in
set_option maxHeartbeats 1600000 in
theorem step_pick_no (o : Nat) (id wi : Int) (w : World) (P : Pk w0 w B g m T R ao c av rv) (ho : (o : Int) % 6 = 5) (hob : o ≤ 255) (hid : -128 ≤ id ∧ id ≤ 127) (hl : R.length = 0) :
    Calls Tryd.prog 6 #[.pointer (some ⟨m, 0, none⟩), .pointer (some ⟨g, 0, none⟩), .agg #[.int .u8 (o : Int), .int .i8 id, .int .i64 wi]] w fun e w' => StepEnd w0 B g m T R e w' := by
  obtain ⟨X, hX⟩ : ∃ X, w.alloc (.cells #[.int .u8 (o : Int), .int .i8 id, .int .i64 wi] 39) = X := ⟨_, rfl⟩
  have pX : Pk w0 X B g m T R ao c av rv := hX ▸ P.grow (below_alloc w _)
  have aX : ActAt X w.heap.size (o : Int) id wi := hX ▸ act_new w _ _ _
  have HACT := hide aX
  obtain ⟨d0, d1, d2⟩ : _ ∧ _ ∧ _ := ⟨aX.c0, aX.c1, aX.c2⟩
  have HP := hide pX
  obtain ⟨y, hy⟩ : ∃ y, (getF T id).s = y := ⟨_, rfl⟩
  have HY := hide hy
  clear P pX aX hy
  have HL := hide hl
  clear hl
  go_enter Tryd.func6, Tryd.ntmps6
  go_wp2_with fail
  refine (state_any id _ HP.out.pm.md).mono ?_; rintro e w1 ⟨rfl, rfl⟩
  rw [HY.out]
  go_wp2_with fail
  refine (pick_no wi _ HP.out.pm.tb HL.out).mono ?_; rintro e w2 ⟨rfl, h2⟩
  rw [erN_not (by decide)]
  obtain ⟨a2, c2, k2⟩ := HP.out.pm.table h2
  obtain ⟨ra, rc, rfl, hra⟩ := k2.md.nums
  have hrc : rc ≤ 9223372036854775807 := hra.2.2.1
  have c1 := k2.md.c1
  rw [HL.out] at c1
  have H2 := hide k2
  have HG := hide (k2.glob HP.out.glob HP.out.pos)
  clear h2 k2 d0 d1 d2 hra
  go_wp2_with fail
  refine (number_errno 12 _ HG.out).mono ?_; rintro e w3 ⟨rfl, b3⟩
  have H3 := hide (H2.out.grow b3)
  clear b3
  go_wp2
  go_ret
  exact ⟨rfl, _, _, _, _, H3.out⟩
set_option maxRecDepth 20000 in
set_option maxHeartbeats 1600000 in
theorem step_pick_yes (o : Nat) (id wi : Int) (k : Nat) (w : World) (P : Pk w0 w B g m T R ao c av rv) (ho : (o : Int) % 6 = 5) (hob : o ≤ 255) (hid : -128 ≤ id ∧ id ≤ 127) (hl : 0 < R.length) (hk : takeX R wi = (k : Int)) :
    Calls Tryd.prog 6 #[.pointer (some ⟨m, 0, none⟩), .pointer (some ⟨g, 0, none⟩), .agg #[.int .u8 (o : Int), .int .i8 id, .int .i64 wi]] w fun e w' => StepEnd w0 B g m T (turnR R (k : Int) 1) e w' := by
  obtain ⟨X, hX⟩ : ∃ X, w.alloc (.cells #[.int .u8 (o : Int), .int .i8 id, .int .i64 wi] 39) = X := ⟨_, rfl⟩
  have pX : Pk w0 X B g m T R ao c av rv := hX ▸ P.grow (below_alloc w _)
  have aX : ActAt X w.heap.size (o : Int) id wi := hX ▸ act_new w _ _ _
  have HACT := hide aX
  obtain ⟨d0, d1, d2⟩ : _ ∧ _ ∧ _ := ⟨aX.c0, aX.c1, aX.c2⟩
  have HP := hide pX
  obtain ⟨y, hy⟩ : ∃ y, (getF T id).s = y := ⟨_, rfl⟩
  have HY := hide hy
  clear P pX aX hy
  have HL := hide hl
  obtain ⟨k', e1, hkT, _, _, _, _, hset⟩ := HP.out.inv.pick wi hl
  obtain rfl : k' = k := by rw [e1] at hk; omega
  have HK := hide hkT
  have HST := hide hset
  have HTX := hide hk
  have hp := placeF_lt wi R.length hl
  have hp2 := placeF_is wi R.length hl
  have hget : R.getD (placeF wi R.length) 0 = (k' : Int) := hk
  obtain ⟨n, hn⟩ : ∃ n, R.length = n := ⟨_, rfl⟩
  rw [hn] at hp hp2 hl hget
  have HN := hide hn
  have hn64 : n ≤ 64 := by rw [← hn]; exact HP.out.few
  obtain ⟨j, hj⟩ : ∃ j, placeF wi n = j := ⟨_, rfl⟩
  rw [hj] at hp hp2 hget
  have HGET := hide hget
  have hz : ¬ ((n : Int) = 0) := by omega
  have h3 := Int.tmod_eq_emod (a := wi) (b := (n : Int))
  obtain ⟨r, hr⟩ : ∃ r, wi.tmod (n : Int) = r := ⟨_, rfl⟩
  rw [hr, ← hp2] at h3
  have hcase : (r < 0 ∧ (j : Int) = r + (n : Int)) ∨ (¬ r < 0 ∧ (j : Int) = r) := by
    split at h3 <;> omega
  clear hl hk e1 hkT hset hget hn hj hp2 h3
  go_enter Tryd.func6, Tryd.ntmps6
  go_wp2_with fail
  refine (state_any id _ HP.out.pm.md).mono ?_; rintro e w1 ⟨rfl, rfl⟩
  rw [HY.out]
  go_wp2_with fail
  refine (pick_yes wi k' _ HP.out.pm.tb HP.out.inv HL.out HTX.out).mono ?_; rintro e w2 ⟨rfl, a2', c2', t2, f2, q2⟩
  have act2 := HACT.out.table HP.out.pm.tb f2
  obtain ⟨a2, c2, k2⟩ := HP.out.pm.table ⟨a2', c2', t2, f2, q2⟩
  obtain ⟨ra, rc, rfl, hra⟩ := k2.md.nums
  have hrc : rc ≤ 9223372036854775807 := hra.2.2.1
  have hrl := hra.2.1
  rw [HN.out] at hra hrl
  obtain ⟨rd, rfl⟩ := hra.there (k := j) hp
  have c1 := k2.md.c1
  rw [HN.out] at c1
  have cj := hra.elem j hp
  rw [HGET.out] at cj
  have C1 := fun q : Nat => (show (w2.drewN q).cell? ⟨m, 1, none⟩ = _ from c1)
  have D2 := fun q : Nat => (show (w2.drewN q).cell? ⟨w.heap.size, 2, none⟩ = _ from act2.c2)
  have CJ := fun q : Nat => (show (w2.drewN q).cell? (rd.add j) = _ from cj)
  have H2 := hide k2
  have hjn : (j : Int) < (n : Int) := by omega
  have HFEW := hide HP.out.few
  have hj0 : (0 : Int) ≤ (j : Int) := by omega
  clear t2 f2 q2 act2 k2 d0 d1 d2 hra cj
  rcases hcase with ⟨hr0, hrj⟩ | ⟨hr0, hrj⟩
  · have hwr : IntKind.i64.wrap r = r := by rw [IntKind.wrap_i64]; omega
    have hrj' : r + (n : Int) = (j : Int) := by omega
    clear hrj
    go_wp2_with fail
    go_quiet (fail)
    have H3 := hide (H2.out.grow (below_d w2 nq))
    have c1 := C1 nq
    have cj := CJ nq
    obtain ⟨V, hV⟩ : ∃ V, w2.drewN nq = V := ⟨_, rfl⟩
    rw [hV] at H3 c1 cj
    simp only [hV]
    clear hV C1 D2 CJ H2
    go_wp2_with fail
    refine (turn_any k' 1 0 _ H3.out.md HK.out HFEW.out H3.out.size).mono ?_; rintro e w3 ⟨rfl, h3⟩
    rw [HST.out] at h3
    obtain ⟨av3, rv3, k3⟩ := H3.out.model h3
    have H4 := hide k3
    clear h3 k3
    go_wp2
    go_ret
    exact ⟨rfl, _, _, _, _, H4.out⟩
  · subst hrj
    have hwr : IntKind.i64.wrap (j : Int) = (j : Int) := by rw [IntKind.wrap_i64]; omega
    go_wp2_with fail
    go_quiet (fail)
    have H3 := hide (H2.out.grow (below_d w2 nq))
    have c1 := C1 nq
    have cj := CJ nq
    obtain ⟨V, hV⟩ : ∃ V, w2.drewN nq = V := ⟨_, rfl⟩
    rw [hV] at H3 c1 cj
    simp only [hV]
    clear hV C1 D2 CJ H2
    go_wp2_with fail
    refine (turn_any k' 1 0 _ H3.out.md HK.out HFEW.out H3.out.size).mono ?_; rintro e w3 ⟨rfl, h3⟩
    rw [HST.out] at h3
    obtain ⟨av3, rv3, k3⟩ := H3.out.model h3
    have H4 := hide k3
    clear h3 k3
    go_wp2
    go_ret
    exact ⟨rfl, _, _, _, _, H4.out⟩
end Go.Proofs.YtnfpldndnmbplaaDoor
