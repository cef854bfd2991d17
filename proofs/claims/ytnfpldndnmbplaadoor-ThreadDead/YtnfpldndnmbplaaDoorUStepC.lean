/-
  The deed Kill of a script on threads: it is what the document says.
-/
import Derived.Test.YtnfpldndnmbplaaDoorUStep0
namespace Go.Proofs.YtnfpldndnmbplaaDoor
open Go.RowKit
/- a table, a model and an own row of numbers -/
structure KM (w0 w : World) (B g m : Nat) (T : List Th) (R : List Int) (ao : Option Addr) (c : Nat) (av rv : Value) (T2 : List Th) (R2 : List Int) (v : Value) (n : Nat) (L : List Int) : Prop where
  pm : PM w0 w B g m T R ao c av rv T2 R2
  o : w.ownsRow B 3 1 v n (cellsI L)
  f : OffV R.length ao v
  r : ∀ k, v.ownBlock = some k → rv.ownBlock ≠ some k
variable {w0 w w' : World} {B g m : Nat} {av rv : Value} {T T2 : List Th} {R R2 : List Int} {ao : Option Addr} {c : Nat} {v : Value} {n : Nat} {L : List Int}
theorem KM.offm (x : KM w0 w B g m T R ao c av rv T2 R2 v n L) : v.ownBlock ≠ some m := fun e => by
  obtain ⟨cur, h⟩ := owns_type x.o e
  exact two_types h x.pm.md.box (by decide) rfl
theorem KM.a (x : KM w0 w B g m T R ao c av rv T2 R2 v n L) (k : Nat) (e : v.ownBlock = some k) : av.ownBlock ≠ some k := fun e2 => by
  obtain ⟨_, h1⟩ := owns_type x.o e
  obtain ⟨_, h2⟩ := owns_type x.pm.md.all e2
  exact two_types h1 h2 (by decide) rfl
theorem KM.grow (x : KM w0 w B g m T R ao c av rv T2 R2 v n L) (b : Below w.heap.size w w') : KM w0 w' B g m T R ao c av rv T2 R2 v n L := ⟨x.pm.grow b, owns_below x.o b, x.f, x.r⟩
theorem KM.model {T' : List Th} {R' : List Int} (x : KM w0 w B g m T R ao c av rv T2 R2 v n L) (h : MdEnd w B m av rv T' R' w') : ∃ av' rv', KM w0 w' B g m T R ao c av' rv' T' R' v n L := by
  obtain ⟨av', rv', md, f, ma, mr⟩ := h
  have hp := x.pm.md
  obtain ⟨a1, r1, k⟩ : ∃ a r, PM w0 w' B g m T R ao c a r T' R' ∧ a = av' ∧ r = rv' := by
    refine ⟨av', rv', ⟨x.pm.tb.foot f ?_ ?_, md, x.pm.fa.moved x.pm.tb ma, x.pm.fr.moved x.pm.tb mr, x.pm.fm, x.pm.bel.trans (f.below x.pm.size fun k e => ?_), x.pm.low, x.pm.big⟩, rfl, rfl⟩
    · rintro (h | h | h)
      · exact x.pm.gm h.symm
      · exact x.pm.tb.off hp.all (by decide) h
      · exact x.pm.tb.off hp.rdy (by decide) h
    · rintro h0 ad e (h | h | h)
      · exact x.pm.fm h0 ad e (by rw [h]; rfl)
      · exact x.pm.fa h0 ad e h
      · exact x.pm.fr h0 ad e h
    · rcases e with e | e | e
      · rw [e]; exact hp.low
      · exact (owns_lt hp.all e).2
      · exact (owns_lt hp.rdy e).2
  obtain ⟨k, rfl, rfl⟩ := k
  refine ⟨a1, r1, k, owns_foot x.o f ?_, x.f, fun j e h => ?_⟩
  · rintro j e (h | h | h)
    · exact x.offm (by rw [← h]; exact e)
    · exact x.a j e h
    · exact x.r j e h
  · rcases mr j h with h | h
    · exact x.r j e h
    · have := (owns_lt x.o e).1; omega
theorem KM.table {T' : List Th} {R' : List Int} (x : KM w0 w B g m T R ao c av rv T2 R2 v n L) (h : TbEnd w g T' R' ao R.length w') : ∃ a' c', KM w0 w' B g m T' R' a' c' av rv T2 R2 v n L := by
  obtain ⟨a', c', t, f, k⟩ := h
  have hp := x.pm
  exact ⟨a', c', ⟨t, hp.md.foot f hp.gm (fun j e h => hp.tb.off hp.md.all (by decide) (e.trans (by rw [h]))) (fun j e h => hp.tb.off hp.md.rdy (by decide) (e.trans (by rw [h]))), hp.fa.queue k (own_lt hp.md.all), hp.fr.queue k (own_lt hp.md.rdy), hp.fm.queue k (fun j e => by cases e; exact hp.md.lt), f.low hp.bel hp.size hp.low, hp.low, hp.big⟩, owns_foot x.o f (fun j e h => hp.tb.off x.o (by decide) (e.trans (by rw [h]))), x.f.queue k (own_lt x.o), x.r⟩
theorem KM.app {ty : TypeId} (x : KM w0 w B g m T R ao c av rv T2 R2 v n L) (z : Int) (hn : n ≤ 17592186044400) :
    ∃ u W, (Builtin.append_ #[29, 29] ty #[v, .slice (some ⟨w.heap.size, 0, none⟩) 1 1]).run Tryd.prog (w.alloc (.cells #[.int .i64 z] 3)) = .ok u W ∧ KM w0 W B g m T R ao c av rv T2 R2 u (n + 1) (L ++ [z]) := by
  obtain ⟨u, W, hr, o, f, mv⟩ := app_one (ty := ty) z x.o hn x.pm.size
  have hp := x.pm
  refine ⟨u, W, hr, ⟨hp.tb.foot f (fun h => hp.tb.off x.o (by decide) h) (fun h0 ad e h => x.f h0 ad e h), hp.md.foot f x.offm (fun j e h => x.a j h e) (fun j e h => x.r j h e), hp.fa, hp.fr, hp.fm, hp.bel.trans (f.below hp.size fun j e => (owns_lt x.o e).2), hp.low, hp.big⟩, o, x.f.moved hp.tb mv, fun k e h => ?_⟩
  rcases mv k e with mv | hj
  · exact x.r k mv h
  · have := (owns_lt hp.md.rdy h).1; omega
def KsRel (w0 : World) (B g m : Nat) (T : List Th) (R : List Int) (ao : Option Addr) (c : Nat) (p : Int) (gk : Nat) (vi vo : Value) (wr : World) : Prop :=
  ∃ (i n : Nat) (av rv : Value), i + gk = T.length ∧ n ≤ i ∧ vi = .int .i64 (i : Int) ∧ KM w0 wr B g m T R ao c av rv (killN p T R i).1 (killN p T R i).2.1 vo n (killN p T R i).2.2
set_option maxRecDepth 20000 in
set_option maxHeartbeats 3200000 in
theorem step_kill (o : Nat) (id wi : Int) (w : World) (P : Pk w0 w B g m T R ao c av rv) (ho : (o : Int) % 6 = 4) (hob : o ≤ 255) (hid : -128 ≤ id ∧ id ≤ 127) :
    Calls Tryd.prog 6 #[.pointer (some ⟨m, 0, none⟩), .pointer (some ⟨g, 0, none⟩), .agg #[.int .u8 (o : Int), .int .i8 id, .int .i64 wi]] w fun e w' => StepEnd w0 B g m (killN id T R T.length).1 (killN id T R T.length).2.1 e w' := by
  obtain ⟨X, hX⟩ : ∃ X, w.alloc (.cells #[.int .u8 (o : Int), .int .i8 id, .int .i64 wi] 39) = X := ⟨_, rfl⟩
  have pX : Pk w0 X B g m T R ao c av rv := hX ▸ P.grow (below_alloc w _)
  have aX : ActAt X w.heap.size (o : Int) id wi := hX ▸ act_new w _ _ _
  obtain ⟨d0, d1, d2⟩ : _ ∧ _ ∧ _ := ⟨aX.c0, aX.c1, aX.c2⟩
  have HP := hide pX
  obtain ⟨y, hy⟩ : ∃ y, (getF T id).s = y := ⟨_, rfl⟩
  have HY := hide hy
  have HKO := hide (killN_out id T R 64 pX.inv.few)
  obtain ⟨Z, hZ⟩ : ∃ Z, killN id T R T.length = Z := ⟨_, rfl⟩
  rw [hZ] at HKO
  rw [hZ]
  have HZ := hide hZ
  obtain ⟨Tz, Rz, Wz⟩ := Z
  simp only
  have HKM : Hid (KM w0 X B g m T R ao c av rv T R (.slice none 0 0) 0 []) := ⟨pX.pm, owns_nil _ _ _ _, (fun _ _ _ h => by cases h), (fun _ h => by cases h)⟩
  have c0 := pX.pm.md.c0
  obtain ⟨aa, ac, rfl, hac1, hac2⟩ := pX.pm.md.form
  obtain ⟨n, hn⟩ : ∃ n, T.length = n := ⟨_, rfl⟩
  rw [hn] at c0 hac1
  have HN := hide hn
  have hn64 : n ≤ 64 := by rw [← hn]; exact pX.inv.few
  clear P pX aX hy hZ hn
  go_enter Tryd.func6, Tryd.ntmps6
  go_wp2_with fail
  refine (state_any id _ HP.out.pm.md).mono ?_; rintro e w1 ⟨rfl, rfl⟩
  rw [HY.out]
  go_wp2_with fail
  simp only [ho]
  go_loopg [155, 15] n (fun gk vi vo wr => KsRel w0 B g m T R ao c id gk vi vo wr)
  case atStart => exact ⟨0, 0, _, _, by have := HN.out; omega, Nat.le_refl _, rfl, HKM.out⟩
  case round =>
    clear HKM d0 d1 d2 c0
    obtain ⟨i, q, av1, rv1, hi, hq, rfl, km⟩ := hrel
    rw [HN.out] at hi
    have HM := hide km
    have HI := hide hi
    clear km
    cases gk with
    | zero =>
      obtain rfl : i = n := by omega
      have hlt : ¬ ((i : Int) < (i : Int)) := by omega
      rw [← HN.out, HZ.out] at HM
      simp only at HM
      obtain ⟨oo, oc, rfl, ll⟩ := owns_lies HM.out.o
      clear hi ll
      go_wp2_with fail
      refine (kill_any id _ HM.out.pm.tb HP.out.inv).mono ?_; rintro e w5 ⟨a5, c5, rfl, n5, _, h5⟩
      rw [HKO.out] at n5 h5 ⊢
      simp only at n5 h5 ⊢
      obtain ⟨a6, c6, k6⟩ := HM.out.table h5
      have H6 := hide k6
      obtain ⟨x8, y8, e8, l8⟩ := owns_lies k6.o
      cases e8
      have HN8 := hide (show Nums w5 oo q oc Wz from l8)
      have HN5 := hide n5
      obtain ⟨wl, hwl⟩ : ∃ wl, Wz.length = wl := ⟨_, rfl⟩
      rw [hwl] at HN5 ⊢
      clear n5 h5 k6 l8 hwl
      go_wp2_with fail
      refine (same_any _ _ _ _ _ _ Wz Wz _ HN5.out HN8.out).mono ?_; rintro e w6 ⟨rfl, b6⟩
      rw [decide_eq_true (rfl : Wz = Wz)]
      have H7 := hide (H6.out.grow b6).pm
      clear b6
      go_wp2
      go_ret
      exact ⟨rfl, _, _, _, _, H7.out⟩
    | succ g1 =>
      have hlt : (i : Int) < (n : Int) := by omega
      have hin : i < n := by omega
      have HIi := hide (HP.out.inv.kill id i)
      have hl := killN_len id T R i
      obtain ⟨S, hS⟩ : ∃ S, killN id T R i = S := ⟨_, rfl⟩
      have HS := hide hS
      rw [hS] at HM HIi hl
      obtain ⟨Ti, Ri, Wi⟩ := S
      simp only at HM HIi hl
      rw [HN.out] at hl
      have hst := HIi.out.st i (by omega)
      obtain ⟨h, hc, rfl, hhc, hhl, e0, e1, e2, _⟩ := HM.out.pm.md.elem i (by omega)
      have f0 := HM.out.pm.md.c0
      obtain ⟨y, hy⟩ : ∃ y, thd Ti i = y := ⟨_, rfl⟩
      rw [hy] at hst e0 e1 e2
      rw [hl] at f0 hhl
      obtain ⟨yp, ys, yu⟩ := y
      simp only at hst e0 e1 e2
      have HTY := hide hy
      have HST := hide hst
      have HLI : Hid (i < Ti.length) := by show _ < _; omega
      clear hS hy hi hl hst
      by_cases hyp : id = yp
      · subst hyp
        by_cases h3 : ys = 3
        · have HN1 : Hid (killN id T R (i + 1) = (Ti, Ri, Wi)) := by
            show _ = _
            have := killN_no (p := id) (T := T) (R := R) (k := i) (by rw [HS.out]; simp only; rw [HTY.out]; simp only; exact fun hh => by omega)
            rw [HS.out] at this; exact this
          go_wp2
          go_roundg g1
          case measure => omega
          case rel => exact ⟨i + 1, q, _, _, by have := HI.out; have := HN.out; omega, by omega, by go_num, by rw [HN1.out]; exact HM.out⟩
        · have HN1 : Hid (killN id T R (i + 1) = (setT Ti i 3 0, turnR Ri (i : Int) 3, Wi ++ [(i : Int)])) := by
            show _ = _
            have := killN_yes (p := id) (T := T) (R := R) (k := i) (by rw [HS.out]; simp only; rw [HTY.out]; simp only; exact ⟨trivial, by have := HST.out; omega⟩)
            rw [HS.out] at this; exact this
          have hs3 : (ys != 3) = true := by simpa using h3
          clear h3
          go_wp2_with fail
          refine (turn_any i 3 0 _ HM.out.pm.md HLI.out (Nat.le_trans HIi.out.len HIi.out.few) HM.out.pm.size).mono ?_; rintro e w3 ⟨rfl, h3⟩
          obtain ⟨av3, rv3, k3⟩ := HM.out.model h3
          obtain ⟨v4, W4, hr4, k4⟩ := k3.app (ty := 29) (i : Int) (by omega)
          have HR4 := hide hr4
          have H4 := hide k4
          clear h3 k3 hr4 k4
          go_wp2_with (at_builtin; refine wpList_append_run rfl _ _ _ rfl _ _ _ _ rfl rfl HR4.out ?_)
          go_wp2
          go_roundg g1
          case measure => omega
          case rel => exact ⟨i + 1, q + 1, _, _, by have := HI.out; have := HN.out; omega, by omega, by go_num, by rw [HN1.out]; exact H4.out⟩
      · have HN1 : Hid (killN id T R (i + 1) = (Ti, Ri, Wi)) := by
          show _ = _
          have := killN_no (p := id) (T := T) (R := R) (k := i) (by rw [HS.out]; simp only; rw [HTY.out]; simp only; exact fun hh => hyp hh.1.symm)
          rw [HS.out] at this; exact this
        have hyp' : ¬ (yp = id) := fun e => hyp e.symm
        go_wp2
        go_roundg g1
        case measure => omega
        case rel => exact ⟨i + 1, q, _, _, by have := HI.out; have := HN.out; omega, by omega, by go_num, by rw [HN1.out]; exact HM.out⟩
end Go.Proofs.YtnfpldndnmbplaaDoor
