/-
  What timer's Tick answers, as a contract.
-/
import Derived.Test.YtifmeljdkohkkaaDoorYDeeds
import Derived.Laws.MakeOwn
namespace Go.Proofs.YtifmeljdkohkkaaDoor
open Go.RowKit
variable {B g : Nat} {now : Int} {rv : Value} {L : List Al}
def TickRel (V : World) (L : List Al) (T : Int) (n gk : Nat) (vi vr vs : Value) (wr : World) : Prop :=
  ∃ i a b : Nat, i + gk = n ∧ vi = .int .i64 (i : Int) ∧ a ≤ i ∧ b ≤ i ∧ wr.ownsRow V.heap.size 3 1 vr a (cellsI (ringF (L.take i) T)) ∧ wr.ownsRow V.heap.size 46 2 vs b (cellsY (restF (L.take i) T)) ∧ Below V.heap.size V wr
def TickEnd (w : World) (B g : Nat) (T : Int) (L : List Al) (e : Ending) (w' : World) : Prop := ∃ v, e = .returned v ∧ w'.ownsRow w.heap.size 3 1 v (ringF L T).length (cellsI (ringF L T)) ∧ TmEnd w B g T (restF L T) w'
set_option maxRecDepth 20000 in
set_option maxHeartbeats 1600000 in
theorem tick_any (w : World) (hT : Tm w B g now rv L) (hl : L.length ≤ 1000) (hnow : 0 ≤ now ∧ now ≤ 4611686018427387904) :
    Calls Tryd.prog 10 #[.pointer (some ⟨g, 0, none⟩)] w fun e w' => TickEnd w B g (now + 1) L e w' := by
  obtain ⟨T, hTT⟩ : ∃ T, now + 1 = T := ⟨_, rfl⟩
  have hw : IntKind.i64.wrap (now + 1) = T := by rw [IntKind.wrap_i64]; omega
  obtain ⟨V, hV⟩ : ∃ V, w.setCell ⟨g, 0, none⟩ (.int .i64 T) = V := ⟨_, rfl⟩
  have hTV : Tm V B g T rv L := by rw [← hV]; exact hT.tick T
  have HFV : Hid (Foot (fun j => j = g) w V) := by show Foot _ _ _; rw [← hV]; exact foot_set w ⟨g, 0, none⟩ _
  have HSV : Hid (V.heap.size = w.heap.size) := by show _ = _; rw [← hV]; simp [World.setCell]
  have HTV := hide hTV
  obtain ⟨ao, cap, rfl, hnc, hcap⟩ := hTV.row.form
  obtain ⟨n, hn⟩ : ∃ n, L.length = n := ⟨_, rfl⟩
  have k0 := hT.c0
  have kz := hT.z 0
  have j0 := hTV.c0
  have j1 := hTV.c1
  rw [hn] at hnc j1 hl
  have HLEN := hide hn
  obtain ⟨i0, hi0, hz0, hz1, hz2⟩ := info_parts Tryd.infoY
  obtain ⟨w2, hmk, hmo, hmg⟩ := run_make_own (P := Tryd.prog) V V.heap.size 25 46 i0 _ 2 Tryd.underlying25 hi0 hz0 hz1 .i64 .i64 n (by rw [hz2]; omega) (by unfold maxLen; omega) (Nat.le_refl _)
  have hb2 : Below V.heap.size V w2 := (grown_foot hmg).below (Nat.le_refl _) (fun k e => by cases e)
  have l1 : w2.cell? ⟨g, 1, none⟩ = some (.slice ao n cap) := by rw [hb2.cell hTV.lt, j1]
  have HS : Hid (TickRel V L T n n (.int .i64 0) (.slice none 0 0) (.slice (some ⟨V.heap.size, 0, none⟩) 0 n) w2) := ⟨0, 0, 0, by omega, rfl, Nat.le_refl _, Nat.le_refl _, owns_nil _ _ _ _, hmo, hb2⟩
  have HW := hide hw
  rw [hTT]
  clear hT hTV hn hmo hmg hb2 hi0 hz0 hz1 hz2 hTT
  go_enter Tryd.func10, Tryd.ntmps10
  go_wp2
  go_loopg [25, 3, 4] n (fun gk vi vr vs wr => TickRel V L T n gk vi vr vs wr)
  case atStart => exact HS.out
  case round =>
    clear HS k0 kz j0 j1 l1 hmk hV hw
    obtain ⟨i, a, b, hi, rfl, ha, hb, hr, hs, hbl⟩ := hrel
    have HR := hide hr
    have HS := hide hs
    have HB := hide hbl
    have HI := hide hi
    obtain ⟨ro, rc, rfl⟩ := owns_slice hr
    obtain ⟨so, sc, rfl⟩ := owns_slice hs
    clear hr hs hbl
    have T1 := HTV.out.grow HB.out
    have m0 := T1.c0
    have m1 := T1.c1
    have mz := T1.z 1
    cases gk with
    | zero =>
      obtain rfl : i = n := by omega
      have hlt : ¬ ((i : Int) < (i : Int)) := by omega
      clear hi T1
      go_wp2
      go_ret
      have e1 : L.take i = L := List.take_of_length_le (by have := HLEN.out; omega)
      have r1 := HR.out
      have s1 := HS.out
      rw [e1] at r1 s1
      have el : a = (ringF L T).length := by have := r1.1; rw [cellsI_len] at this; omega
      have hg : g < V.heap.size := HTV.out.lt
      obtain ⟨v', hT', hf'⟩ := HTV.out.put_end s1 HTV.out.size HB.out
      refine ⟨_, rfl, ?_, v', hT', HFV.out.then hf'⟩
      rw [← el, ← HSV.out]
      refine owns_foot r1 (foot_set wr ⟨g, 1, none⟩ _) (fun k e (e2 : k = g) => ?_)
      have := (owns_lt r1 e).2
      omega
    | succ g1 =>
      have hlt : (i : Int) < (n : Int) := by omega
      obtain ⟨h, ac, e, c0, c1, _⟩ := T1.row.elem i (by have := HLEN.out; omega)
      obtain ⟨rfl, rfl⟩ : ao = some ⟨h, 0, none⟩ ∧ cap = ac := by cases e; exact ⟨rfl, rfl⟩
      have HSR := hide (ringF_snoc L i T (by have := HLEN.out; omega))
      have HSS := hide (restF_snoc L i T (by have := HLEN.out; omega))
      obtain ⟨y, hy⟩ : ∃ y, L.getD i Al.zero = y := ⟨_, rfl⟩
      rw [hy] at c0 c1 HSR HSS
      clear hy e
      obtain ⟨X, hX⟩ : ∃ X, wr.alloc (.cells #[.int .i64 y.i, .int .i64 y.t] 46) = X := ⟨_, rfl⟩
      have belX : Below wr.heap.size wr X := hX ▸ below_alloc wr _
      have d0 : ∀ q, (X.drewN q).cell? ⟨wr.heap.size, 0, none⟩ = some (.int .i64 y.i) := fun q => by show X.cell? _ = _; rw [← hX]; simp
      have d1 : ∀ q, (X.drewN q).cell? ⟨wr.heap.size, 1, none⟩ = some (.int .i64 y.t) := fun q => by show X.cell? _ = _; rw [← hX]; simp
      have x0 : ∀ q, (X.drewN q).cell? ⟨g, 0, none⟩ = some (.int .i64 T) := fun q => (T1.grow belX).c0
      have HBX := hide (HB.out.trans (belX.mono HB.out.size))
      have HRX := hide (owns_grow HR.out belX)
      have HSX := hide (owns_grow HS.out belX)
      have HD0 := hide d0
      have HD1 := hide d1
      clear T1 belX hi m0 m1 mz
      obtain ⟨q, hq⟩ : ∃ q, (y.t == T) = q := ⟨_, rfl⟩
      have HQ := hide hq
      go_wp2_with fail
      go_quiet (fail)
      have r0 : (X.drewN nq).ownsRow V.heap.size 3 1 (.slice ro a rc) a (cellsI (ringF (L.take i) T)) := HRX.out
      have s0 : (X.drewN nq).ownsRow V.heap.size 46 2 (.slice so b sc) b (cellsY (restF (L.take i) T)) := HSX.out
      have b0 : Below V.heap.size V (X.drewN nq) := below_drewN HBX.out nq
      have d0 := HD0.out nq
      have d1 := HD1.out nq
      obtain ⟨Y, hY⟩ : ∃ Y, X.drewN nq = Y := ⟨_, rfl⟩
      rw [hY] at r0 s0 b0 d0 d1 ⊢
      have HRY := hide r0
      have HSY := hide s0
      have HBY := hide b0
      clear hY HRX HSX HBX HD0 HD1 hq hX x0
      cases q with
      | true =>
        obtain ⟨v', w', hr, ho', hf, _⟩ := app_one (ty := 28) y.i r0 (by omega) b0.size
        obtain ⟨co, cc, rfl⟩ := owns_slice ho'
        have HRUN := hide hr
        have HO' := hide ho'
        have HB' := hide (b0.trans (hf.below b0.size (fun j e => (owns_lt r0 e).2)))
        have HS' := hide (owns_foot s0 hf (fun k e1 e2 => by
          obtain ⟨_, h1⟩ := owns_type s0 e1
          obtain ⟨_, h2⟩ := owns_type r0 e2
          exact two_types h1 h2 (by decide) rfl))
        clear r0 s0 b0 hr ho' hf d1 HRY HSY HBY
        go_wp2_with (at_builtin; refine wpList_append_run rfl _ _ _ rfl _ _ _ _ rfl rfl HRUN.out ?_)
        go_wp2
        go_roundg g1
        case measure => omega
        case rel =>
          refine ⟨i + 1, a + 1, b, by have := HI.out; omega, by go_num, by omega, by omega, ?_, ?_, HB'.out⟩
          · rw [HSR.out, if_pos HQ.out]; exact HO'.out
          · rw [HSS.out, if_pos HQ.out, List.append_nil]; exact HS'.out
      | false =>
        obtain ⟨v', w', hr, ho', hf, _⟩ := app_al (ty := 25) y.i y.t s0 (by omega) b0.size
        obtain ⟨co, cc, rfl⟩ := owns_slice ho'
        have HRUN := hide hr
        have HO' := hide ho'
        have HB' := hide (b0.trans (hf.below b0.size (fun j e => (owns_lt s0 e).2)))
        have HR' := hide (owns_foot r0 hf (fun k e1 e2 => by
          obtain ⟨_, h1⟩ := owns_type r0 e1
          obtain ⟨_, h2⟩ := owns_type s0 e2
          exact two_types h1 h2 (by decide) rfl))
        clear r0 s0 b0 hr ho' hf HRY HSY HBY
        go_wp2_with (at_builtin; refine wpList_append_run rfl _ _ _ rfl _ _ _ _ rfl rfl HRUN.out ?_)
        go_wp2
        go_roundg g1
        case measure => omega
        case rel =>
          refine ⟨i + 1, a, b + 1, by have := HI.out; omega, by go_num, by omega, by omega, ?_, ?_, HB'.out⟩
          · rw [HSR.out, if_neg (by rw [HQ.out]; decide), List.append_nil]; exact HR'.out
          · rw [HSS.out, if_neg (by rw [HQ.out]; decide)]; exact HO'.out
end Go.Proofs.YtifmeljdkohkkaaDoor
