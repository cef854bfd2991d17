/-
  The walk of ThreadScript.
-/
import Derived.Test.YtnfpldndnmbplaaDoorUStep
import Derived.Test.YtnfpldndnmbplaaDoorUAct
namespace Go.Proofs.YtnfpldndnmbplaaDoor
open Go.RowKit Go.Deep
theorem eqGuardTh : Tryd.prog.eqGuardType Tryd.prog.depth 27 = false := by kernel_rfl
set_option maxHeartbeats 800000 in
theorem neq_th (g t z g' t' z' : Int) (w : World) : (binOp .neq 27 (.agg #[.int .i64 g, .int .i64 t, .int .i64 z]) (.agg #[.int .i64 g', .int .i64 t', .int .i64 z'])).run Tryd.prog w = .ok (.bool (!decide (g = g' ∧ t = t' ∧ z = z'))) w := by
  have hS : Tryd.prog.underlying 27 = some (.struct (Tryd.prog.fieldsOf 27)) := by kernel_rfl
  have hp : Tryd.prog.stoodInHeld 27 = false := by kernel_rfl
  rw [run_neq_struct, show (10000 : Nat) = 9999 + 1 from rfl, run_equalIn_agg w 9999 27 _ _ hS hp]
  simp only [Program.fieldsOf, Tryd.underlying27]
  have u1 := Tryd.underlying3
  have u2 := Tryd.underlying25
  go_simp
  by_cases h1 : g = g' <;> by_cases h2 : t = t' <;> by_cases h3 : z = z' <;> simp [h1, h2, h3]
/- a new table and a new model -/
theorem pm_new {w w1 : World} (b : Below w.heap.size w w1) : PM w ((w1.alloc (.cells tabZ 32)).alloc (.cells #[.slice none 0 0, .slice none 0 0] 36)) w.heap.size w1.heap.size (w1.heap.size + 1) [] [] none 0 (.slice none 0 0) (.slice none 0 0) [] [] := by
  obtain ⟨X, hX⟩ : ∃ X, w1.alloc (.cells tabZ 32) = X := ⟨_, rfl⟩
  have sX : X.heap.size = w1.heap.size + 1 := by rw [← hX]; simp
  have tX := tab_new w1
  have bX : Below w1.heap.size w1 X := hX ▸ below_alloc w1 _
  rw [hX] at tX ⊢
  refine ⟨tX.grow (below_alloc X _), ⟨by rw [← sX]; exact heap_alloc_new _ _, owns_nil _ _ _ _, owns_nil _ _ _ _, by have := b.size; omega⟩, fun h => absurd h (by decide), fun h => absurd h (by decide), fun h => absurd h (by decide), below_one (below_one b bX) (below_alloc X _), b.size, Nat.le_refl _⟩
def ScrRel (w : World) (B g m n gk : Nat) (vi : Value) (wr : World) : Prop := ∃ (i : Nat) (T : List Th) (R : List Int) (ao : Option Addr) (c : Nat) (av rv : Value), i + gk = n ∧ vi = .int .i64 (i : Int) ∧ PM w wr B g m T R ao c av rv T R ∧ Inv T R
def EndRel (w : World) (B g m : Nat) (T : List Th) (R : List Int) (ao : Option Addr) (c : Nat) (av rv : Value) (gk : Nat) (vi : Value) (wr : World) : Prop := ∃ j : Nat, j + gk = 68 ∧ vi = .int .i64 ((j : Int) - 2) ∧ PM w wr B g m T R ao c av rv T R
set_option maxRecDepth 20000 in
set_option maxHeartbeats 3200000 in
theorem walk_script (ao : Option Addr) (n cap : Nat) (xs : List Ac) (w : World) (ha : Acts w ao n cap xs) (hg : Glob w) :
    Calls Tryd.prog 3 #[.slice ao n cap] w fun e w' => e = .returned (.bool true) ∧ Below w.heap.size w w' := by
  have HA := hide ha
  have HG := hide hg
  have hcap : cap ≤ 9223372036854775807 := ha.2.2.1
  have hnc := ha.2.1
  have zv := Tryd.zeroTab
  have HPN := hide (fun w1 => pm_new (w := w) (w1 := w1))
  obtain ⟨Z, hZ⟩ : ∃ Z, tabZ = Z := ⟨_, rfl⟩
  rw [hZ] at zv HPN
  clear ha hg hZ
  go_enter Tryd.func3, Tryd.ntmps3
  go_wp2_with fail
  refine (awake_any _).mono ?_; rintro e w1 ⟨rfl, b1⟩
  have HP1 := hide (HPN.out w1 b1)
  clear b1 HPN
  go_wp2_with fail
  obtain ⟨g, hgg⟩ : ∃ g, w1.heap.size = g := ⟨_, rfl⟩
  obtain ⟨m, hmm⟩ : ∃ m, g + 1 = m := ⟨_, rfl⟩
  rw [hgg, hmm] at HP1
  simp only [hgg, hmm]
  clear hgg hmm
  go_loopg [17] n (fun gk vi wr => ScrRel w w.heap.size g m n gk vi wr)
  case atStart => exact ⟨0, [], [], none, 0, _, _, by omega, rfl, HP1.out, inv_nil⟩
  case round =>
    clear HP1
    obtain ⟨i, T, R, qo, qc, av, rv, hi, rfl, pm, inv⟩ := hrel
    have HP := hide pm
    have HINV := hide inv
    have HI := hide hi
    clear pm inv
    cases gk with
    | zero =>
      as_aux_lemma =>
        obtain rfl : i = n := by omega
        have hlt : ¬ ((i : Int) < (i : Int)) := by omega
        clear hi
        go_wp2_with fail
        go_loopg [7] 68 (fun gk vi wq => EndRel w w.heap.size g m T R qo qc av rv gk vi wq)
        case atStart => exact ⟨0, by omega, rfl, HP.out⟩
        case round =>
          rename World => wq
          clear HP
          obtain ⟨j, hj, rfl, pm⟩ := hrel
          have HP := hide pm
          have HJ := hide hj
          clear pm
          cases gk with
          | zero =>
            obtain rfl : j = 68 := by omega
            go_wp2
            go_ret
            exact ⟨rfl, HP.out.bel⟩
          | succ g1 =>
            have hgu := eqGuardTh
            obtain ⟨z, hz⟩ : ∃ z : Int, (j : Int) - 2 = z := ⟨_, rfl⟩
            have hz66 : z < 66 := by omega
            have hzl : -2 ≤ z := by omega
            have HZ := hide hz
            rw [hz]
            clear hz hj
            by_cases h0 : z < 0
            · have HY : Hid (getF T z = ⟨0, 0, 0⟩) := getF_neg T z h0
              have HPX : Hid (PM w (wq.alloc (.cells #[.int .i64 0, .int .i64 0, .int .i64 0] 27)).drew w.heap.size g m T R qo qc av rv T R) := HP.out.grow (below_drewN (below_alloc wq _) 1)
              have HC : Hid ((wq.alloc (.cells #[.int .i64 0, .int .i64 0, .int .i64 0] 27)).drew.cell? ⟨wq.heap.size, 0, none⟩ = some (.int .i64 0) ∧ (wq.alloc (.cells #[.int .i64 0, .int .i64 0, .int .i64 0] 27)).drew.cell? ⟨wq.heap.size, 1, none⟩ = some (.int .i64 0) ∧ (wq.alloc (.cells #[.int .i64 0, .int .i64 0, .int .i64 0] 27)).drew.cell? ⟨wq.heap.size, 2, none⟩ = some (.int .i64 0)) := by refine ⟨?_, ?_, ?_⟩ <;> simp
              have hne : ∀ W, (binOp .neq 27 (.agg #[.int .i64 0, .int .i64 0, .int .i64 0]) (.agg #[.int .i64 0, .int .i64 0, .int .i64 0])).run Tryd.prog W = .ok (.bool false) W := fun W => by rw [neq_th]; simp
              go_wp2_with fail
              go_region_held (fun w' => w'.cell? ⟨wq.heap.size, 0, none⟩ = some (.int .i64 0) ∧ w'.cell? ⟨wq.heap.size, 1, none⟩ = some (.int .i64 0) ∧ w'.cell? ⟨wq.heap.size, 2, none⟩ = some (.int .i64 0)) (first | exact HC.out | exact HC9.out) (first | (go_at_call 9; refine (get_any z _ HPX.out.tb HINV.out.few).mono ?_; rintro e w9 ⟨rfl, b9⟩; rw [HY.out]; simp only; have H9 := hide (HPX.out.grow b9); have HC9 : Hid (w9.cell? ⟨wq.heap.size, 0, none⟩ = some (.int .i64 0) ∧ w9.cell? ⟨wq.heap.size, 1, none⟩ = some (.int .i64 0) ∧ w9.cell? ⟨wq.heap.size, 2, none⟩ = some (.int .i64 0)) := ⟨(b9.cell (lt_of_cell HC.out.1)).trans HC.out.1, (b9.cell (lt_of_cell HC.out.2.1)).trans HC.out.2.1, (b9.cell (lt_of_cell HC.out.2.2)).trans HC.out.2.2⟩; clear b9))
              go_wp2
              go_roundg g1
              case measure => omega
              case rel => exact ⟨j + 1, by have := HJ.out; omega, by have := HZ.out; show _ = Value.int .i64 (((j + 1 : Nat) : Int) - 2); congr 1; omega, H9.out⟩
            · obtain ⟨k, rfl⟩ : ∃ k : Nat, z = (k : Int) := ⟨z.toNat, by omega⟩
              by_cases hk : k < T.length
              · obtain ⟨h, ac, rfl, hac, hl, e0, e1, e2, _⟩ := (HP.out.md.grow (below_alloc wq (.cells #[.int .i64 0, .int .i64 0, .int .i64 0] 27))).elem k hk
                have c0 := (HP.out.md.grow (below_alloc wq (.cells #[.int .i64 0, .int .i64 0, .int .i64 0] 27))).c0
                obtain ⟨⟨yp, ys, yu⟩, hy⟩ : ∃ y, thd T k = y := ⟨_, rfl⟩
                have HY := hide ((getF_nat T k).trans hy)
                rw [hy] at e0 e1 e2
                simp only at e0 e1 e2
                obtain ⟨tn, htn⟩ : ∃ tn, T.length = tn := ⟨_, rfl⟩
                rw [htn] at c0 hk hl
                have hlt : (k : Int) < (tn : Int) := by omega
                have HPX : Hid (PM w (wq.alloc (.cells #[.int .i64 yp, .int .i64 ys, .int .i64 yu] 27)).drew w.heap.size g m T R qo qc (.slice (some ⟨h, 0, none⟩) T.length ac) rv T R) := HP.out.grow (below_drewN (below_alloc wq _) 1)
                have HC : Hid ((wq.alloc (.cells #[.int .i64 yp, .int .i64 ys, .int .i64 yu] 27)).drew.cell? ⟨wq.heap.size, 0, none⟩ = some (.int .i64 yp) ∧ (wq.alloc (.cells #[.int .i64 yp, .int .i64 ys, .int .i64 yu] 27)).drew.cell? ⟨wq.heap.size, 1, none⟩ = some (.int .i64 ys) ∧ (wq.alloc (.cells #[.int .i64 yp, .int .i64 ys, .int .i64 yu] 27)).drew.cell? ⟨wq.heap.size, 2, none⟩ = some (.int .i64 yu)) := by refine ⟨?_, ?_, ?_⟩ <;> simp
                clear hy htn
                have hne : ∀ W, (binOp .neq 27 (.agg #[.int .i64 yp, .int .i64 ys, .int .i64 yu]) (.agg #[.int .i64 yp, .int .i64 ys, .int .i64 yu])).run Tryd.prog W = .ok (.bool false) W := fun W => by rw [neq_th]; simp
                go_wp2_with fail
                go_region_held (fun w' => w'.cell? ⟨wq.heap.size, 0, none⟩ = some (.int .i64 yp) ∧ w'.cell? ⟨wq.heap.size, 1, none⟩ = some (.int .i64 ys) ∧ w'.cell? ⟨wq.heap.size, 2, none⟩ = some (.int .i64 yu)) (first | exact HC.out | exact HC9.out) (first | (go_at_call 9; refine (get_any (k : Int) _ HPX.out.tb HINV.out.few).mono ?_; rintro e w9 ⟨rfl, b9⟩; rw [HY.out]; simp only; have H9 := hide (HPX.out.grow b9); have HC9 : Hid (w9.cell? ⟨wq.heap.size, 0, none⟩ = some (.int .i64 yp) ∧ w9.cell? ⟨wq.heap.size, 1, none⟩ = some (.int .i64 ys) ∧ w9.cell? ⟨wq.heap.size, 2, none⟩ = some (.int .i64 yu)) := ⟨(b9.cell (lt_of_cell HC.out.1)).trans HC.out.1, (b9.cell (lt_of_cell HC.out.2.1)).trans HC.out.2.1, (b9.cell (lt_of_cell HC.out.2.2)).trans HC.out.2.2⟩; clear b9))
                go_wp2
                go_roundg g1
                case measure => omega
                case rel => exact ⟨j + 1, by have := HJ.out; omega, by have := HZ.out; show _ = Value.int .i64 (((j + 1 : Nat) : Int) - 2); congr 1; omega, H9.out⟩
              · have HY : Hid (getF T (k : Int) = ⟨0, 0, 0⟩) := (getF_nat T k).trans (thd_ge T k (by omega))
                obtain ⟨aa, ac, rfl, hl, hac⟩ := HP.out.md.form
                have c0 := (HP.out.md.grow (below_alloc wq (.cells #[.int .i64 0, .int .i64 0, .int .i64 0] 27))).c0
                obtain ⟨tn, htn⟩ : ∃ tn, T.length = tn := ⟨_, rfl⟩
                rw [htn] at c0 hk hl
                have hlt : ¬ ((k : Int) < (tn : Int)) := by omega
                have HPX : Hid (PM w (wq.alloc (.cells #[.int .i64 0, .int .i64 0, .int .i64 0] 27)).drew w.heap.size g m T R qo qc (.slice aa T.length ac) rv T R) := HP.out.grow (below_drewN (below_alloc wq _) 1)
                have HC : Hid ((wq.alloc (.cells #[.int .i64 0, .int .i64 0, .int .i64 0] 27)).drew.cell? ⟨wq.heap.size, 0, none⟩ = some (.int .i64 0) ∧ (wq.alloc (.cells #[.int .i64 0, .int .i64 0, .int .i64 0] 27)).drew.cell? ⟨wq.heap.size, 1, none⟩ = some (.int .i64 0) ∧ (wq.alloc (.cells #[.int .i64 0, .int .i64 0, .int .i64 0] 27)).drew.cell? ⟨wq.heap.size, 2, none⟩ = some (.int .i64 0)) := by refine ⟨?_, ?_, ?_⟩ <;> simp
                clear htn
                have hne : ∀ W, (binOp .neq 27 (.agg #[.int .i64 0, .int .i64 0, .int .i64 0]) (.agg #[.int .i64 0, .int .i64 0, .int .i64 0])).run Tryd.prog W = .ok (.bool false) W := fun W => by rw [neq_th]; simp
                go_wp2_with fail
                go_region_held (fun w' => w'.cell? ⟨wq.heap.size, 0, none⟩ = some (.int .i64 0) ∧ w'.cell? ⟨wq.heap.size, 1, none⟩ = some (.int .i64 0) ∧ w'.cell? ⟨wq.heap.size, 2, none⟩ = some (.int .i64 0)) (first | exact HC.out | exact HC9.out) (first | (go_at_call 9; refine (get_any (k : Int) _ HPX.out.tb HINV.out.few).mono ?_; rintro e w9 ⟨rfl, b9⟩; rw [HY.out]; simp only; have H9 := hide (HPX.out.grow b9); have HC9 : Hid (w9.cell? ⟨wq.heap.size, 0, none⟩ = some (.int .i64 0) ∧ w9.cell? ⟨wq.heap.size, 1, none⟩ = some (.int .i64 0) ∧ w9.cell? ⟨wq.heap.size, 2, none⟩ = some (.int .i64 0)) := ⟨(b9.cell (lt_of_cell HC.out.1)).trans HC.out.1, (b9.cell (lt_of_cell HC.out.2.1)).trans HC.out.2.1, (b9.cell (lt_of_cell HC.out.2.2)).trans HC.out.2.2⟩; clear b9))
                go_wp2
                go_roundg g1
                case measure => omega
                case rel => exact ⟨j + 1, by have := HJ.out; omega, by have := HZ.out; show _ = Value.int .i64 (((j + 1 : Nat) : Int) - 2); congr 1; omega, H9.out⟩
    | succ g1 =>
      have hlt : (i : Int) < (n : Int) := by omega
      have hin : i < n := by omega
      obtain ⟨ad, rfl⟩ := HA.out.there hin
      obtain ⟨⟨ho, hid⟩, e0, e1, e2⟩ := (HA.out.carry HP.out.bel (Nat.le_refl _)).2.2.2.2 ad rfl i hin
      obtain ⟨⟨o, id, wi⟩, hact⟩ : ∃ y, xs.getD i Ac.zero = y := ⟨_, rfl⟩
      rw [hact] at ho hid e0 e1 e2
      simp only at ho hid e0 e1 e2
      rw [addS _ 0] at e1
      rw [addS _ 1] at e2
      obtain ⟨X, hX⟩ : ∃ X, wr.alloc (.cells #[.int .u8 (o : Int), .int .i8 id, .int .i64 wi] 39) = X := ⟨_, rfl⟩
      have bX : Below wr.heap.size wr X := hX ▸ below_alloc wr _
      have aX : ActAt X wr.heap.size (o : Int) id wi := hX ▸ act_new wr _ _ _
      obtain ⟨d0, d1, d2⟩ : _ ∧ _ ∧ _ := ⟨aX.c0, aX.c1, aX.c2⟩
      have HPX : Hid (Pk w X.drew w.heap.size g m T R qo qc av rv) := ⟨(HP.out.grow bX).grow (below_d X 1), HINV.out, HG.out, HG.out.lt⟩
      have HIN := hide (HINV.out.step o id wi)
      obtain ⟨S, hS⟩ : ∃ S, stepF T R o id wi = S := ⟨_, rfl⟩
      rw [hS] at HIN
      have HS := hide hS
      obtain ⟨T5, R5⟩ := S
      simp only at HIN
      have HFEW := hide (Nat.le_trans HIN.out.len HIN.out.few)
      clear hact bX aX HP hS hi
      go_wp2_with fail
      go_region_with (first | (go_at_call 6; refine (step_any o id wi _ HPX.out ho hid).mono ?_; rintro e w5 ⟨rfl, a5, c5, av5, rv5, k5⟩; rw [HS.out] at k5; simp only at k5; obtain ⟨ra, rcc, rfl, n5⟩ := k5.md.nums; have q1 := k5.md.c1; have H5 := hide k5; have HN5 := hide n5; clear k5 n5) | (go_at_call 8; refine (ready_any _ H5.out.tb HFEW.out).mono ?_; rintro e w6 ⟨a6, c6, rfl, n6, b6, _⟩; have H6 := hide (H5.out.grow b6); have q2 := H6.out.md.c1; have HN6 := hide n6; have HN56 := hide (HN5.out.carry b6); clear n6 b6) | (go_at_call 7; refine (same_any _ _ _ _ _ _ R5 R5 _ HN6.out HN56.out).mono ?_; rintro e w7 ⟨rfl, b7⟩; rw [decide_eq_true (rfl : R5 = R5)]; have H7 := hide (H6.out.grow b7); clear b7))
      · go_wp2
        go_roundg g1
        case measure => omega
        case rel => exact ⟨i + 1, T5, R5, _, _, _, _, by have := HI.out; omega, by go_num, H7.out, HIN.out⟩
      · go_wp2
        go_roundg g1
        case measure => omega
        case rel => exact ⟨i + 1, T5, R5, _, _, _, _, by have := HI.out; omega, by go_num, H7.out, HIN.out⟩
end Go.Proofs.YtnfpldndnmbplaaDoor
