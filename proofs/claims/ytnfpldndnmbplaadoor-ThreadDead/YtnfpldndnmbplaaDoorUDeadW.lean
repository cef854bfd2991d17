/-
  The walk of ThreadDead.
-/
import Derived.Test.YtnfpldndnmbplaaDoorUStep
import Derived.Test.YtnfpldndnmbplaaDoorUAct
namespace Go.Proofs.YtnfpldndnmbplaaDoor
open Go.RowKit Go.Deep
def deadT (p : Int) : List Th := [⟨p, 3, 0⟩]
theorem dead_inv (p : Int) : Inv (deadT p) [] := ⟨(show 1 ≤ 64 by omega), List.nodup_nil, (fun j hj => by
  obtain rfl : j = 0 := by have : j < 1 := hj; omega
  exact .inr (.inr rfl)), (fun j hj e => by
  obtain rfl : j = 0 := by have : j < 1 := hj; omega
  cases e), (fun x hx => by cases hx)⟩
theorem dead_step (p : Int) (o : Nat) (wi : Int) (h : ¬ o % 6 = 0) : stepF (deadT p) [] o 0 wi = (deadT p, []) := by
  have hs : (getF (deadT p) 0).s = 3 := rfl
  unfold stepF
  rw [if_neg h, hs, if_neg (show ¬ (3 : Int) = 1 by decide), if_neg (show ¬ (3 : Int) = 2 by decide), if_neg (show ¬ ((3 : Int) = 1 ∨ (3 : Int) = 2) by decide)]
  have hk : killN 0 (deadT p) [] (deadT p).length = (deadT p, [], []) := by
    show killN 0 (deadT p) [] (0 + 1) = _
    rw [killN_no]
    · rfl
    · rintro ⟨_, h | h⟩ <;> cases h
  rw [hk]
  simp
theorem dead_made (p : Int) : setT [⟨p, 1, 0⟩] 0 3 0 = deadT p ∧ turnR [0] ((0 : Nat) : Int) 3 = [] := ⟨rfl, rfl⟩
/- a new model of one dead thread beside a table -/
theorem dead_new {w X W : World} {g a : Nat} {ao : Option Addr} {c : Nat} {p op id wi : Int} (t : Tb X g (deadT p) [] ao c) (ac : ActAt X a op id wi) (b : Below w.heap.size w X) (hg : w.heap.size ≤ g) (ha : w.heap.size ≤ a)
    (hW : ((X.alloc (.cells #[.int .i64 p, .int .i64 3, .int .i64 0] 27)).alloc (.cells #[.slice (some ⟨X.heap.size, 0, none⟩) 1 1, .slice none 0 0] 36)).setCell ⟨a, 1, none⟩ (.int .i8 0) = W) :
    PM w W w.heap.size g (X.heap.size + 1) (deadT p) [] ao c (.slice (some ⟨X.heap.size, 0, none⟩) 1 1) (.slice none 0 0) (deadT p) [] ∧ ActAt W a op 0 wi := by
  obtain ⟨Y, hY⟩ : ∃ Y, X.alloc (.cells #[.int .i64 p, .int .i64 3, .int .i64 0] 27) = Y := ⟨_, rfl⟩
  have sY : Y.heap.size = X.heap.size + 1 := by rw [← hY]; simp
  rw [hY] at hW
  obtain ⟨V, hV⟩ : ∃ V, Y.alloc (.cells #[.slice (some ⟨X.heap.size, 0, none⟩) 1 1, .slice none 0 0] 36) = V := ⟨_, rfl⟩
  rw [hV] at hW
  have bY : Below X.heap.size X Y := hY ▸ below_alloc X _
  have bV : Below Y.heap.size Y V := hV ▸ below_alloc Y _
  have bXV := below_one bY bV
  have la := lt_of_heap ac
  have lg := t.lt
  have hr : V.heap[X.heap.size]? = some (.cells #[.int .i64 p, .int .i64 3, .int .i64 0] 27 (0, 0)) := by rw [bV.block _ (by omega), ← hY]; exact heap_alloc_new _ _
  have hm : V.heap[X.heap.size + 1]? = some (.cells #[.slice (some ⟨X.heap.size, 0, none⟩) 1 1, .slice none 0 0] 36 (0, 0)) := by rw [← sY, ← hV]; exact heap_alloc_new _ _
  have f := foot_set V ⟨a, 1, none⟩ (.int .i8 0)
  rw [hW] at f
  have acV := ac.grow bXV
  have hs : X.heap.size + 1 < V.heap.size := lt_of_heap hm
  refine ⟨⟨(t.grow bXV).foot f (fun (e : g = a) => ?_) (fun h => absurd h (by decide)), ⟨(f.block _ (by omega) (fun (e : X.heap.size + 1 = a) => by omega)).trans hm, ?_, owns_nil _ _ _ _, by have := b.size; omega⟩, fun h => absurd h (by decide), fun h => absurd h (by decide), fun h => absurd h (by decide), ?_, hg, Nat.le_refl _⟩, ?_⟩
  · subst e
    obtain ⟨C, hb, _⟩ := t.box
    exact two_types ac hb (by decide) rfl
  · have hr2 := (f.block _ (by omega) (fun (e : X.heap.size = a) => by omega)).trans hr
    exact ⟨rfl, .inr ⟨X.heap.size, 1, _, rfl, b.size, hr2, Nat.le_refl _, by decide, rfl, rfl⟩⟩
  · exact (below_one b bXV).trans (f.below (Nat.le_trans b.size bXV.size) fun k (e : k = a) => by rw [e]; exact ha)
  · rw [← hW]
    have := heap_setCell_same V a 1 _ _ (.int .i8 0) acV
    exact this
def DeadRel (w : World) (g : Nat) (p : Int) (n gk : Nat) (vi : Value) (wr : World) : Prop := ∃ (i : Nat) (ao : Option Addr) (c : Nat), i + gk = n ∧ vi = .int .i64 (i : Int) ∧ Tb wr g (deadT p) [] ao c ∧ Below w.heap.size w wr
set_option maxRecDepth 20000 in
set_option maxHeartbeats 3200000 in
theorem walk_dead (ao : Option Addr) (n cap : Nat) (xs : List Ac) (p : Nat) (w : World) (ha : Acts w ao n cap xs) (hp : p ≤ 255) (hg : Glob w) :
    Calls Tryd.prog 4 #[.slice ao n cap, .int .u8 (p : Int)] w fun e w' => e = .returned (.bool true) ∧ Below w.heap.size w w' := by
  have HA := hide ha
  have HG := hide hg
  have hcap : cap ≤ 9223372036854775807 := ha.2.2.1
  have hnc := ha.2.1
  have zv := Tryd.zeroTab
  have HT0 := hide tab_new
  obtain ⟨Z, hZ⟩ : ∃ Z, tabZ = Z := ⟨_, rfl⟩
  rw [hZ] at zv HT0
  have hfl := Tryd.fieldS
  clear ha hg hZ
  go_enter Tryd.func4, Tryd.ntmps4
  go_wp2_with fail
  refine (awake_any _).mono ?_; rintro e w1 ⟨rfl, b1⟩
  have HB1 := hide (below_one b1 (below_alloc w1 (.cells Z 32)))
  have HGG := hide b1.size
  have H1 := hide (HT0.out w1)
  clear b1 HT0
  go_wp2_with fail
  obtain ⟨g, hgg⟩ : ∃ g, w1.heap.size = g := ⟨_, rfl⟩
  rw [hgg] at HGG H1
  simp only [hgg]
  clear hgg
  refine (start_yes (p : Int) _ H1.out inv_nil (by omega) (by decide)).mono ?_; rintro e w2 ⟨rfl, a2, c2, t2, f2, _⟩
  have H2 := hide (show Tb w2 g [⟨(p : Int), 1, 0⟩] [0] a2 c2 from t2)
  have HB2 := hide (f2.low HB1.out HB1.out.size HGG.out)
  have HI2 := hide (show Inv [⟨(p : Int), 1, 0⟩] [0] from inv_nil.start (p : Int) (by decide))
  rw [show (([] : List Th).length : Int) = 0 from rfl]
  clear t2 f2
  go_wp2_with fail
  refine (exit_yes 0 _ H2.out HI2.out (show 0 < 1 by omega) (.inl rfl)).mono ?_; rintro e w3 ⟨rfl, a3, c3, t3, f3, _⟩
  rw [(dead_made (p : Int)).1, (dead_made (p : Int)).2] at t3
  have H3 := hide t3
  have HB3 := hide (f3.low HB2.out HB2.out.size HGG.out)
  clear t3 f3
  go_wp2_with fail
  go_loopg [28] n (fun gk vi wr => DeadRel w g (p : Int) n gk vi wr)
  case atStart => exact ⟨0, a3, c3, by omega, rfl, H3.out, HB3.out⟩
  case round =>
    clear H3 HB3 H1 HB1 H2 HB2 HI2
    obtain ⟨i, qo, qc, hi, rfl, t4, b4⟩ := hrel
    have H4 := hide t4
    have HB4 := hide b4
    have HI := hide hi
    clear t4 b4
    cases gk with
    | zero =>
      obtain rfl : i = n := by omega
      have hlt : ¬ ((i : Int) < (i : Int)) := by omega
      clear hi
      go_wp2_with fail
      refine (get_any 0 _ H4.out (dead_inv (p : Int)).few).mono ?_; rintro e w5 ⟨rfl, b5⟩
      rw [show getF (deadT (p : Int)) 0 = ⟨(p : Int), 3, 0⟩ from rfl]
      have H5 := hide (H4.out.grow b5)
      have HB5 := hide (below_one HB4.out b5)
      clear b5
      go_wp2_with fail
      refine (ready_any _ H5.out (by decide)).mono ?_; rintro e w6 ⟨a6, c6, rfl, n6, b6, _⟩
      rw [show ([] : List Int).length = 0 from rfl]
      have HB6 := hide (below_one HB5.out b6)
      clear n6 b6
      go_wp2
      go_ret
      exact ⟨rfl, HB6.out⟩
    | succ g1 =>
      have hlt : (i : Int) < (n : Int) := by omega
      have hin : i < n := by omega
      obtain ⟨ad, rfl⟩ := HA.out.there hin
      obtain ⟨⟨ho, hid⟩, e0, e1, e2⟩ := (HA.out.carry HB4.out (Nat.le_refl _)).2.2.2.2 ad rfl i hin
      obtain ⟨⟨o, id, wi⟩, hact⟩ : ∃ y, xs.getD i Ac.zero = y := ⟨_, rfl⟩
      rw [hact] at ho hid e0 e1 e2
      simp only at ho hid e0 e1 e2
      rw [addS _ 0] at e1
      rw [addS _ 1] at e2
      obtain ⟨X, hX⟩ : ∃ X, wr.alloc (.cells #[.int .u8 (o : Int), .int .i8 id, .int .i64 wi] 39) = X := ⟨_, rfl⟩
      have bX : Below wr.heap.size wr X := hX ▸ below_alloc wr _
      have aX : ActAt X wr.heap.size (o : Int) id wi := hX ▸ act_new wr _ _ _
      obtain ⟨d0, d1, d2⟩ : _ ∧ _ ∧ _ := ⟨aX.c0, aX.c1, aX.c2⟩
      have HX := hide (H4.out.grow bX)
      have HBX := hide (below_one HB4.out bX)
      have HAX := hide aX
      clear hact bX aX hi
      by_cases h0 : o % 6 = 0
      · have h0' : (o : Int) % 6 = 0 := by omega
        clear h0
        go_wp2
        go_roundg g1
        case measure => omega
        case rel => exact ⟨i + 1, qo, qc, by have := HI.out; omega, by go_num, HX.out, HBX.out⟩
      · obtain ⟨r, hr⟩ : ∃ r, o % 6 = r := ⟨_, rfl⟩
        have hr1 : (o : Int) % 6 = (r : Int) := by omega
        have hr0 : ¬ ((r : Int) = 0) := by omega
        have HO := hide h0
        obtain ⟨W, hW⟩ : ∃ W, ((X.alloc (.cells #[.int .i64 (p : Int), .int .i64 3, .int .i64 0] 27)).alloc (.cells #[.slice (some ⟨X.heap.size, 0, none⟩) 1 1, .slice none 0 0] 36)).setCell ⟨wr.heap.size, 1, none⟩ (.int .i8 0) = W := ⟨_, rfl⟩
        obtain ⟨pm, aw⟩ := dead_new HX.out HAX.out HBX.out HGG.out HB4.out.size hW
        have HPK : Hid (Pk w W w.heap.size g (X.heap.size + 1) (deadT (p : Int)) [] qo qc (.slice (some ⟨X.heap.size, 0, none⟩) 1 1) (.slice none 0 0)) := ⟨pm, dead_inv _, HG.out, HG.out.lt⟩
        have aV := (HAX.out.grow (below_one (below_alloc X (.cells #[.int .i64 (p : Int), .int .i64 3, .int .i64 0] 27)) (below_alloc _ (.cells #[.slice (some ⟨X.heap.size, 0, none⟩) 1 1, .slice none 0 0] 36))))
        have x1 := aV.c1
        have y1 := aV.z 1
        obtain ⟨f0, f1, f2⟩ : _ ∧ _ ∧ _ := ⟨aw.c0, aw.c1, aw.c2⟩
        clear hr h0 pm aw aV
        go_wp2_with fail
        refine (step_any o 0 wi _ HPK.out ho (by omega)).mono ?_; rintro e w7 ⟨rfl, a7, c7, av7, rv7, k7⟩
        rw [dead_step (p : Int) o wi HO.out] at k7
        have H7 := hide k7.tb
        have HB7 := hide k7.bel
        clear k7
        go_wp2
        go_roundg g1
        case measure => omega
        case rel => exact ⟨i + 1, a7, c7, by have := HI.out; omega, by go_num, H7.out, HB7.out⟩
end Go.Proofs.YtnfpldndnmbplaaDoor
