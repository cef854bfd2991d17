/-
  What a table's Start answers, as a contract.
-/
import Derived.Test.YtnfpldndnmbplaaDoorUDeeds
namespace Go.Proofs.YtnfpldndnmbplaaDoor
open Go.RowKit
variable {g : Nat} {T : List Th} {R : List Int} {ro : Option Addr} {rc : Nat}
theorem Tb.three {w : World} (x : Tb w g T R ro rc) (k : Nat) (hk : k < 64) (T' : List Th) (hT : ∀ j, j ≠ k → thd T' j = thd T j) (p s u : Int) (he : thd T' k = ⟨p, s, u⟩) :
    ∃ Y, ((w.setCell ⟨g, k * 3, none⟩ (.int .i64 p)).setCell ⟨g, k * 3 + 1, none⟩ (.int .i64 s)).setCell ⟨g, k * 3 + 2, none⟩ (.int .i64 u) = Y ∧ Tb Y g T' R ro rc ∧ Foot (fun j => j = g) w Y := by
  obtain ⟨C, h, c⟩ := x.box
  have f := ((foot_set w ⟨g, k * 3, none⟩ (.int .i64 p)).then (foot_set _ ⟨g, k * 3 + 1, none⟩ (.int .i64 s))).then (foot_set _ ⟨g, k * 3 + 2, none⟩ (.int .i64 u))
  have h1 := heap_setCell_same w g (k * 3) _ _ (.int .i64 p) h
  have h2 := heap_setCell_same _ g (k * 3 + 1) _ _ (.int .i64 s) h1
  have h3 := heap_setCell_same _ g (k * 3 + 2) _ _ (.int .i64 u) h2
  have hc := c.put T' k hk hT
  rw [he] at hc
  exact ⟨_, rfl, ⟨⟨_, h3, hc⟩, x.row.foot f (fun _ ad e => x.far ad e), x.far⟩, f⟩
theorem start_neg (p : Int) (w : World) (x : Tb w g T R ro rc) (hp : p < 0) :
    Calls Tryd.prog 10 #[.pointer (some ⟨g, 0, none⟩), .int .i64 p] w fun e w' => BackT w g T R ro R.length (.tuple #[.int .i64 0, erN 4]) e w' := by
  have HE := hide (x.same (Below.refl _ _))
  clear x
  rw [erN_not (by decide)]
  go_enter Tryd.func10, Tryd.ntmps10
  go_wp2
  go_ret2
  exact ⟨rfl, HE.out⟩
def StartRel (w : World) (n gk : Nat) (vi : Value) (wr : World) : Prop := ∃ i : Nat, i + gk = n ∧ vi = .int .i64 (i : Int) ∧ Below w.heap.size w wr
set_option maxRecDepth 20000 in
set_option maxHeartbeats 1600000 in
theorem start_full (p : Int) (w : World) (x : Tb w g T R ro rc) (hI : Inv T R) (hp : ¬ p < 0) (hl : T.length = 64) :
    Calls Tryd.prog 10 #[.pointer (some ⟨g, 0, none⟩), .int .i64 p] w fun e w' => BackT w g T R ro R.length (.tuple #[.int .i64 0, erN 5]) e w' := by
  have HX := hide x
  obtain ⟨A, hA, hAr⟩ := x.arr
  have HA := hide hA
  have HR := hide hAr
  have HI := hide hI
  have HL := hide hl
  clear x hA hAr hI hl
  rw [erN_not (by decide)]
  go_enter Tryd.func10, Tryd.ntmps10
  go_wp2_with (refine wpList_load_mid rfl 28 _ rfl g 0 rfl A _ HA.out Tryd.underlying28 rfl (by rw [HR.out.1]; exact Tryd.infoThs) ?_)
  go_wp2
  go_loopg [15] 64 (fun gk vi wr => StartRel w 64 gk vi wr)
  case atStart => exact ⟨0, by omega, rfl, Below.refl _ _⟩
  case round =>
    obtain ⟨i, hi, rfl, b⟩ := hrel
    have HB := hide b
    clear b
    cases gk with
    | zero =>
      obtain rfl : i = 64 := by omega
      go_wp2
      go_ret2
      exact ⟨rfl, HX.out.same HB.out⟩
    | succ g1 =>
      have hlt : (i : Int) < 64 := by omega
      have hix := fun W => HR.out.2 i W (by omega)
      have hs := HI.out.st i (by rw [HL.out]; omega)
      obtain ⟨y, hy⟩ : ∃ y, thd T i = y := ⟨_, rfl⟩
      rw [hy] at hix hs
      have hs0 : ¬ (y.s = 0) := by omega
      have HB2 := hide (below_one HB.out (below_alloc wr (.cells #[.int .i64 y.p, .int .i64 y.s, .int .i64 y.u] 27)))
      clear hy hs
      go_wp2
      go_roundg g1
      case measure => omega
      case rel => exact ⟨i + 1, by omega, by go_num, by first | exact HB2.out | go_grown⟩
set_option maxRecDepth 20000 in
set_option maxHeartbeats 1600000 in
theorem start_yes (p : Int) (w : World) (x : Tb w g T R ro rc) (hI : Inv T R) (hp : ¬ p < 0) (hl : T.length < 64) :
    Calls Tryd.prog 10 #[.pointer (some ⟨g, 0, none⟩), .int .i64 p] w fun e w' => BackT w g (T ++ [⟨p, 1, 0⟩]) (R ++ [(T.length : Int)]) ro R.length (.tuple #[.int .i64 (T.length : Int), .nilIface]) e w' := by
  have HX := hide x
  obtain ⟨A, hA, hAr⟩ := x.arr
  have HA := hide hA
  have HR := hide hAr
  have HI := hide hI
  obtain ⟨T', hT'⟩ : ∃ T', T ++ [⟨p, 1, 0⟩] = T' := ⟨_, rfl⟩
  have HT1 : Hid (∀ j, j ≠ T.length → thd T' j = thd T j) := fun j hj => by rw [← hT', thd_snoc, if_neg hj]
  have HT2 : Hid (thd T' T.length = ⟨p, 1, 0⟩) := by show _ = _; rw [← hT', thd_snoc, if_pos rfl]
  have HP := hide (hI.push T.length (by rw [thd_ge T _ (Nat.le_refl _)]; decide) hl).2
  have HZ := hide (thd_ge T T.length (Nat.le_refl _))
  have hRl := Nat.le_trans hI.len hI.few
  rw [hT']
  obtain ⟨Q, hQ⟩ : ∃ Q, R ++ [(T.length : Int)] = Q := ⟨_, rfl⟩
  rw [hQ] at HP ⊢
  obtain ⟨n, hn⟩ : ∃ n, T.length = n := ⟨_, rfl⟩
  rw [hn] at HT1 HT2 HP HZ hl ⊢
  have HN := hide hn
  clear x hA hAr hI hT' hQ hn
  go_enter Tryd.func10, Tryd.ntmps10
  go_wp2_with (refine wpList_load_mid rfl 28 _ rfl g 0 rfl A _ HA.out Tryd.underlying28 rfl (by rw [HR.out.1]; exact Tryd.infoThs) ?_)
  go_wp2
  go_loopg [15] n (fun gk vi wr => StartRel w n gk vi wr)
  case atStart => exact ⟨0, by omega, rfl, Below.refl _ _⟩
  case round =>
    obtain ⟨i, hi, rfl, b⟩ := hrel
    have HB := hide b
    clear b
    have hlt : (i : Int) < 64 := by omega
    have hix := fun W => HR.out.2 i W (by omega)
    cases gk with
    | zero =>
      obtain rfl : i = n := by omega
      obtain ⟨yp, yu, hz⟩ : ∃ yp yu, thd T i = ⟨yp, 0, yu⟩ := ⟨0, 0, HZ.out⟩
      rw [hz] at hix
      obtain ⟨X, hX⟩ : ∃ X, wr.alloc (.cells #[.int .i64 yp, .int .i64 0, .int .i64 yu] 27) = X := ⟨_, rfl⟩
      have bX := below_one HB.out (hX ▸ below_alloc wr _ : Below wr.heap.size wr X)
      have x1 := HX.out.grow bX
      have HBX := hide bX
      have d0 : X.cell? ⟨wr.heap.size, 0, none⟩ = some (.int .i64 yp) := by rw [← hX]; simp
      have d1 : X.cell? ⟨wr.heap.size, 1, none⟩ = some (.int .i64 0) := by rw [← hX]; simp
      have d2 : X.cell? ⟨wr.heap.size, 2, none⟩ = some (.int .i64 yu) := by rw [← hX]; simp
      have c0 := x1.c0 i (by omega)
      have c1 := x1.c1 i (by omega)
      have c2 := x1.c2 i (by omega)
      have z0 := x1.z (i * 3)
      have z1 := x1.z (i * 3 + 1)
      have z2 := x1.z (i * 3 + 2)
      obtain ⟨Y, hY, y1, f1⟩ := x1.three i (by omega) T' HT1.out p 1 0 HT2.out
      have cq := y1.cq
      have HNR := hide y1.row
      obtain ⟨m, hm⟩ : ∃ m, R.length = m := ⟨_, rfl⟩
      rw [hm] at HNR cq
      have H1 := hide y1
      have HF := hide f1
      clear bX x1 y1 f1 hm hi hz
      go_wp2_with fail
      refine (behind_any (i : Int) ro m rc R _ HNR.out).mono ?_; rintro e w3 ⟨po, pc, rfl, h3, b3, n3⟩
      rw [HP.out] at h3 ⊢
      have x3 := H1.out.grow b3
      have c4 := x3.cq
      have z4 := x3.z 192
      obtain ⟨m2, hm⟩ : ∃ m, Q.length = m := ⟨_, rfl⟩
      rw [hm] at h3 ⊢
      have HE := hide ((H1.out.ended HF.out h3 b3 n3).from HBX.out)
      clear h3 b3 n3 x3 hm
      go_wp2
      go_ret2
      exact ⟨rfl, HE.out⟩
    | succ g1 =>
      have hs := HI.out.st i (by rw [HN.out]; omega)
      obtain ⟨y, hy⟩ : ∃ y, thd T i = y := ⟨_, rfl⟩
      rw [hy] at hix hs
      have hs0 : ¬ (y.s = 0) := by omega
      have HB2 := hide (below_one HB.out (below_alloc wr (.cells #[.int .i64 y.p, .int .i64 y.s, .int .i64 y.u] 27)))
      clear hy hs
      go_wp2
      go_roundg g1
      case measure => omega
      case rel => exact ⟨i + 1, by omega, by go_num, by first | exact HB2.out | go_grown⟩
end Go.Proofs.YtnfpldndnmbplaaDoor
