/-
  The walk of RunqDrop.
-/
import Derived.Test.YtdkbeflkplpgkaaQRead
namespace Go.Proofs.Ytdkbeflkplpgkaa
open Go.RowKit
set_option maxRecDepth 20000 in
set_option maxHeartbeats 1600000 in
theorem walk_drop (ao : Option Addr) (n cap : Nat) (L : List Int) (x : Int) (w : World) (hA : Nums w ao n cap L) (hn : n ≤ 17592186043904) :
    Calls Try.prog 3 #[.slice ao n cap, .int .i64 x] w fun e w' => e = .returned (.bool true) ∧ Below w.heap.size w w' := by
  have hcap : cap ≤ 9223372036854775807 := hA.2.2.1
  have hnc := hA.2.1
  have HA := hide hA
  have HL := hide hA.len
  clear hA
  go_enter Try.func3, Try.ntmps3
  go_wp2_with fail
  refine (awake_any _).mono ?_; rintro e w1 ⟨rfl, b1⟩
  have HA1 := hide (HA.out.carry b1)
  have HB1 := hide b1
  clear b1
  go_wp2_with fail
  go_loopg [13, 5] n (fun gk vi vo wr => DropRel w1 L x n gk vi vo wr)
  case atStart => exact ⟨0, 0, by omega, Nat.le_refl _, rfl, owns_nil _ _ _ _, Below.refl _ _⟩
  case round =>
    obtain ⟨i, m, hi, hm, rfl, hown, b⟩ := hrel
    have HO := hide hown
    have HB := hide b
    have HI := hide hi
    obtain ⟨oo, oc, rfl, hl⟩ := owns_lies hown
    clear hown b
    cases gk with
    | succ g1 =>
      have hlt : (i : Int) < (n : Int) := by omega
      have hltn : i < n := by omega
      have HS := hide (dropL_snoc L x i (by rw [← HL.out]; exact hltn))
      clear hi hl
      have A1 := HA1.out.carry HB.out
      obtain ⟨ad, rfl⟩ := HA1.out.there hltn
      have c0 := A1.elem i hltn
      obtain ⟨y, hy⟩ : ∃ y, L.getD i 0 = y := ⟨_, rfl⟩
      rw [hy] at HS c0
      clear A1 hy
      by_cases hxy : y = x
      · go_wp2
        go_roundg g1
        case measure => omega
        case rel =>
          refine ⟨i + 1, m, by have := HI.out; omega, by omega, by go_num, ?_, HB.out⟩
          rw [HS.out, if_pos hxy, List.append_nil]; exact HO.out
      · obtain ⟨X, hX⟩ : ∃ X, wr.alloc (.cells #[.int .i64 y] 3) = X := ⟨_, rfl⟩
        have bX : Below wr.heap.size wr X := hX ▸ below_alloc wr _
        have oX : X.ownsRow w1.heap.size 3 1 (.slice oo m oc) m (cellsI (dropL (L.take i) x)) := hX ▸ HO.out.alloc _
        have nX : Nums X (some ⟨wr.heap.size, 0, none⟩) 1 1 [y] := hX ▸ nums_alloc wr [y] _ _ 1 rfl rfl (by omega)
        obtain ⟨v', w', hr, hown', hgr⟩ := app_own (ty := 22) Try.underlying22 oX nX (by omega) (Nat.le_trans HB.out.size bX.size)
        have HRUN := hide hr
        have HO' := hide hown'
        have HB' := hide (below_grown (HB.out.trans (bX.mono HB.out.size)) (Nat.le_trans HB.out.size bX.size) oX hgr)
        clear bX oX nX hr hown' hgr
        go_wp2_with (at_builtin; refine wpList_append_run rfl _ _ _ rfl _ _ _ _ rfl rfl HRUN.out ?_)
        go_wp2
        go_roundg g1
        case measure => omega
        case rel =>
          refine ⟨i + 1, m + 1, by have := HI.out; omega, by omega, by go_num, ?_, HB'.out⟩
          rw [HS.out, if_neg hxy]; exact HO'.out
    | zero =>
      obtain rfl : i = n := by omega
      have hlt : ¬ ((i : Int) < (i : Int)) := by omega
      have hD : Nums wr oo m oc (dropL L x) := by
        have h : Nums wr oo m oc (dropL (L.take i) x) := hl
        rw [HL.out, List.take_length] at h; exact h
      obtain ⟨D, hDe⟩ : ∃ D, dropL L x = D := ⟨_, rfl⟩
      have HDE := hide hDe
      rw [hDe] at hD
      have HD := hide hD
      have HQ := hide (HA1.out.carry HB.out)
      clear hi hl hD hDe HO
      obtain ⟨v2, w2, hr2, ho2⟩ := app_new (ty := 22) Try.underlying22 HQ.out (by omega)
      obtain ⟨wo, wc, rfl, hN2, _⟩ := ho2.nums
      have HR := hide hr2
      have HN2 := hide hN2
      have HD2 := hide (HD.out.carry ho2.2)
      have HQ2 := hide (HQ.out.carry ho2.2)
      have HB2 := hide (below_one (below_one HB1.out HB.out) ho2.2)
      clear hr2 ho2 hN2
      go_wp2_with (at_builtin; refine wpList_append_run rfl _ _ _ rfl _ _ _ _ rfl rfl HR.out ?_)
      go_wp2_with fail
      refine (drop_any x ao i cap L _ HQ2.out (by omega)).mono ?_; rintro e w3 ⟨d1, dc1, rfl, A3, b3, _⟩
      rw [HDE.out] at A3 ⊢
      have HA3 := hide A3
      have HB3 := hide (below_one HB2.out b3)
      have HD3 := hide (HD2.out.carry b3)
      have HN3 := hide (HN2.out.carry b3)
      have HQ3 := hide (HQ2.out.carry b3)
      clear A3 b3
      go_wp2_with fail
      refine (same_any _ _ _ _ _ _ D D _ HA3.out HD3.out).mono ?_; rintro e w4 ⟨rfl, b4⟩
      rw [decide_eq_true (rfl : D = D)]
      have HB4 := hide (below_one HB3.out b4)
      have HN4 := hide (HN3.out.carry b4)
      have HQ4 := hide (HQ3.out.carry b4)
      clear b4
      go_wp2_with fail
      refine (same_any _ _ _ _ _ _ L L _ HQ4.out HN4.out).mono ?_; rintro e w5 ⟨rfl, b5⟩
      rw [decide_eq_true (rfl : L = L)]
      have HB5 := hide (below_one HB4.out b5)
      clear b5
      go_wp2
      go_ret
      exact ⟨rfl, HB5.out⟩
end Go.Proofs.Ytdkbeflkplpgkaa
