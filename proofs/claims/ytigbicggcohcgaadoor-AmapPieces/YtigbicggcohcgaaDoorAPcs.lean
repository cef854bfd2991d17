/-
  What Pieces answers, as a contract.
-/
import Derived.Test.YtigbicggcohcgaaDoorAAdd
import Derived.Lib.MinMax
namespace Go.Proofs.YtigbicggcohcgaaDoor
open Go.RowKit
def PcEnd (w : World) (r : Int × List Pc) (e : Ending) (w' : World) : Prop := ∃ ro rc, e = .returned (.tuple #[.slice ro r.2.length rc, erN r.1]) ∧ Pcs w' ro r.2.length rc r.2 ∧ Below w.heap.size w w'
theorem pc_err {w w' : World} {k : Int} {R : Int × List Pc} (h : R = (k, [])) (hk : k ≠ 0) (b : Below w.heap.size w w') : PcEnd w R (.returned (.tuple #[.slice none 0 0, .iface 30 (.int .i64 k)])) w' := by
  subst h
  exact ⟨none, 0, by rw [erN_not hk]; rfl, pcs_nil w', b⟩
theorem pc_ok {w w' : World} {R : Int × List Pc} {ao : Option Addr} {m cap : Nat} {out : List Pc} (h : R = (0, out)) (hm : out.length = m) (A : Pcs w' ao m cap out) (b : Below w.heap.size w w') : PcEnd w R (.returned (.tuple #[.slice ao m cap, .nilIface])) w' := by
  subst h hm
  exact ⟨ao, cap, rfl, A, b⟩
def PcRel (w : World) (L : List Ar) (R : Int × List Pc) (wb : Bool) (N gk : Nat) (vx vn vo vi : Value) (wq : World) : Prop :=
  ∃ (i : Nat) (x n : Int) (out : List Pc), i + gk = N ∧ vi = .int .i64 (i : Int) ∧ vx = .int .i64 x ∧ vn = .int .i64 n ∧ (0 ≤ x ∧ 0 ≤ n ∧ x + n ≤ 1073741824) ∧ goF wb (L.drop i) x n out = R ∧ out.length ≤ i ∧
    wq.ownsRow w.heap.size 46 3 vo out.length (cellsP out) ∧ Below w.heap.size w wq
theorem dropA_cons (L : List Ar) (i : Nat) (h : i < L.length) : L.drop i = L.getD i Ar.zero :: L.drop (i + 1) := by
  rw [List.drop_eq_getElem_cons h, List.getD_eq_getElem?_getD, List.getElem?_eq_getElem h]; rfl
theorem getD_mem (L : List Ar) (i : Nat) (h : i < L.length) : L.getD i Ar.zero ∈ L := by
  rw [List.getD_eq_getElem?_getD, List.getElem?_eq_getElem h]; exact List.getElem_mem h
theorem pc_cells (p : Pc) : cellsP [p] = [.int .i64 p.g, .int .i64 p.t, .int .i64 p.z] := rfl
theorem owns_carry {w w' : World} {base : Nat} {e : TypeId} {size : Nat} {v : Value} {n : Nat} {xs : List Value} (h : w.ownsRow base e size v n xs) (b : Below w.heap.size w w') : w'.ownsRow base e size v n xs := by
  refine ⟨h.1, ?_⟩
  rcases h.2 with ⟨hv, hn⟩ | ⟨g, cap, cur, hv, hb, hg, h1, h2, h3, h4⟩
  · exact .inl ⟨hv, hn⟩
  · have hlt : g < w.heap.size := by
      by_cases hlt : g < w.heap.size
      · exact hlt
      · rw [Array.getElem?_eq_none (by omega)] at hg; cases hg
    exact .inr ⟨g, cap, cur, hv, hb, (b.block g hlt).trans hg, h1, h2, h3, h4⟩
set_option maxRecDepth 20000 in
set_option maxHeartbeats 3200000 in
theorem pieces_any (x n : Int) (wb : Bool) (ao : Option Addr) (N cap : Nat) (L : List Ar) (w : World) (hA : Ars w ao N cap L) (hok : ∀ a ∈ L, okA a ∧ a.o + a.s ≤ 9223372036854775807) (hl : L.length ≤ 1000) (hx : I64 x) :
    Calls Tryd.prog 16 #[.slice ao N cap, .int .i64 x, .int .i64 n, .bool wb] w fun e w' => PcEnd w (pcsF L x n wb) e w' := by
  have HA := hide hA
  have HOK := hide hok
  have HN := hide hA.len
  have hnc := hA.2.1
  have hcap : cap ≤ 9223372036854775807 := hA.2.2.1
  have hn : N ≤ 1000 := by rw [hA.len]; exact hl
  have HX := hide hx
  obtain ⟨R, hR⟩ : ∃ R, pcsF L x n wb = R := ⟨_, rfl⟩
  obtain ⟨q, hq⟩ : ∃ q, outA x n = q := ⟨_, rfl⟩
  have HR := hide hR
  have HQ := hide hq
  rw [hR]
  clear hA hok hl hR hq hx
  go_enter Tryd.func16, Tryd.ntmps16
  go_wp2_with fail
  refine (beyond_any x n _ HX.out).mono ?_; rintro e w1 ⟨rfl, rfl⟩
  rw [HQ.out]
  cases q with
  | true =>
    go_wp2
    go_ret2
    exact pc_err (k := 13) (by rw [← HR.out]; unfold pcsF; rw [HQ.out]; rfl) (by decide) (Below.refl _ _)
  | false =>
    have HR0 : Hid (goF wb (L.drop 0) x n [] = R) := by show _ = _; rw [← HR.out]; unfold pcsF; rw [HQ.out]; rfl
    have HO0 := hide (outA_no HQ.out)
    go_wp2
    go_loopg [1, 2, 10, 21] N (fun gk vx vn vo vi wq => PcRel w1 L R wb N gk vx vn vo vi wq)
    case atStart => exact ⟨0, x, n, [], by omega, rfl, rfl, rfl, HO0.out, HR0.out, Nat.le_refl _, ⟨rfl, .inl ⟨rfl, rfl⟩⟩, Below.refl _ _⟩
    case round =>
      clear HR0 HO0 HX HQ HR
      obtain ⟨i, x, n, out, hi, rfl, rfl, rfl, hb, hgo, hol, hown, b⟩ := hrel
      obtain ⟨oa, oc, rfl, hlies⟩ := owns_lies hown
      obtain ⟨m, hm⟩ : ∃ m, out.length = m := ⟨_, rfl⟩
      rw [hm] at hown hlies hol ⊢
      have HM := hide hm
      have HBD := hide hb
      have HGO := hide hgo
      have HOL := hide hol
      have HOW := hide hown
      have HLI := hide hlies
      have HB := hide b
      clear hb hgo hol hown hlies b hm
      cases gk with
      | zero =>
        obtain rfl : i = N := by omega
        have hlt : ¬ ((i : Int) < (i : Int)) := by omega
        have hg := HGO.out
        rw [List.drop_of_length_le (by have := HN.out; omega), goF] at hg
        by_cases h0 : 0 < n
        · rw [if_pos h0] at hg
          have HG := hide hg.symm
          clear hg
          go_wp2
          go_ret2
          exact pc_err HG.out (by decide) HB.out
        · rw [if_neg h0] at hg
          have HG := hide hg.symm
          clear hg
          go_wp2
          go_ret2
          exact pc_ok HG.out HM.out HLI.out HB.out
      | succ g1 =>
        have hlt : (i : Int) < (N : Int) := by omega
        obtain ⟨ad, rfl⟩ := HA.out.there (k := i) (by omega)
        obtain ⟨c0, c1, c2, c3, c4⟩ := (HA.out.carry HB.out).elem i (by omega)
        have hok := HOK.out _ (getD_mem L i (by have := HN.out; omega))
        have hg := HGO.out
        rw [dropA_cons L i (by have := HN.out; omega)] at hg
        obtain ⟨y, hy⟩ : ∃ y, L.getD i Ar.zero = y := ⟨_, rfl⟩
        rw [hy] at c0 c1 c2 c3 c4 hok hg
        rw [goF] at hg
        have HOKY := hide hok
        obtain ⟨X, hX⟩ : ∃ X, wr.alloc (.cells #[.int .i64 y.b, .int .i64 y.s, .int .i64 y.g, .int .i64 y.o, .bool y.w] 24) = X := ⟨_, rfl⟩
        have BX : BoxA X wr.heap.size y := hX ▸ box_new wr y
        have belX : Below wr.heap.size wr X := hX ▸ below_alloc wr _
        have HBX := hide BX
        have HB2 := hide (HB.out.trans (belX.mono HB.out.size))
        have HBW := hide belX
        obtain ⟨d0, d1, d2, d3, d4⟩ : _ ∧ _ ∧ _ ∧ _ ∧ _ := ⟨BX.c0, BX.c1, BX.c2, BX.c3, BX.c4⟩
        clear hy BX belX hok
        by_cases h1 : n < 1
        · rw [if_pos h1] at hg
          have HG := hide hg.symm
          have h0 : ¬ (0 < n) := by omega
          clear hg
          go_wp2
          go_ret2
          exact pc_ok HG.out HM.out (HLI.out.carry HBW.out (Nat.le_refl _)) HB2.out
        · rw [if_neg h1] at hg
          have HG := hide hg
          clear hg
          go_wp2_with fail
          refine (has_any y x _).mono ?_; rintro e w2 ⟨rfl, b2⟩
          obtain ⟨r, hr⟩ : ∃ r, hasA y x = r := ⟨_, rfl⟩
          have hg := HG.out
          rw [hr] at hg ⊢
          have HR := hide hr
          have HB3 := hide (HB2.out.trans (b2.mono HB2.out.size))
          have HW3 := hide (below_one HBW.out b2)
          have HBX3 := hide (HBX.out.carry b2 (Nat.le_refl _))
          clear b2 hr c0 c1 c2 c3 c4 d0 d1 d2 d3 d4 HB2 HBX hX HG HBW
          have HOW3 := hide (owns_carry HOW.out HW3.out)
          cases r with
          | false =>
            rw [if_neg (by decide)] at hg
            have HG := hide hg
            clear hg
            go_wp2
            go_roundg g1
            case measure => omega
            case rel => exact ⟨i + 1, x, n, out, by omega, by go_num, rfl, rfl, HBD.out, HG.out, by rw [HM.out]; have := HOL.out; omega, by rw [HM.out]; exact HOW3.out, HB3.out⟩
          | true =>
            rw [if_pos rfl] at hg
            obtain ⟨d0, d1, d2, d3, d4⟩ : _ ∧ _ ∧ _ ∧ _ ∧ _ := ⟨HBX3.out.c0, HBX3.out.c1, HBX3.out.c2, HBX3.out.c3, HBX3.out.c4⟩
            obtain ⟨⟨k1, k2, k3, k4, k5, k6⟩, k7⟩ := HOKY.out
            obtain ⟨k8, k9⟩ := (has_iff HOKY.out.1 (show I64 x from ⟨by have := HBD.out.1; omega, by have := HBD.out; omega⟩)).1 HR.out
            obtain ⟨l1, l2, l3⟩ := HBD.out
            obtain ⟨d, hd⟩ : ∃ d, x - y.b = d := ⟨_, rfl⟩
            obtain ⟨f, hf⟩ : ∃ f, y.s - d = f := ⟨_, rfl⟩
            obtain ⟨z, hz⟩ : ∃ z, min n f = z := ⟨_, rfl⟩
            obtain ⟨t, ht⟩ : ∃ t, y.o + d = t := ⟨_, rfl⟩
            rw [hd, hf, hz, ht] at hg
            have hw1 : IntKind.i64.wrap (x - y.b) = d := by rw [hd]; exact wrap_in ⟨by omega, by omega⟩
            have hw2 : IntKind.i64.wrap (y.s - d) = f := by rw [hf]; exact wrap_in ⟨by omega, by omega⟩
            have hw3 : IntKind.i64.wrap (y.o + d) = t := by rw [ht]; exact wrap_in ⟨by omega, by omega⟩
            have hz1 : z ≤ n ∧ 1 ≤ z := by omega
            obtain ⟨x', hx'⟩ : ∃ x', x + z = x' := ⟨_, rfl⟩
            obtain ⟨n', hn'⟩ : ∃ n', n - z = n' := ⟨_, rfl⟩
            have hw4 : IntKind.i64.wrap (x + z) = x' := by rw [hx']; exact wrap_in ⟨by omega, by omega⟩
            have hw5 : IntKind.i64.wrap (n - z) = n' := by rw [hn']; exact wrap_in ⟨by omega, by omega⟩
            rw [hx', hn'] at hg
            have HBD4 := hide (show 0 ≤ x' ∧ 0 ≤ n' ∧ x' + n' ≤ 1073741824 by omega)
            obtain ⟨Y, hY⟩ : ∃ Y, w2.alloc (.cells #[.int .i64 y.g, .int .i64 t, .int .i64 z] 46) = Y := ⟨_, rfl⟩
            have belY : Below w2.heap.size w2 Y := hY ▸ below_alloc w2 _
            have hnews : ∀ j u, (cellsP [⟨y.g, t, z⟩])[j]? = some u → Y.cell? ((⟨w2.heap.size, 0, none⟩ : Addr).add j) = some u := by
              rw [← hY]; exact World.news_of_block (cs := #[.int .i64 y.g, .int .i64 t, .int .i64 z]) (t := 46) (fr := (0, 0)) (heap_alloc_new w2 _)
            have HBY := hide (HB3.out.trans (belY.mono HB3.out.size))
            obtain ⟨i0, hi0, hz0, hz1', hz2⟩ := info_parts Tryd.infoP
            have hm1 : m + 1 ≤ 1001 := by have := HOL.out; omega
            obtain ⟨v4, w4, hrun, hown4, hgr4, _, _⟩ := run_append_own_at (P := Tryd.prog) Y w1.heap.size 42 42 46 i0 _ 3 24 Tryd.underlying42 hi0 hz0 hz1' hz2 rfl (by omega) (.slice oa m oc) m _ (owns_carry HOW3.out belY) ⟨w2.heap.size, 0, none⟩ 1 1 (cellsP [⟨y.g, t, z⟩]) rfl hnews (cellsP_one _) (by unfold maxLen; omega) (by omega) HBY.out.size
            have HOW4 := hide hown4
            have HB4 : Hid (Below w1.heap.size w1 w4) := by
              refine HBY.out.grown hgr4 HBY.out.size (fun k e => ?_)
              rcases HOW3.out.2 with ⟨h, _⟩ | ⟨g, c, cur, h, hbg, _⟩
              · rw [h] at e; simp [Value.ownBlock] at e
              · rw [h] at e
                have : g = k := by simpa [Value.ownBlock] using e
                omega
            obtain ⟨oa4, oc4, rfl⟩ := owns_slice hown4
            have HRUN := hide hrun
            clear hrun hown4 hgr4 hi0 hz0 hz1' hz2 hnews belY k1 k2 k3 k4 k5 k6 k7 k8 k9 l1 l2 l3 hd hf ht hx' hn' hz1 hm1
            cases wb with
            | false =>
              rw [show (false && !y.w) = false from rfl, if_neg (by decide)] at hg
              have HG4 := hide hg
              clear hg
              go_wp2_with (at_builtin; refine wpList_append_run rfl _ _ _ rfl _ _ _ _ rfl rfl HRUN.out ?_)
              go_wp2
              go_roundg g1
              case measure => omega
              case rel => exact ⟨i + 1, _, _, out ++ [⟨y.g, t, z⟩], by omega, by go_num, rfl, rfl, HBD4.out, HG4.out, by rw [List.length_append, HM.out]; have := HOL.out; simp; omega, by rw [List.length_append, HM.out, cellsP_append]; exact HOW4.out, HB4.out⟩
            | true =>
              cases hyw : y.w with
              | true =>
                rw [hyw] at d4
                rw [hyw, show (true && !true) = false from rfl, if_neg (by decide)] at hg
                have HG4 := hide hg
                clear hg hyw
                go_wp2_with (at_builtin; refine wpList_append_run rfl _ _ _ rfl _ _ _ _ rfl rfl HRUN.out ?_)
                go_wp2
                go_roundg g1
                case measure => omega
                case rel => exact ⟨i + 1, _, _, out ++ [⟨y.g, t, z⟩], by omega, by go_num, rfl, rfl, HBD4.out, HG4.out, by rw [List.length_append, HM.out]; have := HOL.out; simp; omega, by rw [List.length_append, HM.out, cellsP_append]; exact HOW4.out, HB4.out⟩
              | false =>
                rw [hyw] at d4
                rw [hyw, show (true && !false) = true from rfl, if_pos rfl] at hg
                have HG4 := hide hg.symm
                clear hg hyw
                go_wp2
                go_ret2
                exact pc_err HG4.out (by decide) HB3.out
end Go.Proofs.YtigbicggcohcgaaDoor
