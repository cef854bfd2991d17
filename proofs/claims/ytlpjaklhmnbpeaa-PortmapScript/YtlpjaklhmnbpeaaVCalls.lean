/-
  What portmap's function values answer, slices.IndexFunc, slices.Clone and slices.DeleteFunc of places at any such value, as contracts.
-/
import Derived.Test.YtlpjaklhmnbpeaaVRow
namespace Go.Proofs.Ytlpjaklhmnbpeaa
open Go.RowKit
/- F asks q of a place, with c beside it, and changes nothing -/
structure AsksOf (F : Nat) (g : Nat) (c : Value) (q : Pl → Bool) : Prop where
  enter : ∀ (xs : Array Value) (w : World), (callFunc F xs).run Try.prog w = .ok (.enter F xs) w
  call : ∀ (y : Pl) (w : World), w.cell? ⟨g, 0, none⟩ = some c →
    Calls Try.prog F #[.agg #[.int .u64 y.p, .int .i64 y.n, .int .i64 y.a], .pointer (some ⟨g, 0, none⟩)] w fun e w' => e = .returned (.bool (q y)) ∧ Below w.heap.size w w'
set_option maxHeartbeats 800000 in
theorem fgt_asks (g : Nat) (c : Int) : AsksOf 21 g (.int .u64 c) (isP c) := by
  refine ⟨fun xs w => by kernel_rfl, ?_⟩
  intro y w hc
  have hg := lt_of_cell hc
  replace hg : g < w.heap.size := hg
  obtain ⟨r, hr⟩ : ∃ r, (y.p == c) = r := ⟨_, rfl⟩
  rw [show isP c y = r from hr]
  go_enter Try.func21, Try.ntmps21
  go_wp2
  go_ret
  exact ⟨rfl, below_alloc _ _⟩
set_option maxHeartbeats 800000 in
theorem gon_asks (g : Nat) (c : Int) : AsksOf 22 g (.int .i64 c) (isN c) := by
  refine ⟨fun xs w => by kernel_rfl, ?_⟩
  intro y w hc
  have hg := lt_of_cell hc
  replace hg : g < w.heap.size := hg
  obtain ⟨r, hr⟩ : ∃ r, (y.n == c) = r := ⟨_, rfl⟩
  rw [show isN c y = r from hr]
  go_enter Try.func22, Try.ntmps22
  go_wp2
  go_ret
  exact ⟨rfl, below_alloc _ _⟩
set_option maxHeartbeats 800000 in
theorem fnd_asks (g : Nat) (c : Int) : AsksOf 24 g (.int .u64 c) (isP c) := by
  refine ⟨fun xs w => by kernel_rfl, ?_⟩
  intro y w hc
  have hg := lt_of_cell hc
  replace hg : g < w.heap.size := hg
  obtain ⟨r, hr⟩ : ∃ r, (y.p == c) = r := ⟨_, rfl⟩
  rw [show isP c y = r from hr]
  go_enter Try.func24, Try.ntmps24
  go_wp2
  go_ret
  exact ⟨rfl, below_alloc _ _⟩
def IdxIs (q : Pl → Bool) (L : List Pl) (r : Int) : Prop := (r = -1 ∧ ∀ j, j < L.length → q (L.getD j Pl.zero) = false) ∨ ∃ i : Nat, i < L.length ∧ r = (i : Int) ∧ q (L.getD i Pl.zero) = true ∧ ∀ j, j < i → q (L.getD j Pl.zero) = false
def IdxEnd (w : World) (q : Pl → Bool) (L : List Pl) (e : Ending) (w' : World) : Prop := ∃ r, e = .returned (.int .i64 r) ∧ IdxIs q L r ∧ Below w.heap.size w w'
def IdxRelY (w : World) (q : Pl → Bool) (L : List Pl) (n gk : Nat) (vi : Value) (wr : World) : Prop := ∃ i : Nat, i + gk = n ∧ vi = .int .i64 (i : Int) ∧ (∀ j, j < i → q (L.getD j Pl.zero) = false) ∧ Below w.heap.size w wr
set_option maxRecDepth 20000 in
set_option maxHeartbeats 1600000 in
theorem index_any (F : Nat) (q : Pl → Bool) (c : Value) (g B : Nat) (v : Value) (L : List Pl) (w : World) (hA : OwnV 54 w B v L) (hc : w.cell? ⟨g, 0, none⟩ = some c) (hF : AsksOf F g c q) :
    Calls Try.prog 23 #[v, .func (.func F) #[] #[.pointer (some ⟨g, 0, none⟩)]] w fun e w' => IdxEnd w q L e w' := by
  obtain ⟨ao, cap, rfl, hnc, hcap⟩ := hA.form
  obtain ⟨n, hn⟩ : ∃ n, L.length = n := ⟨_, rfl⟩
  have HLEN := hide hn
  rw [hn] at hnc
  have HA := hide hA
  rw [hn]
  have HC : Hid (g < w.heap.size) := lt_of_cell hc
  have HCC := hide hc
  have HFF := hide hF
  have hent := hF.enter
  clear hA hn hc hF
  go_enter Try.func23, Try.ntmps23
  go_wp2
  go_loopg [8] n (fun gk vi wr => IdxRelY w q L n gk vi wr)
  case atStart => exact ⟨0, by omega, rfl, fun j hj => by omega, Below.refl _ _⟩
  case round =>
    obtain ⟨i, hi, rfl, hno, b⟩ := hrel
    have HN := hide hno
    have HB := hide b
    clear hno b
    cases gk with
    | zero =>
      have hlt : ¬ ((i : Int) < (n : Int)) := by omega
      go_wp2
      go_ret
      exact ⟨_, rfl, .inl ⟨rfl, fun j hj => HN.out j (by have := HLEN.out; omega)⟩, HB.out⟩
    | succ g1 =>
      have hlt : (i : Int) < (n : Int) := by omega
      obtain ⟨h, ac, e, c0, c1, c2, _⟩ := (HA.out.grow HB.out).elem i (by have := HLEN.out; omega)
      obtain ⟨rfl, rfl⟩ : ao = some ⟨h, 0, none⟩ ∧ cap = ac := by cases e; exact ⟨rfl, rfl⟩
      obtain ⟨y, hy⟩ : ∃ y, L.getD i Pl.zero = y := ⟨_, rfl⟩
      rw [hy] at c0 c1 c2
      have HY := hide hy
      clear hy e
      go_wp2_with fail
      refine (HFF.out.call y _ (by rw [HB.out.cell HC.out, HCC.out])).mono ?_; rintro e w1 ⟨rfl, b1⟩
      obtain ⟨r, hr⟩ : ∃ r, q y = r := ⟨_, rfl⟩
      have HR := hide hr
      rw [hr]
      have HB1 := hide (below_one HB.out b1)
      clear b1 hr c0 c1 c2
      cases r with
      | true =>
        go_wp2
        go_ret
        exact ⟨_, rfl, .inr ⟨i, by have := HLEN.out; omega, rfl, by rw [HY.out]; exact HR.out, HN.out⟩, HB1.out⟩
      | false =>
        go_wp2
        go_roundg g1
        case measure => omega
        case rel =>
          refine ⟨i + 1, by omega, by go_num, fun j hj => ?_, HB1.out⟩
          by_cases e : j = i
          · rw [e, HY.out]; exact HR.out
          · exact HN.out j (by omega)
/- append(own row of alarms, an own row of alarms...) -/
theorem app_rowV {ty : TypeId} {B B' n m : Nat} {w : World} {v u : Value} {L M : List Pl} (hown : w.ownsRow B 54 3 v n (cellsV L)) (hM : w.ownsRow B' 54 3 u m (cellsV M)) (hu : u ≠ .slice none 0 0) (hn : n + m ≤ 1000000) (hB : B ≤ w.heap.size) :
    ∃ v' w', (Builtin.append_ #[49, 49] ty #[v, u]).run Try.prog w = .ok v' w' ∧ w'.ownsRow B 54 3 v' (n + m) (cellsV (L ++ M)) ∧ w.grownBy w' v.ownBlock := by
  obtain ⟨i0, hi0, hz0, hz1, hz2⟩ := info_parts Try.infoV
  rcases hM.2 with ⟨h0, _⟩ | ⟨h, cap, cur, rfl, hb, hg, hl, hm, hs, ht⟩
  · exact absurd h0 hu
  · obtain ⟨v', w3, hr, hown3, hgr3, _, _⟩ := run_append_own_at (P := Try.prog) w B 49 ty 54 i0 _ 3 24 Try.underlying49 hi0 hz0 hz1 hz2 rfl (by omega) v n _ hown ⟨h, 0, none⟩ m cap (cellsV M) hM.1 (fun j u hu => hM.cells (g := h) rfl j u hu) (cellsV_one M) (by unfold maxLen; omega) (by omega) hB
    exact ⟨v', w3, hr, by rw [cellsV_append]; exact hown3, hgr3⟩
theorem own_noneV (w : World) : (w.alloc (.cells #[] 54)).ownsRow w.heap.size 54 3 (.slice (some ⟨w.heap.size, 0, none⟩) 0 0) 0 (cellsV []) := ⟨rfl, .inr ⟨w.heap.size, 0, #[], rfl, Nat.le_refl _, heap_alloc_new w _, Nat.le_refl _, Nat.zero_le _, rfl, rfl⟩⟩
def CloneEnd (w : World) (L : List Pl) (e : Ending) (w' : World) : Prop := ∃ v, e = .returned v ∧ OwnV 54 w' w.heap.size v L ∧ Below w.heap.size w w'
set_option maxRecDepth 20000 in
set_option maxHeartbeats 800000 in
theorem clone_any (B : Nat) (v : Value) (L : List Pl) (w : World) (hA : OwnV 54 w B v L) (hl : L.length ≤ 1000) :
    Calls Try.prog 28 #[v] w fun e w' => CloneEnd w L e w' := by
  have HA := hide hA
  rcases hA.2 with ⟨rfl, h0⟩ | ⟨h, cap, cur, rfl, hb, hg, hlc, hm, hs, ht⟩
  · have he := run_eql_slice_nil (P := Try.prog) w 49 54 none 0 0 Try.underlying49
    have HN : Hid (L = []) := List.eq_nil_of_length_eq_zero h0
    clear hA hl h0
    go_enter Try.func28, Try.ntmps28
    go_wp2
    go_ret
    rw [HN.out]
    exact ⟨_, rfl, own_nilV _ _ _, Below.refl _ _⟩
  · obtain ⟨n, hn⟩ : ∃ n, L.length = n := ⟨_, rfl⟩
    rw [hn] at hA hl ⊢
    have HLEN := hide hn
    have he := run_eql_slice_nil (P := Try.prog) w 49 54 (some ⟨h, 0, none⟩) n cap Try.underlying49
    obtain ⟨v', w2, hr, hown, hgr⟩ := app_rowV (ty := 49) (own_noneV w) (owns_grow hA (below_alloc w _)) (by intro e; cases e) (by omega) (below_alloc w _).size
    rw [Nat.zero_add, List.nil_append] at hown
    have HB := hide (below_grown (below_alloc w _) (below_alloc w _).size (own_noneV w) hgr)
    have HO := hide hown
    have HR := hide hr
    clear hr hown hgr hA hl ht hs hg hm hb hn hlc
    go_enter Try.func28, Try.ntmps28
    go_wp2_with (at_builtin; refine wpList_append_run rfl _ _ _ rfl _ _ _ _ rfl rfl HR.out ?_)
    go_wp2
    go_ret
    exact ⟨v', rfl, HO.out, HB.out⟩
/- what slices.DeleteFunc leaves: no block but the row's own has turned -/
def DelEnd (w : World) (B : Nat) (v : Value) (M : List Pl) (e : Ending) (w' : World) : Prop := ∃ v', e = .returned v' ∧ OwnV 54 w' B v' M ∧ Foot (fun k => v.ownBlock = some k) w w'
def DelRel (w : World) (B : Nat) (v : Value) (q : Pl → Bool) (L : List Pl) (n gk : Nat) (vi vj : Value) (wr : World) : Prop :=
  ∃ (i j : Nat) (C : List Pl), j + gk = n ∧ i < j ∧ vi = .int .i64 (i : Int) ∧ vj = .int .i64 (j : Int) ∧ C.length = n ∧ C.take i = dropQ q (L.take j) ∧ (∀ k, j ≤ k → C.getD k Pl.zero = L.getD k Pl.zero) ∧ OwnV 54 wr B v C ∧ Foot (fun k => v.ownBlock = some k) w wr
theorem set_take (C : List Pl) (i : Nat) (y : Pl) (h : i < C.length) : (C.set i y).take (i + 1) = C.take i ++ [y] := by
  rw [List.take_add_one, List.take_set, List.getElem?_set, List.set_eq_of_length_le (by rw [List.length_take]; omega)]
  simp [h]
theorem set_getD (C : List Pl) (i k : Nat) (y : Pl) (h : i ≠ k) : (C.set i y).getD k Pl.zero = C.getD k Pl.zero := by
  rw [List.getD_eq_getElem?_getD, List.getD_eq_getElem?_getD, List.getElem?_set, if_neg h]
set_option maxRecDepth 20000 in
set_option maxHeartbeats 3200000 in
theorem delete_any (F : Nat) (q : Pl → Bool) (c : Value) (g B : Nat) (v : Value) (L : List Pl) (w : World) (hA : OwnV 54 w B v L) (hc : w.cell? ⟨g, 0, none⟩ = some c) (hF : AsksOf F g c q) (hg : g < B) (hl : L.length ≤ 1000) :
    Calls Try.prog 27 #[v, .func (.func F) #[] #[.pointer (some ⟨g, 0, none⟩)]] w fun e w' => DelEnd w B v (dropQ q L) e w' := by
  have HA := hide hA
  have HC := hide hc
  obtain ⟨ao, cap, rfl, hnc, hcap⟩ := hA.form
  obtain ⟨n, hn⟩ : ∃ n, L.length = n := ⟨_, rfl⟩
  rw [hn] at hnc hl ⊢
  have HLEN := hide hn
  have HFF := hide hF
  have hent := hF.enter
  clear hA hc hn hF
  go_enter Try.func27, Try.ntmps27
  go_wp2_with fail
  refine (index_any F q c g B _ L _ (by rw [← HLEN.out]; exact HA.out) HC.out HFF.out).mono ?_; rintro e w1 ⟨r, rfl, hr, b1⟩
  rcases hr with ⟨rfl, h0⟩ | ⟨i0, hi0, rfl, h1, h2⟩
  · have HE : Hid (dropQ q L = L) := dropQ_same (fun j hj e => by rw [h0 j hj] at e; cases e)
    have HB := hide b1
    clear h0 b1
    go_wp2
    go_ret
    rw [HE.out]
    exact ⟨_, rfl, by rw [← HLEN.out]; exact owns_grow HA.out HB.out, below_foot _ HB.out⟩
  · have hne : ¬ ((i0 : Int) = -1) := by omega
    have hin : i0 < n := by have := HLEN.out; omega
    have HS : Hid (DelRel w B (.slice ao n cap) q L n (n - (i0 + 1)) (.int .i64 (i0 : Int)) (.int .i64 ((i0 + 1 : Nat) : Int)) w1) := by
      refine ⟨i0, i0 + 1, L, by omega, by omega, rfl, rfl, HLEN.out, ?_, fun _ _ => rfl, by rw [← HLEN.out]; exact owns_grow HA.out b1, below_foot _ b1⟩
      rw [dropQ_snoc q L i0 hi0, if_pos h1, List.append_nil, dropQ_same]
      intro j hj e
      rw [List.length_take] at hj
      have := h2 j (by omega)
      rw [List.getD_eq_getElem?_getD, List.getElem?_take, if_pos (by omega), ← List.getD_eq_getElem?_getD] at e
      rw [this] at e; cases e
    clear h1 h2 b1 hi0
    go_wp2
    go_loopg [5, 6] (n - (i0 + 1)) (fun gk vi vj wr => DelRel w B (.slice ao n cap) q L n gk vi vj wr)
    case atStart => exact HS.out
    case round =>
      clear HS hne hin
      obtain ⟨i, j, C, hj, hij, rfl, rfl, hCn, hCt, hCd, hO, hf⟩ := hrel
      have HCN := hide hCn
      have HCT := hide hCt
      have HCD := hide hCd
      have HO := hide hO
      have HF := hide hf
      clear hCn hCt hCd hO hf
      cases gk with
      | zero =>
        obtain rfl : j = n := by omega
        have hlt : ¬ ((j : Int) < (j : Int)) := by omega
        obtain ⟨h, ac, e, _⟩ := HO.out.elem i (by have := HCN.out; omega)
        obtain ⟨rfl, rfl⟩ : ao = some ⟨h, 0, none⟩ ∧ cap = ac := by cases e; exact ⟨rfl, rfl⟩
        have hct := fun W : World => cut_tailV W h j cap i hij hnc
        have hch := fun W : World => cut_headV W (some ⟨h, 0, none⟩) j cap i (by omega)
        obtain ⟨w2, hcl, hown, hf2⟩ := clear_tail (ty := 0) HO.out i hij
        have HOW := hide hown
        have HF2 := hide hf2
        obtain ⟨m, hm⟩ : ∃ m, j - i = m := ⟨_, rfl⟩
        obtain ⟨c', hc'⟩ : ∃ m, cap - i = m := ⟨_, rfl⟩
        rw [hm, hc'] at hct hcl
        clear hown hf2 e hm hc'
        go_wp2
        go_ret
        refine ⟨_, rfl, ?_, HF.out.then (HF2.out.mono fun k e => by rw [e]; rfl)⟩
        have e1 : dropQ q L = C.take i := by
          have := HCT.out
          rw [List.take_of_length_le (l := L) (i := j) (by have := HLEN.out; omega)] at this
          exact this.symm
        have e2 : (C.take i).length = i := by have := HCN.out; rw [List.length_take]; omega
        show World.ownsRow _ _ _ _ _ _ _
        rw [e1, e2]
        exact HOW.out
      | succ g1 =>
        have hlt : (j : Int) < (n : Int) := by omega
        have hli : (i : Int) < (n : Int) := by omega
        obtain ⟨h, ac, e, c0, c1, c2, fz⟩ := HO.out.elem j (by have := HCN.out; omega)
        obtain ⟨rfl, rfl⟩ : ao = some ⟨h, 0, none⟩ ∧ cap = ac := by cases e; exact ⟨rfl, rfl⟩
        have hbh : B ≤ h := (owns_lt HO.out (k := h) rfl).2
        have hhl : h < wr.heap.size := (owns_lt HO.out (k := h) rfl).1
        obtain ⟨y, hy⟩ : ∃ y, L.getD j Pl.zero = y := ⟨_, rfl⟩
        rw [HCD.out j (Nat.le_refl _), hy] at c0 c1 c2
        have HY := hide hy
        have HBH := hide hbh
        have HHL := hide hhl
        obtain ⟨X, hX⟩ : ∃ X, wr.alloc (.cells #[.int .u64 y.p, .int .i64 y.n, .int .i64 y.a] 54) = X := ⟨_, rfl⟩
        have d0 : X.cell? ⟨wr.heap.size, 0, none⟩ = some (.int .u64 y.p) := by rw [← hX]; simp
        have d1 : X.cell? ⟨wr.heap.size, 1, none⟩ = some (.int .i64 y.n) := by rw [← hX]; simp
        have d2 : X.cell? ⟨wr.heap.size, 2, none⟩ = some (.int .i64 y.a) := by rw [← hX]; simp
        have belX : Below wr.heap.size wr X := hX ▸ below_alloc wr _
        have HBX := hide belX
        have HGC : Hid (X.cell? ⟨g, 0, none⟩ = some c) := by
          have hgl : g < w.heap.size := lt_of_cell HC.out
          have hne : g ≠ h := by omega
          have hgw : g < wr.heap.size := Nat.lt_of_lt_of_le hgl HF.out.size
          show _ = _
          rw [belX.cell hgw, HF.out.cell _ hgl (by intro e; cases e; exact hne rfl), HC.out]
        have HD0 := hide d0
        have HD1 := hide d1
        have HD2 := hide d2
        clear hy e belX hbh hhl fz
        go_wp2_with fail
        refine (HFF.out.call y _ HGC.out).mono ?_; rintro e w2 ⟨rfl, b2⟩
        have hsz : wr.heap.size < X.heap.size := lt_of_cell HD0.out
        have k0 : w2.cell? ⟨wr.heap.size, 0, none⟩ = some (.int .u64 y.p) := by rw [b2.cell hsz, HD0.out]
        have k1 : w2.cell? ⟨wr.heap.size, 1, none⟩ = some (.int .i64 y.n) := by rw [b2.cell hsz, HD1.out]
        have k2 : w2.cell? ⟨wr.heap.size, 2, none⟩ = some (.int .i64 y.a) := by rw [b2.cell hsz, HD2.out]
        have HB2 := hide (below_one HBX.out b2)
        have HO2 := hide (HO.out.grow HB2.out)
        have HF2 := hide (HF.out.then (below_foot (fun k => (Value.slice (some ⟨h, 0, none⟩) n cap).ownBlock = some k) HB2.out))
        obtain ⟨qq, hq⟩ : ∃ b, q y = b := ⟨_, rfl⟩
        have HQ := hide hq
        rw [hq]
        clear hq b2 hsz d0 d1 d2 c0 c1 c2 hX HO HF
        cases qq with
        | true =>
          go_wp2
          go_roundg g1
          case measure => omega
          case rel =>
            refine ⟨i, j + 1, C, by omega, by omega, rfl, by go_num, HCN.out, ?_, fun k hk => HCD.out k (by omega), HO2.out, HF2.out⟩
            rw [dropQ_snoc q L j (by have := HLEN.out; omega), HY.out, if_pos HQ.out, List.append_nil, HCT.out]
        | false =>
          obtain ⟨h', ac, e, c0, c1, c2, fz⟩ := HO2.out.elem i (by have := HCN.out; omega)
          obtain ⟨rfl, rfl⟩ : h = h' ∧ cap = ac := by cases e; exact ⟨rfl, rfl⟩
          clear e
          have f0 := fz (i * 3)
          have f1 := fz (i * 3 + 1)
          have f2 := fz (i * 3 + 2)
          clear fz
          have HP := hide (HO2.out.set i (by have := HCN.out; omega) h n cap rfl y)
          have HFP := hide (((HF2.out.then ((foot_set w2 ⟨h, i * 3, none⟩ (.int .u64 y.p)).mono fun k e => by rw [e]; rfl)).then ((foot_set _ ⟨h, i * 3 + 1, none⟩ (.int .i64 y.n)).mono fun k e => by rw [e]; rfl)).then ((foot_set _ ⟨h, i * 3 + 2, none⟩ (.int .i64 y.a)).mono fun k e => by rw [e]; rfl))
          go_wp2
          go_roundg g1
          case measure => omega
          case rel =>
            refine ⟨i + 1, j + 1, C.set i y, by omega, by omega, by go_num, by go_num, by rw [List.length_set]; exact HCN.out, ?_, fun k hk => ?_, HP.out, HFP.out⟩
            · rw [set_take C i y (by have := HCN.out; omega), dropQ_snoc q L j (by have := HLEN.out; omega), HY.out, if_neg (by rw [HQ.out]; decide), HCT.out]
            · rw [set_getD C i k y (by omega)]; exact HCD.out k (by omega)
end Go.Proofs.Ytlpjaklhmnbpeaa
