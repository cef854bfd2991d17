/-
  The walk of GatherOrder.
-/
import Derived.Test.YtdfakeddhoolcaaGAwake
import Derived.Test.YtdfakeddhoolcaaFRead
namespace Go.Proofs.Ytdfakeddhoolcaa
open Go.RowKit
/- a row of truths that fills a block -/
def RowT (w : World) (g : Nat) (gl : List Bool) : Prop := w.heap[g]? = some (.cells (gl.map Value.bool).toArray 4 (0, 0))
theorem RowT.cell {w : World} {g : Nat} {gl : List Bool} (h : RowT w g gl) (j : Nat) (hj : j < gl.length) : w.cell? ⟨g, j, none⟩ = some (.bool (gl.getD j true)) := by
  rw [cell_of_row w g j _ _ _ h]; simp [List.getElem?_eq_getElem hj, List.getD_eq_getElem?_getD]
theorem RowT.frozen {w : World} {g : Nat} {gl : List Bool} (h : RowT w g gl) (j : Nat) : w.frozen? ⟨g, j, none⟩ = false := frozen_of_row w g j _ _ h
theorem RowT.set {w : World} {g : Nat} {gl : List Bool} (h : RowT w g gl) (j : Nat) (v : Bool) : RowT (w.setCell ⟨g, j, none⟩ (.bool v)) g (gl.set j v) := by
  have := heap_setCell_same w g j _ 4 (.bool v) h
  rw [RowT, this]
  congr 2
  simp [List.map_set]
theorem row_bools (w : World) (n : Nat) : RowT (w.alloc (.cells (madeCells #[.bool false] n) 4)) w.heap.size (List.replicate n false) := by
  rw [RowT, heap_alloc_new]
  congr 2
  apply Array.ext'
  rw [toList_madeCells_one]; simp
theorem RowT.foot {S : Nat → Prop} {w w' : World} {g : Nat} {gl : List Bool} (h : RowT w g gl) (b : Foot S w w') (hS : ¬ S g) : RowT w' g gl := (b.block g (lt_of_heap h) hS).trans h
theorem Try.infoT : (Try.prog.info? 4).map (fun i => (i.zero, i.size, i.bytes)) = some (some (.bool false), 1, 1) := by kernel_rfl
theorem make_bools (n : Nat) (hn : n ≤ 4096) (w : World) :
    (Instr.makeSlice 47 (.int .i64 (n : Int)) (.int .i64 (n : Int))).run Try.prog w = .ok (.slice (some ⟨w.heap.size, 0, none⟩) n n) (w.alloc (.cells (madeCells #[.bool false] n) 4)) :=
  run_make_row' (P := Try.prog) 47 4 (.bool false) 1 Try.underlying47 Try.infoT rfl .i64 .i64 n (by omega) (by omega) w
def tr (T : List Bool) : Nat → Bool := fun k => T.getD k true
theorem tr_set (T : List Bool) (k j : Nat) (hk : k < T.length) : tr (T.set k true) j = upd (tr T) k j := by
  unfold tr upd
  rw [List.getD_eq_getElem?_getD, List.getElem?_set]
  by_cases h : k = j
  · subst h; simp [hk]
  · rw [if_neg h, if_neg (fun e => h e.symm)]; rfl
theorem tr_new (c k : Nat) (hk : k < c) : tr (List.replicate c false) k = false := by
  unfold tr
  rw [List.getD_eq_getElem?_getD, List.getElem?_replicate, if_pos hk]; rfl
/- all that a round knows -/
structure OS (w wq : World) (g h gp c : Nat) (L : List Pa) (G : List (List Pa)) (T : List Bool) : Prop where
  st : St wq g (· = h) G
  inv : Inv G
  row : RowT wq h T
  len : T.length = c
  pk : Pks wq (some ⟨gp, 0, none⟩) c c L
  bel : Below w.heap.size w wq
structure OF (w : World) (g h gp c : Nat) (L : List Pa) : Prop where
  far : FarK (fun k => k = g ∨ k = h) (some ⟨gp, 0, none⟩) c L
  low : w.heap.size ≤ g
  low2 : w.heap.size ≤ h
  ne : g ≠ h
variable {w wq w' : World} {g h gp c : Nat} {L : List Pa} {G : List (List Pa)} {T : List Bool}
theorem OS.add (x : OS w wq g h gp c L G T) (f : OF w g h gp c L) {p : Pa} {G' : List (List Pa)} (e : (addF G p).2 = G') (st : St w' g (· = h) (addF G p).2) (ft : Foot (· = g) wq w') : OS w w' g h gp c L G' T :=
  ⟨e ▸ st, e ▸ x.inv.add p, x.row.foot ft (fun e => f.ne e.symm), x.len, x.pk.foot ft (f.far.mono (fun k e => .inl e)), x.bel.trans (ft.below x.bel.size (fun k e => by rw [e]; exact f.low))⟩
theorem OS.set (x : OS w wq g h gp c L G T) (f : OF w g h gp c L) (k : Nat) : OS w (wq.setCell ⟨h, k, none⟩ (.bool true)) g h gp c L G (T.set k true) :=
  have ft := foot_set wq ⟨h, k, none⟩ (.bool true)
  ⟨x.st.foot ft f.ne, x.inv, x.row.set k true, by rw [List.length_set]; exact x.len, x.pk.foot ft (f.far.mono (fun k e => .inr e)), x.bel.trans (ft.below x.bel.size (fun k e => by rw [e]; exact f.low2))⟩
def OrRel (w : World) (g h gp c : Nat) (L : List Pa) (P : Nat → Pa) (m gk : Nat) (vr vi : Value) (wq : World) : Prop :=
  ∃ (i r : Nat) (G : List (List Pa)) (T : List Bool), i + gk = m ∧ vi = .int .i64 (i : Int) ∧ vr = .int .i64 (r : Int) ∧ OS w wq g h gp c L G T ∧ One P c (tr T) r G
/- the rest: those that have not come are added one by one -/
def RestD (P : Nat → Pa) (c : Nat) (T : List Bool) (r k nn : Nat) (G : List (List Pa)) : Prop :=
  (nn < r ∧ One P c (fun j => tr T j || decide (j < k)) (r - nn) G) ∨ (nn = r ∧ G = [] ∧ ∀ j, k ≤ j → j < c → tr T j = true)
def OrRel2 (w : World) (g h gp c : Nat) (L : List Pa) (P : Nat → Pa) (T : List Bool) (r gk : Nat) (vn vi : Value) (wq : World) : Prop :=
  ∃ (k nn : Nat) (G : List (List Pa)), k + gk = c ∧ vi = .int .i64 (k : Int) ∧ vn = .int .i64 (nn : Int) ∧ nn ≤ k ∧ OS w wq g h gp c L G T ∧ RestD P c T r k nn G
set_option maxRecDepth 20000 in
set_option maxHeartbeats 3200000 in
theorem walk_order (ao : Option Addr) (n cap : Nat) (zs : List Int) (z : Nat) (oo : Option Addr) (m ocap : Nat) (os : List Int) (w : World) (hr : RowOf .u8 w ao n cap zs) (hz : z ≤ 255) (hr2 : RowOf .u8 w oo m ocap os) :
    Calls Try.prog 4 #[.slice ao n cap, .int .u8 (z : Int), .slice oo m ocap] w fun e w' => e = .returned (.bool true) ∧ Below w.heap.size w w' := by
  obtain ⟨l, hb⟩ := hr.bytes
  obtain ⟨ol, hob⟩ := hr2.bytes
  have HB := hide hb
  have HL := hide hb.1
  have HOB := hide hob
  have HOL := hide hob.1
  have hnc := hb.2.1
  have hcap : cap ≤ 9223372036854775807 := hb.2.2.1
  have hmc := hob.2.1
  have hocap : ocap ≤ 9223372036854775807 := hob.2.2.1
  clear hr hb hr2 hob
  obtain ⟨s, hs⟩ : ∃ s, 1 + z % 60 = s := ⟨_, rfl⟩
  have h3 : 1 + (z : Int) % 60 = (s : Int) := by omega
  have hs1 : 1 ≤ s := by omega
  have hs2 : s ≤ 60 := by omega
  clear hs
  go_enter Try.func4, Try.ntmps4
  go_wp2_with fail
  refine (awake_any _).mono ?_; rintro e w1 ⟨rfl, b1⟩
  have HB1 := hide b1
  clear b1
  by_cases hn : s * 256 < n
  · go_wp2_with fail
    refine (split_bounds ao n cap 0 1 5 s _ hs1 (by omega) hn).mono ?_; rintro e w2 ⟨rfl, rfl⟩
    have hn2 : 256 < (n : Int) := by omega
    go_wp2
    go_ret
    exact ⟨rfl, HB1.out⟩
  · go_wp2_with fail
    refine (split_yes ao n cap l 0 1 5 s _ (HB.out.carry HB1.out) hs1 (by omega) (by omega)).mono ?_; rintro e W ⟨L, rfl, P2, S2, _, b2⟩
    have HB2 := hide (below_one HB1.out b2)
    have hc := cnt_le n s hs1 (by omega)
    have hc0 := cnt_pos n s
    have hall : allL (pkF 0 1 5 l s (cntF n s)) (cntF n s) = l := by rw [HL.out]; exact all_pk 0 1 5 l s hs1
    obtain ⟨c, hcc⟩ : ∃ c, cntF n s = c := ⟨_, rfl⟩
    rw [hcc] at P2 S2 hc hc0 hall ⊢
    obtain ⟨gp, hgp⟩ : ∃ g, w1.heap.size = g := ⟨_, rfl⟩
    rw [hgp] at P2
    simp only [hgp]
    have HP2 := hide P2
    have HS2 := hide S2
    clear P2 S2 b2 hgp HB1 hcc
    obtain ⟨P, hP⟩ : ∃ P, pkF 0 1 5 l s c = P := ⟨_, rfl⟩
    have HSQ : Hid (Sq P c) := by show Sq _ _; rw [← hP]; exact sq_pk 0 1 5 l s c (by omega) hc (by omega)
    have HNM : Hid (∀ k, k < c → (L.getD k Pa.zero).nm = P k) := fun k hk => by rw [← hP]; exact spl_nm HS2.out k hk
    rw [hP] at hall
    have HALL := hide hall
    clear hP hall
    obtain ⟨g, hgg⟩ : ∃ g, W.heap.size = g := ⟨_, rfl⟩
    obtain ⟨X, hX⟩ : ∃ X, W.alloc (.cells #[.slice none 0 0] 27) = X := ⟨_, rfl⟩
    have bX : Below W.heap.size W X := hX ▸ below_alloc W _
    have hxs : X.heap.size = g + 1 := by rw [← hX, ← hgg]; simp
    have hmk := make_bools c (by omega) X
    obtain ⟨h, hhh⟩ : ∃ h, X.heap.size = h := ⟨_, rfl⟩
    obtain ⟨Y, hY⟩ : ∃ Y, X.alloc (.cells (madeCells #[.bool false] c) 4) = Y := ⟨_, rfl⟩
    have bY : Below X.heap.size X Y := hY ▸ below_alloc X _
    rw [hhh, hY] at hmk
    have HOS : Hid (OS w Y g h gp c L [] (List.replicate c false)) := by
      refine ⟨?_, inv_nil, ?_, by simp, (HP2.out.carry bX).carry bY, below_one (below_one HB2.out bX) bY⟩
      · have h1 : St X g NoS [] := by rw [← hX, ← hgg]; exact st_new W NoS
        exact (h1.other (fun k e => by rw [e, hhh]; exact Nat.le_refl _)).grow bY
      · rw [← hY, ← hhh]; exact row_bools X c
    have HOF : Hid (OF w g h gp c L) := ⟨HP2.out.far (fun k e => by rcases e with rfl | rfl <;> omega), by rw [← hgg]; exact HB2.out.size, by have := HB2.out.size; omega, by omega⟩
    have HLL : Hid (L.length = c) := HS2.out.1
    have hcz : ¬ ((c : Int) = 0) := by omega
    clear bX bY hxs
    go_wp2_with fail
    go_loopg [11, 46] m (fun gk vr vi wq => OrRel w g h gp c L P m gk vr vi wq)
    case atStart => exact ⟨0, c, [], _, by omega, rfl, rfl, HOS.out, (one_nil (P := P) (by omega)).ext rfl (fun k hk => (tr_new c k hk).symm)⟩
    case round =>
      obtain ⟨i, r, G, T, hi, rfl, rfl, os, one⟩ := hrel
      have HX := hide os
      have HO := hide one
      have hrc := one.pos
      clear os one hmk hX hgg hhh hY
      cases gk with
      | zero =>
        obtain rfl : i = m := by omega
        have hlt : ¬ ((i : Int) < (i : Int)) := by omega
        go_wp2_with fail
        clear HOS
        have hrb : r ≤ c := hrc.2
        go_loopg [17, 87] c (fun gk vn vi wq => OrRel2 w g h gp c L P T r gk vn vi wq)
        case atStart => exact ⟨0, 0, G, by omega, rfl, rfl, Nat.le_refl _, HX.out, .inl ⟨hrc.1, HO.out.ext (by omega) (fun k _ => by simp)⟩⟩
        case round =>
          rename World => wz
          clear HX HO
          obtain ⟨k, nn, G2, hk, rfl, rfl, hnk, os, rest⟩ := hrel
          have HX := hide os
          have HR := hide rest
          clear os rest
          cases gk with
          | zero =>
            obtain rfl : k = c := by omega
            have hlt : ¬ ((k : Int) < (k : Int)) := by omega
            obtain ⟨rfl, rfl⟩ : nn = r ∧ G2 = [] := by
              rcases HR.out with ⟨_, h2⟩ | ⟨h1, h2, _⟩
              · exact (one_full HSQ.out h2 (fun j hj => by simp [hj])).elim
              · exact ⟨h1, h2⟩
            go_wp2_with fail
            refine (waiting_any _ HX.out.st).mono ?_; rintro e w5 ⟨rfl, rfl⟩
            go_wp2
            go_ret
            exact ⟨rfl, HX.out.bel⟩
          | succ g1 =>
            have hkc : k < c := by omega
            have hlt : (k : Int) < (c : Int) := by omega
            have ct := HX.out.row.cell k (by rw [HX.out.len]; exact hkc)
            cases ht : T.getD k true with
            | true =>
              rw [ht] at ct
              have HT := hide ht
              clear ht
              go_wp2
              go_roundg g1
              case measure => omega
              case rel =>
                refine ⟨k + 1, nn, G2, by omega, by go_num, rfl, by omega, HX.out, ?_⟩
                rcases HR.out with ⟨h1, h2⟩ | ⟨h1, h2, h3⟩
                · refine .inl ⟨h1, h2.ext rfl (fun j hj => ?_)⟩
                  by_cases e : j = k
                  · subst e; show (tr T j || _) = (tr T j || _); rw [show tr T j = true from HT.out]; rfl
                  · show (tr T j || decide (j < k)) = (tr T j || decide (j < k + 1))
                    congr 1; rw [Bool.eq_iff_iff]; simp; omega
                · exact .inr ⟨h1, h2, fun j hj => h3 j (by omega)⟩
            | false =>
              rw [ht] at ct
              have HT := hide ht
              clear ht
              obtain ⟨hnr, hone⟩ : nn < r ∧ One P c (fun j => tr T j || decide (j < k)) (r - nn) G2 := by
                rcases HR.out with h | ⟨_, _, h3⟩
                · exact h
                · have := h3 k (Nat.le_refl _) hkc
                  rw [show tr T k = false from HT.out] at this; cases this
              have HO := hide hone
              have hsk : (tr T k || decide (k < k)) = false := by rw [show tr T k = false from HT.out]; simp
              have e0 := HX.out.pk.elem k hkc
              have hm0 := getK_mem L k (by rw [HLL.out]; exact hkc)
              have hnm := HNM.out k hkc
              obtain ⟨y, hy⟩ : ∃ y, L.getD k Pa.zero = y := ⟨_, rfl⟩
              rw [hy] at hm0 hnm e0
              obtain ⟨c0, c1, c2, c3, c4, c5⟩ := e0
              simp only [add0] at c0 c1 c2 c3 c4 c5
              have HM := hide hm0
              have HY := hide hnm
              clear hm0 hnm hy hone
              by_cases hlast : nn + 1 = r
              · have hl1 : (((nn : Int) + 1) == (r : Int)) = true := by simp; omega
                have HE : Hid (addF G2 (P k) = (some l, [])) := by show _ = _; rw [one_last HSQ.out HO.out hkc hsk (by omega), HALL.out]
                have HRE : Hid (∀ j, k + 1 ≤ j → j < c → tr T j = true) := fun j h1 h2 => by
                  have := one_rest HSQ.out (k := k) (by rw [show r - nn = 1 by omega] at HO; exact HO.out) hkc hsk j h2 (by omega)
                  simpa [show ¬ j < k by omega] using this
                have HLA := hide hlast
                clear hlast hsk
                go_wp2_with fail
                refine (step_any _ y HX.out.st HX.out.inv (fun kk e => by rw [e]; exact lt_of_heap HX.out.row) (HX.out.pk.2 _ HM.out) ((HOF.out.far.mono (fun k e => .inl e)).2 _ HM.out)).mono ?_; rintro e w4 ⟨st4, ft4, _, hys4⟩
                rw [HY.out] at st4 hys4
                obtain ⟨ro, rc, rfl, B4, _⟩ := hys4 l (by rw [HE.out])
                have HX4 := hide (HX.out.add HOF.out (by rw [HE.out]) st4 ft4)
                have k1 := conv_bts B4
                have k2 := conv_bts (HB.out.carry HX4.out.bel)
                clear st4 ft4 hys4 c0 c1 c2 c3 c4 c5 B4
                go_wp2
                go_roundg g1
                case measure => omega
                case rel => exact ⟨k + 1, nn + 1, [], by omega, by go_num, by go_num, by omega, HX4.out, .inr ⟨HLA.out, rfl, HRE.out⟩⟩
              · have hl1 : (((nn : Int) + 1) == (r : Int)) = false := by simp; omega
                obtain ⟨n4, o4⟩ := one_next HSQ.out HO.out hkc hsk (by omega)
                have HN4 := hide n4
                have HO4 := hide o4
                clear n4 o4 hsk
                go_wp2_with fail
                refine (step_any _ y HX.out.st HX.out.inv (fun kk e => by rw [e]; exact lt_of_heap HX.out.row) (HX.out.pk.2 _ HM.out) ((HOF.out.far.mono (fun k e => .inl e)).2 _ HM.out)).mono ?_; rintro e w4 ⟨st4, ft4, hno4, _⟩
                rw [HY.out] at st4 hno4
                obtain rfl := hno4 HN4.out
                have HX4 := hide (HX.out.add HOF.out rfl st4 ft4)
                clear st4 ft4 hno4 c0 c1 c2 c3 c4 c5
                go_wp2
                go_roundg g1
                case measure => omega
                case rel =>
                  refine ⟨k + 1, nn + 1, _, by omega, by go_num, by go_num, by omega, HX4.out, .inl ⟨by omega, HO4.out.ext (by omega) (fun j _ => ?_)⟩⟩
                  unfold upd
                  by_cases e : j = k
                  · rw [if_pos e]; subst e; simp
                  · rw [if_neg e]
                    show (tr T j || decide (j < k)) = (tr T j || decide (j < k + 1))
                    congr 1; rw [Bool.eq_iff_iff]; simp; omega
      | succ g1 =>
        have him : i < m := by omega
        have hlt : (i : Int) < (m : Int) := by omega
        obtain ⟨ad, rfl⟩ : ∃ ad, oo = some ad := by
          cases oo with
          | none => have := HOB.out.2.2.2.1 rfl; omega
          | some ad => exact ⟨ad, rfl⟩
        have cx := (HOB.out.carry HX.out.bel).2.2.2.2 ad rfl i (by rw [← HOL.out]; exact him)
        unfold bt at cx
        obtain ⟨xn, hxn⟩ : ∃ x, (ol.getD i 0).toNat = x := ⟨_, rfl⟩
        rw [hxn] at cx
        have hx8 : xn ≤ 255 := by have := (ol.getD i 0).toNat_lt; omega
        obtain ⟨k, hk⟩ : ∃ k, xn % c = k := ⟨_, rfl⟩
        have hkc : k < c := hk ▸ Nat.mod_lt _ (by omega)
        have hki : (k : Int) < (c : Int) := by omega
        have hmod : (xn : Int) % (c : Int) = (k : Int) := by rw [← hk]; rfl
        have hmod2 : (xn : Int).tmod (c : Int) = (k : Int) := by rw [← hk]; rfl
        have ct := HX.out.row.cell k (by rw [HX.out.len]; exact hkc)
        have zt := HX.out.row.frozen k
        have e0 := HX.out.pk.elem k hkc
        have hm0 := getK_mem L k (by rw [HLL.out]; exact hkc)
        have hnm := HNM.out k hkc
        obtain ⟨y, hy⟩ : ∃ y, L.getD k Pa.zero = y := ⟨_, rfl⟩
        rw [hy] at hm0 hnm e0
        obtain ⟨c0, c1, c2, c3, c4, c5⟩ := e0
        simp only [add0] at c0 c1 c2 c3 c4 c5
        have HM := hide hm0
        have HY := hide hnm
        clear hm0 hnm hy hxn hk
        cases ht : T.getD k true with
        | true =>
          rw [ht] at ct
          have HE := hide (one_again HSQ.out HO.out hkc ht)
          have HTT := hide ht
          clear ht
          cases hr1 : ((r : Int) == 1) with
          | true =>
            go_wp2_with fail
            refine (step_any _ y HX.out.st HX.out.inv (fun kk e => by rw [e]; exact lt_of_heap HX.out.row) (HX.out.pk.2 _ HM.out) ((HOF.out.far.mono (fun k e => .inl e)).2 _ HM.out)).mono ?_; rintro e w4 ⟨st4, ft4, hno4, _⟩
            rw [HY.out] at st4 hno4
            obtain rfl := hno4 (by rw [HE.out])
            have HX4 := hide (HX.out.add HOF.out (by rw [HE.out]) st4 ft4)
            have ct := HX4.out.row.cell k (by rw [HX4.out.len]; exact hkc)
            rw [HTT.out] at ct
            clear st4 ft4 hno4 c0 c1 c2 c3 c4 c5 zt
            go_wp2
            go_roundg g1
            case measure => omega
            case rel => exact ⟨i + 1, r, G, T, by omega, by go_num, rfl, HX4.out, HO.out⟩
          | false =>
            go_wp2_with fail
            refine (step_any _ y HX.out.st HX.out.inv (fun kk e => by rw [e]; exact lt_of_heap HX.out.row) (HX.out.pk.2 _ HM.out) ((HOF.out.far.mono (fun k e => .inl e)).2 _ HM.out)).mono ?_; rintro e w4 ⟨st4, ft4, hno4, _⟩
            rw [HY.out] at st4 hno4
            obtain rfl := hno4 (by rw [HE.out])
            have HX4 := hide (HX.out.add HOF.out (by rw [HE.out]) st4 ft4)
            have ct := HX4.out.row.cell k (by rw [HX4.out.len]; exact hkc)
            rw [HTT.out] at ct
            clear st4 ft4 hno4 c0 c1 c2 c3 c4 c5 zt
            go_wp2
            go_roundg g1
            case measure => omega
            case rel => exact ⟨i + 1, r, G, T, by omega, by go_num, rfl, HX4.out, HO.out⟩
        | false =>
          rw [ht] at ct
          have HT := hide ht
          clear ht
          by_cases hr1 : r = 1
          · have hr2 : ((r : Int) == 1) = true := by rw [hr1]; rfl
            clear hr1
            go_wp2
            go_roundg g1
            case measure => omega
            case rel => exact ⟨i + 1, r, G, T, by omega, by go_num, rfl, HX.out, HO.out⟩
          · have hr2 : ((r : Int) == 1) = false := by simp; omega
            obtain ⟨n4, o4⟩ := one_next HSQ.out HO.out hkc HT.out (by omega)
            have HN4 := hide n4
            have HO4 := hide o4
            have hrm : (r : Int) - 1 = ((r - 1 : Nat) : Int) := by omega
            clear n4 o4
            go_wp2_with fail
            refine (step_any _ y HX.out.st HX.out.inv (fun kk e => by rw [e]; exact lt_of_heap HX.out.row) (HX.out.pk.2 _ HM.out) ((HOF.out.far.mono (fun k e => .inl e)).2 _ HM.out)).mono ?_; rintro e w4 ⟨st4, ft4, hno4, _⟩
            rw [HY.out] at st4 hno4
            obtain rfl := hno4 HN4.out
            have HX4 := hide (HX.out.add HOF.out rfl st4 ft4)
            have ct := HX4.out.row.cell k (by rw [HX4.out.len]; exact hkc)
            have zt := HX4.out.row.frozen k
            rw [HT.out] at ct
            have HX5 := hide (HX4.out.set HOF.out k)
            clear st4 ft4 hno4 c0 c1 c2 c3 c4 c5
            go_wp2
            go_roundg g1
            case measure => omega
            case rel => exact ⟨i + 1, r - 1, _, _, by omega, by go_num, by go_num, HX5.out, HO4.out.ext rfl (fun j hj => (tr_set T k j (by rw [HX.out.len]; exact hkc)).symm)⟩
end Go.Proofs.Ytdfakeddhoolcaa
