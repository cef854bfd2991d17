/-
  The walk of GatherApart.
-/
import Derived.Test.YtdfakeddhoolcaaGAwake
import Derived.Test.YtdfakeddhoolcaaGBls
import Derived.Deep.CutBlock
namespace Go.Proofs.Ytdfakeddhoolcaa
open Go.RowKit
/- a message of which the first i packets have come -/
def Msg1 (P : Nat → Pa) (c i : Nat) (A : List (List Pa)) : Prop := (i < c ∧ One P c (fun k => decide (k < i)) (c - i) A) ∨ (i = c ∧ A = [])
theorem Msg1.le {P : Nat → Pa} {c i : Nat} {A : List (List Pa)} (h : Msg1 P c i A) : A.length ≤ 1 := by
  rcases h with ⟨_, h⟩ | ⟨_, rfl⟩
  · exact h.le
  · simp
theorem Msg1.off {P : Nat → Pa} {c i : Nat} {A : List (List Pa)} (h : Msg1 P c i A) {p : Pa} (hp : ∀ k, k < c → (P k).with p = false) : ∀ m ∈ A, (hd m).with p = false := by
  rcases h with ⟨_, ⟨rfl, _⟩ | ⟨m, rfl, hg, hm, _⟩⟩ | ⟨_, rfl⟩
  · exact fun _ h => by cases h
  · intro n hn
    rw [List.mem_singleton.1 hn]
    obtain ⟨k, hk, _, e⟩ := (hm _).1 (hd_mem hg.some)
    rw [e]; exact hp k hk
  · exact fun _ h => by cases h
theorem msg1_next {P : Nat → Pa} {c i : Nat} {G A B : List (List Pa)} (hP : Sq P c) (hG : G = A ++ B ∨ G = B ++ A) (hA : Msg1 P c i A) (hB : ∀ m ∈ B, (hd m).with (P i) = false) (hl : B.length ≤ 1) (hi : i + 1 < c) :
    ∃ A', (addF G (P i)).1 = none ∧ ((addF G (P i)).2 = A' ++ B ∨ (addF G (P i)).2 = B ++ A') ∧ Msg1 P c (i + 1) A' := by
  rcases hA with ⟨_, h⟩ | ⟨h, _⟩
  · obtain ⟨A', h1, h2, h3⟩ := (one_add hP hG h hB hl (show i < c by omega)).2.1 (by simp) (by omega)
    refine ⟨A', h1, h2, .inl ⟨hi, h3.ext (by omega) (fun k _ => ?_)⟩⟩
    unfold upd
    by_cases e : k = i
    · rw [if_pos e]; subst e; simp
    · rw [if_neg e, Bool.eq_iff_iff]; simp; omega
  · omega
theorem msg1_last {P : Nat → Pa} {c i : Nat} {G A B : List (List Pa)} (hP : Sq P c) (hG : G = A ++ B ∨ G = B ++ A) (hA : Msg1 P c i A) (hB : ∀ m ∈ B, (hd m).with (P i) = false) (hl : B.length ≤ 1) (hi : i + 1 = c) :
    addF G (P i) = (some (allL P c), B) ∧ Msg1 P c (i + 1) [] := by
  rcases hA with ⟨_, h⟩ | ⟨h, _⟩
  · exact ⟨(one_add hP hG h hB hl (show i < c by omega)).2.2 (by simp) (by omega), .inr ⟨hi, rfl⟩⟩
  · omega
theorem FarK.tail {S : Nat → Prop} {ao : Option Addr} {n cap k : Nat} {L : List Pa} (h : FarK S ao n L) (hk : k ≤ n) : FarK S (tailG 6 ao k cap) (n - k) (L.drop k) := ⟨h.1.tail hk, fun x hx => h.2 x (List.mem_of_mem_drop hx)⟩
/- what is left of a message's packets -/
structure Lf (wq : World) (g : Nat) (pa : Option Addr) (x : Nat) (M : List Pa) : Prop where
  pk : Pks wq pa x x M
  far : FarK (· = g) pa x M
theorem Lf.foot {wq w' : World} {g : Nat} {pa : Option Addr} {x : Nat} {M : List Pa} (h : Lf wq g pa x M) (f : Foot (· = g) wq w') : Lf w' g pa x M := ⟨h.pk.foot f h.far, h.far⟩
theorem Lf.tail {wq : World} {g : Nat} {pa : Option Addr} {x : Nat} {M : List Pa} (h : Lf wq g pa (x + 1) M) : Lf wq g (tailG 6 pa 1 (x + 1)) x (M.drop 1) := ⟨h.pk.tail 1 (by omega), h.far.tail (k := 1) (by omega)⟩
structure ASt (w wq : World) (g c1 c2 i j x y : Nat) (L1 L2 : List Pa) (P Q : Nat → Pa) (pa qa : Option Addr) (G A B : List (List Pa)) : Prop where
  hx : i + x = c1
  hy : j + y = c2
  st : St wq g NoS G
  inv : Inv G
  ab : G = A ++ B ∨ G = B ++ A
  a : Msg1 P c1 i A
  b : Msg1 Q c2 j B
  p : Lf wq g pa x (L1.drop i)
  q : Lf wq g qa y (L2.drop j)
  ft : Foot (· = g) w wq
def ApRel (w : World) (g c1 c2 : Nat) (L1 L2 : List Pa) (P Q : Nat → Pa) (gk : Nat) (v10 v12 v15 v16 : Value) (wq : World) : Prop :=
  ∃ (i j x y : Nat) (pa qa : Option Addr) (G A B : List (List Pa)), x + y = gk ∧ v10 = .slice pa x x ∧ v12 = .slice qa y y ∧ v15 = .int .i64 ((i + j : Nat) : Int) ∧ v16 = .int .i64 ((i + j : Nat) : Int) ∧ ASt w wq g c1 c2 i j x y L1 L2 P Q pa qa G A B
theorem getK_drop (L : List Pa) (i : Nat) : (L.drop i).getD 0 Pa.zero = L.getD i Pa.zero := by simp [List.getD_eq_getElem?_getD]
def IsB (v : Value) : Prop := ∃ fb : Bool, v = .bool fb
theorem dropK1 (L : List Pa) (i : Nat) : (L.drop i).drop 1 = L.drop (i + 1) := by rw [List.drop_drop]
set_option maxRecDepth 20000 in
set_option maxHeartbeats 6400000 in
theorem walk_apart (ao : Option Addr) (n cap : Nat) (zs : List Int) (bo : Option Addr) (m bcap : Nat) (ys : List Int) (z : Nat) (xo : Option Addr) (xn xcap : Nat) (mix : List Bool) (w : World) (hr : RowOf .u8 w ao n cap zs) (hr2 : RowOf .u8 w bo m bcap ys) (hz : z ≤ 255) (hx : Bls w xo xn xcap mix) :
    Calls Try.prog 5 #[.slice ao n cap, .slice bo m bcap, .int .u8 (z : Int), .slice xo xn xcap] w fun e w' => e = .returned (.bool true) ∧ Below w.heap.size w w' := by
  obtain ⟨l1, hb1⟩ := hr.bytes
  obtain ⟨l2, hb2⟩ := hr2.bytes
  have HB1 := hide hb1
  have HB2 := hide hb2
  have HL1 := hide hb1.1
  have HL2 := hide hb2.1
  have HMIX := hide hx
  have hnc := hb1.2.1
  have hcap : cap ≤ 9223372036854775807 := hb1.2.2.1
  have hmc := hb2.2.1
  have hbcap : bcap ≤ 9223372036854775807 := hb2.2.2.1
  have hxc := hx.2.1
  have hxcap : xcap ≤ 9223372036854775807 := hx.2.2.1
  clear hr hb1 hr2 hb2 hx
  obtain ⟨s, hs⟩ : ∃ s, 1 + z % 40 = s := ⟨_, rfl⟩
  have h3 : 1 + (z : Int) % 40 = (s : Int) := by omega
  have hs1 : 1 ≤ s := by omega
  have hs2 : s ≤ 40 := by omega
  clear hs
  go_enter Try.func5, Try.ntmps5
  go_wp2_with fail
  refine (awake_any _).mono ?_; rintro e w1 ⟨rfl, b1⟩
  have HBA := hide b1
  clear b1
  by_cases hn : s * 256 < n
  · have hn2 : 256 < (n : Int) := by omega
    go_wp2_with fail
    refine (split_bounds ao n cap 0 1 5 s _ hs1 (by omega) hn).mono ?_; rintro e w2 ⟨rfl, rfl⟩
    by_cases hm : s * 256 < m
    · go_wp2_with fail
      refine (split_bounds bo m bcap 0 1 6 s _ hs1 (by omega) hm).mono ?_; rintro e w2 ⟨rfl, rfl⟩
      go_wp2
      go_ret
      exact ⟨rfl, HBA.out⟩
    · go_wp2_with fail
      refine (split_yes bo m bcap l2 0 1 6 s _ (HB2.out.carry HBA.out) hs1 (by omega) (by omega)).mono ?_; rintro e W ⟨L, rfl, _, _, _, b2⟩
      have HBB := hide (below_one HBA.out b2)
      clear b2
      go_wp2
      go_ret
      exact ⟨rfl, HBB.out⟩
  · go_wp2_with fail
    refine (split_yes ao n cap l1 0 1 5 s _ (HB1.out.carry HBA.out) hs1 (by omega) (by omega)).mono ?_; rintro e W1 ⟨L1, rfl, P1, S1, _, b2⟩
    have HBB := hide (below_one HBA.out b2)
    have hc1 := cnt_le n s hs1 (by omega)
    have hc10 := cnt_pos n s
    have hall1 : allL (pkF 0 1 5 l1 s (cntF n s)) (cntF n s) = l1 := by rw [HL1.out]; exact all_pk 0 1 5 l1 s hs1
    obtain ⟨c1, hcc1⟩ : ∃ c, cntF n s = c := ⟨_, rfl⟩
    rw [hcc1] at P1 S1 hc1 hc10 hall1 ⊢
    obtain ⟨g1, hg1⟩ : ∃ g, w1.heap.size = g := ⟨_, rfl⟩
    rw [hg1] at P1
    simp only [hg1]
    have HP1 := hide P1
    have HS1 := hide S1
    clear P1 S1 b2 hg1 hcc1
    by_cases hm : s * 256 < m
    · have hm2 : 256 < (m : Int) := by omega
      have hn2 : ¬ (256 < (n : Int)) ∨ 256 < (n : Int) := by omega
      go_wp2_with fail
      refine (split_bounds bo m bcap 0 1 6 s _ hs1 (by omega) hm).mono ?_; rintro e w2 ⟨rfl, rfl⟩
      rcases hn2 with hn2 | hn2
      · go_wp2
        go_ret
        exact ⟨rfl, HBB.out⟩
      · go_wp2
        go_ret
        exact ⟨rfl, HBB.out⟩
    · go_wp2_with fail
      refine (split_yes bo m bcap l2 0 1 6 s _ (HB2.out.carry HBB.out) hs1 (by omega) (by omega)).mono ?_; rintro e W ⟨L2, rfl, P2, S2, _, b2⟩
      have HBC := hide (below_one HBB.out b2)
      have HP1 := hide (HP1.out.carry b2)
      have hc2 := cnt_le m s hs1 (by omega)
      have hc20 := cnt_pos m s
      have hall2 : allL (pkF 0 1 6 l2 s (cntF m s)) (cntF m s) = l2 := by rw [HL2.out]; exact all_pk 0 1 6 l2 s hs1
      obtain ⟨c2, hcc2⟩ : ∃ c, cntF m s = c := ⟨_, rfl⟩
      rw [hcc2] at P2 S2 hc2 hc20 hall2 ⊢
      obtain ⟨g2, hg2⟩ : ∃ g, W1.heap.size = g := ⟨_, rfl⟩
      rw [hg2] at P2
      simp only [hg2]
      have HP2 := hide P2
      have HS2 := hide S2
      clear P2 S2 b2 hg2 hcc2
      obtain ⟨P, hP⟩ : ∃ P, pkF 0 1 5 l1 s c1 = P := ⟨_, rfl⟩
      obtain ⟨Q, hQ⟩ : ∃ P, pkF 0 1 6 l2 s c2 = P := ⟨_, rfl⟩
      have HSP : Hid (Sq P c1) := by show Sq _ _; rw [← hP]; exact sq_pk 0 1 5 l1 s c1 (by omega) hc1 (by omega)
      have HSQ : Hid (Sq Q c2) := by show Sq _ _; rw [← hQ]; exact sq_pk 0 1 6 l2 s c2 (by omega) hc2 (by omega)
      have HNP : Hid (∀ k, k < c1 → (L1.getD k Pa.zero).nm = P k) := fun k hk => by rw [← hP]; exact spl_nm HS1.out k hk
      have HNQ : Hid (∀ k, k < c2 → (L2.getD k Pa.zero).nm = Q k) := fun k hk => by rw [← hQ]; exact spl_nm HS2.out k hk
      have HPQ : Hid (∀ j k, j < c1 → k < c2 → (P j).with (Q k) = false) := fun j k _ _ => by rw [← hP, ← hQ]; rfl
      have HQP : Hid (∀ j k, j < c2 → k < c1 → (Q j).with (P k) = false) := fun j k _ _ => by rw [← hP, ← hQ]; rfl
      rw [hP] at hall1
      rw [hQ] at hall2
      have HAP := hide hall1
      have HAQ := hide hall2
      clear hP hQ hall1 hall2 HS1 HS2
      obtain ⟨g, hgg⟩ : ∃ g, W.heap.size = g := ⟨_, rfl⟩
      obtain ⟨X, hX⟩ : ∃ X, W.alloc (.cells #[.slice none 0 0] 27) = X := ⟨_, rfl⟩
      have bX : Below W.heap.size W X := hX ▸ below_alloc W _
      have HWG : Hid (w.heap.size ≤ g) := by show _ ≤ _; rw [← hgg]; exact HBC.out.size
      have HAS : Hid (ASt w X g c1 c2 0 0 c1 c2 L1 L2 P Q (some ⟨g1, 0, none⟩) (some ⟨g2, 0, none⟩) [] [] []) := by
        refine ⟨by omega, by omega, ?_, inv_nil, .inl rfl, .inl ⟨by omega, (one_nil (P := P) (by omega)).ext (by omega) (fun k _ => by simp)⟩, .inl ⟨by omega, (one_nil (P := Q) (by omega)).ext (by omega) (fun k _ => by simp)⟩, ⟨HP1.out.carry bX, HP1.out.far (fun k e => by omega)⟩, ⟨HP2.out.carry bX, HP2.out.far (fun k e => by omega)⟩, below_foot _ (below_one HBC.out bX)⟩
        rw [← hX, ← hgg]; exact st_new W NoS
      clear bX HBA HBB HP1 HP2
      go_wp2_with fail
      go_loopg [10, 12, 15, 16] (c1 + c2) (fun gk v10 v12 v15 v16 wq => ApRel w g c1 c2 L1 L2 P Q gk v10 v12 v15 v16 wq)
      case atStart => exact ⟨0, 0, c1, c2, _, _, _, _, _, by omega, rfl, rfl, rfl, rfl, HAS.out⟩
      case round =>
        obtain ⟨i, j, x, y, pa, qa, G, A, B, hk, rfl, rfl, rfl, rfl, hst⟩ := hrel
        clear HAS hX hgg
        have HAS := hide hst
        have hix := hst.hx
        have hjy := hst.hy
        have hpc := hst.p.pk.1.2.1
        clear hst
        obtain ⟨ij, hij⟩ : ∃ k, i + j = k := ⟨_, rfl⟩
        have hijb : ij ≤ 512 := by omega
        cases gk with
        | zero =>
          obtain rfl : x = 0 := by omega
          obtain rfl : y = 0 := by omega
          have HGN : Hid (G = []) := by
            have hA : A = [] := by rcases HAS.out.a with ⟨h, _⟩ | ⟨_, h⟩; omega; exact h
            have hB : B = [] := by rcases HAS.out.b with ⟨h, _⟩ | ⟨_, h⟩; omega; exact h
            have := HAS.out.ab
            rw [hA, hB] at this
            show G = []
            simpa using this
          have hpos : (0 : Int) < (ij : Int) := by omega
          rw [hij]
          go_wp2_with fail
          refine (waiting_any _ HAS.out.st).mono ?_; rintro e w5 ⟨rfl, rfl⟩
          rw [HGN.out]
          go_wp2
          go_ret
          exact ⟨rfl, foot_below HAS.out.ft HWG.out⟩
        | succ g1 =>
          have hsum : (0 : Int) < (x : Int) + (y : Int) := by omega
          rw [hij]
          go_upto_region 13 with fail
          go_cut [17] from 56 to 136 (fun v wx => IsB v ∧ wr = wx)
          case first =>
            by_cases hkx : ij < xn
            · have hkxi : (ij : Int) < (xn : Int) := by omega
              obtain ⟨ax, rfl⟩ := HMIX.out.there hkx
              have cm := (HMIX.out.carry (foot_below HAS.out.ft HWG.out) (Nat.le_refl _)).2.2.2.2 ax rfl ij hkx
              go_wp2
              go_meet
              exact ⟨⟨_, rfl⟩, rfl⟩
            · have hkxi : ¬ ((ij : Int) < (xn : Int)) := by omega
              go_wp2
              go_meet
              exact ⟨⟨_, rfl⟩, rfl⟩
          case rest =>
            obtain ⟨⟨fb, rfl⟩, rfl⟩ := hcut
            by_cases hy0 : y = 0
            · have hy0i : ((y : Int) == 0) = true := by simp; omega
              have hxp : 0 < x := by omega
              clear hy0 hsum
              obtain ⟨x1, rfl⟩ : ∃ x1, x = x1 + 1 := ⟨x - 1, by omega⟩
              obtain ⟨ae, rfl⟩ := HAS.out.p.pk.there (k := 0) (by omega)
              have hIC : i < c1 := by have := HAS.out.hx; omega
              have hx2 : i + 1 + x1 = c1 := by have := HAS.out.hx; omega
              have e0 := HAS.out.p.pk.elem 0 (by omega)
              have hm0 := getK_mem (L1.drop i) 0 (by have := HAS.out.p.pk.len; omega)
              have hnm := HNP.out i hIC
              rw [getK_drop] at e0 hm0
              obtain ⟨y0, hy0⟩ : ∃ y, L1.getD i Pa.zero = y := ⟨_, rfl⟩
              rw [hy0] at hm0 hnm e0
              obtain ⟨d0, d1, d2, d3, d4, d5⟩ := e0
              simp only [Nat.zero_mul, addZ] at d0 d1 d2 d3 d4 d5
              have hcut := fun (W : World) => cut_pks W (some ae) (x1 + 1) (x1 + 1) 1 (by omega)
              obtain ⟨na, hna⟩ : ∃ a, tailG 6 (some ae) 1 (x1 + 1) = a := ⟨_, rfl⟩
              have hcut2 : ∀ W : World, (Instr.slice 41 (.slice (some ae) (x1 + 1) (x1 + 1)) (some (.int .i64 1)) none none).run Try.prog W = .ok (.slice na x1 x1) W := fun W => by
                rw [← hna]; exact hcut W
              obtain ⟨xn, hxn⟩ : ∃ n, x1 + 1 = n := ⟨_, rfl⟩
              have hxp : (0 : Int) < (xn : Int) := by omega
              have hxz : ¬ xn = 0 := by omega
              rw [hxn] at hcut2
              have HXN := hide hxn
              have HM := hide hm0
              have HY := hide hnm
              have HOFF := hide ((HAS.out.b.off (p := P i) (fun k hk => HQP.out k i hk hIC)))
              have HNA := hide hna
              simp only [hxn]
              have hxb : x1 ≤ 256 := by omega
              clear hm0 hnm hy0 hcut hna hxn
              have HK := hide hk
              clear hk
              by_cases hlast : i + 1 = c1
              · have hx0 : x1 = 0 := by omega
                subst hx0
                obtain ⟨e4, hA'⟩ := msg1_last HSP.out HAS.out.ab HAS.out.a HOFF.out HAS.out.b.le hlast
                rw [HAP.out] at e4
                have HE4 := hide e4
                have HA4 := hide hA'
                clear e4 hA' hlast
                go_wp2_with fail
                refine (step_any _ y0 HAS.out.st HAS.out.inv noS (HAS.out.p.pk.2 _ HM.out) (HAS.out.p.far.2 _ HM.out)).mono ?_; rintro e w4 ⟨st4, ft4, _, hys4⟩
                rw [HY.out, HE4.out] at st4 hys4
                obtain ⟨ro, rc, rfl, B4, _⟩ := hys4 l1 rfl
                have HP4 := hide (HAS.out.p.foot ft4)
                have HQ4 := hide (HAS.out.q.foot ft4)
                have k1 := conv_bts B4
                have k2 := conv_bts (HB1.out.carry (foot_below (HAS.out.ft.then ft4) HWG.out))
                have HNEW : Hid (ASt w w4 g c1 c2 (i + 1) j 0 y L1 L2 P Q na qa B [] B) := by
                  rw [← HNA.out]
                  have e4 : (addF G (P i)).2 = B := by rw [HE4.out]
                  have hA' := HA4.out
                  exact ⟨hx2, HAS.out.hy, st4, e4 ▸ HAS.out.inv.add _, .inl rfl, hA', HAS.out.b, dropK1 L1 i ▸ HP4.out.tail, HQ4.out, HAS.out.ft.then ft4⟩
                clear st4 ft4 hys4 d0 d1 d2 d3 d4 d5 B4
                go_wp2
                go_roundg g1
                case measure => (have := HK.out; omega)
                case rel => exact ⟨i + 1, j, _, _, _, _, _, _, _, by have := HK.out; omega, rfl, rfl, by (congr 1; omega), by (congr 1; omega), HNEW.out⟩
              · have hx0 : ¬ (x1 = 0) := by omega
                have hx0i : ((x1 : Int) == 0) = false := by simp; omega
                obtain ⟨A', e4, hab, hA'⟩ := msg1_next HSP.out HAS.out.ab HAS.out.a HOFF.out HAS.out.b.le (show i + 1 < c1 by omega)
                have HE4 := hide e4
                have HA4 := hide (And.intro hab hA')
                clear e4 hab hA' hlast
                go_wp2_with fail
                refine (step_any _ y0 HAS.out.st HAS.out.inv noS (HAS.out.p.pk.2 _ HM.out) (HAS.out.p.far.2 _ HM.out)).mono ?_; rintro e w4 ⟨st4, ft4, hno4, _⟩
                rw [HY.out] at st4 hno4
                obtain rfl := hno4 HE4.out
                have HP4 := hide (HAS.out.p.foot ft4)
                have HQ4 := hide (HAS.out.q.foot ft4)
                have HNEW : Hid (ASt w w4 g c1 c2 (i + 1) j x1 y L1 L2 P Q na qa (addF G (P i)).2 A' B) := by
                  rw [← HNA.out]
                  obtain ⟨hab, hA'⟩ := HA4.out
                  exact ⟨hx2, HAS.out.hy, st4, HAS.out.inv.add _, hab, hA', HAS.out.b, dropK1 L1 i ▸ HP4.out.tail, HQ4.out, HAS.out.ft.then ft4⟩
                clear st4 ft4 hno4 d0 d1 d2 d3 d4 d5
                go_wp2
                go_roundg g1
                case measure => (have := HK.out; omega)
                case rel => exact ⟨i + 1, j, _, _, _, _, _, _, _, by have := HK.out; omega, rfl, rfl, by (congr 1; omega), by (congr 1; omega), HNEW.out⟩
            · have hy0i : ((y : Int) == 0) = false := by simp; omega
              cases fb with
              | true =>
                by_cases hx0 : x = 0
                · have hyp : 0 < y := by omega
                  subst hx0
                  clear hy0 hsum
                  obtain ⟨x1, rfl⟩ : ∃ x1, y = x1 + 1 := ⟨y - 1, by omega⟩
                  obtain ⟨ae, rfl⟩ := HAS.out.q.pk.there (k := 0) (by omega)
                  have hIC : j < c2 := by have := HAS.out.hy; omega
                  have hx2 : j + 1 + x1 = c2 := by have := HAS.out.hy; omega
                  have e0 := HAS.out.q.pk.elem 0 (by omega)
                  have hm0 := getK_mem (L2.drop j) 0 (by have := HAS.out.q.pk.len; omega)
                  have hnm := HNQ.out j hIC
                  rw [getK_drop] at e0 hm0
                  obtain ⟨y0, hy0⟩ : ∃ y, L2.getD j Pa.zero = y := ⟨_, rfl⟩
                  rw [hy0] at hm0 hnm e0
                  obtain ⟨d0, d1, d2, d3, d4, d5⟩ := e0
                  simp only [Nat.zero_mul, addZ] at d0 d1 d2 d3 d4 d5
                  have hcut := fun (W : World) => cut_pks W (some ae) (x1 + 1) (x1 + 1) 1 (by omega)
                  obtain ⟨na, hna⟩ : ∃ a, tailG 6 (some ae) 1 (x1 + 1) = a := ⟨_, rfl⟩
                  have hcut2 : ∀ W : World, (Instr.slice 41 (.slice (some ae) (x1 + 1) (x1 + 1)) (some (.int .i64 1)) none none).run Try.prog W = .ok (.slice na x1 x1) W := fun W => by
                    rw [← hna]; exact hcut W
                  obtain ⟨xn, hxn⟩ : ∃ n, x1 + 1 = n := ⟨_, rfl⟩
                  have hxp : (0 : Int) < (xn : Int) := by omega
                  have hxz : ¬ xn = 0 := by omega
                  rw [hxn] at hcut2
                  have HXN := hide hxn
                  have HM := hide hm0
                  have HY := hide hnm
                  have HOFF := hide ((HAS.out.a.off (p := Q j) (fun k hk => HPQ.out k j hk hIC)))
                  have HNA := hide hna
                  simp only [hxn]
                  have hxb : x1 ≤ 256 := by omega
                  clear hm0 hnm hy0 hcut hna hxn
                  have HK := hide hk
                  clear hk
                  by_cases hlast : j + 1 = c2
                  · have hx0 : x1 = 0 := by omega
                    subst hx0
                    obtain ⟨e4, hA'⟩ := msg1_last HSQ.out HAS.out.ab.symm HAS.out.b HOFF.out HAS.out.a.le hlast
                    rw [HAQ.out] at e4
                    have HE4 := hide e4
                    have HA4 := hide hA'
                    clear e4 hA' hlast
                    go_wp2_with fail
                    refine (step_any _ y0 HAS.out.st HAS.out.inv noS (HAS.out.q.pk.2 _ HM.out) (HAS.out.q.far.2 _ HM.out)).mono ?_; rintro e w4 ⟨st4, ft4, _, hys4⟩
                    rw [HY.out, HE4.out] at st4 hys4
                    obtain ⟨ro, rc, rfl, B4, _⟩ := hys4 l2 rfl
                    have HP4 := hide (HAS.out.q.foot ft4)
                    have HQ4 := hide (HAS.out.p.foot ft4)
                    have k1 := conv_bts B4
                    have k2 := conv_bts (HB2.out.carry (foot_below (HAS.out.ft.then ft4) HWG.out))
                    have HNEW : Hid (ASt w w4 g c1 c2 i (j + 1) 0 0 L1 L2 P Q pa na A A []) := by
                      rw [← HNA.out]
                      have e4 : (addF G (Q j)).2 = A := by rw [HE4.out]
                      have hA' := HA4.out
                      exact ⟨HAS.out.hx, hx2, st4, e4 ▸ HAS.out.inv.add _, .inr rfl, HAS.out.a, hA', HQ4.out, dropK1 L2 j ▸ HP4.out.tail, HAS.out.ft.then ft4⟩
                    clear st4 ft4 hys4 d0 d1 d2 d3 d4 d5 B4
                    go_wp2
                    go_roundg g1
                    case measure => (have := HK.out; omega)
                    case rel => exact ⟨i, j + 1, _, _, _, _, _, _, _, by have := HK.out; omega, rfl, rfl, by (congr 1; omega), by (congr 1; omega), HNEW.out⟩
                  · have hx0 : ¬ (x1 = 0) := by omega
                    have hx0i : ((x1 : Int) == 0) = false := by simp; omega
                    obtain ⟨A', e4, hab, hA'⟩ := msg1_next HSQ.out HAS.out.ab.symm HAS.out.b HOFF.out HAS.out.a.le (show j + 1 < c2 by omega)
                    have HE4 := hide e4
                    have HA4 := hide (And.intro hab hA')
                    clear e4 hab hA' hlast
                    go_wp2_with fail
                    refine (step_any _ y0 HAS.out.st HAS.out.inv noS (HAS.out.q.pk.2 _ HM.out) (HAS.out.q.far.2 _ HM.out)).mono ?_; rintro e w4 ⟨st4, ft4, hno4, _⟩
                    rw [HY.out] at st4 hno4
                    obtain rfl := hno4 HE4.out
                    have HP4 := hide (HAS.out.q.foot ft4)
                    have HQ4 := hide (HAS.out.p.foot ft4)
                    have HNEW : Hid (ASt w w4 g c1 c2 i (j + 1) 0 x1 L1 L2 P Q pa na (addF G (Q j)).2 A A') := by
                      rw [← HNA.out]
                      obtain ⟨hab, hA'⟩ := HA4.out
                      exact ⟨HAS.out.hx, hx2, st4, HAS.out.inv.add _, hab.symm, HAS.out.a, hA', HQ4.out, dropK1 L2 j ▸ HP4.out.tail, HAS.out.ft.then ft4⟩
                    clear st4 ft4 hno4 d0 d1 d2 d3 d4 d5
                    go_wp2
                    go_roundg g1
                    case measure => (have := HK.out; omega)
                    case rel => exact ⟨i, j + 1, _, _, _, _, _, _, _, by have := HK.out; omega, rfl, rfl, by (congr 1; omega), by (congr 1; omega), HNEW.out⟩
                · have hxpi : (0 : Int) < (x : Int) := by omega
                  have hxp : 0 < x := by omega
                  clear hy0 hsum
                  obtain ⟨x1, rfl⟩ : ∃ x1, x = x1 + 1 := ⟨x - 1, by omega⟩
                  obtain ⟨ae, rfl⟩ := HAS.out.p.pk.there (k := 0) (by omega)
                  have hIC : i < c1 := by have := HAS.out.hx; omega
                  have hx2 : i + 1 + x1 = c1 := by have := HAS.out.hx; omega
                  have e0 := HAS.out.p.pk.elem 0 (by omega)
                  have hm0 := getK_mem (L1.drop i) 0 (by have := HAS.out.p.pk.len; omega)
                  have hnm := HNP.out i hIC
                  rw [getK_drop] at e0 hm0
                  obtain ⟨y0, hy0⟩ : ∃ y, L1.getD i Pa.zero = y := ⟨_, rfl⟩
                  rw [hy0] at hm0 hnm e0
                  obtain ⟨d0, d1, d2, d3, d4, d5⟩ := e0
                  simp only [Nat.zero_mul, addZ] at d0 d1 d2 d3 d4 d5
                  have hcut := fun (W : World) => cut_pks W (some ae) (x1 + 1) (x1 + 1) 1 (by omega)
                  obtain ⟨na, hna⟩ : ∃ a, tailG 6 (some ae) 1 (x1 + 1) = a := ⟨_, rfl⟩
                  have hcut2 : ∀ W : World, (Instr.slice 41 (.slice (some ae) (x1 + 1) (x1 + 1)) (some (.int .i64 1)) none none).run Try.prog W = .ok (.slice na x1 x1) W := fun W => by
                    rw [← hna]; exact hcut W
                  obtain ⟨xn, hxn⟩ : ∃ n, x1 + 1 = n := ⟨_, rfl⟩
                  have hxp : (0 : Int) < (xn : Int) := by omega
                  have hxz : ¬ xn = 0 := by omega
                  rw [hxn] at hcut2
                  have HXN := hide hxn
                  have HM := hide hm0
                  have HY := hide hnm
                  have HOFF := hide ((HAS.out.b.off (p := P i) (fun k hk => HQP.out k i hk hIC)))
                  have HNA := hide hna
                  simp only [hxn]
                  have hxb : x1 ≤ 256 := by omega
                  clear hm0 hnm hy0 hcut hna hxn
                  have HK := hide hk
                  clear hk
                  by_cases hlast : i + 1 = c1
                  · have hx0 : x1 = 0 := by omega
                    subst hx0
                    obtain ⟨e4, hA'⟩ := msg1_last HSP.out HAS.out.ab HAS.out.a HOFF.out HAS.out.b.le hlast
                    rw [HAP.out] at e4
                    have HE4 := hide e4
                    have HA4 := hide hA'
                    clear e4 hA' hlast
                    go_wp2_with fail
                    refine (step_any _ y0 HAS.out.st HAS.out.inv noS (HAS.out.p.pk.2 _ HM.out) (HAS.out.p.far.2 _ HM.out)).mono ?_; rintro e w4 ⟨st4, ft4, _, hys4⟩
                    rw [HY.out, HE4.out] at st4 hys4
                    obtain ⟨ro, rc, rfl, B4, _⟩ := hys4 l1 rfl
                    have HP4 := hide (HAS.out.p.foot ft4)
                    have HQ4 := hide (HAS.out.q.foot ft4)
                    have k1 := conv_bts B4
                    have k2 := conv_bts (HB1.out.carry (foot_below (HAS.out.ft.then ft4) HWG.out))
                    have HNEW : Hid (ASt w w4 g c1 c2 (i + 1) j 0 y L1 L2 P Q na qa B [] B) := by
                      rw [← HNA.out]
                      have e4 : (addF G (P i)).2 = B := by rw [HE4.out]
                      have hA' := HA4.out
                      exact ⟨hx2, HAS.out.hy, st4, e4 ▸ HAS.out.inv.add _, .inl rfl, hA', HAS.out.b, dropK1 L1 i ▸ HP4.out.tail, HQ4.out, HAS.out.ft.then ft4⟩
                    clear st4 ft4 hys4 d0 d1 d2 d3 d4 d5 B4
                    go_wp2
                    go_roundg g1
                    case measure => (have := HK.out; omega)
                    case rel => exact ⟨i + 1, j, _, _, _, _, _, _, _, by have := HK.out; omega, rfl, rfl, by (congr 1; omega), by (congr 1; omega), HNEW.out⟩
                  · have hx0 : ¬ (x1 = 0) := by omega
                    have hx0i : ((x1 : Int) == 0) = false := by simp; omega
                    obtain ⟨A', e4, hab, hA'⟩ := msg1_next HSP.out HAS.out.ab HAS.out.a HOFF.out HAS.out.b.le (show i + 1 < c1 by omega)
                    have HE4 := hide e4
                    have HA4 := hide (And.intro hab hA')
                    clear e4 hab hA' hlast
                    go_wp2_with fail
                    refine (step_any _ y0 HAS.out.st HAS.out.inv noS (HAS.out.p.pk.2 _ HM.out) (HAS.out.p.far.2 _ HM.out)).mono ?_; rintro e w4 ⟨st4, ft4, hno4, _⟩
                    rw [HY.out] at st4 hno4
                    obtain rfl := hno4 HE4.out
                    have HP4 := hide (HAS.out.p.foot ft4)
                    have HQ4 := hide (HAS.out.q.foot ft4)
                    have HNEW : Hid (ASt w w4 g c1 c2 (i + 1) j x1 y L1 L2 P Q na qa (addF G (P i)).2 A' B) := by
                      rw [← HNA.out]
                      obtain ⟨hab, hA'⟩ := HA4.out
                      exact ⟨hx2, HAS.out.hy, st4, HAS.out.inv.add _, hab, hA', HAS.out.b, dropK1 L1 i ▸ HP4.out.tail, HQ4.out, HAS.out.ft.then ft4⟩
                    clear st4 ft4 hno4 d0 d1 d2 d3 d4 d5
                    go_wp2
                    go_roundg g1
                    case measure => (have := HK.out; omega)
                    case rel => exact ⟨i + 1, j, _, _, _, _, _, _, _, by have := HK.out; omega, rfl, rfl, by (congr 1; omega), by (congr 1; omega), HNEW.out⟩
              | false =>
                have hyp : 0 < y := by omega
                clear hy0 hsum
                obtain ⟨x1, rfl⟩ : ∃ x1, y = x1 + 1 := ⟨y - 1, by omega⟩
                obtain ⟨ae, rfl⟩ := HAS.out.q.pk.there (k := 0) (by omega)
                have hIC : j < c2 := by have := HAS.out.hy; omega
                have hx2 : j + 1 + x1 = c2 := by have := HAS.out.hy; omega
                have e0 := HAS.out.q.pk.elem 0 (by omega)
                have hm0 := getK_mem (L2.drop j) 0 (by have := HAS.out.q.pk.len; omega)
                have hnm := HNQ.out j hIC
                rw [getK_drop] at e0 hm0
                obtain ⟨y0, hy0⟩ : ∃ y, L2.getD j Pa.zero = y := ⟨_, rfl⟩
                rw [hy0] at hm0 hnm e0
                obtain ⟨d0, d1, d2, d3, d4, d5⟩ := e0
                simp only [Nat.zero_mul, addZ] at d0 d1 d2 d3 d4 d5
                have hcut := fun (W : World) => cut_pks W (some ae) (x1 + 1) (x1 + 1) 1 (by omega)
                obtain ⟨na, hna⟩ : ∃ a, tailG 6 (some ae) 1 (x1 + 1) = a := ⟨_, rfl⟩
                have hcut2 : ∀ W : World, (Instr.slice 41 (.slice (some ae) (x1 + 1) (x1 + 1)) (some (.int .i64 1)) none none).run Try.prog W = .ok (.slice na x1 x1) W := fun W => by
                  rw [← hna]; exact hcut W
                obtain ⟨xn, hxn⟩ : ∃ n, x1 + 1 = n := ⟨_, rfl⟩
                have hxp : (0 : Int) < (xn : Int) := by omega
                have hxz : ¬ xn = 0 := by omega
                rw [hxn] at hcut2
                have HXN := hide hxn
                have HM := hide hm0
                have HY := hide hnm
                have HOFF := hide ((HAS.out.a.off (p := Q j) (fun k hk => HPQ.out k j hk hIC)))
                have HNA := hide hna
                simp only [hxn]
                have hxb : x1 ≤ 256 := by omega
                clear hm0 hnm hy0 hcut hna hxn
                have HK := hide hk
                clear hk
                by_cases hlast : j + 1 = c2
                · have hx0 : x1 = 0 := by omega
                  subst hx0
                  obtain ⟨e4, hA'⟩ := msg1_last HSQ.out HAS.out.ab.symm HAS.out.b HOFF.out HAS.out.a.le hlast
                  rw [HAQ.out] at e4
                  have HE4 := hide e4
                  have HA4 := hide hA'
                  clear e4 hA' hlast
                  go_wp2_with fail
                  refine (step_any _ y0 HAS.out.st HAS.out.inv noS (HAS.out.q.pk.2 _ HM.out) (HAS.out.q.far.2 _ HM.out)).mono ?_; rintro e w4 ⟨st4, ft4, _, hys4⟩
                  rw [HY.out, HE4.out] at st4 hys4
                  obtain ⟨ro, rc, rfl, B4, _⟩ := hys4 l2 rfl
                  have HP4 := hide (HAS.out.q.foot ft4)
                  have HQ4 := hide (HAS.out.p.foot ft4)
                  have k1 := conv_bts B4
                  have k2 := conv_bts (HB2.out.carry (foot_below (HAS.out.ft.then ft4) HWG.out))
                  have HNEW : Hid (ASt w w4 g c1 c2 i (j + 1) x 0 L1 L2 P Q pa na A A []) := by
                    rw [← HNA.out]
                    have e4 : (addF G (Q j)).2 = A := by rw [HE4.out]
                    have hA' := HA4.out
                    exact ⟨HAS.out.hx, hx2, st4, e4 ▸ HAS.out.inv.add _, .inr rfl, HAS.out.a, hA', HQ4.out, dropK1 L2 j ▸ HP4.out.tail, HAS.out.ft.then ft4⟩
                  clear st4 ft4 hys4 d0 d1 d2 d3 d4 d5 B4
                  go_wp2
                  go_roundg g1
                  case measure => (have := HK.out; omega)
                  case rel => exact ⟨i, j + 1, _, _, _, _, _, _, _, by have := HK.out; omega, rfl, rfl, by (congr 1; omega), by (congr 1; omega), HNEW.out⟩
                · have hx0 : ¬ (x1 = 0) := by omega
                  have hx0i : ((x1 : Int) == 0) = false := by simp; omega
                  obtain ⟨A', e4, hab, hA'⟩ := msg1_next HSQ.out HAS.out.ab.symm HAS.out.b HOFF.out HAS.out.a.le (show j + 1 < c2 by omega)
                  have HE4 := hide e4
                  have HA4 := hide (And.intro hab hA')
                  clear e4 hab hA' hlast
                  go_wp2_with fail
                  refine (step_any _ y0 HAS.out.st HAS.out.inv noS (HAS.out.q.pk.2 _ HM.out) (HAS.out.q.far.2 _ HM.out)).mono ?_; rintro e w4 ⟨st4, ft4, hno4, _⟩
                  rw [HY.out] at st4 hno4
                  obtain rfl := hno4 HE4.out
                  have HP4 := hide (HAS.out.q.foot ft4)
                  have HQ4 := hide (HAS.out.p.foot ft4)
                  have HNEW : Hid (ASt w w4 g c1 c2 i (j + 1) x x1 L1 L2 P Q pa na (addF G (Q j)).2 A A') := by
                    rw [← HNA.out]
                    obtain ⟨hab, hA'⟩ := HA4.out
                    exact ⟨HAS.out.hx, hx2, st4, HAS.out.inv.add _, hab.symm, HAS.out.a, hA', HQ4.out, dropK1 L2 j ▸ HP4.out.tail, HAS.out.ft.then ft4⟩
                  clear st4 ft4 hno4 d0 d1 d2 d3 d4 d5
                  go_wp2
                  go_roundg g1
                  case measure => (have := HK.out; omega)
                  case rel => exact ⟨i, j + 1, _, _, _, _, _, _, _, by have := HK.out; omega, rfl, rfl, by (congr 1; omega), by (congr 1; omega), HNEW.out⟩
end Go.Proofs.Ytdfakeddhoolcaa
