/-
  The walk of ThreadKill.
-/
import Derived.Test.YtnfpldndnmbplaaUKRow
namespace Go.Proofs.Ytnfpldndnmbplaa
open Go.RowKit Go.Deep
def KwRel (w : World) (B g n : Nat) (pf : Nat → Int) (bf : Nat → Bool) (pr : Int) (gk : Nat) (vi v8 v9 : Value) (wr : World) : Prop :=
  ∃ (i : Nat) (ao : Option Addr) (c n8 n9 : Nat), i + gk = n ∧ vi = .int .i64 (i : Int) ∧ n8 ≤ i ∧ n9 ≤ i ∧ KP w wr B g (kT pf bf i) (kR bf i) ao c v8 v9 n8 n9 (wantK pf pr i) (restK pf bf pr i)
def pfOf (zs : List Int) (j : Nat) : Int := zs.getD j 0 % 3
def bfOf (m : Nat) (bs : List Bool) (j : Nat) : Bool := decide (j < m) && bs.getD j false
set_option maxRecDepth 20000 in
set_option maxHeartbeats 6400000 in
theorem walk_kill (ao : Option Addr) (n cap : Nat) (zs : List Int) (bo : Option Addr) (m bcap : Nat) (bs : List Bool) (q : Nat) (w : World) (hA : Oct w ao n cap zs) (hB : Bls w bo m bcap bs) (hq : q ≤ 255) :
    Calls Try.prog 4 #[.slice ao n cap, .slice bo m bcap, .int .u8 (q : Int)] w fun e w' => e = .returned (.bool true) ∧ Below w.heap.size w w' := by
  have HA := hide hA
  have HBL := hide hB
  have hcap : cap ≤ 9223372036854775807 := hA.2.1
  have hnc := hA.1
  have hbcap : bcap ≤ 9223372036854775807 := hB.2.2.1
  have hmc := hB.2.1
  obtain ⟨s, hs⟩ : ∃ s, q % 3 = s := ⟨_, rfl⟩
  have hs1 : (q : Int) % 3 = (s : Int) := by omega
  obtain ⟨pf, hpf⟩ : ∃ pf, pfOf zs = pf := ⟨_, rfl⟩
  obtain ⟨bf, hbf⟩ : ∃ bf, bfOf m bs = bf := ⟨_, rfl⟩
  have HPF := hide hpf
  have HBF := hide hbf
  obtain ⟨nn, hnn⟩ : ∃ nn, min n 60 = nn := ⟨_, rfl⟩
  have hnn1 : nn ≤ n ∧ nn ≤ 60 ∧ (nn = n ∨ nn = 60) := by omega
  have HNN := hide hnn1
  have zv := Try.zeroTab
  have HT0 := hide tab_new
  obtain ⟨Z, hZ⟩ : ∃ Z, tabZ = Z := ⟨_, rfl⟩
  rw [hZ] at zv HT0
  clear hA hB hZ hs hpf hbf hnn hnn1
  go_enter Try.func4, Try.ntmps4
  go_wp2_with fail
  refine (awake_any _).mono ?_; rintro e w1 ⟨rfl, b1⟩
  have HKP : Hid (KP w (w1.alloc (.cells Z 31)) w.heap.size w1.heap.size [] [] none 0 (.slice none 0 0) (.slice none 0 0) 0 0 [] []) :=
    ⟨HT0.out w1, owns_nil _ _ _ _, owns_nil _ _ _ _, fun h => absurd h (by decide), fun h => absurd h (by decide), (fun k e => by cases e), below_one b1 (below_alloc w1 _), b1.size, Nat.le_refl _⟩
  clear b1 HT0
  go_wp2_with fail
  obtain ⟨g, hg⟩ : ∃ g, w1.heap.size = g := ⟨_, rfl⟩
  rw [hg] at HKP
  simp only [hg]
  clear hg
  go_loopg [21, 8, 9] nn (fun gk vi v8 v9 wr => KwRel w w.heap.size g nn pf bf (s : Int) gk vi v8 v9 wr)
  case atStart => exact ⟨0, none, 0, 0, 0, by omega, rfl, Nat.le_refl _, Nat.le_refl _, HKP.out⟩
  case round =>
    clear HKP
    obtain ⟨i, qo, qc, n8, n9, hi, rfl, h8, h9, kp⟩ := hrel
    have HP := hide kp
    have HI := hide hi
    clear kp hi
    cases gk with
    | zero =>
      obtain rfl : i = nn := by have := HI.out; omega
      have hi60 : i ≤ 60 := HNN.out.2.1
      have HKA := hide (kill_all (pf := pf) (bf := bf) (s : Int) i (by omega))
      have HK2 := hide (kill_twice (pf := pf) (bf := bf) (s : Int) i (restK pf bf (s : Int) i) (by omega))
      have HIV := hide (k_inv (pf := pf) (bf := bf) i (by omega))
      have HIV2 := hide (HIV.out.kill (s : Int) 64)
      have HWL := hide (selN_len (fun j => decide (pf j = (s : Int))) i)
      obtain ⟨T0, hT0⟩ : ∃ T0, kT pf bf i = T0 := ⟨_, rfl⟩
      obtain ⟨R0, hR0⟩ : ∃ R0, kR bf i = R0 := ⟨_, rfl⟩
      rw [hT0, hR0] at HKA HK2 HIV HIV2 HP
      clear hT0 hR0
      obtain ⟨o8, c8, rfl, l8⟩ := owns_lies HP.out.o
      obtain ⟨o9, c9, rfl, l9⟩ := owns_lies HP.out.o'
      clear l8 l9
      rw [HKA.out.2] at HIV2
      obtain ⟨T6, hT6⟩ : ∃ T6, (killN (s : Int) T0 R0 64).1 = T6 := ⟨_, rfl⟩
      rw [hT6] at HK2 HIV2
      have HT6 := hide hT6
      obtain ⟨W, hW⟩ : ∃ W, wantK pf (s : Int) i = W := ⟨_, rfl⟩
      obtain ⟨Q, hQ⟩ : ∃ Q, restK pf bf (s : Int) i = Q := ⟨_, rfl⟩
      rw [hW, hQ] at HKA HP
      rw [hQ] at HK2 HIV2
      clear hT6 hW hQ
      by_cases hlt : (i : Int) < (n : Int)
      · have h60 : ((i : Int) == 60) = true := by
          have : i = 60 := by have := HNN.out.2.2; omega
          rw [this]; rfl
        obtain ⟨ad, rfl⟩ := HA.out.there (k := i) (by omega)
        have c0 := ((HA.out.carry HP.out.bel (Nat.le_refl _)).2.2.2 ad rfl i (by omega)).1
        obtain ⟨y, hy⟩ : ∃ y, zs.getD i 0 = y := ⟨_, rfl⟩
        rw [hy] at c0
        clear hy
        go_wp2_with fail
        refine (kill_any (s : Int) _ HP.out.tb HIV.out).mono ?_; rintro e w5 ⟨a5, c5, rfl, n5, _, h5⟩
        rw [HKA.out.1] at n5 ⊢
        rw [HT6.out, HKA.out.2] at h5
        obtain ⟨a6, c6, k6⟩ := HP.out.table h5
        have H6 := hide k6
        obtain ⟨x8, y8, e8, l8⟩ := owns_lies k6.o
        cases e8
        have HN8 := hide (show Nums w5 o8 n8 c8 W from l8)
        have HN5 := hide n5
        obtain ⟨wl, hwl⟩ : ∃ wl, W.length = wl := ⟨_, rfl⟩
        rw [hwl] at HN5 ⊢
        clear n5 h5 k6 l8 hwl HP
        go_wp2_with fail
        refine (same_any _ _ _ _ _ _ W W _ HN5.out HN8.out).mono ?_; rintro e w6 ⟨rfl, b6⟩
        rw [decide_eq_true (rfl : W = W)]
        have H7 := hide (H6.out.grow b6)
        clear b6 H6 HN5 HN8
        go_wp2_with fail
        refine (ready_any _ H7.out.tb (Nat.le_trans HIV2.out.len HIV2.out.few)).mono ?_; rintro e w8 ⟨a8, z8, rfl, n8', b8, _⟩
        have k8 := H7.out.grow b8
        have H8 := hide k8
        obtain ⟨x9, y9, e9, l9⟩ := owns_lies k8.o'
        cases e9
        have HN9 := hide (show Nums w8 o9 n9 c9 Q from l9)
        have HN8 := hide n8'
        obtain ⟨ql, hql⟩ : ∃ ql, Q.length = ql := ⟨_, rfl⟩
        rw [hql] at HN8 ⊢
        clear n8' k8 l9 hql H7 b8
        go_wp2_with fail
        refine (same_any _ _ _ _ _ _ Q Q _ HN8.out HN9.out).mono ?_; rintro e w9 ⟨rfl, b9⟩
        rw [decide_eq_true (rfl : Q = Q)]
        have H9 := hide (H8.out.grow b9)
        clear b9 H8 HN8 HN9
        go_wp2_with fail
        refine (kill_any (s : Int) _ H9.out.tb HIV2.out).mono ?_; rintro e w10 ⟨a10, c10, rfl, _, _, h10⟩
        rw [HK2.out]
        obtain ⟨a11, c11, k11⟩ := H9.out.table h10
        have HE := hide k11.bel
        clear k11 h10
        rw [show ([] : List Int).length = 0 from rfl]
        go_wp2
        go_ret
        exact ⟨rfl, HE.out⟩
      · go_wp2_with fail
        refine (kill_any (s : Int) _ HP.out.tb HIV.out).mono ?_; rintro e w5 ⟨a5, c5, rfl, n5, _, h5⟩
        rw [HKA.out.1] at n5 ⊢
        rw [HT6.out, HKA.out.2] at h5
        obtain ⟨a6, c6, k6⟩ := HP.out.table h5
        have H6 := hide k6
        obtain ⟨x8, y8, e8, l8⟩ := owns_lies k6.o
        cases e8
        have HN8 := hide (show Nums w5 o8 n8 c8 W from l8)
        have HN5 := hide n5
        obtain ⟨wl, hwl⟩ : ∃ wl, W.length = wl := ⟨_, rfl⟩
        rw [hwl] at HN5 ⊢
        clear n5 h5 k6 l8 hwl HP
        go_wp2_with fail
        refine (same_any _ _ _ _ _ _ W W _ HN5.out HN8.out).mono ?_; rintro e w6 ⟨rfl, b6⟩
        rw [decide_eq_true (rfl : W = W)]
        have H7 := hide (H6.out.grow b6)
        clear b6 H6 HN5 HN8
        go_wp2_with fail
        refine (ready_any _ H7.out.tb (Nat.le_trans HIV2.out.len HIV2.out.few)).mono ?_; rintro e w8 ⟨a8, z8, rfl, n8', b8, _⟩
        have k8 := H7.out.grow b8
        have H8 := hide k8
        obtain ⟨x9, y9, e9, l9⟩ := owns_lies k8.o'
        cases e9
        have HN9 := hide (show Nums w8 o9 n9 c9 Q from l9)
        have HN8 := hide n8'
        obtain ⟨ql, hql⟩ : ∃ ql, Q.length = ql := ⟨_, rfl⟩
        rw [hql] at HN8 ⊢
        clear n8' k8 l9 hql H7 b8
        go_wp2_with fail
        refine (same_any _ _ _ _ _ _ Q Q _ HN8.out HN9.out).mono ?_; rintro e w9 ⟨rfl, b9⟩
        rw [decide_eq_true (rfl : Q = Q)]
        have H9 := hide (H8.out.grow b9)
        clear b9 H8 HN8 HN9
        go_wp2_with fail
        refine (kill_any (s : Int) _ H9.out.tb HIV2.out).mono ?_; rintro e w10 ⟨a10, c10, rfl, _, _, h10⟩
        rw [HK2.out]
        obtain ⟨a11, c11, k11⟩ := H9.out.table h10
        have HE := hide k11.bel
        clear k11 h10
        rw [show ([] : List Int).length = 0 from rfl]
        go_wp2
        go_ret
        exact ⟨rfl, HE.out⟩
    | succ g1 =>
      have hin : i < n ∧ i < 60 := by have := HI.out; have := HNN.out; omega
      have hlt : (i : Int) < (n : Int) := by omega
      have h60 : ¬ ((i : Int) = 60) := by omega
      obtain ⟨ad, rfl⟩ := HA.out.there (k := i) hin.1
      obtain ⟨c0, hy0, hy1⟩ := (HA.out.carry HP.out.bel (Nat.le_refl _)).2.2.2 ad rfl i hin.1
      obtain ⟨y, hy⟩ : ∃ y : Nat, zs.getD i 0 = (y : Int) := ⟨(zs.getD i 0).toNat, by omega⟩
      rw [hy] at c0 hy1
      obtain ⟨r, hr⟩ : ∃ r, y % 3 = r := ⟨_, rfl⟩
      have hr1 : (y : Int) % 3 = (r : Int) := by omega
      have HPI : Hid (pf i = (r : Int)) := by show _ = _; rw [← HPF.out]; unfold pfOf; rw [hy]; exact hr1
      have HIV := hide (k_inv (pf := pf) (bf := bf) i (by omega))
      have HWS := hide (wantK_succ (pf := pf) (s : Int) i)
      have HQS := hide (restK_succ (pf := pf) (bf := bf) (s : Int) i)
      rw [HPI.out] at HWS HQS
      have hy255 : y ≤ 255 := by omega
      clear hy hy0 hy1 hr
      go_wp2_with fail
      refine (start_yes (r : Int) _ HP.out.tb HIV.out (by omega) (by rw [kT_len]; omega)).mono ?_; rintro e w2 ⟨rfl, h2⟩
      rw [kT_len] at h2 ⊢
      have HIS : Hid (Inv (kT pf bf i ++ [⟨(r : Int), 1, 0⟩]) (kR bf i ++ [(i : Int)])) := by
        have := HIV.out.start (r : Int) (by rw [kT_len]; omega)
        rw [kT_len] at this; exact this
      obtain ⟨a2, c2, k2⟩ := HP.out.table h2
      have H2 := hide k2
      clear h2 k2 HP c0
      by_cases him : (i : Int) < (m : Int)
      · obtain ⟨bd, rfl⟩ := HBL.out.there (k := i) (by omega)
        have d0 := (HBL.out.carry H2.out.bel (Nat.le_refl _)).2.2.2.2 bd rfl i (by omega)
        cases hb : bs.getD i false with
        | true =>
          rw [hb] at d0
          have HBI : Hid (bf i = true) := by show _ = _; rw [← HBF.out]; unfold bfOf; rw [hb, decide_eq_true (show i < m by omega)]; rfl
          have HK := hide (kT_held (pf := pf) i HBI.out)
          rw [HPI.out] at HK
          clear hb
          go_wp2_with fail
          refine (block_yes i 7 _ H2.out.tb HIS.out (by simp [kT_len]) (by rw [thd_snoc, if_pos (kT_len i).symm])).mono ?_; rintro e w3 ⟨rfl, h3⟩
          rw [← HK.out.1, ← HK.out.2] at h3
          obtain ⟨a3, c3, k3⟩ := H2.out.table h3
          have H3 := hide k3
          clear h3 k3 H2 d0
          by_cases hrs : (r : Int) = (s : Int)
          · have HW1 := hide (HWS.out.trans (by rw [if_pos hrs]))
            have HQ1 := hide (HQS.out.trans (by rw [if_neg (fun x => x.1 hrs), List.append_nil]))
            obtain ⟨u, W3, hr3, k3⟩ := H3.out.app (ty := 28) (i : Int) (by omega)
            have HR3 := hide hr3
            have H4 := hide k3
            clear hr3 k3 H3
            go_wp2_with (at_builtin; refine wpList_append_run rfl _ _ _ rfl _ _ _ _ rfl rfl HR3.out ?_)
            go_wp2
            go_roundg g1
            case measure => omega
            case rel => exact ⟨i + 1, a3, c3, n8 + 1, n9, by have := HI.out; omega, by go_num, by omega, by omega, by rw [HW1.out, HQ1.out]; exact H4.out⟩
          · have HW1 := hide (HWS.out.trans (by rw [if_neg hrs, List.append_nil]))
            have HQ1 := hide (HQS.out.trans (by rw [if_neg (fun x => by rw [HBI.out] at x; cases x.2), List.append_nil]))
            go_wp2
            go_roundg g1
            case measure => omega
            case rel => exact ⟨i + 1, a3, c3, n8, n9, by have := HI.out; omega, by go_num, by omega, by omega, by rw [HW1.out, HQ1.out]; exact H3.out⟩
        | false =>
          rw [hb] at d0
          have HBI : Hid (bf i = false) := by show _ = _; rw [← HBF.out]; unfold bfOf; rw [hb, Bool.and_false]
          have HK := hide (kT_free (pf := pf) i HBI.out)
          rw [HPI.out] at HK
          obtain ⟨a3, c3, H3⟩ : ∃ a3 c3, Hid (KP w w2 w.heap.size g (kT pf bf (i + 1)) (kR bf (i + 1)) a3 c3 u8 u9 n8 n9 (wantK pf (s : Int) i) (restK pf bf (s : Int) i)) := ⟨a2, c2, by rw [HK.out.1, HK.out.2]; exact H2.out⟩
          clear H2
          clear hb
          by_cases hrs : (r : Int) = (s : Int)
          · have HW1 := hide (HWS.out.trans (by rw [if_pos hrs]))
            have HQ1 := hide (HQS.out.trans (by rw [if_neg (fun x => x.1 hrs), List.append_nil]))
            obtain ⟨u, W3, hr3, k3⟩ := H3.out.app (ty := 28) (i : Int) (by omega)
            have HR3 := hide hr3
            have H4 := hide k3
            clear hr3 k3 H3
            go_wp2_with (at_builtin; refine wpList_append_run rfl _ _ _ rfl _ _ _ _ rfl rfl HR3.out ?_)
            go_wp2
            go_roundg g1
            case measure => omega
            case rel => exact ⟨i + 1, a3, c3, n8 + 1, n9, by have := HI.out; omega, by go_num, by omega, by omega, by rw [HW1.out, HQ1.out]; exact H4.out⟩
          · have HW1 := hide (HWS.out.trans (by rw [if_neg hrs, List.append_nil]))
            have HQ1 := hide (HQS.out.trans (by rw [if_pos ⟨hrs, HBI.out⟩]))
            obtain ⟨u, W3, hr3, k3⟩ := H3.out.swap.app (ty := 28) (i : Int) (by omega)
            have HR3 := hide hr3
            have H4 := hide k3.swap
            clear hr3 k3 H3
            go_wp2_with (at_builtin; refine wpList_append_run rfl _ _ _ rfl _ _ _ _ rfl rfl HR3.out ?_)
            go_wp2
            go_roundg g1
            case measure => omega
            case rel => exact ⟨i + 1, a3, c3, n8, n9 + 1, by have := HI.out; omega, by go_num, by omega, by omega, by rw [HW1.out, HQ1.out]; exact H4.out⟩
      · have HBI : Hid (bf i = false) := by show _ = _; rw [← HBF.out]; unfold bfOf; rw [decide_eq_false (show ¬ i < m by omega)]; rfl
        have HK := hide (kT_free (pf := pf) i HBI.out)
        rw [HPI.out] at HK
        obtain ⟨a3, c3, H3⟩ : ∃ a3 c3, Hid (KP w w2 w.heap.size g (kT pf bf (i + 1)) (kR bf (i + 1)) a3 c3 u8 u9 n8 n9 (wantK pf (s : Int) i) (restK pf bf (s : Int) i)) := ⟨a2, c2, by rw [HK.out.1, HK.out.2]; exact H2.out⟩
        clear H2
        by_cases hrs : (r : Int) = (s : Int)
        · have HW1 := hide (HWS.out.trans (by rw [if_pos hrs]))
          have HQ1 := hide (HQS.out.trans (by rw [if_neg (fun x => x.1 hrs), List.append_nil]))
          obtain ⟨u, W3, hr3, k3⟩ := H3.out.app (ty := 28) (i : Int) (by omega)
          have HR3 := hide hr3
          have H4 := hide k3
          clear hr3 k3 H3
          go_wp2_with (at_builtin; refine wpList_append_run rfl _ _ _ rfl _ _ _ _ rfl rfl HR3.out ?_)
          go_wp2
          go_roundg g1
          case measure => omega
          case rel => exact ⟨i + 1, a3, c3, n8 + 1, n9, by have := HI.out; omega, by go_num, by omega, by omega, by rw [HW1.out, HQ1.out]; exact H4.out⟩
        · have HW1 := hide (HWS.out.trans (by rw [if_neg hrs, List.append_nil]))
          have HQ1 := hide (HQS.out.trans (by rw [if_pos ⟨hrs, HBI.out⟩]))
          obtain ⟨u, W3, hr3, k3⟩ := H3.out.swap.app (ty := 28) (i : Int) (by omega)
          have HR3 := hide hr3
          have H4 := hide k3.swap
          clear hr3 k3 H3
          go_wp2_with (at_builtin; refine wpList_append_run rfl _ _ _ rfl _ _ _ _ rfl rfl HR3.out ?_)
          go_wp2
          go_roundg g1
          case measure => omega
          case rel => exact ⟨i + 1, a3, c3, n8, n9 + 1, by have := HI.out; omega, by go_num, by omega, by omega, by rw [HW1.out, HQ1.out]; exact H4.out⟩
end Go.Proofs.Ytnfpldndnmbplaa
