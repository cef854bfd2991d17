/-
  The walk of RunqTurns.
-/
import Derived.Test.YtdkbeflkplpgkaaQRead
namespace Go.Proofs.Ytdkbeflkplpgkaa
open Go.RowKit
def seqL (k : Nat) : List Int := (List.range k).map (fun j : Nat => 7 * (j : Int))
theorem seqL_len (k : Nat) : (seqL k).length = k := by simp [seqL]
theorem seqL_succ (k : Nat) : seqL (k + 1) = seqL k ++ [7 * (k : Int)] := by simp [seqL, List.range_succ]
theorem seqL_not (k : Nat) : 7 * (k : Int) ∉ seqL k := by
  unfold seqL
  intro h
  obtain ⟨j, hj, e⟩ := List.mem_map.1 h
  have := List.mem_range.1 hj
  omega
theorem seqL_nodup (k : Nat) : (seqL k).Nodup := by
  induction k with
  | zero => simp [seqL]
  | succ k ih =>
    rw [seqL_succ]
    refine List.nodup_append.2 ⟨ih, by simp, fun a ha b hb e => ?_⟩
    rw [List.mem_singleton.1 hb] at e
    rw [e] at ha
    exact seqL_not k ha
def rotL (L : List Int) (k : Nat) : List Int := L.drop k ++ L.take k
theorem rotL_cons (L : List Int) (k : Nat) (h : k < L.length) : rotL L k = L.getD k 0 :: (L.drop (k + 1) ++ L.take k) := by
  unfold rotL
  rw [List.drop_eq_getElem_cons h, List.getD_eq_getElem?_getD, List.getElem?_eq_getElem h]; rfl
theorem rotL_len (L : List Int) (k : Nat) (h : k ≤ L.length) : (rotL L k).length = L.length := by unfold rotL; simp; omega
theorem place0 (n : Nat) : placeF 0 n = 0 := by unfold placeF; simp
theorem rot_x (L : List Int) (k : Nat) (h : k < L.length) : takeX (rotL L k) 0 = L.getD k 0 := by
  unfold takeX; rw [place0, rotL_cons L k h]; rfl
theorem rot_r (L : List Int) (k : Nat) (h : k < L.length) : takeL (rotL L k) 0 = L.drop (k + 1) ++ L.take k := by
  unfold takeL; rw [place0, rotL_cons L k h]; rfl
theorem rot_e (L : List Int) (k : Nat) (h : k < L.length) : takeE (rotL L k) = 0 := by
  unfold takeE; rw [rotL_len L k (by omega), if_neg (by omega)]
theorem rot_p (L : List Int) (k : Nat) (h : k < L.length) (hl : L.length ≤ 64) (hd : L.Nodup) : pushE (L.drop (k + 1) ++ L.take k) (L.getD k 0) = 0 := by
  refine pushE_zero (fun hm => ?_) (by simp; omega)
  have e : L.getD k 0 = L[k] := by rw [List.getD_eq_getElem?_getD, List.getElem?_eq_getElem h]; rfl
  rw [e] at hm
  rcases List.mem_append.1 hm with hm | hm
  · obtain ⟨j, hj, he⟩ := List.mem_iff_getElem.1 hm
    rw [List.getElem_drop] at he
    exact (List.pairwise_iff_getElem.1 hd) k (k + 1 + j) h (by simp at hj; omega) (by omega) he.symm
  · obtain ⟨j, hj, he⟩ := List.mem_iff_getElem.1 hm
    rw [List.getElem_take] at he
    simp at hj
    exact (List.pairwise_iff_getElem.1 hd) j k (by omega) h (by omega) he
theorem rot_q (L : List Int) (k : Nat) (h : k < L.length) (hl : L.length ≤ 64) (hd : L.Nodup) : pushL (L.drop (k + 1) ++ L.take k) (L.getD k 0) = rotL L (k + 1) := by
  rw [pushL_zero (rot_p L k h hl hd)]
  unfold rotL
  rw [takeI_snoc L k h, List.append_assoc]
theorem rot_end (L : List Int) : rotL L L.length = L := by unfold rotL; simp
/- append's second type, where both are slices -/
theorem app_types {P : Program} {t u ty e e' : TypeId} (ht : P.underlying t = some (.slice e)) (hu : P.underlying u = some (.slice e')) {i : TypeInfo} (hi : P.info? e = some i) {ao : Option Addr} {n c : Nat} {x : Value} {w : World} : (Builtin.append_ #[t, u] ty #[.slice ao n c, x]).run P w = (Builtin.append_ #[t, t] ty #[.slice ao n c, x]).run P w := by
  simp [Builtin.append_, run_underlying ht, run_underlying hu, sizeOf, typeInfo, hi]
def FillRel (w : World) (m gk : Nat) (vq vk : Value) (wr : World) : Prop := ∃ (k : Nat) (qo : Option Addr) (qc : Nat), k + gk = m ∧ vk = .int .i64 (k : Int) ∧ vq = .slice qo k qc ∧ Nums wr qo k qc (seqL k) ∧ Below w.heap.size w wr
def TurnRel (w : World) (L : List Int) (m gk : Nat) (vq vi : Value) (wr : World) : Prop := ∃ (k : Nat) (qo : Option Addr) (qc : Nat), k + gk = m ∧ vi = .int .i64 (k : Int) ∧ vq = .slice qo m qc ∧ Nums wr qo m qc (rotL L k) ∧ Below w.heap.size w wr
set_option maxRecDepth 20000 in
set_option maxHeartbeats 1600000 in
theorem walk_turns (q : Nat) (w : World) (hq : q ≤ 255) :
    Calls Try.prog 4 #[.int .u8 (q : Int)] w fun e w' => e = .returned (.bool true) ∧ Below w.heap.size w w' := by
  obtain ⟨s, hs⟩ : ∃ s, q % 64 = s := ⟨_, rfl⟩
  have hs1 : (q : Int) % 64 = (s : Int) := by omega
  have hs2 : s < 64 := by omega
  obtain ⟨m, hm⟩ : ∃ m, s + 1 = m := ⟨_, rfl⟩
  have hm1 : (s : Int) + 1 = (m : Int) := by omega
  have hm2 : m ≤ 64 := by omega
  clear hs hm
  go_enter Try.func4, Try.ntmps4
  go_wp2_with fail
  refine (awake_any _).mono ?_; rintro e w1 ⟨rfl, b1⟩
  have HB1 := hide b1
  clear b1
  go_wp2_with fail
  go_loopg [3, 4] m (fun gk vq vk wr => FillRel w m gk vq vk wr)
  case atStart => exact ⟨0, none, 0, by omega, rfl, rfl, nums_nil _, HB1.out⟩
  case round =>
    obtain ⟨k, qo, qc, hk, rfl, rfl, hN, b2⟩ := hrel
    have HN := hide hN
    have HB2 := hide b2
    have HK := hide hk
    have hqc : qc ≤ 9223372036854775807 := hN.2.2.1
    clear hN b2
    cases gk with
    | succ g1 =>
      have hlt : (k : Int) < (m : Int) := by omega
      clear hk
      have HE := hide (pushE_zero (seqL_not k) (by rw [seqL_len]; have := HK.out; omega))
      have HP : Hid (pushL (seqL k) (7 * (k : Int)) = seqL (k + 1)) := by show _ = _; rw [pushL_zero HE.out, seqL_succ]
      have hw7 : IntKind.i64.wrap (7 * (k : Int)) = 7 * (k : Int) := by rw [IntKind.wrap_i64]; omega
      go_wp2_with fail
      refine (push_any (7 * (k : Int)) qo k qc (seqL k) _ HN.out).mono ?_; rintro e w3 ⟨ro, rc, rfl, A3, b3, _⟩
      rw [HE.out]
      rw [HP.out] at A3 ⊢
      rw [seqL_len] at A3 ⊢
      rw [erN_zero]
      have HA3 := hide A3
      have HB3 := hide (below_one HB2.out b3)
      clear A3 b3
      go_wp2
      go_roundg g1
      case measure => omega
      case rel => exact ⟨k + 1, ro, rc, by have := HK.out; omega, by go_num, rfl, HA3.out, HB3.out⟩
    | zero =>
      obtain rfl : k = m := by omega
      have hlt : ¬ ((k : Int) < (k : Int)) := by omega
      clear hk
      obtain ⟨L, hL⟩ : ∃ L, seqL k = L := ⟨_, rfl⟩
      have HLL : Hid (L.length = k) := by show _ = _; rw [← hL]; exact seqL_len k
      have HND : Hid L.Nodup := by rw [← hL]; exact seqL_nodup k
      rw [hL] at HN
      clear hL
      obtain ⟨v4, w4, hr4, ho4⟩ := app_new (ty := 22) Try.underlying22 HN.out (by omega)
      obtain ⟨i0, hi0, _, _, _⟩ := info_parts Try.infoN
      rw [← app_types (u := 25) Try.underlying22 Try.underlying25 hi0] at hr4
      clear hi0
      obtain ⟨wo, wc, rfl, hN4, _⟩ := ho4.nums
      have HR := hide hr4
      have HW := hide hN4
      have HQ := hide (HN.out.carry ho4.2)
      have HB4 := hide (below_one HB2.out ho4.2)
      have hwc : wc ≤ 9223372036854775807 := hN4.2.2.1
      clear hr4 ho4 hN4
      go_wp2_with (at_builtin; refine wpList_append_run rfl _ _ _ rfl _ _ _ _ rfl rfl HR.out ?_)
      go_wp2_with fail
      go_loopg [3, 31] k (fun gk vq vi wr => TurnRel w4 L k gk vq vi wr)
      case atStart => exact ⟨0, qo, qc, by omega, rfl, rfl, by unfold rotL; simpa using HQ.out, Below.refl _ _⟩
      case round =>
        rename World => wq
        clear HQ
        obtain ⟨j, ro, rc, hj, rfl, rfl, hN5, b5⟩ := hrel
        have HN5 := hide hN5
        have HB5 := hide b5
        have HJ := hide hj
        clear hN5 b5
        cases gk with
        | succ g1 =>
          have hlt2 : (j : Int) < (k : Int) := by omega
          have hltn : j < k := by omega
          have HJL : Hid (j < L.length) := by show _ < _; rw [HLL.out]; exact hltn
          clear hj
          have HW5 := hide (HW.out.carry HB5.out)
          obtain ⟨wd, rfl⟩ := HW.out.there hltn
          obtain ⟨y, hy⟩ : ∃ y, L.getD j 0 = y := ⟨_, rfl⟩
          have HX := hide ((rot_x L j HJL.out).trans hy)
          have HTR := hide (rot_r L j HJL.out)
          have HTE := hide (rot_e L j HJL.out)
          have HPE := hide (rot_p L j HJL.out (by rw [HLL.out]; exact hm2) HND.out)
          have HPL := hide (rot_q L j HJL.out (by rw [HLL.out]; exact hm2) HND.out)
          rw [hy] at HPE HPL
          obtain ⟨T, hT⟩ : ∃ T, L.drop (j + 1) ++ L.take j = T := ⟨_, rfl⟩
          rw [hT] at HTR HPE HPL
          have HY := hide hy
          clear hy hT
          go_wp2_with fail
          refine (take_any 0 ro k rc (rotL L j) _ HN5.out (by omega)).mono ?_; rintro e w6 ⟨ta, tc, rfl, A6, b6, _⟩
          rw [HTE.out, HX.out, erN_zero]
          rw [HTR.out] at A6 ⊢
          obtain ⟨tl, htl⟩ : ∃ l, T.length = l := ⟨_, rfl⟩
          rw [htl] at A6 ⊢
          have HA6 := hide A6
          have HB6 := hide (below_one HB5.out b6)
          have c0 : w6.cell? (wd.add j) = some (.int .i64 y) := by rw [← HY.out]; exact (HW5.out.carry b6).elem j hltn
          clear A6 b6 htl
          go_wp2_with fail
          refine (push_any y ta tl tc T _ HA6.out).mono ?_; rintro e w7 ⟨uo, uc, rfl, A7, b7, _⟩
          rw [HPE.out, erN_zero]
          rw [HPL.out, rotL_len L (j + 1) HJL.out, HLL.out] at A7
          rw [HPL.out, rotL_len L (j + 1) HJL.out, HLL.out]
          have HA7 := hide A7
          have HB7 := hide (below_one HB6.out b7)
          clear A7 b7
          go_wp2
          go_roundg g1
          case measure => omega
          case rel => exact ⟨j + 1, uo, uc, by have := HJ.out; omega, by go_num, rfl, HA7.out, HB7.out⟩
        | zero =>
          obtain rfl : j = k := by omega
          have hlt2 : ¬ ((j : Int) < (j : Int)) := by omega
          have HE : Hid (rotL L j = L) := by show _ = _; rw [← HLL.out]; exact rot_end L
          rw [HE.out] at HN5
          have HW5 := hide (HW.out.carry HB5.out)
          clear hj
          go_wp2_with fail
          refine (same_any _ _ _ _ _ _ L L _ HN5.out HW5.out).mono ?_; rintro e w6 ⟨rfl, b6⟩
          rw [decide_eq_true (rfl : L = L)]
          have HB6 := hide (below_one (below_one HB4.out HB5.out) b6)
          clear b6
          go_wp2
          go_ret
          exact ⟨rfl, HB6.out⟩
end Go.Proofs.Ytdkbeflkplpgkaa
