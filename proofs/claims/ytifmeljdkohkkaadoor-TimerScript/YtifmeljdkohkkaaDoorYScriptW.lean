/-
  The walk of TimerScript.
-/
import Derived.Test.YtifmeljdkohkkaaDoorYTwo
import Derived.Deep.CutBlock
namespace Go.Proofs.YtifmeljdkohkkaaDoor
open Go.RowKit Go.Deep
def AtChk (w : World) (g a b i : Nat) (v : Value) (wx : World) : Prop := ∃ (now : Int) (L : List Al) (rv vi vl : Value), v = .int .i64 now ∧ TS w wx g a b now rv vi vl L (idsL L) (leftL now L) ∧ Inv now L ∧ 0 ≤ now ∧ now ≤ (i : Int) + 1
def ScrRel (w : World) (g a b n gk : Nat) (vk vn : Value) (wr : World) : Prop := ∃ (i : Nat) (now : Int) (L : List Al) (rv vi vl : Value), i + gk = n ∧ vk = .int .i64 (i : Int) ∧ vn = .int .i64 now ∧ TS w wr g a b now rv vi vl L (idsL L) (leftL now L) ∧ Inv now L ∧ 0 ≤ now ∧ now ≤ (i : Int)
def ChkRel (w : World) (g a b : Nat) (now : Int) (rv vi vl : Value) (L : List Al) (m gk : Nat) (vk : Value) (wr : World) : Prop := ∃ k : Nat, k + gk = m ∧ vk = .int .i64 (k : Int) ∧ TS w wr g a b now rv vi vl L (idsL L) (leftL now L)
theorem act_new (w : World) (o id tk : Int) : (w.alloc (.cells #[.int .u8 o, .int .i8 id, .int .i32 tk] 32)).cell? ⟨w.heap.size, 0, none⟩ = some (.int .u8 o) ∧ (w.alloc (.cells #[.int .u8 o, .int .i8 id, .int .i32 tk] 32)).cell? ⟨w.heap.size, 1, none⟩ = some (.int .i8 id) ∧ (w.alloc (.cells #[.int .u8 o, .int .i8 id, .int .i32 tk] 32)).cell? ⟨w.heap.size, 2, none⟩ = some (.int .i32 tk) := by
  have h := heap_alloc_new w (.cells #[.int .u8 o, .int .i8 id, .int .i32 tk] 32)
  exact ⟨by rw [cell_of_row _ _ _ _ _ _ h]; rfl, by rw [cell_of_row _ _ _ _ _ _ h]; rfl, by rw [cell_of_row _ _ _ _ _ _ h]; rfl⟩
def TkRel (Y : World) (L : List Al) (T : Int) (m gk : Nat) (vk v1 v2 v3 : Value) (wr : World) : Prop := ∃ k : Nat, k + gk = m ∧ vk = .int .i64 (k : Int) ∧ R3 Y wr v1 v2 v3 (ringF (L.take k) T) (idsL (restF (L.take k) T)) (leftL T (restF (L.take k) T))
def HasRel (Y : World) (I : List Int) (x : Int) (m gk : Nat) (vk vh : Value) (wr : World) : Prop := ∃ k : Nat, k + gk = m ∧ vk = .int .i64 (k : Int) ∧ vh = .int .i64 (hasN (I.take k) x) ∧ wr = Y
set_option maxRecDepth 20000 in
set_option maxHeartbeats 6400000 in
theorem walk_script (ao : Option Addr) (n cap : Nat) (xs : List Ac) (w : World) (ha : Acts w ao n cap xs) (hs : cap * 8 ≤ 140737488351232) (hg : Glob w) :
    Calls Tryd.prog 3 #[.slice ao n cap] w fun e w' => e = .returned (.bool true) ∧ Below w.heap.size w w' := by
  have HA := hide ha
  have HG := hide hg
  have hcap : cap ≤ 9223372036854775807 := ha.2.2.1
  have hnc := ha.2.1
  have hnb : n ≤ 17592186044416 := by omega
  clear ha hg hs
  go_enter Tryd.func3, Tryd.ntmps3
  go_wp2_with fail
  refine (awake_any _).mono ?_; rintro e w1 ⟨rfl, b1⟩
  have HP1 := hide (ts_new b1)
  clear b1
  go_wp2_with fail
  obtain ⟨b, hb⟩ : ∃ b, w1.heap.size + 1 + 1 = b := ⟨_, rfl⟩
  rw [hb] at HP1
  simp only [hb]
  obtain ⟨a, haa⟩ : ∃ a, w1.heap.size + 1 = a := ⟨_, rfl⟩
  rw [haa] at HP1
  simp only [haa]
  obtain ⟨g, hgg⟩ : ∃ g, w1.heap.size = g := ⟨_, rfl⟩
  rw [hgg] at HP1
  simp only [hgg]
  clear hb haa hgg
  go_loopg [30, 4] n (fun gk vk vn wr => ScrRel w g a b n gk vk vn wr)
  case atStart => exact ⟨0, 0, [], _, _, _, by omega, rfl, rfl, HP1.out, inv_nil 0, Int.le_refl _, by omega⟩
  case round =>
    clear HP1
    obtain ⟨i, now, L, rv, vi, vl, hi, rfl, rfl, ts, inv, hnow0, hnow1⟩ := hrel
    have HP := hide ts
    have HV := hide inv
    have HI := hide hi
    clear ts inv
    cases gk with
    | zero =>
      obtain rfl : i = n := by omega
      have hlt : ¬ ((i : Int) < (i : Int)) := by omega
      clear hi
      go_wp2
      go_ret
      exact ⟨rfl, HP.out.bel⟩
    | succ g1 =>
      have hlt : (i : Int) < (n : Int) := by omega
      have hin : i < n := by omega
      obtain ⟨ad, rfl⟩ := HA.out.there hin
      obtain ⟨⟨ho, hid, htk⟩, e0, e1, e2⟩ := (HA.out.carry HP.out.bel (Nat.le_refl _)).2.2.2.2 ad rfl i hin
      obtain ⟨⟨o, id, tk⟩, hact⟩ : ∃ y, xs.getD i Ac.zero = y := ⟨_, rfl⟩
      rw [hact] at ho hid htk e0 e1 e2
      simp only at ho hid htk e0 e1 e2
      rw [addS _ 0] at e1
      rw [addS _ 1] at e2
      obtain ⟨X, hX⟩ : ∃ X, wr.alloc (.cells #[.int .u8 (o : Int), .int .i8 id, .int .i32 tk] 32) = X := ⟨_, rfl⟩
      have bX : Below wr.heap.size wr X := hX ▸ below_alloc wr _
      obtain ⟨d0, d1, d2⟩ := act_new wr (o : Int) id tk
      rw [hX] at d0 d1 d2
      have HD0 := hide d0
      have q1 : ∀ q, (X.drewN q).cell? ⟨wr.heap.size, 1, none⟩ = some (.int .i8 id) := fun q => d1
      have q2 : ∀ q, (X.drewN q).cell? ⟨wr.heap.size, 2, none⟩ = some (.int .i32 tk) := fun q => d2
      have HPX := hide (HP.out.grow bX)
      obtain ⟨d, hd⟩ : ∃ d, o % 4 = d := ⟨_, rfl⟩
      have hd1 : (o : Int) % 4 = (d : Int) := by omega
      have hd4 : d < 4 := by omega
      clear hact bX hi hd d0 d1 d2
      go_wp2_with fail
      go_quiet (fail)
      have ts2 : TS w (X.drewN nq) g a b now rv vi vl L (idsL L) (leftL now L) := HPX.out.grow (below_d X nq)
      have d0 : (X.drewN nq).cell? ⟨wr.heap.size, 0, none⟩ = some (.int .u8 (o : Int)) := HD0.out
      obtain ⟨Y, hY⟩ : ∃ Y, X.drewN nq = Y := ⟨_, rfl⟩
      rw [hY] at ts2 d0 ⊢
      have HP2 := hide ts2
      obtain ⟨ai, ci, al, cl, hvi, hvl, nI, nJ⟩ := ts2.nums
      subst hvi; subst hvl
      have ka := ts2.ca
      have kb := ts2.cb
      have hIl : (idsL L).length = L.length := ids_len L
      have hJl : (leftL now L).length = L.length := left_len now L
      obtain ⟨m, hm⟩ : ∃ m, L.length = m := ⟨_, rfl⟩
      rw [hIl, hm] at nI ka
      rw [hJl, hm] at nJ kb
      rw [hIl, hJl, hm] at HP2
      have HM := hide hm
      have hm64 : m ≤ 64 := by rw [← hm]; exact HV.out.few
      have HNI := hide nI
      have HNJ := hide nJ
      have hci : ci ≤ 9223372036854775807 := nI.2.2.1
      have hcl : cl ≤ 9223372036854775807 := nJ.2.2.1
      have hmi := nI.2.1
      have hml := nJ.2.1
      clear hY ts2 nI nJ hIl hJl hm HPX HP HD0 hX q1 q2
      go_upto_block 2 with fail
      go_cut [4, 11, 12, 14, 15, 16, 17, 18, 19] from 31 to 149 (fun v4 _ _ _ _ _ _ _ _ wx => AtChk w g a b i v4 wx)
      case first =>
        by_cases hda : d < 2
        ·
          by_cases hdz : d = 0
          · subst hdz
            go_wp2_with fail
            clear hd1
            go_loopg [97, 12] m (fun gk vk vh wr => HasRel Y (idsL L) id m gk vk vh wr)
            case atStart => exact ⟨0, by omega, rfl, by simp [hasN], rfl⟩
            case round =>
              rename World => wq
              obtain ⟨k, hk, rfl, rfl, rfl⟩ := hrel
              have HK := hide hk
              cases gk with
              | succ g2 =>
                have hlt2 : (k : Int) < (m : Int) := by omega
                have hkm : k < m := by omega
                obtain ⟨ad2, rfl⟩ := HNI.out.there hkm
                have c5 := HNI.out.elem k hkm
                have HHS := hide (has_snoc (idsL L) id k (by rw [ids_len, HM.out]; exact hkm))
                obtain ⟨y, hy⟩ : ∃ y, (idsL L).getD k 0 = y := ⟨_, rfl⟩
                rw [hy] at c5 HHS
                clear hk hy d0
                by_cases hyx : y = id
                · have hyb : (y == id) = true := by simpa using hyx
                  have HYX := hide hyx
                  clear hyx
                  go_wp2
                  go_roundg g2
                  case measure => omega
                  case rel => exact ⟨k + 1, by have := HK.out; omega, by go_num, by rw [HHS.out, if_pos HYX.out], rfl⟩
                · have hyb : (y == id) = false := by simpa using hyx
                  have HYX := hide hyx
                  clear hyx
                  go_wp2
                  go_roundg g2
                  case measure => omega
                  case rel => exact ⟨k + 1, by have := HK.out; omega, by go_num, by rw [HHS.out, if_neg HYX.out], rfl⟩
              | zero =>
                obtain rfl : k = m := by omega
                have hlt2 : ¬ ((k : Int) < (k : Int)) := by omega
                rw [List.take_of_length_le (by rw [ids_len, HM.out]; omega)]
                have hhl := has_len HV.out id
                rw [HM.out] at hhl
                obtain ⟨hv, hhv⟩ : ∃ hv, hasN (idsL L) id = hv := ⟨_, rfl⟩
                rw [hhv] at hhl ⊢
                obtain ⟨dl, hdl⟩ : ∃ dl, (dropA L id).length = dl := ⟨_, rfl⟩
                have HDL := hide hdl
                rw [hdl] at hhl
                have hdl2 : (k : Int) - hv = (dl : Int) := hhl.symm
                have hdl64 : dl ≤ 64 := by rw [← hdl]; exact Nat.le_trans (dropA_len L id) HV.out.few
                have hdlw : IntKind.i64.wrap ((k : Int) - hv) = (dl : Int) := by rw [IntKind.wrap_i64]; omega
                clear hk hhv hhl hdl d0
                by_cases hk1 : tk < 1
                ·
                  have HSE : Hid (setE L id tk = 4) := setE_arg (.inl hk1)
                  have HSL : Hid (setL L now id tk = L) := setL_err (by rw [HSE.out]; decide)
                  obtain ⟨E, hE⟩ : ∃ E, erN 4 = E := ⟨_, rfl⟩
                  have HER := hide hE
                  go_wp2_with fail
                  refine (set_any id tk _ HP2.out.tm (by rw [HM.out]; omega) (by omega)).mono ?_; rintro e w3 ⟨rfl, h3⟩
                  rw [HSL.out] at h3
                  obtain ⟨rv3, T3⟩ := HP2.out.clock h3
                  have HP3 := hide T3
                  have k7 := T3.ca
                  rw [HSE.out, hE]
                  clear h3 T3 hE
                  go_wp2_with fail
                  rw [← HER.out]
                  refine (number_any 4 _ (HG.out.carry HP3.out.bel)).mono ?_; rintro e w4 ⟨rfl, b4⟩
                  have HP4 := hide (HP3.out.grow b4)
                  clear b4
                  go_wp2_with fail
                  go_meet
                  exact ⟨now, L, _, _, _, rfl, HP4.out, HV.out, hnow0, by omega⟩
                · by_cases hk2 : 1000000 < tk
                  ·
                    have HSE : Hid (setE L id tk = 4) := setE_arg (.inr hk2)
                    have HSL : Hid (setL L now id tk = L) := setL_err (by rw [HSE.out]; decide)
                    obtain ⟨E, hE⟩ : ∃ E, erN 4 = E := ⟨_, rfl⟩
                    have HER := hide hE
                    go_wp2_with fail
                    refine (set_any id tk _ HP2.out.tm (by rw [HM.out]; omega) (by omega)).mono ?_; rintro e w3 ⟨rfl, h3⟩
                    rw [HSL.out] at h3
                    obtain ⟨rv3, T3⟩ := HP2.out.clock h3
                    have HP3 := hide T3
                    have k7 := T3.ca
                    rw [HSE.out, hE]
                    clear h3 T3 hE
                    go_wp2_with fail
                    rw [← HER.out]
                    refine (number_any 4 _ (HG.out.carry HP3.out.bel)).mono ?_; rintro e w4 ⟨rfl, b4⟩
                    have HP4 := hide (HP3.out.grow b4)
                    clear b4
                    go_wp2_with fail
                    go_meet
                    exact ⟨now, L, _, _, _, rfl, HP4.out, HV.out, hnow0, by omega⟩
                  · have hk3 : ¬ (tk < 1 ∨ 1000000 < tk) := by omega
                    by_cases hfull : (64 : Int) ≤ (dl : Int)
                    ·
                      have HSE : Hid (setE L id tk = 5) := setE_full hk3 (by rw [HDL.out]; omega)
                      have HSL : Hid (setL L now id tk = L) := setL_err (by rw [HSE.out]; decide)
                      obtain ⟨E, hE⟩ : ∃ E, erN 5 = E := ⟨_, rfl⟩
                      have HER := hide hE
                      go_wp2_with fail
                      refine (set_any id tk _ HP2.out.tm (by rw [HM.out]; omega) (by omega)).mono ?_; rintro e w3 ⟨rfl, h3⟩
                      rw [HSL.out] at h3
                      obtain ⟨rv3, T3⟩ := HP2.out.clock h3
                      have HP3 := hide T3
                      have k7 := T3.ca
                      rw [HSE.out, hE]
                      clear h3 T3 hE
                      go_wp2_with fail
                      rw [← HER.out]
                      refine (number_any 5 _ (HG.out.carry HP3.out.bel)).mono ?_; rintro e w4 ⟨rfl, b4⟩
                      have HP4 := hide (HP3.out.grow b4)
                      clear b4
                      go_wp2_with fail
                      go_meet
                      exact ⟨now, L, _, _, _, rfl, HP4.out, HV.out, hnow0, by omega⟩
                    · have hse : setE L id tk = 0 := setE_ok hk3 (by rw [HDL.out]; omega)
                      have HSE := hide hse
                      have HSL := hide (setL_ok (now := now) hse)
                      have HVM := hide (HV.out.set id tk hse)
                      have HLI : Hid (idsL (dropA L id) ++ [id] = idsL (dropA L id ++ [⟨id, now + tk⟩])) := by show _ = _; rw [ids_append]; rfl
                      have HLJ : Hid (leftL now (dropA L id) ++ [tk] = leftL now (dropA L id ++ [⟨id, now + tk⟩])) := by show _ = _; rw [left_append]; congr 1; show [tk] = [now + tk - now]; congr 1; omega
                      obtain ⟨M, hMM⟩ : ∃ M, dropA L id ++ [⟨id, now + tk⟩] = M := ⟨_, rfl⟩
                      rw [hMM] at HSL HVM HLI HLJ
                      clear hse hMM
                      go_wp2_with fail
                      refine (set_any id tk _ HP2.out.tm (by rw [HM.out]; omega) (by omega)).mono ?_; rintro e w3 ⟨rfl, h3⟩
                      rw [HSL.out] at h3
                      obtain ⟨rv3, T3⟩ := HP2.out.clock h3
                      have HP3 := hide T3
                      have k7 := T3.ca
                      rw [HSE.out, erN_zero]
                      clear h3 T3
                      go_wp2_with fail
                      refine (take_any id _ HP3.out (by rw [ids_len, left_len]) (by rw [ids_len, HM.out]; omega)).mono ?_; rintro e w4 h4
                      obtain ⟨q4, v1, v2, rfl, T4⟩ : ∃ q v1 v2, e = .returned (.bool q) ∧ TS w w4 g a b now rv3 v1 v2 M (idsL (dropA L id)) (leftL now (dropA L id)) := by
                        rcases h4 with ⟨hno, rfl, T4⟩ | ⟨j, hj, hjx, _, rfl, v1, v2, T4⟩
                        · rw [drop_notin hno]; exact ⟨_, _, _, rfl, T4⟩
                        · have hjl : j < L.length := by rw [ids_len] at hj; exact hj
                          have hcut := drop_at L j id HV.out.nd hjl (by rw [← ids_get L j hjl]; exact hjx)
                          rw [ids_cut, left_cut, hcut] at T4
                          exact ⟨_, _, _, rfl, T4⟩
                      have HLE : Hid ((idsL (dropA L id)).length ≤ 64 ∧ (leftL now (dropA L id)).length ≤ 64) := by
                        have := Nat.le_trans (dropA_len L id) HV.out.few
                        exact ⟨by rw [ids_len]; exact this, by rw [left_len]; exact this⟩
                      obtain ⟨A, hA⟩ : ∃ A, idsL (dropA L id) = A := ⟨_, rfl⟩
                      obtain ⟨B, hB⟩ : ∃ B, leftL now (dropA L id) = B := ⟨_, rfl⟩
                      rw [hA, hB] at T4 HLE
                      rw [hA] at HLI
                      rw [hB] at HLJ
                      obtain ⟨a1, c1, a2, c2, rfl, rfl, _, _⟩ := T4.nums
                      have TD := T4.grow (below_d w4 1)
                      have HTD := hide TD
                      have HD := hide TD.two
                      have HC0 := hide (P2.cells TD TD.two)
                      have HOB : Hid (∀ j, (Value.slice a1 A.length c1).ownBlock = some j → j < w4.heap.size) := fun j e => (owns_lt T4.oi e).1
                      have HEND : Hid (∀ W s1 s2, TS w W g a b now rv3 s1 s2 M (A ++ [id]) (B ++ [tk]) → TS w W g a b now rv3 s1 s2 M (idsL M) (leftL now M)) := fun W s1 s2 h => by rw [HLI.out, HLJ.out] at h; exact h
                      clear h4 T4 TD hA hB k7
                      go_wp2_with fail
                      refine region_till (fun W => W.cell? ⟨a, 0, none⟩ = some (.slice a1 A.length c1) ∧ W.cell? ⟨b, 0, none⟩ = some (.slice a2 B.length c2)) 8 (by kernel_rfl) ?_
                      refine till_take [0, 8] (i := 0) (oi := { dst := some 112, op := Op.load 28 (Operand.tmp 5), type := 28, pos := "law.go:66", after := #[], guard := none }) (v := (.slice a1 A.length c1)) rfl (by kernel_rfl) (by kernel_rfl) (by kernel_rfl) (by kernel_rfl) (fun _ _ _ h => h) (Or.inl ⟨by kernel_rfl, fun w hC => by (obtain ⟨p1, p2⟩ := hC; go_simp)⟩) HC0.out ?_
                      simp only [Act.put, List.setIfInBounds_toArray, List.set_cons_zero, List.set_cons_succ]
                      refine till_take [1, 8] (i := 1) (oi := { dst := some 113, op := Op.move (Operand.tmp 10), type := 3, pos := "law.go:66", after := #[], guard := none }) (v := (.int .i64 id)) rfl (by kernel_rfl) (by kernel_rfl) (by kernel_rfl) (by kernel_rfl) (fun _ _ _ h => h) (Or.inl ⟨by kernel_rfl, fun w hC => by go_simp⟩) HC0.out ?_
                      simp only [Act.put, List.setIfInBounds_toArray, List.set_cons_zero, List.set_cons_succ]
                      refine till_take [4, 7, 8] (i := 4) (oi := { dst := some 116, op := Op.load 28 (Operand.tmp 6), type := 28, pos := "law.go:66", after := #[], guard := none }) (v := (.slice a2 B.length c2)) rfl (by kernel_rfl) (by kernel_rfl) (by kernel_rfl) (by kernel_rfl) (fun _ _ _ h => h) (Or.inl ⟨by kernel_rfl, fun w hC => by (obtain ⟨p1, p2⟩ := hC; go_simp)⟩) HC0.out ?_
                      simp only [Act.put, List.setIfInBounds_toArray, List.set_cons_zero, List.set_cons_succ]
                      refine till_take [5, 6, 7, 8] (i := 5) (oi := { dst := some 117, op := Op.move (Operand.tmp 11), type := 3, pos := "law.go:66", after := #[], guard := none }) (v := (.int .i64 tk)) rfl (by kernel_rfl) (by kernel_rfl) (by kernel_rfl) (by kernel_rfl) (fun _ _ _ h => h) (Or.inl ⟨by kernel_rfl, fun w hC => by go_simp⟩) HC0.out ?_
                      simp only [Act.put, List.setIfInBounds_toArray, List.set_cons_zero, List.set_cons_succ]
                      refine till_ready (rs := [2, 6]) (by kernel_rfl) (by simp) ?_
                      refine AllTill.cons (o := { dst := some 114, op := Op.buildSlice 28 1 #[(0, Operand.tmp 113)], type := 28, pos := "law.go:66", after := #[{ on := 1, ground := Ground.data }], guard := none }) rfl (fun K hK => ?_) (AllTill.cons (o := { dst := some 118, op := Op.buildSlice 28 1 #[(0, Operand.tmp 117)], type := 28, pos := "law.go:66", after := #[{ on := 5, ground := Ground.data }], guard := none }) rfl (fun K hK => ?_) AllTill.nil)
                      · go_simp
                        refine hK.out _ _ (fun _ => P2.cells HTD.out (HD.out.grow (below_alloc _ (.cells #[.int .i64 id] 3)))) ?_
                        change Till _ _ _ _ _ _ _ _ _ (World.alloc (World.drew w4) (.cells #[.int .i64 id] 3))
                        refine till_ready (rs := [3, 6]) (by kernel_rfl) (by simp) ?_
                        refine AllTill.cons (o := { dst := some 115, op := Op.call { callee := Callee.builtin Builtin.append, args := #[Operand.tmp 112, Operand.tmp 114], argTypes := #[28, 28] }, type := 28, pos := "law.go:66", after := #[{ on := 0, ground := Ground.data }, { on := 2, ground := Ground.data }], guard := none }) rfl (fun K hK => ?_) (AllTill.cons (o := { dst := some 118, op := Op.buildSlice 28 1 #[(0, Operand.tmp 117)], type := 28, pos := "law.go:66", after := #[{ on := 5, ground := Ground.data }], guard := none }) rfl (fun K hK => ?_) AllTill.nil)
                        ·
                          have HXN := hide (nums_one (World.drew w4) id)
                          have HQ := hide (HD.out.grow (below_alloc _ (.cells #[.int .i64 id] 3)))
                          obtain ⟨ob, cb4, V1, hr1, Q1, F1⟩ := HQ.out.appA (ty := 28) HXN.out (by have := HLE.out; omega)
                          have HZ1 := hide (nums_one V1 tk)
                          have HC1a := hide (P2.cells HTD.out Q1)
                          replace Q1 := Q1.grow (below_alloc V1 (.cells #[.int .i64 tk] 3))
                          obtain ⟨oc, cc4, V2, hr2, Q2, F2⟩ := Q1.appB (ty := 28) HZ1.out (by have := HLE.out; omega)
                          have HR1 := hide hr1
                          have HR2 := hide hr2
                          have HC1 := HC1a
                          have HC1b := hide (P2.cells HTD.out Q1)
                          have HC2 := hide (P2.cells HTD.out Q2)
                          have SD := P2.done HTD.out Q2
                          have sca := SD.ca
                          have sza := SD.za
                          have scb := SD.cb
                          have szb := SD.zb
                          have HFIN := hide SD.fin
                          clear hr1 Q1 F1 hr2 Q2 F2 SD

                          refine step_run rfl _ _ _ rfl (.slice a1 A.length c1) (.slice (some ⟨(World.heap (World.drew w4)).size, 0, none⟩) 1 1) (.slice ob (A.length + 1) cb4) V1 rfl rfl HR1.out ?_
                          refine hK.out _ _ (fun _ => HC1.out) ?_
                          simp only [Act.put, List.setIfInBounds_toArray, List.set_cons_zero, List.set_cons_succ]
                          refine till_ready (rs := [6]) (by kernel_rfl) (by simp) ?_
                          refine AllTill.cons (o := { dst := some 118, op := Op.buildSlice 28 1 #[(0, Operand.tmp 117)], type := 28, pos := "law.go:66", after := #[{ on := 5, ground := Ground.data }], guard := none }) rfl (fun K hK => ?_) AllTill.nil
                          go_simp
                          refine hK.out _ _ (fun _ => HC1b.out) ?_
                          change Till _ _ _ _ _ _ _ _ _ (World.alloc V1 (.cells #[.int .i64 tk] 3))

                          refine till_ready (rs := [7]) (by kernel_rfl) (by simp) ?_
                          refine AllTill.cons (o := { dst := some 119, op := Op.call { callee := Callee.builtin Builtin.append, args := #[Operand.tmp 116, Operand.tmp 118], argTypes := #[28, 28] }, type := 28, pos := "law.go:66", after := #[{ on := 4, ground := Ground.data }, { on := 6, ground := Ground.data }, { on := 3, ground := Ground.chain }], guard := none }) rfl (fun K hK => ?_) AllTill.nil
                          refine step_run rfl _ _ _ rfl (.slice a2 B.length c2) (.slice (some ⟨(World.heap V1).size, 0, none⟩) 1 1) (.slice oc (B.length + 1) cc4) V2 rfl rfl HR2.out ?_
                          refine hK.out _ _ (fun _ => HC2.out) ?_
                          simp only [Act.put, List.setIfInBounds_toArray, List.set_cons_zero, List.set_cons_succ]
                          refine till_ready (rs := [8]) (by kernel_rfl) (by simp) ?_
                          refine AllTill.cons (o := { dst := none, op := Op.store 28 (Operand.tmp 5) (Operand.tmp 115), type := 0, pos := "law.go:66", after := #[{ on := 3, ground := Ground.data }, { on := 7, ground := Ground.chain }, { on := 0, ground := Ground.phase }, { on := 1, ground := Ground.phase }, { on := 2, ground := Ground.phase }, { on := 3, ground := Ground.phase }, { on := 4, ground := Ground.textOnly Departure.inlinedCapture }, { on := 5, ground := Ground.textOnly Departure.lateStores }, { on := 6, ground := Ground.textOnly Departure.inlinedCapture }, { on := 7, ground := Ground.textOnly Departure.lateStoresUnsure }], guard := none }) rfl (fun K hK => ?_) AllTill.nil
                          go_simp
                          refine hK.out _ _ (fun h => absurd h (by decide)) ?_
                          refine till_ready (rs := [9]) (by kernel_rfl) (by simp) ?_
                          refine AllTill.cons (o := { dst := none, op := Op.store 28 (Operand.tmp 6) (Operand.tmp 119), type := 0, pos := "law.go:66", after := #[{ on := 7, ground := Ground.data }, { on := 8, ground := Ground.chain }, { on := 0, ground := Ground.phase }, { on := 1, ground := Ground.phase }, { on := 2, ground := Ground.phase }, { on := 3, ground := Ground.phase }, { on := 4, ground := Ground.phase }, { on := 5, ground := Ground.phase }, { on := 6, ground := Ground.phase }, { on := 7, ground := Ground.phase }, { on := 8, ground := Ground.phase }], guard := none }) rfl (fun K hK => ?_) AllTill.nil
                          go_simp
                          refine hK.out _ _ (fun h => absurd h (by decide)) ?_
                          refine till_done (by kernel_rfl) ?_ _
                          go_wp2_with fail
                          go_meet
                          exact ⟨now, M, _, _, _, rfl, HEND.out _ _ _ HFIN.out, HVM.out, hnow0, by omega⟩
                        ·
                          have HXN := hide ((nums_one (World.drew w4) id).carry (below_alloc _ (.cells #[.int .i64 tk] 3)))
                          have HZN : Hid (Nums (World.alloc (World.alloc (World.drew w4) (.cells #[.int .i64 id] 3)) (.cells #[.int .i64 tk] 3)) (some ⟨w4.heap.size + 1, 0, none⟩) 1 1 [tk]) := by
                            have := nums_one (World.alloc (World.drew w4) (.cells #[.int .i64 id] 3)) tk
                            rw [show (World.alloc (World.drew w4) (.cells #[.int .i64 id] 3)).heap.size = w4.heap.size + 1 from by simp] at this; exact this
                          have HQ := hide ((HD.out.grow (below_alloc _ (.cells #[.int .i64 id] 3))).grow (below_alloc _ (.cells #[.int .i64 tk] 3)))
                          obtain ⟨ob, cb4, V1, hr1, Q1, F1⟩ := HQ.out.appA (ty := 28) HXN.out (by have := HLE.out; omega)
                          have HZ1 := hide (far_new (W := w4) HZN.out F1 (Nat.le_succ _) HOB.out)
                          obtain ⟨oc, cc4, V2, hr2, Q2, F2⟩ := Q1.appB (ty := 28) HZ1.out (by have := HLE.out; omega)
                          have HR1 := hide hr1
                          have HR2 := hide hr2
                          have HC1 := hide (P2.cells HTD.out Q1)
                          have HC2 := hide (P2.cells HTD.out Q2)
                          have SD := P2.done HTD.out Q2
                          have sca := SD.ca
                          have sza := SD.za
                          have scb := SD.cb
                          have szb := SD.zb
                          have HFIN := hide SD.fin
                          clear hr1 Q1 F1 hr2 Q2 F2 SD
                          go_simp
                          refine hK.out _ _ (fun _ => P2.cells HTD.out HQ.out) ?_
                          change Till _ _ _ _ _ _ _ _ _ (World.alloc (World.alloc (World.drew w4) (.cells #[.int .i64 id] 3)) (.cells #[.int .i64 tk] 3))

                          refine till_ready (rs := [3]) (by kernel_rfl) (by simp) ?_
                          refine AllTill.cons (o := { dst := some 115, op := Op.call { callee := Callee.builtin Builtin.append, args := #[Operand.tmp 112, Operand.tmp 114], argTypes := #[28, 28] }, type := 28, pos := "law.go:66", after := #[{ on := 0, ground := Ground.data }, { on := 2, ground := Ground.data }], guard := none }) rfl (fun K hK => ?_) AllTill.nil
                          refine step_run rfl _ _ _ rfl (.slice a1 A.length c1) (.slice (some ⟨(World.heap (World.drew w4)).size, 0, none⟩) 1 1) (.slice ob (A.length + 1) cb4) V1 rfl rfl HR1.out ?_
                          refine hK.out _ _ (fun _ => HC1.out) ?_
                          simp only [Act.put, List.setIfInBounds_toArray, List.set_cons_zero, List.set_cons_succ]
                          refine till_ready (rs := [7]) (by kernel_rfl) (by simp) ?_
                          refine AllTill.cons (o := { dst := some 119, op := Op.call { callee := Callee.builtin Builtin.append, args := #[Operand.tmp 116, Operand.tmp 118], argTypes := #[28, 28] }, type := 28, pos := "law.go:66", after := #[{ on := 4, ground := Ground.data }, { on := 6, ground := Ground.data }, { on := 3, ground := Ground.chain }], guard := none }) rfl (fun K hK => ?_) AllTill.nil
                          refine step_run rfl _ _ _ rfl (.slice a2 B.length c2) (.slice (some ⟨w4.heap.size + 1, 0, none⟩) 1 1) (.slice oc (B.length + 1) cc4) V2 rfl rfl HR2.out ?_
                          refine hK.out _ _ (fun _ => HC2.out) ?_
                          simp only [Act.put, List.setIfInBounds_toArray, List.set_cons_zero, List.set_cons_succ]
                          refine till_ready (rs := [8]) (by kernel_rfl) (by simp) ?_
                          refine AllTill.cons (o := { dst := none, op := Op.store 28 (Operand.tmp 5) (Operand.tmp 115), type := 0, pos := "law.go:66", after := #[{ on := 3, ground := Ground.data }, { on := 7, ground := Ground.chain }, { on := 0, ground := Ground.phase }, { on := 1, ground := Ground.phase }, { on := 2, ground := Ground.phase }, { on := 3, ground := Ground.phase }, { on := 4, ground := Ground.textOnly Departure.inlinedCapture }, { on := 5, ground := Ground.textOnly Departure.lateStores }, { on := 6, ground := Ground.textOnly Departure.inlinedCapture }, { on := 7, ground := Ground.textOnly Departure.lateStoresUnsure }], guard := none }) rfl (fun K hK => ?_) AllTill.nil
                          go_simp
                          refine hK.out _ _ (fun h => absurd h (by decide)) ?_
                          refine till_ready (rs := [9]) (by kernel_rfl) (by simp) ?_
                          refine AllTill.cons (o := { dst := none, op := Op.store 28 (Operand.tmp 6) (Operand.tmp 119), type := 0, pos := "law.go:66", after := #[{ on := 7, ground := Ground.data }, { on := 8, ground := Ground.chain }, { on := 0, ground := Ground.phase }, { on := 1, ground := Ground.phase }, { on := 2, ground := Ground.phase }, { on := 3, ground := Ground.phase }, { on := 4, ground := Ground.phase }, { on := 5, ground := Ground.phase }, { on := 6, ground := Ground.phase }, { on := 7, ground := Ground.phase }, { on := 8, ground := Ground.phase }], guard := none }) rfl (fun K hK => ?_) AllTill.nil
                          go_simp
                          refine hK.out _ _ (fun h => absurd h (by decide)) ?_
                          refine till_done (by kernel_rfl) ?_ _
                          go_wp2_with fail
                          go_meet
                          exact ⟨now, M, _, _, _, rfl, HEND.out _ _ _ HFIN.out, HVM.out, hnow0, by omega⟩
                      · go_simp
                        refine hK.out _ _ (fun _ => P2.cells HTD.out (HD.out.grow (below_alloc _ (.cells #[.int .i64 tk] 3)))) ?_
                        change Till _ _ _ _ _ _ _ _ _ (World.alloc (World.drew w4) (.cells #[.int .i64 tk] 3))
                        have HXN : Hid (Nums (World.alloc (World.alloc (World.drew w4) (.cells #[.int .i64 tk] 3)) (.cells #[.int .i64 id] 3)) (some ⟨w4.heap.size + 1, 0, none⟩) 1 1 [id]) := by
                          have := nums_one (World.alloc (World.drew w4) (.cells #[.int .i64 tk] 3)) id
                          rw [show (World.alloc (World.drew w4) (.cells #[.int .i64 tk] 3)).heap.size = w4.heap.size + 1 from by simp] at this; exact this
                        have HZN := hide ((nums_one (World.drew w4) tk).carry (below_alloc _ (.cells #[.int .i64 id] 3)))
                        have HQ := hide ((HD.out.grow (below_alloc _ (.cells #[.int .i64 tk] 3))).grow (below_alloc _ (.cells #[.int .i64 id] 3)))
                        obtain ⟨ob, cb4, V1, hr1, Q1, F1⟩ := HQ.out.appA (ty := 28) HXN.out (by have := HLE.out; omega)
                        have HZ1 := hide (far_new (W := w4) HZN.out F1 (Nat.le_refl _) HOB.out)
                        obtain ⟨oc, cc4, V2, hr2, Q2, F2⟩ := Q1.appB (ty := 28) HZ1.out (by have := HLE.out; omega)
                        have HR1 := hide hr1
                        have HR2 := hide hr2
                        have HC1 := hide (P2.cells HTD.out Q1)
                        have HC2 := hide (P2.cells HTD.out Q2)
                        have SD := P2.done HTD.out Q2
                        have sca := SD.ca
                        have sza := SD.za
                        have scb := SD.cb
                        have szb := SD.zb
                        have HFIN := hide SD.fin
                        clear hr1 Q1 F1 hr2 Q2 F2 SD
                        refine till_ready (rs := [2]) (by kernel_rfl) (by simp) ?_
                        refine AllTill.cons (o := { dst := some 114, op := Op.buildSlice 28 1 #[(0, Operand.tmp 113)], type := 28, pos := "law.go:66", after := #[{ on := 1, ground := Ground.data }], guard := none }) rfl (fun K hK => ?_) AllTill.nil
                        go_simp
                        refine hK.out _ _ (fun _ => P2.cells HTD.out HQ.out) ?_
                        change Till _ _ _ _ _ _ _ _ _ (World.alloc (World.alloc (World.drew w4) (.cells #[.int .i64 tk] 3)) (.cells #[.int .i64 id] 3))

                        refine till_ready (rs := [3]) (by kernel_rfl) (by simp) ?_
                        refine AllTill.cons (o := { dst := some 115, op := Op.call { callee := Callee.builtin Builtin.append, args := #[Operand.tmp 112, Operand.tmp 114], argTypes := #[28, 28] }, type := 28, pos := "law.go:66", after := #[{ on := 0, ground := Ground.data }, { on := 2, ground := Ground.data }], guard := none }) rfl (fun K hK => ?_) AllTill.nil
                        refine step_run rfl _ _ _ rfl (.slice a1 A.length c1) (.slice (some ⟨w4.heap.size + 1, 0, none⟩) 1 1) (.slice ob (A.length + 1) cb4) V1 rfl rfl HR1.out ?_
                        refine hK.out _ _ (fun _ => HC1.out) ?_
                        simp only [Act.put, List.setIfInBounds_toArray, List.set_cons_zero, List.set_cons_succ]
                        refine till_ready (rs := [7]) (by kernel_rfl) (by simp) ?_
                        refine AllTill.cons (o := { dst := some 119, op := Op.call { callee := Callee.builtin Builtin.append, args := #[Operand.tmp 116, Operand.tmp 118], argTypes := #[28, 28] }, type := 28, pos := "law.go:66", after := #[{ on := 4, ground := Ground.data }, { on := 6, ground := Ground.data }, { on := 3, ground := Ground.chain }], guard := none }) rfl (fun K hK => ?_) AllTill.nil
                        refine step_run rfl _ _ _ rfl (.slice a2 B.length c2) (.slice (some ⟨(World.heap (World.drew w4)).size, 0, none⟩) 1 1) (.slice oc (B.length + 1) cc4) V2 rfl rfl HR2.out ?_
                        refine hK.out _ _ (fun _ => HC2.out) ?_
                        simp only [Act.put, List.setIfInBounds_toArray, List.set_cons_zero, List.set_cons_succ]
                        refine till_ready (rs := [8]) (by kernel_rfl) (by simp) ?_
                        refine AllTill.cons (o := { dst := none, op := Op.store 28 (Operand.tmp 5) (Operand.tmp 115), type := 0, pos := "law.go:66", after := #[{ on := 3, ground := Ground.data }, { on := 7, ground := Ground.chain }, { on := 0, ground := Ground.phase }, { on := 1, ground := Ground.phase }, { on := 2, ground := Ground.phase }, { on := 3, ground := Ground.phase }, { on := 4, ground := Ground.textOnly Departure.inlinedCapture }, { on := 5, ground := Ground.textOnly Departure.lateStores }, { on := 6, ground := Ground.textOnly Departure.inlinedCapture }, { on := 7, ground := Ground.textOnly Departure.lateStoresUnsure }], guard := none }) rfl (fun K hK => ?_) AllTill.nil
                        go_simp
                        refine hK.out _ _ (fun h => absurd h (by decide)) ?_
                        refine till_ready (rs := [9]) (by kernel_rfl) (by simp) ?_
                        refine AllTill.cons (o := { dst := none, op := Op.store 28 (Operand.tmp 6) (Operand.tmp 119), type := 0, pos := "law.go:66", after := #[{ on := 7, ground := Ground.data }, { on := 8, ground := Ground.chain }, { on := 0, ground := Ground.phase }, { on := 1, ground := Ground.phase }, { on := 2, ground := Ground.phase }, { on := 3, ground := Ground.phase }, { on := 4, ground := Ground.phase }, { on := 5, ground := Ground.phase }, { on := 6, ground := Ground.phase }, { on := 7, ground := Ground.phase }, { on := 8, ground := Ground.phase }], guard := none }) rfl (fun K hK => ?_) AllTill.nil
                        go_simp
                        refine hK.out _ _ (fun h => absurd h (by decide)) ?_
                        refine till_done (by kernel_rfl) ?_ _
                        go_wp2_with fail
                        go_meet
                        exact ⟨now, M, _, _, _, rfl, HEND.out _ _ _ HFIN.out, HVM.out, hnow0, by omega⟩
          · obtain rfl : d = 1 := by omega
            obtain ⟨r5, hr5⟩ : ∃ r, tk.tmod 5 = r := ⟨_, rfl⟩
            have hr5b : -5 < r5 ∧ r5 < 5 := by
              rw [← hr5]
              have h1 := Int.tmod_lt_of_pos tk (b := 5) (by omega)
              have h2 := Int.neg_tmod tk 5
              have h3 := Int.tmod_lt_of_pos (-tk) (b := 5) (by omega)
              omega
            obtain ⟨kk, hkk⟩ : ∃ q, r5 + 2 = q := ⟨_, rfl⟩
            have hkw : IntKind.i64.wrap (r5 + 2) = kk := by rw [IntKind.wrap_i64]; omega
            have hkb : -10 < kk ∧ kk < 10 := by omega
            go_wp2_with fail
            clear hd1
            go_loopg [97, 12] m (fun gk vk vh wr => HasRel Y (idsL L) id m gk vk vh wr)
            case atStart => exact ⟨0, by omega, rfl, by simp [hasN], rfl⟩
            case round =>
              rename World => wq
              obtain ⟨k, hk, rfl, rfl, rfl⟩ := hrel
              have HK := hide hk
              cases gk with
              | succ g2 =>
                have hlt2 : (k : Int) < (m : Int) := by omega
                have hkm : k < m := by omega
                obtain ⟨ad2, rfl⟩ := HNI.out.there hkm
                have c5 := HNI.out.elem k hkm
                have HHS := hide (has_snoc (idsL L) id k (by rw [ids_len, HM.out]; exact hkm))
                obtain ⟨y, hy⟩ : ∃ y, (idsL L).getD k 0 = y := ⟨_, rfl⟩
                rw [hy] at c5 HHS
                clear hk hy d0
                by_cases hyx : y = id
                · have hyb : (y == id) = true := by simpa using hyx
                  have HYX := hide hyx
                  clear hyx
                  go_wp2
                  go_roundg g2
                  case measure => omega
                  case rel => exact ⟨k + 1, by have := HK.out; omega, by go_num, by rw [HHS.out, if_pos HYX.out], rfl⟩
                · have hyb : (y == id) = false := by simpa using hyx
                  have HYX := hide hyx
                  clear hyx
                  go_wp2
                  go_roundg g2
                  case measure => omega
                  case rel => exact ⟨k + 1, by have := HK.out; omega, by go_num, by rw [HHS.out, if_neg HYX.out], rfl⟩
              | zero =>
                obtain rfl : k = m := by omega
                have hlt2 : ¬ ((k : Int) < (k : Int)) := by omega
                rw [List.take_of_length_le (by rw [ids_len, HM.out]; omega)]
                have hhl := has_len HV.out id
                rw [HM.out] at hhl
                obtain ⟨hv, hhv⟩ : ∃ hv, hasN (idsL L) id = hv := ⟨_, rfl⟩
                rw [hhv] at hhl ⊢
                obtain ⟨dl, hdl⟩ : ∃ dl, (dropA L id).length = dl := ⟨_, rfl⟩
                have HDL := hide hdl
                rw [hdl] at hhl
                have hdl2 : (k : Int) - hv = (dl : Int) := hhl.symm
                have hdl64 : dl ≤ 64 := by rw [← hdl]; exact Nat.le_trans (dropA_len L id) HV.out.few
                have hdlw : IntKind.i64.wrap ((k : Int) - hv) = (dl : Int) := by rw [IntKind.wrap_i64]; omega
                clear hk hhv hhl hdl d0
                by_cases hk1 : kk < 1
                ·
                  have HSE : Hid (setE L id kk = 4) := setE_arg (.inl hk1)
                  have HSL : Hid (setL L now id kk = L) := setL_err (by rw [HSE.out]; decide)
                  obtain ⟨E, hE⟩ : ∃ E, erN 4 = E := ⟨_, rfl⟩
                  have HER := hide hE
                  go_wp2_with fail
                  refine (set_any id kk _ HP2.out.tm (by rw [HM.out]; omega) (by omega)).mono ?_; rintro e w3 ⟨rfl, h3⟩
                  rw [HSL.out] at h3
                  obtain ⟨rv3, T3⟩ := HP2.out.clock h3
                  have HP3 := hide T3
                  have k7 := T3.ca
                  rw [HSE.out, hE]
                  clear h3 T3 hE
                  go_wp2_with fail
                  rw [← HER.out]
                  refine (number_any 4 _ (HG.out.carry HP3.out.bel)).mono ?_; rintro e w4 ⟨rfl, b4⟩
                  have HP4 := hide (HP3.out.grow b4)
                  clear b4
                  go_wp2_with fail
                  go_meet
                  exact ⟨now, L, _, _, _, rfl, HP4.out, HV.out, hnow0, by omega⟩
                · by_cases hk2 : 1000000 < kk
                  ·
                    have HSE : Hid (setE L id kk = 4) := setE_arg (.inr hk2)
                    have HSL : Hid (setL L now id kk = L) := setL_err (by rw [HSE.out]; decide)
                    obtain ⟨E, hE⟩ : ∃ E, erN 4 = E := ⟨_, rfl⟩
                    have HER := hide hE
                    go_wp2_with fail
                    refine (set_any id kk _ HP2.out.tm (by rw [HM.out]; omega) (by omega)).mono ?_; rintro e w3 ⟨rfl, h3⟩
                    rw [HSL.out] at h3
                    obtain ⟨rv3, T3⟩ := HP2.out.clock h3
                    have HP3 := hide T3
                    have k7 := T3.ca
                    rw [HSE.out, hE]
                    clear h3 T3 hE
                    go_wp2_with fail
                    rw [← HER.out]
                    refine (number_any 4 _ (HG.out.carry HP3.out.bel)).mono ?_; rintro e w4 ⟨rfl, b4⟩
                    have HP4 := hide (HP3.out.grow b4)
                    clear b4
                    go_wp2_with fail
                    go_meet
                    exact ⟨now, L, _, _, _, rfl, HP4.out, HV.out, hnow0, by omega⟩
                  · have hk3 : ¬ (kk < 1 ∨ 1000000 < kk) := by omega
                    by_cases hfull : (64 : Int) ≤ (dl : Int)
                    ·
                      have HSE : Hid (setE L id kk = 5) := setE_full hk3 (by rw [HDL.out]; omega)
                      have HSL : Hid (setL L now id kk = L) := setL_err (by rw [HSE.out]; decide)
                      obtain ⟨E, hE⟩ : ∃ E, erN 5 = E := ⟨_, rfl⟩
                      have HER := hide hE
                      go_wp2_with fail
                      refine (set_any id kk _ HP2.out.tm (by rw [HM.out]; omega) (by omega)).mono ?_; rintro e w3 ⟨rfl, h3⟩
                      rw [HSL.out] at h3
                      obtain ⟨rv3, T3⟩ := HP2.out.clock h3
                      have HP3 := hide T3
                      have k7 := T3.ca
                      rw [HSE.out, hE]
                      clear h3 T3 hE
                      go_wp2_with fail
                      rw [← HER.out]
                      refine (number_any 5 _ (HG.out.carry HP3.out.bel)).mono ?_; rintro e w4 ⟨rfl, b4⟩
                      have HP4 := hide (HP3.out.grow b4)
                      clear b4
                      go_wp2_with fail
                      go_meet
                      exact ⟨now, L, _, _, _, rfl, HP4.out, HV.out, hnow0, by omega⟩
                    · have hse : setE L id kk = 0 := setE_ok hk3 (by rw [HDL.out]; omega)
                      have HSE := hide hse
                      have HSL := hide (setL_ok (now := now) hse)
                      have HVM := hide (HV.out.set id kk hse)
                      have HLI : Hid (idsL (dropA L id) ++ [id] = idsL (dropA L id ++ [⟨id, now + kk⟩])) := by show _ = _; rw [ids_append]; rfl
                      have HLJ : Hid (leftL now (dropA L id) ++ [kk] = leftL now (dropA L id ++ [⟨id, now + kk⟩])) := by show _ = _; rw [left_append]; congr 1; show [kk] = [now + kk - now]; congr 1; omega
                      obtain ⟨M, hMM⟩ : ∃ M, dropA L id ++ [⟨id, now + kk⟩] = M := ⟨_, rfl⟩
                      rw [hMM] at HSL HVM HLI HLJ
                      clear hse hMM
                      go_wp2_with fail
                      refine (set_any id kk _ HP2.out.tm (by rw [HM.out]; omega) (by omega)).mono ?_; rintro e w3 ⟨rfl, h3⟩
                      rw [HSL.out] at h3
                      obtain ⟨rv3, T3⟩ := HP2.out.clock h3
                      have HP3 := hide T3
                      have k7 := T3.ca
                      rw [HSE.out, erN_zero]
                      clear h3 T3
                      go_wp2_with fail
                      refine (take_any id _ HP3.out (by rw [ids_len, left_len]) (by rw [ids_len, HM.out]; omega)).mono ?_; rintro e w4 h4
                      obtain ⟨q4, v1, v2, rfl, T4⟩ : ∃ q v1 v2, e = .returned (.bool q) ∧ TS w w4 g a b now rv3 v1 v2 M (idsL (dropA L id)) (leftL now (dropA L id)) := by
                        rcases h4 with ⟨hno, rfl, T4⟩ | ⟨j, hj, hjx, _, rfl, v1, v2, T4⟩
                        · rw [drop_notin hno]; exact ⟨_, _, _, rfl, T4⟩
                        · have hjl : j < L.length := by rw [ids_len] at hj; exact hj
                          have hcut := drop_at L j id HV.out.nd hjl (by rw [← ids_get L j hjl]; exact hjx)
                          rw [ids_cut, left_cut, hcut] at T4
                          exact ⟨_, _, _, rfl, T4⟩
                      have HLE : Hid ((idsL (dropA L id)).length ≤ 64 ∧ (leftL now (dropA L id)).length ≤ 64) := by
                        have := Nat.le_trans (dropA_len L id) HV.out.few
                        exact ⟨by rw [ids_len]; exact this, by rw [left_len]; exact this⟩
                      obtain ⟨A, hA⟩ : ∃ A, idsL (dropA L id) = A := ⟨_, rfl⟩
                      obtain ⟨B, hB⟩ : ∃ B, leftL now (dropA L id) = B := ⟨_, rfl⟩
                      rw [hA, hB] at T4 HLE
                      rw [hA] at HLI
                      rw [hB] at HLJ
                      obtain ⟨a1, c1, a2, c2, rfl, rfl, _, _⟩ := T4.nums
                      have TD := T4.grow (below_d w4 1)
                      have HTD := hide TD
                      have HD := hide TD.two
                      have HC0 := hide (P2.cells TD TD.two)
                      have HOB : Hid (∀ j, (Value.slice a1 A.length c1).ownBlock = some j → j < w4.heap.size) := fun j e => (owns_lt T4.oi e).1
                      have HEND : Hid (∀ W s1 s2, TS w W g a b now rv3 s1 s2 M (A ++ [id]) (B ++ [kk]) → TS w W g a b now rv3 s1 s2 M (idsL M) (leftL now M)) := fun W s1 s2 h => by rw [HLI.out, HLJ.out] at h; exact h
                      clear h4 T4 TD hA hB k7
                      go_wp2_with fail
                      refine region_till (fun W => W.cell? ⟨a, 0, none⟩ = some (.slice a1 A.length c1) ∧ W.cell? ⟨b, 0, none⟩ = some (.slice a2 B.length c2)) 8 (by kernel_rfl) ?_
                      refine till_take [0, 8] (i := 0) (oi := { dst := some 112, op := Op.load 28 (Operand.tmp 5), type := 28, pos := "law.go:66", after := #[], guard := none }) (v := (.slice a1 A.length c1)) rfl (by kernel_rfl) (by kernel_rfl) (by kernel_rfl) (by kernel_rfl) (fun _ _ _ h => h) (Or.inl ⟨by kernel_rfl, fun w hC => by (obtain ⟨p1, p2⟩ := hC; go_simp)⟩) HC0.out ?_
                      simp only [Act.put, List.setIfInBounds_toArray, List.set_cons_zero, List.set_cons_succ]
                      refine till_take [1, 8] (i := 1) (oi := { dst := some 113, op := Op.move (Operand.tmp 10), type := 3, pos := "law.go:66", after := #[], guard := none }) (v := (.int .i64 id)) rfl (by kernel_rfl) (by kernel_rfl) (by kernel_rfl) (by kernel_rfl) (fun _ _ _ h => h) (Or.inl ⟨by kernel_rfl, fun w hC => by go_simp⟩) HC0.out ?_
                      simp only [Act.put, List.setIfInBounds_toArray, List.set_cons_zero, List.set_cons_succ]
                      refine till_take [4, 7, 8] (i := 4) (oi := { dst := some 116, op := Op.load 28 (Operand.tmp 6), type := 28, pos := "law.go:66", after := #[], guard := none }) (v := (.slice a2 B.length c2)) rfl (by kernel_rfl) (by kernel_rfl) (by kernel_rfl) (by kernel_rfl) (fun _ _ _ h => h) (Or.inl ⟨by kernel_rfl, fun w hC => by (obtain ⟨p1, p2⟩ := hC; go_simp)⟩) HC0.out ?_
                      simp only [Act.put, List.setIfInBounds_toArray, List.set_cons_zero, List.set_cons_succ]
                      refine till_take [5, 6, 7, 8] (i := 5) (oi := { dst := some 117, op := Op.move (Operand.tmp 11), type := 3, pos := "law.go:66", after := #[], guard := none }) (v := (.int .i64 kk)) rfl (by kernel_rfl) (by kernel_rfl) (by kernel_rfl) (by kernel_rfl) (fun _ _ _ h => h) (Or.inl ⟨by kernel_rfl, fun w hC => by go_simp⟩) HC0.out ?_
                      simp only [Act.put, List.setIfInBounds_toArray, List.set_cons_zero, List.set_cons_succ]
                      refine till_ready (rs := [2, 6]) (by kernel_rfl) (by simp) ?_
                      refine AllTill.cons (o := { dst := some 114, op := Op.buildSlice 28 1 #[(0, Operand.tmp 113)], type := 28, pos := "law.go:66", after := #[{ on := 1, ground := Ground.data }], guard := none }) rfl (fun K hK => ?_) (AllTill.cons (o := { dst := some 118, op := Op.buildSlice 28 1 #[(0, Operand.tmp 117)], type := 28, pos := "law.go:66", after := #[{ on := 5, ground := Ground.data }], guard := none }) rfl (fun K hK => ?_) AllTill.nil)
                      · go_simp
                        refine hK.out _ _ (fun _ => P2.cells HTD.out (HD.out.grow (below_alloc _ (.cells #[.int .i64 id] 3)))) ?_
                        change Till _ _ _ _ _ _ _ _ _ (World.alloc (World.drew w4) (.cells #[.int .i64 id] 3))
                        refine till_ready (rs := [3, 6]) (by kernel_rfl) (by simp) ?_
                        refine AllTill.cons (o := { dst := some 115, op := Op.call { callee := Callee.builtin Builtin.append, args := #[Operand.tmp 112, Operand.tmp 114], argTypes := #[28, 28] }, type := 28, pos := "law.go:66", after := #[{ on := 0, ground := Ground.data }, { on := 2, ground := Ground.data }], guard := none }) rfl (fun K hK => ?_) (AllTill.cons (o := { dst := some 118, op := Op.buildSlice 28 1 #[(0, Operand.tmp 117)], type := 28, pos := "law.go:66", after := #[{ on := 5, ground := Ground.data }], guard := none }) rfl (fun K hK => ?_) AllTill.nil)
                        ·
                          have HXN := hide (nums_one (World.drew w4) id)
                          have HQ := hide (HD.out.grow (below_alloc _ (.cells #[.int .i64 id] 3)))
                          obtain ⟨ob, cb4, V1, hr1, Q1, F1⟩ := HQ.out.appA (ty := 28) HXN.out (by have := HLE.out; omega)
                          have HZ1 := hide (nums_one V1 kk)
                          have HC1a := hide (P2.cells HTD.out Q1)
                          replace Q1 := Q1.grow (below_alloc V1 (.cells #[.int .i64 kk] 3))
                          obtain ⟨oc, cc4, V2, hr2, Q2, F2⟩ := Q1.appB (ty := 28) HZ1.out (by have := HLE.out; omega)
                          have HR1 := hide hr1
                          have HR2 := hide hr2
                          have HC1 := HC1a
                          have HC1b := hide (P2.cells HTD.out Q1)
                          have HC2 := hide (P2.cells HTD.out Q2)
                          have SD := P2.done HTD.out Q2
                          have sca := SD.ca
                          have sza := SD.za
                          have scb := SD.cb
                          have szb := SD.zb
                          have HFIN := hide SD.fin
                          clear hr1 Q1 F1 hr2 Q2 F2 SD

                          refine step_run rfl _ _ _ rfl (.slice a1 A.length c1) (.slice (some ⟨(World.heap (World.drew w4)).size, 0, none⟩) 1 1) (.slice ob (A.length + 1) cb4) V1 rfl rfl HR1.out ?_
                          refine hK.out _ _ (fun _ => HC1.out) ?_
                          simp only [Act.put, List.setIfInBounds_toArray, List.set_cons_zero, List.set_cons_succ]
                          refine till_ready (rs := [6]) (by kernel_rfl) (by simp) ?_
                          refine AllTill.cons (o := { dst := some 118, op := Op.buildSlice 28 1 #[(0, Operand.tmp 117)], type := 28, pos := "law.go:66", after := #[{ on := 5, ground := Ground.data }], guard := none }) rfl (fun K hK => ?_) AllTill.nil
                          go_simp
                          refine hK.out _ _ (fun _ => HC1b.out) ?_
                          change Till _ _ _ _ _ _ _ _ _ (World.alloc V1 (.cells #[.int .i64 kk] 3))

                          refine till_ready (rs := [7]) (by kernel_rfl) (by simp) ?_
                          refine AllTill.cons (o := { dst := some 119, op := Op.call { callee := Callee.builtin Builtin.append, args := #[Operand.tmp 116, Operand.tmp 118], argTypes := #[28, 28] }, type := 28, pos := "law.go:66", after := #[{ on := 4, ground := Ground.data }, { on := 6, ground := Ground.data }, { on := 3, ground := Ground.chain }], guard := none }) rfl (fun K hK => ?_) AllTill.nil
                          refine step_run rfl _ _ _ rfl (.slice a2 B.length c2) (.slice (some ⟨(World.heap V1).size, 0, none⟩) 1 1) (.slice oc (B.length + 1) cc4) V2 rfl rfl HR2.out ?_
                          refine hK.out _ _ (fun _ => HC2.out) ?_
                          simp only [Act.put, List.setIfInBounds_toArray, List.set_cons_zero, List.set_cons_succ]
                          refine till_ready (rs := [8]) (by kernel_rfl) (by simp) ?_
                          refine AllTill.cons (o := { dst := none, op := Op.store 28 (Operand.tmp 5) (Operand.tmp 115), type := 0, pos := "law.go:66", after := #[{ on := 3, ground := Ground.data }, { on := 7, ground := Ground.chain }, { on := 0, ground := Ground.phase }, { on := 1, ground := Ground.phase }, { on := 2, ground := Ground.phase }, { on := 3, ground := Ground.phase }, { on := 4, ground := Ground.textOnly Departure.inlinedCapture }, { on := 5, ground := Ground.textOnly Departure.lateStores }, { on := 6, ground := Ground.textOnly Departure.inlinedCapture }, { on := 7, ground := Ground.textOnly Departure.lateStoresUnsure }], guard := none }) rfl (fun K hK => ?_) AllTill.nil
                          go_simp
                          refine hK.out _ _ (fun h => absurd h (by decide)) ?_
                          refine till_ready (rs := [9]) (by kernel_rfl) (by simp) ?_
                          refine AllTill.cons (o := { dst := none, op := Op.store 28 (Operand.tmp 6) (Operand.tmp 119), type := 0, pos := "law.go:66", after := #[{ on := 7, ground := Ground.data }, { on := 8, ground := Ground.chain }, { on := 0, ground := Ground.phase }, { on := 1, ground := Ground.phase }, { on := 2, ground := Ground.phase }, { on := 3, ground := Ground.phase }, { on := 4, ground := Ground.phase }, { on := 5, ground := Ground.phase }, { on := 6, ground := Ground.phase }, { on := 7, ground := Ground.phase }, { on := 8, ground := Ground.phase }], guard := none }) rfl (fun K hK => ?_) AllTill.nil
                          go_simp
                          refine hK.out _ _ (fun h => absurd h (by decide)) ?_
                          refine till_done (by kernel_rfl) ?_ _
                          go_wp2_with fail
                          go_meet
                          exact ⟨now, M, _, _, _, rfl, HEND.out _ _ _ HFIN.out, HVM.out, hnow0, by omega⟩
                        ·
                          have HXN := hide ((nums_one (World.drew w4) id).carry (below_alloc _ (.cells #[.int .i64 kk] 3)))
                          have HZN : Hid (Nums (World.alloc (World.alloc (World.drew w4) (.cells #[.int .i64 id] 3)) (.cells #[.int .i64 kk] 3)) (some ⟨w4.heap.size + 1, 0, none⟩) 1 1 [kk]) := by
                            have := nums_one (World.alloc (World.drew w4) (.cells #[.int .i64 id] 3)) kk
                            rw [show (World.alloc (World.drew w4) (.cells #[.int .i64 id] 3)).heap.size = w4.heap.size + 1 from by simp] at this; exact this
                          have HQ := hide ((HD.out.grow (below_alloc _ (.cells #[.int .i64 id] 3))).grow (below_alloc _ (.cells #[.int .i64 kk] 3)))
                          obtain ⟨ob, cb4, V1, hr1, Q1, F1⟩ := HQ.out.appA (ty := 28) HXN.out (by have := HLE.out; omega)
                          have HZ1 := hide (far_new (W := w4) HZN.out F1 (Nat.le_succ _) HOB.out)
                          obtain ⟨oc, cc4, V2, hr2, Q2, F2⟩ := Q1.appB (ty := 28) HZ1.out (by have := HLE.out; omega)
                          have HR1 := hide hr1
                          have HR2 := hide hr2
                          have HC1 := hide (P2.cells HTD.out Q1)
                          have HC2 := hide (P2.cells HTD.out Q2)
                          have SD := P2.done HTD.out Q2
                          have sca := SD.ca
                          have sza := SD.za
                          have scb := SD.cb
                          have szb := SD.zb
                          have HFIN := hide SD.fin
                          clear hr1 Q1 F1 hr2 Q2 F2 SD
                          go_simp
                          refine hK.out _ _ (fun _ => P2.cells HTD.out HQ.out) ?_
                          change Till _ _ _ _ _ _ _ _ _ (World.alloc (World.alloc (World.drew w4) (.cells #[.int .i64 id] 3)) (.cells #[.int .i64 kk] 3))

                          refine till_ready (rs := [3]) (by kernel_rfl) (by simp) ?_
                          refine AllTill.cons (o := { dst := some 115, op := Op.call { callee := Callee.builtin Builtin.append, args := #[Operand.tmp 112, Operand.tmp 114], argTypes := #[28, 28] }, type := 28, pos := "law.go:66", after := #[{ on := 0, ground := Ground.data }, { on := 2, ground := Ground.data }], guard := none }) rfl (fun K hK => ?_) AllTill.nil
                          refine step_run rfl _ _ _ rfl (.slice a1 A.length c1) (.slice (some ⟨(World.heap (World.drew w4)).size, 0, none⟩) 1 1) (.slice ob (A.length + 1) cb4) V1 rfl rfl HR1.out ?_
                          refine hK.out _ _ (fun _ => HC1.out) ?_
                          simp only [Act.put, List.setIfInBounds_toArray, List.set_cons_zero, List.set_cons_succ]
                          refine till_ready (rs := [7]) (by kernel_rfl) (by simp) ?_
                          refine AllTill.cons (o := { dst := some 119, op := Op.call { callee := Callee.builtin Builtin.append, args := #[Operand.tmp 116, Operand.tmp 118], argTypes := #[28, 28] }, type := 28, pos := "law.go:66", after := #[{ on := 4, ground := Ground.data }, { on := 6, ground := Ground.data }, { on := 3, ground := Ground.chain }], guard := none }) rfl (fun K hK => ?_) AllTill.nil
                          refine step_run rfl _ _ _ rfl (.slice a2 B.length c2) (.slice (some ⟨w4.heap.size + 1, 0, none⟩) 1 1) (.slice oc (B.length + 1) cc4) V2 rfl rfl HR2.out ?_
                          refine hK.out _ _ (fun _ => HC2.out) ?_
                          simp only [Act.put, List.setIfInBounds_toArray, List.set_cons_zero, List.set_cons_succ]
                          refine till_ready (rs := [8]) (by kernel_rfl) (by simp) ?_
                          refine AllTill.cons (o := { dst := none, op := Op.store 28 (Operand.tmp 5) (Operand.tmp 115), type := 0, pos := "law.go:66", after := #[{ on := 3, ground := Ground.data }, { on := 7, ground := Ground.chain }, { on := 0, ground := Ground.phase }, { on := 1, ground := Ground.phase }, { on := 2, ground := Ground.phase }, { on := 3, ground := Ground.phase }, { on := 4, ground := Ground.textOnly Departure.inlinedCapture }, { on := 5, ground := Ground.textOnly Departure.lateStores }, { on := 6, ground := Ground.textOnly Departure.inlinedCapture }, { on := 7, ground := Ground.textOnly Departure.lateStoresUnsure }], guard := none }) rfl (fun K hK => ?_) AllTill.nil
                          go_simp
                          refine hK.out _ _ (fun h => absurd h (by decide)) ?_
                          refine till_ready (rs := [9]) (by kernel_rfl) (by simp) ?_
                          refine AllTill.cons (o := { dst := none, op := Op.store 28 (Operand.tmp 6) (Operand.tmp 119), type := 0, pos := "law.go:66", after := #[{ on := 7, ground := Ground.data }, { on := 8, ground := Ground.chain }, { on := 0, ground := Ground.phase }, { on := 1, ground := Ground.phase }, { on := 2, ground := Ground.phase }, { on := 3, ground := Ground.phase }, { on := 4, ground := Ground.phase }, { on := 5, ground := Ground.phase }, { on := 6, ground := Ground.phase }, { on := 7, ground := Ground.phase }, { on := 8, ground := Ground.phase }], guard := none }) rfl (fun K hK => ?_) AllTill.nil
                          go_simp
                          refine hK.out _ _ (fun h => absurd h (by decide)) ?_
                          refine till_done (by kernel_rfl) ?_ _
                          go_wp2_with fail
                          go_meet
                          exact ⟨now, M, _, _, _, rfl, HEND.out _ _ _ HFIN.out, HVM.out, hnow0, by omega⟩
                      · go_simp
                        refine hK.out _ _ (fun _ => P2.cells HTD.out (HD.out.grow (below_alloc _ (.cells #[.int .i64 kk] 3)))) ?_
                        change Till _ _ _ _ _ _ _ _ _ (World.alloc (World.drew w4) (.cells #[.int .i64 kk] 3))
                        have HXN : Hid (Nums (World.alloc (World.alloc (World.drew w4) (.cells #[.int .i64 kk] 3)) (.cells #[.int .i64 id] 3)) (some ⟨w4.heap.size + 1, 0, none⟩) 1 1 [id]) := by
                          have := nums_one (World.alloc (World.drew w4) (.cells #[.int .i64 kk] 3)) id
                          rw [show (World.alloc (World.drew w4) (.cells #[.int .i64 kk] 3)).heap.size = w4.heap.size + 1 from by simp] at this; exact this
                        have HZN := hide ((nums_one (World.drew w4) kk).carry (below_alloc _ (.cells #[.int .i64 id] 3)))
                        have HQ := hide ((HD.out.grow (below_alloc _ (.cells #[.int .i64 kk] 3))).grow (below_alloc _ (.cells #[.int .i64 id] 3)))
                        obtain ⟨ob, cb4, V1, hr1, Q1, F1⟩ := HQ.out.appA (ty := 28) HXN.out (by have := HLE.out; omega)
                        have HZ1 := hide (far_new (W := w4) HZN.out F1 (Nat.le_refl _) HOB.out)
                        obtain ⟨oc, cc4, V2, hr2, Q2, F2⟩ := Q1.appB (ty := 28) HZ1.out (by have := HLE.out; omega)
                        have HR1 := hide hr1
                        have HR2 := hide hr2
                        have HC1 := hide (P2.cells HTD.out Q1)
                        have HC2 := hide (P2.cells HTD.out Q2)
                        have SD := P2.done HTD.out Q2
                        have sca := SD.ca
                        have sza := SD.za
                        have scb := SD.cb
                        have szb := SD.zb
                        have HFIN := hide SD.fin
                        clear hr1 Q1 F1 hr2 Q2 F2 SD
                        refine till_ready (rs := [2]) (by kernel_rfl) (by simp) ?_
                        refine AllTill.cons (o := { dst := some 114, op := Op.buildSlice 28 1 #[(0, Operand.tmp 113)], type := 28, pos := "law.go:66", after := #[{ on := 1, ground := Ground.data }], guard := none }) rfl (fun K hK => ?_) AllTill.nil
                        go_simp
                        refine hK.out _ _ (fun _ => P2.cells HTD.out HQ.out) ?_
                        change Till _ _ _ _ _ _ _ _ _ (World.alloc (World.alloc (World.drew w4) (.cells #[.int .i64 kk] 3)) (.cells #[.int .i64 id] 3))

                        refine till_ready (rs := [3]) (by kernel_rfl) (by simp) ?_
                        refine AllTill.cons (o := { dst := some 115, op := Op.call { callee := Callee.builtin Builtin.append, args := #[Operand.tmp 112, Operand.tmp 114], argTypes := #[28, 28] }, type := 28, pos := "law.go:66", after := #[{ on := 0, ground := Ground.data }, { on := 2, ground := Ground.data }], guard := none }) rfl (fun K hK => ?_) AllTill.nil
                        refine step_run rfl _ _ _ rfl (.slice a1 A.length c1) (.slice (some ⟨w4.heap.size + 1, 0, none⟩) 1 1) (.slice ob (A.length + 1) cb4) V1 rfl rfl HR1.out ?_
                        refine hK.out _ _ (fun _ => HC1.out) ?_
                        simp only [Act.put, List.setIfInBounds_toArray, List.set_cons_zero, List.set_cons_succ]
                        refine till_ready (rs := [7]) (by kernel_rfl) (by simp) ?_
                        refine AllTill.cons (o := { dst := some 119, op := Op.call { callee := Callee.builtin Builtin.append, args := #[Operand.tmp 116, Operand.tmp 118], argTypes := #[28, 28] }, type := 28, pos := "law.go:66", after := #[{ on := 4, ground := Ground.data }, { on := 6, ground := Ground.data }, { on := 3, ground := Ground.chain }], guard := none }) rfl (fun K hK => ?_) AllTill.nil
                        refine step_run rfl _ _ _ rfl (.slice a2 B.length c2) (.slice (some ⟨(World.heap (World.drew w4)).size, 0, none⟩) 1 1) (.slice oc (B.length + 1) cc4) V2 rfl rfl HR2.out ?_
                        refine hK.out _ _ (fun _ => HC2.out) ?_
                        simp only [Act.put, List.setIfInBounds_toArray, List.set_cons_zero, List.set_cons_succ]
                        refine till_ready (rs := [8]) (by kernel_rfl) (by simp) ?_
                        refine AllTill.cons (o := { dst := none, op := Op.store 28 (Operand.tmp 5) (Operand.tmp 115), type := 0, pos := "law.go:66", after := #[{ on := 3, ground := Ground.data }, { on := 7, ground := Ground.chain }, { on := 0, ground := Ground.phase }, { on := 1, ground := Ground.phase }, { on := 2, ground := Ground.phase }, { on := 3, ground := Ground.phase }, { on := 4, ground := Ground.textOnly Departure.inlinedCapture }, { on := 5, ground := Ground.textOnly Departure.lateStores }, { on := 6, ground := Ground.textOnly Departure.inlinedCapture }, { on := 7, ground := Ground.textOnly Departure.lateStoresUnsure }], guard := none }) rfl (fun K hK => ?_) AllTill.nil
                        go_simp
                        refine hK.out _ _ (fun h => absurd h (by decide)) ?_
                        refine till_ready (rs := [9]) (by kernel_rfl) (by simp) ?_
                        refine AllTill.cons (o := { dst := none, op := Op.store 28 (Operand.tmp 6) (Operand.tmp 119), type := 0, pos := "law.go:66", after := #[{ on := 7, ground := Ground.data }, { on := 8, ground := Ground.chain }, { on := 0, ground := Ground.phase }, { on := 1, ground := Ground.phase }, { on := 2, ground := Ground.phase }, { on := 3, ground := Ground.phase }, { on := 4, ground := Ground.phase }, { on := 5, ground := Ground.phase }, { on := 6, ground := Ground.phase }, { on := 7, ground := Ground.phase }, { on := 8, ground := Ground.phase }], guard := none }) rfl (fun K hK => ?_) AllTill.nil
                        go_simp
                        refine hK.out _ _ (fun h => absurd h (by decide)) ?_
                        refine till_done (by kernel_rfl) ?_ _
                        go_wp2_with fail
                        go_meet
                        exact ⟨now, M, _, _, _, rfl, HEND.out _ _ _ HFIN.out, HVM.out, hnow0, by omega⟩
        · by_cases hdb : d = 2
          ·
            subst hdb
            obtain ⟨dl, hdl⟩ : ∃ q, decide ((dropA L id).length < L.length) = q := ⟨_, rfl⟩
            have HDL := hide hdl
            clear hdl
            go_wp2_with fail
            refine (cancel_any id _ HP2.out.tm (by rw [HM.out]; omega)).mono ?_; rintro e w3 ⟨rfl, h3⟩
            obtain ⟨rv3, T3⟩ := HP2.out.clock h3
            rw [HDL.out]
            have HP3 := hide T3
            clear h3 T3
            go_wp2_with fail
            refine (take_any id _ HP3.out (by rw [ids_len, left_len]) (by rw [ids_len, HM.out]; omega)).mono ?_; rintro e w4 h4
            rcases h4 with ⟨hno, rfl, T4⟩ | ⟨k, hk, hkx, _, rfl, v1, v2, T4⟩
            · have hd0 := drop_notin hno
              obtain rfl : dl = false := by rw [← HDL.out, hd0]; exact decide_eq_false (by omega)
              rw [hd0] at T4
              have HT4 := hide T4
              clear T4 hno hd0
              go_wp2_with fail
              go_meet
              exact ⟨now, L, _, _, _, rfl, HT4.out, HV.out, hnow0, by omega⟩
            · have hkl : k < L.length := by rw [ids_len] at hk; exact hk
              have hcut := drop_at L k id HV.out.nd hkl (by rw [← ids_get L k hkl]; exact hkx)
              rw [ids_cut, left_cut, hcut] at T4
              obtain rfl : dl = true := by
                rw [← HDL.out]
                have := drop_len HV.out.nd (show id ∈ idsL L from hkx ▸ mem_of hk rfl)
                exact decide_eq_true (by omega)
              have HT4 := hide T4
              clear T4 hk hkx hkl hcut
              go_wp2_with fail
              go_meet
              exact ⟨now, dropA L id, _, _, _, rfl, HT4.out, HV.out.drop id, hnow0, by omega⟩
          ·
            obtain rfl : d = 3 := by omega
            obtain ⟨T, hT⟩ : ∃ T, now + 1 = T := ⟨_, rfl⟩
            have hTw : IntKind.i64.wrap (now + 1) = T := by rw [IntKind.wrap_i64]; omega
            have HTT := hide hT
            have HTB : Hid (0 ≤ T ∧ T ≤ (i : Int) + 1) := ⟨by omega, by omega⟩
            go_wp2_with fail
            clear hd1
            go_loopg [47, 16, 17, 18] m (fun gk vk v1 v2 v3 wr => TkRel Y L T m gk vk v1 v2 v3 wr)
            case atStart => exact ⟨0, by omega, rfl, r3_nil Y⟩
            case round =>
              rename World => wq
              obtain ⟨k, hk, rfl, r3⟩ := hrel
              have T1 := HP2.out.grow r3.bel
              have k5 := T1.ca
              have k6 := T1.cb
              have HK := hide hk
              cases gk with
              | zero =>
                obtain rfl : k = m := by omega
                have hlt2 : ¬ ((k : Int) < (k : Int)) := by omega
                rw [List.take_of_length_le (by rw [HM.out]; omega)] at r3
                obtain ⟨R, hR⟩ : ∃ R, restF L T = R := ⟨_, rfl⟩
                obtain ⟨A, hA⟩ : ∃ A, ringF L T = A := ⟨_, rfl⟩
                rw [hR, hA] at r3
                obtain ⟨o1, e1', rfl⟩ := owns_slice r3.a
                obtain ⟨o2, e2', rfl⟩ := owns_slice r3.b
                obtain ⟨o3, e3', rfl⟩ := owns_slice r3.c
                have f0 := below_foot (TSS (.slice ai k ci) (.slice al k cl)) r3.bel
                obtain ⟨s1, s2, s3, s4, s5⟩ := HP2.out.stores f0 (.slice o2 (idsL R).length e2')
                have T2 := HP2.out.rows f0 (owns_base r3.b HP2.out.size) (owns_base r3.c HP2.out.size) r3.bc
                have oa : ((wq.setCell ⟨a, 0, none⟩ (.slice o2 (idsL R).length e2')).setCell ⟨b, 0, none⟩ (.slice o3 (leftL T R).length e3')).ownsRow Y.heap.size 3 1 (.slice o1 A.length e1') A.length (cellsI A) := by
                  have fs := ((foot_set wq ⟨a, 0, none⟩ (.slice o2 (idsL R).length e2')).mono (S' := fun j => j = a ∨ j = b) (fun _ e => .inl e)).then ((foot_set (wq.setCell ⟨a, 0, none⟩ (.slice o2 (idsL R).length e2')) ⟨b, 0, none⟩ (.slice o3 (leftL T R).length e3')).mono (fun _ e => .inr e))
                  refine owns_foot r3.a fs (fun j e h => ?_)
                  obtain ⟨cur, hh⟩ := owns_type r3.a e
                  rcases h with rfl | rfl
                  · exact two_types hh T1.ba (by decide) rfl
                  · exact two_types hh T1.bb (by decide) rfl
                obtain ⟨V, hV⟩ : ∃ V, (wq.setCell ⟨a, 0, none⟩ (.slice o2 (idsL R).length e2')).setCell ⟨b, 0, none⟩ (.slice o3 (leftL T R).length e3') = V := ⟨_, rfl⟩
                rw [hV] at T2 oa
                have HT2 := hide T2
                have HOA := hide oa
                have HAR := hide hA
                have HRR := hide hR
                obtain ⟨nA, hnA⟩ : ∃ nA, A.length = nA := ⟨_, rfl⟩
                have HNA := hide hnA
                rw [hnA]
                clear hk r3 T1 T2 oa k5 k6 f0 hR hA hnA d0 ka kb
                go_wp2_with fail
                refine (tick_any _ HT2.out.tm (by rw [HM.out]; omega) (by omega)).mono ?_; rintro e w5 h5
                rw [HTT.out] at h5
                obtain ⟨v5, rfl, ho5, h5⟩ := h5
                rw [HAR.out] at ho5
                obtain ⟨rv5, T5⟩ := HT2.out.clock h5
                rw [HRR.out] at T5
                obtain ⟨_, _, f5⟩ := h5
                have oa5 := owns_foot HOA.out f5 (fun j e (e2 : j = g) => by
                  subst e2
                  obtain ⟨cur, hh⟩ := owns_type HOA.out e
                  exact two_types hh HT2.out.tm.box (by decide) rfl)
                obtain ⟨_, _, ea, na⟩ := owns_lies oa5
                cases ea
                obtain ⟨ro5, rc5, rfl, nb⟩ := owns_lies ho5
                rw [HNA.out] at na nb ⊢
                have HNa := hide (show Nums w5 o1 nA e1' A from na)
                have HNb := hide (show Nums w5 ro5 nA rc5 A from nb)
                have HT5 := hide T5
                clear T5 f5 oa5 ho5 na nb
                go_wp2_with fail
                refine (same_any _ _ _ _ _ _ A A _ HNb.out HNa.out).mono ?_; rintro e w6 ⟨rfl, b6⟩
                rw [decide_eq_true (rfl : A = A)]
                have HT6 := hide (HT5.out.grow b6)
                clear b6
                go_wp2_with fail
                go_meet
                exact ⟨T, R, _, _, _, rfl, HT6.out, by have := HV.out.tick; rw [HTT.out, HRR.out] at this; exact this, HTB.out.1, HTB.out.2⟩
              | succ g2 =>
                have hlt2 : (k : Int) < (m : Int) := by omega
                have hkm : k < m := by omega
                have hkL : k < L.length := by rw [HM.out]; exact hkm
                obtain ⟨ad2, rfl⟩ := T1.numI.there hkm
                obtain ⟨bd2, rfl⟩ := T1.numJ.there hkm
                have c5 := T1.numI.elem k hkm
                have c6 := T1.numJ.elem k hkm
                rw [ids_get L k hkL] at c5
                rw [left_get now L k hkL] at c6
                have HSR := hide (ringF_snoc L k T hkL)
                have HSS := hide (restF_snoc L k T hkL)
                have hrg := HV.out.rng _ (getA_mem L k hkL)
                obtain ⟨y, hy⟩ : ∃ y, L.getD k Al.zero = y := ⟨_, rfl⟩
                rw [hy] at c5 c6 HSR HSS hrg
                obtain ⟨x, hx⟩ : ∃ x, y.i = x := ⟨_, rfl⟩
                obtain ⟨z, hz⟩ : ∃ z, y.t - now = z := ⟨_, rfl⟩
                rw [hx] at c5
                rw [hz] at c6
                have HX := hide hx
                have HLE : Hid ((ringF (L.take k) T).length ≤ 64 ∧ (idsL (restF (L.take k) T)).length ≤ 64 ∧ (leftL T (restF (L.take k) T)).length ≤ 64) := by
                  have h1 := ring_len (L.take k) T
                  have h2 := rest_len (L.take k) T
                  have h3 : (L.take k).length ≤ 64 := by rw [List.length_take]; omega
                  exact ⟨by omega, by rw [ids_len]; omega, by rw [left_len]; omega⟩
                obtain ⟨A, hA⟩ : ∃ A, ringF (L.take k) T = A := ⟨_, rfl⟩
                obtain ⟨S, hS⟩ : ∃ S, idsL (restF (L.take k) T) = S := ⟨_, rfl⟩
                obtain ⟨Wn, hWn⟩ : ∃ Wn, leftL T (restF (L.take k) T) = Wn := ⟨_, rfl⟩
                rw [hA, hS, hWn] at r3 HLE
                obtain ⟨o1, e1', rfl⟩ := owns_slice r3.a
                obtain ⟨o2, e2, rfl⟩ := owns_slice r3.b
                obtain ⟨o3, e3, rfl⟩ := owns_slice r3.c
                have HR3 := hide r3
                have HT1 := hide T1
                by_cases hyt : y.t = T
                · have hz1 : (z == 1) = true := by rw [← hz]; have := HTT.out; simp; omega
                  obtain ⟨oa, ca, V, hr, Q, F⟩ := (r3.grow (below_alloc wq (.cells #[.int .i64 x] 3))).appA (ty := 28) (nums_one wq x) (by have := HLE.out; omega)
                  have HQ : Hid (R3 Y V (.slice oa (A.length + 1) ca) (.slice o2 S.length e2) (.slice o3 Wn.length e3) (ringF (L.take (k + 1)) T) (idsL (restF (L.take (k + 1)) T)) (leftL T (restF (L.take (k + 1)) T))) := by
                    show R3 _ _ _ _ _ _ _ _
                    rw [HSR.out, HSS.out, if_pos (by simp [hyt]), if_pos (by simp [hyt]), List.append_nil, hx, hA, hS, hWn]; exact Q
                  have HRUN := hide hr
                  clear hr Q F hk r3 T1 hA hS hWn hyt hy hx hz hrg HSR HSS
                  go_wp2_with (at_builtin; refine wpList_append_run rfl _ _ _ rfl _ _ _ _ rfl rfl HRUN.out ?_)
                  go_wp2
                  go_roundg g2
                  case measure => omega
                  case rel => exact ⟨k + 1, by have := HK.out; omega, by go_num, HQ.out⟩
                · have hz1n : (z == 1) = false := by rw [← hz]; have := HTT.out; simp; omega
                  obtain ⟨z1, hzz⟩ : ∃ z1, z - 1 = z1 := ⟨_, rfl⟩
                  have hzw : IntKind.i64.wrap (z - 1) = z1 := by rw [IntKind.wrap_i64]; omega
                  have HD := hide (r3.grow (below_d wq 1))
                  have HCC : Hid (∀ V, Below Y.heap.size Y V → V.cell? ⟨a, 0, none⟩ = some (.slice (some ad2) m ci) ∧ V.cell? ⟨b, 0, none⟩ = some (.slice (some bd2) m cl) ∧ V.cell? (ad2.add k) = some (.int .i64 x) ∧ V.cell? (bd2.add k) = some (.int .i64 z)) := fun V bV => by
                    have TV := HP2.out.grow bV
                    have h1 := TV.numI.elem k hkm
                    have h2 := TV.numJ.elem k hkm
                    rw [ids_get L k hkL, hy, hx] at h1
                    rw [left_get now L k hkL, hy, hz] at h2
                    exact ⟨TV.ca, TV.cb, h1, h2⟩
                  have HC0 := hide (HCC.out _ HD.out.bel)
                  have HOB : Hid (∀ j, (Value.slice o2 S.length e2).ownBlock = some j → j < wq.heap.size) := fun j e => (owns_lt r3.b e).1
                  have HEND : Hid (∀ V ob cb4 oc cc4, R3 Y V (.slice o1 A.length e1') (.slice ob (S.length + 1) cb4) (.slice oc (Wn.length + 1) cc4) A (S ++ [x]) (Wn ++ [z1]) → R3 Y V (.slice o1 A.length e1') (.slice ob (S.length + 1) cb4) (.slice oc (Wn.length + 1) cc4) (ringF (L.take (k + 1)) T) (idsL (restF (L.take (k + 1)) T)) (leftL T (restF (L.take (k + 1)) T))) := fun V ob cb4 oc cc4 h => by
                    have e1 : leftL T [y] = [z1] := by show [y.t - T] = [z1]; rw [← hzz, ← hz, ← HTT.out]; congr 1; omega
                    have e0 : idsL [y] = [x] := by show [y.i] = [x]; rw [hx]
                    rw [HSR.out, HSS.out, if_neg (by simp [hyt]), if_neg (by simp [hyt]), List.append_nil, ids_append, left_append, e0, e1, hA, hS, hWn]; exact h
                  have kq : ∀ q, (wq.drewN q).cell? ⟨a, 0, none⟩ = some (.slice (some ad2) m ci) := fun q => k5
                  clear hk r3 T1 hA hS hWn hyt hy hx hz hrg HSR HSS hkL hzz d0 ka kb kq
                  go_wp2_with fail
                  refine region_till (fun W => W.cell? ⟨a, 0, none⟩ = some (.slice (some ad2) m ci) ∧ W.cell? ⟨b, 0, none⟩ = some (.slice (some bd2) m cl) ∧ W.cell? (ad2.add k) = some (.int .i64 x) ∧ W.cell? (bd2.add k) = some (.int .i64 z)) 15 (by kernel_rfl) ?_
                  refine till_take [0, 15] (i := 0) (oi := { dst := some 62, op := Op.move (Operand.tmp 17), type := 28, pos := "law.go:82", after := #[], guard := none }) (v := (.slice o2 S.length e2)) rfl (by kernel_rfl) (by kernel_rfl) (by kernel_rfl) (by kernel_rfl) (fun _ _ _ h => h) (Or.inl ⟨by kernel_rfl, fun w hC => by go_simp⟩) HC0.out ?_
                  simp only [Act.put, List.setIfInBounds_toArray, List.set_cons_zero, List.set_cons_succ]
                  refine till_take [1, 15] (i := 1) (oi := { dst := some 63, op := Op.load 28 (Operand.tmp 5), type := 28, pos := "law.go:82", after := #[], guard := none }) (v := (.slice (some ad2) m ci)) rfl (by kernel_rfl) (by kernel_rfl) (by kernel_rfl) (by kernel_rfl) (fun _ _ _ h => h) (Or.inl ⟨by kernel_rfl, fun w hC => by (obtain ⟨p1, p2, p3, p4⟩ := hC; go_simp)⟩) HC0.out ?_
                  simp only [Act.put, List.setIfInBounds_toArray, List.set_cons_zero, List.set_cons_succ]
                  refine till_take [2, 15] (i := 2) (oi := { dst := some 64, op := Op.move (Operand.tmp 19), type := 3, pos := "law.go:82", after := #[], guard := none }) (v := (.int .i64 (k : Int))) rfl (by kernel_rfl) (by kernel_rfl) (by kernel_rfl) (by kernel_rfl) (fun _ _ _ h => h) (Or.inl ⟨by kernel_rfl, fun w hC => by go_simp⟩) HC0.out ?_
                  simp only [Act.put, List.setIfInBounds_toArray, List.set_cons_zero, List.set_cons_succ]
                  refine till_take [3, 15] (i := 3) (oi := { dst := some 65, op := Op.indexAddr 28 (Operand.tmp 63) (Operand.tmp 64), type := 0, pos := "law.go:82", after := #[{ on := 1, ground := Ground.data }, { on := 2, ground := Ground.data }], guard := none }) (v := (.pointer (some (ad2.add k)))) rfl (by kernel_rfl) (by kernel_rfl) (by kernel_rfl) (by kernel_rfl) (fun _ _ _ h => h) (Or.inl ⟨by kernel_rfl, fun w hC => by go_simp⟩) HC0.out ?_
                  simp only [Act.put, List.setIfInBounds_toArray, List.set_cons_zero, List.set_cons_succ]
                  refine till_take [4, 15] (i := 4) (oi := { dst := some 66, op := Op.load 3 (Operand.tmp 65), type := 3, pos := "law.go:82", after := #[{ on := 3, ground := Ground.data }], guard := none }) (v := (.int .i64 x)) rfl (by kernel_rfl) (by kernel_rfl) (by kernel_rfl) (by kernel_rfl) (fun _ _ _ h => h) (Or.inl ⟨by kernel_rfl, fun w hC => by (obtain ⟨p1, p2, p3, p4⟩ := hC; go_simp)⟩) HC0.out ?_
                  simp only [Act.put, List.setIfInBounds_toArray, List.set_cons_zero, List.set_cons_succ]
                  refine till_take [7, 14, 15] (i := 7) (oi := { dst := some 69, op := Op.move (Operand.tmp 18), type := 28, pos := "law.go:82", after := #[], guard := none }) (v := (.slice o3 Wn.length e3)) rfl (by kernel_rfl) (by kernel_rfl) (by kernel_rfl) (by kernel_rfl) (fun _ _ _ h => h) (Or.inl ⟨by kernel_rfl, fun w hC => by go_simp⟩) HC0.out ?_
                  simp only [Act.put, List.setIfInBounds_toArray, List.set_cons_zero, List.set_cons_succ]
                  refine till_take [8, 10, 11, 12, 13, 14, 15] (i := 8) (oi := { dst := some 70, op := Op.load 28 (Operand.tmp 6), type := 28, pos := "law.go:82", after := #[], guard := none }) (v := (.slice (some bd2) m cl)) rfl (by kernel_rfl) (by kernel_rfl) (by kernel_rfl) (by kernel_rfl) (fun _ _ _ h => h) (Or.inl ⟨by kernel_rfl, fun w hC => by (obtain ⟨p1, p2, p3, p4⟩ := hC; go_simp)⟩) HC0.out ?_
                  simp only [Act.put, List.setIfInBounds_toArray, List.set_cons_zero, List.set_cons_succ]
                  refine till_take [9, 10, 11, 12, 13, 14, 15] (i := 9) (oi := { dst := some 71, op := Op.move (Operand.tmp 19), type := 3, pos := "law.go:82", after := #[], guard := none }) (v := (.int .i64 (k : Int))) rfl (by kernel_rfl) (by kernel_rfl) (by kernel_rfl) (by kernel_rfl) (fun _ _ _ h => h) (Or.inl ⟨by kernel_rfl, fun w hC => by go_simp⟩) HC0.out ?_
                  simp only [Act.put, List.setIfInBounds_toArray, List.set_cons_zero, List.set_cons_succ]
                  refine till_take [10, 11, 12, 13, 14, 15] (i := 10) (oi := { dst := some 72, op := Op.indexAddr 28 (Operand.tmp 70) (Operand.tmp 71), type := 0, pos := "law.go:82", after := #[{ on := 8, ground := Ground.data }, { on := 9, ground := Ground.data }], guard := none }) (v := (.pointer (some (bd2.add k)))) rfl (by kernel_rfl) (by kernel_rfl) (by kernel_rfl) (by kernel_rfl) (fun _ _ _ h => h) (Or.inl ⟨by kernel_rfl, fun w hC => by go_simp⟩) HC0.out ?_
                  simp only [Act.put, List.setIfInBounds_toArray, List.set_cons_zero, List.set_cons_succ]
                  refine till_take [11, 12, 13, 14, 15] (i := 11) (oi := { dst := some 73, op := Op.load 3 (Operand.tmp 72), type := 3, pos := "law.go:82", after := #[{ on := 10, ground := Ground.data }], guard := none }) (v := (.int .i64 z)) rfl (by kernel_rfl) (by kernel_rfl) (by kernel_rfl) (by kernel_rfl) (fun _ _ _ h => h) (Or.inl ⟨by kernel_rfl, fun w hC => by (obtain ⟨p1, p2, p3, p4⟩ := hC; go_simp)⟩) HC0.out ?_
                  simp only [Act.put, List.setIfInBounds_toArray, List.set_cons_zero, List.set_cons_succ]
                  refine till_take [12, 13, 14, 15] (i := 12) (oi := { dst := some 74, op := Op.binOp BinOp.sub 3 (Operand.tmp 73) (Operand.const (Value.int IntKind.i64 1)) 3, type := 3, pos := "law.go:82", after := #[{ on := 11, ground := Ground.data }], guard := none }) (v := (.int .i64 z1)) rfl (by kernel_rfl) (by kernel_rfl) (by kernel_rfl) (by kernel_rfl) (fun _ _ _ h => h) (Or.inl ⟨by kernel_rfl, fun w hC => by go_simp⟩) HC0.out ?_
                  simp only [Act.put, List.setIfInBounds_toArray, List.set_cons_zero, List.set_cons_succ]
                  refine till_ready (rs := [5, 13]) (by kernel_rfl) (by simp) ?_
                  refine AllTill.cons (o := { dst := some 67, op := Op.buildSlice 28 1 #[(0, Operand.tmp 66)], type := 28, pos := "law.go:82", after := #[{ on := 4, ground := Ground.data }], guard := none }) rfl (fun K hK => ?_) (AllTill.cons (o := { dst := some 75, op := Op.buildSlice 28 1 #[(0, Operand.tmp 74)], type := 28, pos := "law.go:82", after := #[{ on := 12, ground := Ground.data }], guard := none }) rfl (fun K hK => ?_) AllTill.nil)
                  · go_simp
                    refine hK.out _ _ (fun _ => HCC.out _ (HD.out.bel.trans ((below_alloc (World.drew wq) (.cells #[.int .i64 x] 3)).mono HD.out.bel.size))) ?_
                    change Till _ _ _ _ _ _ _ _ _ (World.alloc (World.drew wq) (.cells #[.int .i64 x] 3))
                    refine till_ready (rs := [6, 13]) (by kernel_rfl) (by simp) ?_
                    refine AllTill.cons (o := { dst := some 68, op := Op.call { callee := Callee.builtin Builtin.append, args := #[Operand.tmp 62, Operand.tmp 67], argTypes := #[28, 28] }, type := 28, pos := "law.go:82", after := #[{ on := 0, ground := Ground.data }, { on := 5, ground := Ground.data }], guard := none }) rfl (fun K hK => ?_) (AllTill.cons (o := { dst := some 75, op := Op.buildSlice 28 1 #[(0, Operand.tmp 74)], type := 28, pos := "law.go:82", after := #[{ on := 12, ground := Ground.data }], guard := none }) rfl (fun K hK => ?_) AllTill.nil)
                    ·
                      have HXN := hide (nums_one (World.drew wq) x)
                      have HQ := hide (HD.out.grow (below_alloc _ (.cells #[.int .i64 x] 3)))
                      obtain ⟨ob, cb4, V1, hr1, Q1, F1⟩ := HQ.out.appB (ty := 28) HXN.out (by have := HLE.out; omega)
                      have HZ1 := hide (nums_one V1 z1)
                      have Q0 := Q1
                      have F0 := F1
                      replace Q1 := Q1.grow (below_alloc V1 (.cells #[.int .i64 z1] 3))
                      have HC0b := hide (HCC.out _ Q0.bel)
                      obtain ⟨oc, cc4, V2, hr2, Q2, F2⟩ := Q1.appC (ty := 28) HZ1.out (by have := HLE.out; omega)
                      have HR1 := hide hr1
                      have HR2 := hide hr2
                      have HQ2 := hide Q2
                      have HC1 := HC0b
                      have HC1b := hide (HCC.out _ Q1.bel)
                      have HC2 := hide (HCC.out _ Q2.bel)
                      clear Q0 F0 hr1 Q1 F1 hr2 Q2 F2

                      refine step_run rfl _ _ _ rfl (.slice o2 S.length e2) (.slice (some ⟨(World.heap (World.drew wq)).size, 0, none⟩) 1 1) (.slice ob (S.length + 1) cb4) V1 rfl rfl HR1.out ?_
                      refine hK.out _ _ (fun _ => HC1.out) ?_
                      simp only [Act.put, List.setIfInBounds_toArray, List.set_cons_zero, List.set_cons_succ]
                      refine till_ready (rs := [13]) (by kernel_rfl) (by simp) ?_
                      refine AllTill.cons (o := { dst := some 75, op := Op.buildSlice 28 1 #[(0, Operand.tmp 74)], type := 28, pos := "law.go:82", after := #[{ on := 12, ground := Ground.data }], guard := none }) rfl (fun K hK => ?_) AllTill.nil
                      go_simp
                      refine hK.out _ _ (fun _ => HC1b.out) ?_
                      change Till _ _ _ _ _ _ _ _ _ (World.alloc V1 (.cells #[.int .i64 z1] 3))

                      refine till_ready (rs := [14]) (by kernel_rfl) (by simp) ?_
                      refine AllTill.cons (o := { dst := some 76, op := Op.call { callee := Callee.builtin Builtin.append, args := #[Operand.tmp 69, Operand.tmp 75], argTypes := #[28, 28] }, type := 28, pos := "law.go:82", after := #[{ on := 7, ground := Ground.data }, { on := 13, ground := Ground.data }, { on := 6, ground := Ground.chain }], guard := none }) rfl (fun K hK => ?_) AllTill.nil
                      refine step_run rfl _ _ _ rfl (.slice o3 Wn.length e3) (.slice (some ⟨(World.heap V1).size, 0, none⟩) 1 1) (.slice oc (Wn.length + 1) cc4) V2 rfl rfl HR2.out ?_
                      refine hK.out _ _ (fun _ => HC2.out) ?_
                      simp only [Act.put, List.setIfInBounds_toArray, List.set_cons_zero, List.set_cons_succ]
                      refine till_ready (rs := [15]) (by kernel_rfl) (by simp) ?_
                      refine AllTill.cons (o := { dst := some 17, op := Op.assign (Operand.tmp 68), type := 28, pos := "law.go:82", after := #[{ on := 6, ground := Ground.data }, { on := 14, ground := Ground.chain }, { on := 0, ground := Ground.phase }, { on := 1, ground := Ground.phase }, { on := 2, ground := Ground.phase }, { on := 3, ground := Ground.phase }, { on := 4, ground := Ground.phase }, { on := 5, ground := Ground.phase }, { on := 6, ground := Ground.phase }, { on := 7, ground := Ground.textOnly Departure.lateStores }, { on := 8, ground := Ground.textOnly Departure.lateStores }, { on := 9, ground := Ground.textOnly Departure.lateStores }, { on := 10, ground := Ground.textOnly Departure.lateStores }, { on := 11, ground := Ground.textOnly Departure.lateStores }, { on := 12, ground := Ground.textOnly Departure.lateStores }, { on := 13, ground := Ground.textOnly Departure.lateStores }, { on := 14, ground := Ground.textOnly Departure.lateStoresUnsure }], guard := none }) rfl (fun K hK => ?_) AllTill.nil
                      go_simp
                      refine hK.out _ _ (fun h => absurd h (by decide)) ?_
                      refine till_ready (rs := [16]) (by kernel_rfl) (by simp) ?_
                      refine AllTill.cons (o := { dst := some 18, op := Op.assign (Operand.tmp 76), type := 28, pos := "law.go:82", after := #[{ on := 14, ground := Ground.data }, { on := 15, ground := Ground.chain }, { on := 0, ground := Ground.phase }, { on := 1, ground := Ground.phase }, { on := 2, ground := Ground.phase }, { on := 3, ground := Ground.phase }, { on := 4, ground := Ground.phase }, { on := 5, ground := Ground.phase }, { on := 6, ground := Ground.phase }, { on := 7, ground := Ground.phase }, { on := 8, ground := Ground.phase }, { on := 9, ground := Ground.phase }, { on := 10, ground := Ground.phase }, { on := 11, ground := Ground.phase }, { on := 12, ground := Ground.phase }, { on := 13, ground := Ground.phase }, { on := 14, ground := Ground.phase }, { on := 15, ground := Ground.phase }], guard := none }) rfl (fun K hK => ?_) AllTill.nil
                      go_simp
                      refine hK.out _ _ (fun h => absurd h (by decide)) ?_
                      refine till_done (by kernel_rfl) ?_ _
                      go_wp2
                      go_roundg g2
                      case measure => omega
                      case rel => exact ⟨k + 1, by have := HK.out; omega, by go_num, HEND.out _ _ _ _ _ HQ2.out⟩
                    ·
                      have HXN := hide ((nums_one (World.drew wq) x).carry (below_alloc _ (.cells #[.int .i64 z1] 3)))
                      have HZN : Hid (Nums (World.alloc (World.alloc (World.drew wq) (.cells #[.int .i64 x] 3)) (.cells #[.int .i64 z1] 3)) (some ⟨wq.heap.size + 1, 0, none⟩) 1 1 [z1]) := by
                        have := nums_one (World.alloc (World.drew wq) (.cells #[.int .i64 x] 3)) z1
                        rw [show (World.alloc (World.drew wq) (.cells #[.int .i64 x] 3)).heap.size = wq.heap.size + 1 from by simp] at this; exact this
                      have HQ := hide ((HD.out.grow (below_alloc _ (.cells #[.int .i64 x] 3))).grow (below_alloc _ (.cells #[.int .i64 z1] 3)))
                      obtain ⟨ob, cb4, V1, hr1, Q1, F1⟩ := HQ.out.appB (ty := 28) HXN.out (by have := HLE.out; omega)
                      have HZ1 := hide (far_new (W := wq) HZN.out F1 (Nat.le_succ _) HOB.out)
                      obtain ⟨oc, cc4, V2, hr2, Q2, F2⟩ := Q1.appC (ty := 28) HZ1.out (by have := HLE.out; omega)
                      have HR1 := hide hr1
                      have HR2 := hide hr2
                      have HQ2 := hide Q2
                      have HC1 := hide (HCC.out _ Q1.bel)
                      have HC2 := hide (HCC.out _ Q2.bel)
                      clear hr1 Q1 F1 hr2 Q2 F2
                      go_simp
                      refine hK.out _ _ (fun _ => HCC.out _ HQ.out.bel) ?_
                      change Till _ _ _ _ _ _ _ _ _ (World.alloc (World.alloc (World.drew wq) (.cells #[.int .i64 x] 3)) (.cells #[.int .i64 z1] 3))

                      refine till_ready (rs := [6]) (by kernel_rfl) (by simp) ?_
                      refine AllTill.cons (o := { dst := some 68, op := Op.call { callee := Callee.builtin Builtin.append, args := #[Operand.tmp 62, Operand.tmp 67], argTypes := #[28, 28] }, type := 28, pos := "law.go:82", after := #[{ on := 0, ground := Ground.data }, { on := 5, ground := Ground.data }], guard := none }) rfl (fun K hK => ?_) AllTill.nil
                      refine step_run rfl _ _ _ rfl (.slice o2 S.length e2) (.slice (some ⟨(World.heap (World.drew wq)).size, 0, none⟩) 1 1) (.slice ob (S.length + 1) cb4) V1 rfl rfl HR1.out ?_
                      refine hK.out _ _ (fun _ => HC1.out) ?_
                      simp only [Act.put, List.setIfInBounds_toArray, List.set_cons_zero, List.set_cons_succ]
                      refine till_ready (rs := [14]) (by kernel_rfl) (by simp) ?_
                      refine AllTill.cons (o := { dst := some 76, op := Op.call { callee := Callee.builtin Builtin.append, args := #[Operand.tmp 69, Operand.tmp 75], argTypes := #[28, 28] }, type := 28, pos := "law.go:82", after := #[{ on := 7, ground := Ground.data }, { on := 13, ground := Ground.data }, { on := 6, ground := Ground.chain }], guard := none }) rfl (fun K hK => ?_) AllTill.nil
                      refine step_run rfl _ _ _ rfl (.slice o3 Wn.length e3) (.slice (some ⟨wq.heap.size + 1, 0, none⟩) 1 1) (.slice oc (Wn.length + 1) cc4) V2 rfl rfl HR2.out ?_
                      refine hK.out _ _ (fun _ => HC2.out) ?_
                      simp only [Act.put, List.setIfInBounds_toArray, List.set_cons_zero, List.set_cons_succ]
                      refine till_ready (rs := [15]) (by kernel_rfl) (by simp) ?_
                      refine AllTill.cons (o := { dst := some 17, op := Op.assign (Operand.tmp 68), type := 28, pos := "law.go:82", after := #[{ on := 6, ground := Ground.data }, { on := 14, ground := Ground.chain }, { on := 0, ground := Ground.phase }, { on := 1, ground := Ground.phase }, { on := 2, ground := Ground.phase }, { on := 3, ground := Ground.phase }, { on := 4, ground := Ground.phase }, { on := 5, ground := Ground.phase }, { on := 6, ground := Ground.phase }, { on := 7, ground := Ground.textOnly Departure.lateStores }, { on := 8, ground := Ground.textOnly Departure.lateStores }, { on := 9, ground := Ground.textOnly Departure.lateStores }, { on := 10, ground := Ground.textOnly Departure.lateStores }, { on := 11, ground := Ground.textOnly Departure.lateStores }, { on := 12, ground := Ground.textOnly Departure.lateStores }, { on := 13, ground := Ground.textOnly Departure.lateStores }, { on := 14, ground := Ground.textOnly Departure.lateStoresUnsure }], guard := none }) rfl (fun K hK => ?_) AllTill.nil
                      go_simp
                      refine hK.out _ _ (fun h => absurd h (by decide)) ?_
                      refine till_ready (rs := [16]) (by kernel_rfl) (by simp) ?_
                      refine AllTill.cons (o := { dst := some 18, op := Op.assign (Operand.tmp 76), type := 28, pos := "law.go:82", after := #[{ on := 14, ground := Ground.data }, { on := 15, ground := Ground.chain }, { on := 0, ground := Ground.phase }, { on := 1, ground := Ground.phase }, { on := 2, ground := Ground.phase }, { on := 3, ground := Ground.phase }, { on := 4, ground := Ground.phase }, { on := 5, ground := Ground.phase }, { on := 6, ground := Ground.phase }, { on := 7, ground := Ground.phase }, { on := 8, ground := Ground.phase }, { on := 9, ground := Ground.phase }, { on := 10, ground := Ground.phase }, { on := 11, ground := Ground.phase }, { on := 12, ground := Ground.phase }, { on := 13, ground := Ground.phase }, { on := 14, ground := Ground.phase }, { on := 15, ground := Ground.phase }], guard := none }) rfl (fun K hK => ?_) AllTill.nil
                      go_simp
                      refine hK.out _ _ (fun h => absurd h (by decide)) ?_
                      refine till_done (by kernel_rfl) ?_ _
                      go_wp2
                      go_roundg g2
                      case measure => omega
                      case rel => exact ⟨k + 1, by have := HK.out; omega, by go_num, HEND.out _ _ _ _ _ HQ2.out⟩
                  · go_simp
                    refine hK.out _ _ (fun _ => HCC.out _ (HD.out.bel.trans ((below_alloc (World.drew wq) (.cells #[.int .i64 z1] 3)).mono HD.out.bel.size))) ?_
                    change Till _ _ _ _ _ _ _ _ _ (World.alloc (World.drew wq) (.cells #[.int .i64 z1] 3))
                    have HXN : Hid (Nums (World.alloc (World.alloc (World.drew wq) (.cells #[.int .i64 z1] 3)) (.cells #[.int .i64 x] 3)) (some ⟨wq.heap.size + 1, 0, none⟩) 1 1 [x]) := by
                      have := nums_one (World.alloc (World.drew wq) (.cells #[.int .i64 z1] 3)) x
                      rw [show (World.alloc (World.drew wq) (.cells #[.int .i64 z1] 3)).heap.size = wq.heap.size + 1 from by simp] at this; exact this
                    have HZN := hide ((nums_one (World.drew wq) z1).carry (below_alloc _ (.cells #[.int .i64 x] 3)))
                    have HQ := hide ((HD.out.grow (below_alloc _ (.cells #[.int .i64 z1] 3))).grow (below_alloc _ (.cells #[.int .i64 x] 3)))
                    obtain ⟨ob, cb4, V1, hr1, Q1, F1⟩ := HQ.out.appB (ty := 28) HXN.out (by have := HLE.out; omega)
                    have HZ1 := hide (far_new (W := wq) HZN.out F1 (Nat.le_refl _) HOB.out)
                    obtain ⟨oc, cc4, V2, hr2, Q2, F2⟩ := Q1.appC (ty := 28) HZ1.out (by have := HLE.out; omega)
                    have HR1 := hide hr1
                    have HR2 := hide hr2
                    have HQ2 := hide Q2
                    have HC1 := hide (HCC.out _ Q1.bel)
                    have HC2 := hide (HCC.out _ Q2.bel)
                    clear hr1 Q1 F1 hr2 Q2 F2
                    refine till_ready (rs := [5]) (by kernel_rfl) (by simp) ?_
                    refine AllTill.cons (o := { dst := some 67, op := Op.buildSlice 28 1 #[(0, Operand.tmp 66)], type := 28, pos := "law.go:82", after := #[{ on := 4, ground := Ground.data }], guard := none }) rfl (fun K hK => ?_) AllTill.nil
                    go_simp
                    refine hK.out _ _ (fun _ => HCC.out _ HQ.out.bel) ?_
                    change Till _ _ _ _ _ _ _ _ _ (World.alloc (World.alloc (World.drew wq) (.cells #[.int .i64 z1] 3)) (.cells #[.int .i64 x] 3))

                    refine till_ready (rs := [6]) (by kernel_rfl) (by simp) ?_
                    refine AllTill.cons (o := { dst := some 68, op := Op.call { callee := Callee.builtin Builtin.append, args := #[Operand.tmp 62, Operand.tmp 67], argTypes := #[28, 28] }, type := 28, pos := "law.go:82", after := #[{ on := 0, ground := Ground.data }, { on := 5, ground := Ground.data }], guard := none }) rfl (fun K hK => ?_) AllTill.nil
                    refine step_run rfl _ _ _ rfl (.slice o2 S.length e2) (.slice (some ⟨wq.heap.size + 1, 0, none⟩) 1 1) (.slice ob (S.length + 1) cb4) V1 rfl rfl HR1.out ?_
                    refine hK.out _ _ (fun _ => HC1.out) ?_
                    simp only [Act.put, List.setIfInBounds_toArray, List.set_cons_zero, List.set_cons_succ]
                    refine till_ready (rs := [14]) (by kernel_rfl) (by simp) ?_
                    refine AllTill.cons (o := { dst := some 76, op := Op.call { callee := Callee.builtin Builtin.append, args := #[Operand.tmp 69, Operand.tmp 75], argTypes := #[28, 28] }, type := 28, pos := "law.go:82", after := #[{ on := 7, ground := Ground.data }, { on := 13, ground := Ground.data }, { on := 6, ground := Ground.chain }], guard := none }) rfl (fun K hK => ?_) AllTill.nil
                    refine step_run rfl _ _ _ rfl (.slice o3 Wn.length e3) (.slice (some ⟨(World.heap (World.drew wq)).size, 0, none⟩) 1 1) (.slice oc (Wn.length + 1) cc4) V2 rfl rfl HR2.out ?_
                    refine hK.out _ _ (fun _ => HC2.out) ?_
                    simp only [Act.put, List.setIfInBounds_toArray, List.set_cons_zero, List.set_cons_succ]
                    refine till_ready (rs := [15]) (by kernel_rfl) (by simp) ?_
                    refine AllTill.cons (o := { dst := some 17, op := Op.assign (Operand.tmp 68), type := 28, pos := "law.go:82", after := #[{ on := 6, ground := Ground.data }, { on := 14, ground := Ground.chain }, { on := 0, ground := Ground.phase }, { on := 1, ground := Ground.phase }, { on := 2, ground := Ground.phase }, { on := 3, ground := Ground.phase }, { on := 4, ground := Ground.phase }, { on := 5, ground := Ground.phase }, { on := 6, ground := Ground.phase }, { on := 7, ground := Ground.textOnly Departure.lateStores }, { on := 8, ground := Ground.textOnly Departure.lateStores }, { on := 9, ground := Ground.textOnly Departure.lateStores }, { on := 10, ground := Ground.textOnly Departure.lateStores }, { on := 11, ground := Ground.textOnly Departure.lateStores }, { on := 12, ground := Ground.textOnly Departure.lateStores }, { on := 13, ground := Ground.textOnly Departure.lateStores }, { on := 14, ground := Ground.textOnly Departure.lateStoresUnsure }], guard := none }) rfl (fun K hK => ?_) AllTill.nil
                    go_simp
                    refine hK.out _ _ (fun h => absurd h (by decide)) ?_
                    refine till_ready (rs := [16]) (by kernel_rfl) (by simp) ?_
                    refine AllTill.cons (o := { dst := some 18, op := Op.assign (Operand.tmp 76), type := 28, pos := "law.go:82", after := #[{ on := 14, ground := Ground.data }, { on := 15, ground := Ground.chain }, { on := 0, ground := Ground.phase }, { on := 1, ground := Ground.phase }, { on := 2, ground := Ground.phase }, { on := 3, ground := Ground.phase }, { on := 4, ground := Ground.phase }, { on := 5, ground := Ground.phase }, { on := 6, ground := Ground.phase }, { on := 7, ground := Ground.phase }, { on := 8, ground := Ground.phase }, { on := 9, ground := Ground.phase }, { on := 10, ground := Ground.phase }, { on := 11, ground := Ground.phase }, { on := 12, ground := Ground.phase }, { on := 13, ground := Ground.phase }, { on := 14, ground := Ground.phase }, { on := 15, ground := Ground.phase }], guard := none }) rfl (fun K hK => ?_) AllTill.nil
                    go_simp
                    refine hK.out _ _ (fun h => absurd h (by decide)) ?_
                    refine till_done (by kernel_rfl) ?_ _
                    go_wp2
                    go_roundg g2
                    case measure => omega
                    case rel => exact ⟨k + 1, by have := HK.out; omega, by go_num, HEND.out _ _ _ _ _ HQ2.out⟩
      case rest =>
        obtain ⟨now2, L2, rv2, vi2, vl2, rfl, ts, inv, hp0, hp1⟩ := hcut
        have HV2 := hide inv
        obtain ⟨ai2, ci2, al2, cl2, hvi2, hvl2, nI, nJ⟩ := ts.nums
        subst hvi2; subst hvl2
        obtain ⟨m2, hm2⟩ : ∃ m, L2.length = m := ⟨_, rfl⟩
        rw [ids_len, left_len, hm2] at ts
        rw [ids_len, hm2] at nI
        rw [left_len, hm2] at nJ
        have HP3 := hide ts
        have HM2 := hide hm2
        have k3 := ts.ca
        have hm642 : m2 ≤ 64 := by rw [← hm2]; exact inv.few
        have hci2 : ci2 ≤ 9223372036854775807 := nI.2.2.1
        have hcl2 : cl2 ≤ 9223372036854775807 := nJ.2.2.1
        have hmi2 := nI.2.1
        have hml2 := nJ.2.1
        clear ts inv nI nJ hm2 d0 ka kb HP2 HNI HNJ HM HV hd1 hmi hml hci hcl
        go_wp2_with fail
        go_loopg [152] m2 (fun gk vk wr => ChkRel w g a b now2 rv2 (.slice ai2 m2 ci2) (.slice al2 m2 cl2) L2 m2 gk vk wr)
        case atStart => exact ⟨0, by omega, rfl, HP3.out⟩
        case round =>
          rename World => wq
          clear HP3 k3
          obtain ⟨k, hk, rfl, ts⟩ := hrel
          have HT := hide ts
          have HK := hide hk
          cases gk with
          | zero =>
            obtain rfl : k = m2 := by omega
            have hlt2 : ¬ ((k : Int) < (k : Int)) := by omega
            clear hk ts
            go_wp2_with fail
            refine (now_any _ HT.out.tm).mono ?_; rintro e w9 ⟨rfl, rfl⟩
            go_wp2
            go_roundg g1
            case measure => omega
            case rel => exact ⟨i + 1, now2, L2, _, _, _, by have := HI.out; omega, by go_num, rfl, HT.out, HV2.out, hp0, by omega⟩
          | succ g2 =>
            have hlt2 : (k : Int) < (m2 : Int) := by omega
            have hkm : k < m2 := by omega
            have k4 := ts.ca
            obtain ⟨ad2, rfl⟩ := ts.numI.there hkm
            obtain ⟨bd2, rfl⟩ := ts.numJ.there hkm
            have c4 := ts.numI.elem k hkm
            obtain ⟨hla, hlb⟩ := left_at HV2.out k (by rw [HM2.out]; exact hkm)
            obtain ⟨y4, hy4⟩ : ∃ y, (idsL L2).getD k 0 = y := ⟨_, rfl⟩
            obtain ⟨z4, hz4⟩ : ∃ y, (leftL now2 L2).getD k 0 = y := ⟨_, rfl⟩
            rw [hy4] at c4 hla hlb
            rw [hz4] at hla
            have HLA := hide hla
            have HLB := hide hlb
            have HZ4 := hide hz4
            clear hk ts hy4 hz4 hla hlb
            go_wp2_with fail
            refine (left_any y4 _ HT.out.tm (by rw [HM2.out]; omega) HV2.out.left).mono ?_; rintro e w9 ⟨rfl, b9⟩
            rw [HLA.out, HLB.out]
            have T9 := HT.out.grow b9
            have HT9 := hide T9
            have k9 := T9.cb
            have c9 := T9.numJ.elem k hkm
            rw [HZ4.out] at c9
            clear b9 T9 k4 c4
            go_wp2
            go_roundg g2
            case measure => omega
            case rel => exact ⟨k + 1, by have := HK.out; omega, by go_num, HT9.out⟩
end Go.Proofs.YtifmeljdkohkkaaDoor
