/-
  The walk of SkeletonRights.
-/
import Derived.Test.YtjpgfldppepmiaaDoorJi
namespace Go.Proofs.YtjpgfldppepmiaaDoor
section
open Go.RowKit
def wsR : List Nat := [1048576, 2097152, 3145728]
theorem cutN_R : cutN wsR = wsR := by decide
theorem row_R (w : World) : RowN (w.alloc (.cells #[.int .u64 1048576, .int .u64 2097152, .int .u64 3145728] 27)) .u64 27 w.heap.size wsR := heap_alloc_new _ _
theorem u64s_R (w : World) : U64s (w.alloc (.cells #[.int .u64 1048576, .int .u64 2097152, .int .u64 3145728] 27)) (some ⟨w.heap.size, 0, none⟩) 3 3 wsR :=
  (row_R w).u64s (by decide) (fun j => by
    rcases j with _ | _ | _ | j <;> simp [wsR])
theorem wsR_word (j : Nat) : wsR.getD j 0 ≤ 281474976710655 := by
  rcases j with _ | _ | _ | j <;> simp [wsR]
theorem outs_R {t : Nat} (h : t ≤ 3) : Outs wsR t [] := outs_nil wsR h
/- what comes of the request -/
def TR : Nat → Ob := updO noneO 0 ⟨1048576, 0, 4, 24⟩
theorem cre_R : creF wsR 0 [] 5 noneO 4 = ⟨⟨5, 0, 255, 1048576⟩, 0, 1, [], TR⟩ := by
  rw [cre_at 4 free_none (by omega) (by decide)]; rfl
theorem hasR : hasO TR 0 = true := has_upd (by omega) (by show 0 < 24; omega)
theorem secR : (TR 0).s = 1048576 := by show (updO noneO 0 _ 0).s = _; rw [updO_same]
theorem res_R {mask : Nat} (hm : mask ≤ 255) : resF wsR 1 [] 5 TR ⟨5, 0, 255, 1048576⟩ mask = ⟨⟨5, 0, mask, (ofF wsR 1 [] 1048576 mask).x⟩, 0, (ofF wsR 1 [] 1048576 mask).t, (ofF wsR 1 [] 1048576 mask).es, TR⟩ := by
  have q := of_ok (ws := wsR) (t := 1) (by decide) [] 1048576 mask
  have h := res_good (ws := wsR) (t := 1) (es := []) (p := 5) (T := TR) (c := ⟨5, 0, 255, 1048576⟩) (mask := mask) rfl hasR (by rw [secR]; exact has_owner (by omega)) (by rw [secR]; show (ofF wsR 1 [] 1048576 (255 &&& mask)).ok = true; rw [and_owner hm]; exact q)
  rw [h]; simp only [secR, and_owner hm]
theorem lim_R {t : Nat} {es : List Ent} (h : es.length ≤ 10) : Lim ⟨t, es, TR, [], []⟩ :=
  ⟨by show es.length < _; omega, by show 0 ≤ _; omega, by show 0 ≤ _; omega, fun j => by
    show (updO noneO 0 _ j).e ≤ _
    unfold updO
    split <;> (show 0 ≤ _; omega)⟩
theorem own_R (d : Nat) (hd : d < 3) {mask x t1 : Nat} {es1 : List Ent} (hx : x ≤ 281474976710655) (hh : HasA es1 1048576 mask x) :
    outF wsR 5 ⟨t1, es1, TR, [], []⟩ (100 + d) ⟨5, 0, mask, x⟩ 7 = if mask &&& (needN (100 + d)) = needN (100 + d) then ⟨0, ⟨5, 0, mask, x⟩, 8, true, ⟨t1, es1, TR, [doneF (100 + d) 4], []⟩⟩ else badF ⟨t1, es1, TR, [], []⟩ 2 := by
  have k := chk_good (ws := wsR) (t := t1) (es := es1) (p := 5) (T := TR) (c := ⟨5, 0, mask, x⟩) (need := needN (100 + d)) rfl hasR (by rw [secR]; exact hh)
  have nb : needB (100 + d) = true := by unfold needB; rw [decide_eq_false (by omega : ¬ 100 + d = 7), decide_eq_true (by omega : 100 ≤ 100 + d), decide_eq_true (by omega : 100 + d ≤ 103)]; rfl
  have my : mayC ⟨5, 0, mask, x⟩ = true := decide_eq_true ⟨by show 5 ≤ _; omega, by show 0 ≤ _; omega, hx⟩
  unfold outF
  rw [my, if_neg (by decide), if_neg (by omega), if_neg (by omega), if_neg (by omega), if_neg (by omega), if_neg (by omega), if_neg (by rw [nb]; simp)]
  show ownF _ _ _ _ (chkF wsR t1 es1 5 TR ⟨5, 0, mask, x⟩ (needN (100 + d))) = _
  rw [k]
  have vv : (TR 0).v = 4 := by show (updO noneO 0 _ 0).v = _; rw [updO_same]
  by_cases e : mask &&& needN (100 + d) = needN (100 + d)
  · rw [if_pos e, if_pos e]
    unfold ownF
    rw [if_pos rfl, if_neg (by omega)]
    simp only [vv]; rfl
  · rw [if_neg e, if_neg e]; rfl
theorem rgt_serve (A : Ad) (rr d mask x t1 : Nat) (es1 : List Ent) (w0 w : World) (hd : d < 3) (hm : mask ≤ 255) (hx : x ≤ 281474976710655) (hh : HasA es1 1048576 mask x) (hl : es1.length ≤ 10) (h : Sr w rr A.g A.sb) (S : Sv w0 w A 5 wsR ⟨t1, es1, TR, [], []⟩) (hg : Glob w0) (o : Int) (ho : o = ((100 + d : Nat) : Int)) :
    Calls Tryd.prog 14 #[.pointer (some ⟨rr, 0, none⟩), .agg #[.int .u64 0, .int .u64 0, .int .u32 0, .int .u16 o, .int .u16 0, .int .u64 5, .int .u32 0, .int .u8 (mask : Int), .int .u64 (x : Int), .int .u64 7, .slice none 0 0]] w fun e w' =>
      ∃ (v : Value) (st ar : Int) (dl : List Int), e = .returned v ∧ (∃ c0 c1 c2 c3 c5 c6 c7 c8 c10, v = .agg #[.int .u64 c0, .int .u64 c1, .int .u32 c2, .int .u16 c3, .int .u16 st, .int .u64 c5, .int .u32 c6, .int .u8 c7, .int .u64 c8, .int .u64 ar, c10] ∧ ∃ ao n cap, c10 = .slice ao n cap) ∧ (∃ n cap ao, ∃ nv, w'.heap[A.sb]? = some (.cells #[.slice ao n cap, nv] 35 (0, 0)) ∧ n = dl.length) ∧
      (if mask &&& (needN (100 + d)) = needN (100 + d) then st = 0 ∧ ar = 8 ∧ dl.length = 1 else st = 2 ∧ dl.length = 0) ∧ Below w0.heap.size w0 w' := by
  subst ho
  have q : Okm w0 ⟨0, 0, 0, 100 + d, 0, 5, 0, mask, x, 7⟩ none 0 := ⟨⟨by show 5 ≤ _; omega, by show 0 ≤ _; omega, hm, by show x ≤ _; omega⟩, by show 100 + d ≤ _; omega, by show 7 ≤ _; omega, by omega, fun _ e => by cases e⟩
  refine (serve_any ⟨0, 0, 0, 100 + d, 0, 5, 0, mask, x, 7⟩ none 0 0 [] w h S (bts_nil w) q (lim_R hl) hg _ rfl).mono ?_
  rw [own_R d hd hx hh]
  rintro e w' ⟨m2, co, n, cc, hm2, rfl, -, -, v, dv, nv, S2, -⟩
  by_cases e : mask &&& needN (100 + d) = needN (100 + d)
  · rw [if_pos e] at hm2 S2
    simp only [if_pos e]
    obtain ⟨ao, cap, hv, -⟩ := owns_lies S2.dn
    obtain rfl : dv = .slice ao 1 cap := hv
    refine ⟨_, 0, 8, [doneF (100 + d) 4], rfl, ?_, ⟨1, cap, ao, nv, S2.box, rfl⟩, ⟨rfl, rfl, rfl⟩, S2.bel⟩
    subst hm2
    exact ⟨_, _, _, _, _, _, _, _, _, rfl, _, _, _, rfl⟩
  · rw [if_neg e] at hm2 S2
    simp only [if_neg e]
    obtain ⟨ao, cap, hv, -⟩ := owns_lies S2.dn
    obtain rfl : dv = .slice ao 0 cap := hv
    refine ⟨_, 2, 0, [], rfl, ?_, ⟨0, cap, ao, nv, S2.box, rfl⟩, ⟨rfl, rfl⟩, S2.bel⟩
    subst hm2
    exact ⟨_, _, _, _, _, _, _, _, _, rfl, _, _, _, rfl⟩
theorem and_pow (a d : Nat) : a &&& 2 ^ d = 0 ∨ a &&& 2 ^ d = 2 ^ d := by
  by_cases h : a.testBit d
  · right
    apply Nat.eq_of_testBit_eq
    intro i
    rw [Nat.testBit_and, Nat.testBit_two_pow]
    by_cases e : d = i
    · subst e; simp [h]
    · simp [e]
  · left
    apply Nat.eq_of_testBit_eq
    intro i
    rw [Nat.testBit_and, Nat.testBit_two_pow, Nat.zero_testBit]
    by_cases e : d = i
    · subst e; simp [h]
    · simp [e]
set_option maxRecDepth 20000 in
set_option maxHeartbeats 6400000 in
theorem walk_rights0 (mask op : Nat) (w : World) (hm : mask ≤ 255) (_hp : op ≤ 255) (hd : op % 3 = 0) (hg : Glob w) :
    Calls Tryd.prog 6 #[.int .u8 (mask : Int), .int .u8 (op : Int)] w fun e w' => e = .returned (.bool true) ∧ Below w.heap.size w w' := by
  have HG := hide hg
  have HM := hide hm
  have hdi : (op : Int) % 3 = 0 := by omega
  have hand : bits .and .u8 (mask : Int) 1 = ((mask &&& 1 : Nat) : Int) := and_nat mask 1 hm (by omega)
  obtain ⟨q, hq⟩ : ∃ q, mask &&& 1 = q := ⟨_, rfl⟩
  rw [hq] at hand
  have HQ := hide hq
  have hx := of_word (outs_R (t := 1) (by omega)) wsR_word 1048576 mask
  have hh := of_has (of_ok (ws := wsR) (t := 1) (by decide) [] 1048576 mask)
  have hel := of_len wsR 1 [] 1048576 mask
  have hres := res_R hm
  obtain ⟨X, hX⟩ : ∃ X, ofF wsR 1 [] 1048576 mask = X := ⟨_, rfl⟩
  rw [hX] at hx hh hel hres
  obtain ⟨x, ok, t1, es1⟩ := X
  simp only at hx hh hel hres
  have HX := hide hx
  have HH := hide hh
  have HL : Hid (es1.length ≤ 10) := by show _ ≤ _; simp at hel; omega
  have HRES := hide hres
  clear hg hm hx hh hel hres hX hq hd
  go_enter Tryd.func6, Tryd.ntmps6
  go_wp2_with fail
  refine (awake_any _ HG.out).mono ?_; rintro e w1 ⟨rfl, b1⟩
  have HB1 := hide b1
  clear b1
  go_wp2_with fail
  refine (of_any _ _ _ wsR _ (u64s_R w1) (by omega)).mono ?_; rintro e w2 ⟨ta, th, tk, rfl, TA, _, ha, hh2, bel⟩
  rw [cutN_R] at TA
  have HT := hide TA
  have HTA := hide ha
  have HTH := hide hh2
  have HBE := hide bel
  clear TA bel ha hh2
  go_wp2_with fail
  refine (oof_any _ ⟨_, rfl⟩ _).mono ?_; rintro e w3 ⟨go, gm, rfl, O2, bel2⟩
  have HS3 := hide (Tk.made (below_one HB1.out (below_alloc w1 _)) HT.out HTA.out HTH.out HBE.out O2 bel2)
  clear O2 bel2 HT HBE HTA HTH
  go_wp2_with fail
  refine (tof_new 5 _).mono ?_; rintro e w4 ⟨rfl, T4, b4⟩
  have HO4 := hide (Od.make HS3.out T4 b4)
  obtain ⟨g, hgg⟩ : ∃ g, w3.heap.size = g := ⟨_, rfl⟩
  rw [hgg] at HO4 ⊢
  clear T4 b4 HS3 hgg
  go_wp2_with fail
  have S5 := Sv.make HO4.out
  obtain ⟨w5, hw5⟩ : ∃ w5, w4.alloc (.cells #[.slice none 0 0, .slice none 0 0] 35) = w5 := ⟨_, rfl⟩
  rw [hw5] at S5 ⊢
  obtain ⟨sb, hsb⟩ : ∃ sb, w4.heap.size = sb := ⟨_, rfl⟩
  rw [hsb] at S5 ⊢
  have HS5 := hide S5
  clear S5 hw5 hsb
  refine (srv_of _ _ (.inr ⟨_, rfl⟩) _).mono ?_; rintro e w6 ⟨rfl, S6, b6⟩
  obtain ⟨rr, hrr⟩ : ∃ rr, w5.heap.size = rr := ⟨_, rfl⟩
  rw [hrr] at S6 ⊢
  have HR6 := hide (Sr.of S6)
  have HS6 := hide (HS5.out.grow b6)
  clear S6 b6 hrr
  go_wp2_with fail
  refine (tb_create 4 _ HS6.out (by decide) _ cre_R).mono ?_; rintro e w7 ⟨rfl, E⟩
  simp only [Cp.val, show erN ((0 : Nat) : Int) = .nilIface from rfl]
  have HR7 := hide (HR6.out.kh (HS6.out.kh E))
  obtain ⟨v7, dv7, nv7, S7, -⟩ := SvEnd.run E
  have HS7 := hide S7
  clear S7 E
  obtain ⟨V1, hV1⟩ : ∃ V, w7.alloc (.cells #[.int .u64 5, .int .u32 0, .int .u8 255, .int .u64 1048576] 41) = V := ⟨_, rfl⟩
  have bV1 : Below w7.heap.size w7 V1 := hV1 ▸ below_alloc _ _
  have cV1 : CBox V1 w7.heap.size 5 0 255 1048576 := hV1 ▸ CBox.new w7 5 0 255 1048576
  have HSV1 := hide (HS7.out.grow bV1)
  have HRV1 := hide (HR7.out.grow bV1)
  have c0 : V1.cell? ⟨w7.heap.size, 0, none⟩ = some (.int .u64 5) := cV1.c0
  have c1 : V1.cell? ⟨w7.heap.size, 1, none⟩ = some (.int .u32 0) := cV1.c1
  have c2 : V1.cell? ⟨w7.heap.size, 2, none⟩ = some (.int .u8 255) := cV1.c2
  have c3 : V1.cell? ⟨w7.heap.size, 3, none⟩ = some (.int .u64 1048576) := cV1.c3
  clear bV1 cV1
  go_wp2_with fail
  refine (tb_restrict ⟨5, 0, 255, 1048576⟩ mask _ HSV1.out (cp_ok (by decide) (by decide) (by decide) (by decide)) HM.out (by decide) _ HRES.out).mono ?_; rintro e w8 ⟨rfl, E⟩
  simp only [Cp.val, show erN ((0 : Nat) : Int) = .nilIface from rfl]
  have HR8 := hide (HRV1.out.kh (HSV1.out.kh E))
  obtain ⟨v8, dv8, nv8, S8, -⟩ := SvEnd.run E
  have HS8 := hide S8
  clear S8 E c0 c1 c2 c3 hV1
  obtain ⟨V2, hV2⟩ : ∃ V, w8.alloc (.cells #[.int .u64 5, .int .u32 0, .int .u8 (mask : Int), .int .u64 (x : Int)] 41) = V := ⟨_, rfl⟩
  have bV2 : Below w8.heap.size w8 V2 := hV2 ▸ below_alloc _ _
  have cV2 : CBox V2 w8.heap.size 5 0 mask x := hV2 ▸ CBox.new w8 5 0 mask x
  have HSV2 := hide (HS8.out.grow bV2)
  have HRV2 := hide (HR8.out.grow bV2)
  have c0 : V2.cell? ⟨w8.heap.size, 0, none⟩ = some (.int .u64 5) := cV2.c0
  have c1 : V2.cell? ⟨w8.heap.size, 1, none⟩ = some (.int .u32 0) := cV2.c1
  have c2 : V2.cell? ⟨w8.heap.size, 2, none⟩ = some (.int .u8 (mask : Int)) := cV2.c2
  have c3 : V2.cell? ⟨w8.heap.size, 3, none⟩ = some (.int .u64 (x : Int)) := cV2.c3
  clear bV2 cV2
  go_wp2_with fail
  refine (rgt_serve _ rr 0 mask x t1 es1 w V2 (by omega) HM.out HX.out HH.out HL.out HRV2.out HSV2.out HG.out 100 rfl).mono ?_
  rintro e w9 ⟨vv, st, ar, dl, rfl, ⟨i0, i1, i2, i3, i5, i6, i7, i8, i10, rfl, ao, an, acap, rfl⟩, ⟨dn, dcap, da, dnv, hbox, hdn⟩, hif, hbel⟩
  have hbx : w9.heap[sb]? = some (.cells #[.slice da dn dcap, dnv] 35 (0, 0)) := hbox
  have dc : w9.cell? ⟨sb, 0, none⟩ = some (.slice da dn dcap) := by rw [cell_of_row w9 _ _ _ _ _ hbx]; rfl
  have HBEL := hide hbel
  have hnn : needN (100 + 0) = 1 := rfl
  have hq := HQ.out
  rw [hnn, hq] at hif
  clear hbox hbx hbel c0 c1 c2 c3 hV2
  by_cases hy : q = 1
  · rw [if_pos hy] at hif
    obtain ⟨rfl, rfl, hl1⟩ := hif
    rw [hl1] at hdn
    subst hdn
    have hnz : ((q : Int) != 0) = true := by rw [hy]; rfl
    clear hl1 hq hy hnn
    have dcx : (w9.alloc (.cells #[.int .u64 i0, .int .u64 i1, .int .u32 i2, .int .u16 i3, .int .u16 0, .int .u64 i5, .int .u32 i6, .int .u8 i7, .int .u64 i8, .int .u64 8, .slice ao an acap] 49)).cell? ⟨sb, 0, none⟩ = some (.slice da 1 dcap) := by rw [World.cell?_alloc_lt _ _ ⟨sb, 0, none⟩ (lt_of_cell dc)]; exact dc
    go_wp2
    go_ret
    exact ⟨rfl, HBEL.out.alloc HBEL.out.size _⟩
  · rw [if_neg hy] at hif
    obtain ⟨rfl, hl1⟩ := hif
    rw [hl1] at hdn
    subst hdn
    have hq0 : q = 0 := by
      rcases and_pow mask 0 with h | h
      · rw [← hq]; exact h
      · exact absurd (hq.symm.trans h) hy
    have hnz : ((q : Int) != 0) = false := by rw [hq0]; rfl
    clear hl1 hq hy hnn hq0
    have dcx : (w9.alloc (.cells #[.int .u64 i0, .int .u64 i1, .int .u32 i2, .int .u16 i3, .int .u16 2, .int .u64 i5, .int .u32 i6, .int .u8 i7, .int .u64 i8, .int .u64 ar, .slice ao an acap] 49)).cell? ⟨sb, 0, none⟩ = some (.slice da 0 dcap) := by rw [World.cell?_alloc_lt _ _ ⟨sb, 0, none⟩ (lt_of_cell dc)]; exact dc
    go_wp2
    go_ret
    exact ⟨rfl, HBEL.out.alloc HBEL.out.size _⟩
set_option maxRecDepth 20000 in
set_option maxHeartbeats 6400000 in
theorem walk_rights1 (mask op : Nat) (w : World) (hm : mask ≤ 255) (_hp : op ≤ 255) (hd : op % 3 = 1) (hg : Glob w) :
    Calls Tryd.prog 6 #[.int .u8 (mask : Int), .int .u8 (op : Int)] w fun e w' => e = .returned (.bool true) ∧ Below w.heap.size w w' := by
  have HG := hide hg
  have HM := hide hm
  have hdi : (op : Int) % 3 = 1 := by omega
  have hand : bits .and .u8 (mask : Int) 2 = ((mask &&& 2 : Nat) : Int) := and_nat mask 2 hm (by omega)
  obtain ⟨q, hq⟩ : ∃ q, mask &&& 2 = q := ⟨_, rfl⟩
  rw [hq] at hand
  have HQ := hide hq
  have hx := of_word (outs_R (t := 1) (by omega)) wsR_word 1048576 mask
  have hh := of_has (of_ok (ws := wsR) (t := 1) (by decide) [] 1048576 mask)
  have hel := of_len wsR 1 [] 1048576 mask
  have hres := res_R hm
  obtain ⟨X, hX⟩ : ∃ X, ofF wsR 1 [] 1048576 mask = X := ⟨_, rfl⟩
  rw [hX] at hx hh hel hres
  obtain ⟨x, ok, t1, es1⟩ := X
  simp only at hx hh hel hres
  have HX := hide hx
  have HH := hide hh
  have HL : Hid (es1.length ≤ 10) := by show _ ≤ _; simp at hel; omega
  have HRES := hide hres
  clear hg hm hx hh hel hres hX hq hd
  go_enter Tryd.func6, Tryd.ntmps6
  go_wp2_with fail
  refine (awake_any _ HG.out).mono ?_; rintro e w1 ⟨rfl, b1⟩
  have HB1 := hide b1
  clear b1
  go_wp2_with fail
  refine (of_any _ _ _ wsR _ (u64s_R w1) (by omega)).mono ?_; rintro e w2 ⟨ta, th, tk, rfl, TA, _, ha, hh2, bel⟩
  rw [cutN_R] at TA
  have HT := hide TA
  have HTA := hide ha
  have HTH := hide hh2
  have HBE := hide bel
  clear TA bel ha hh2
  go_wp2_with fail
  refine (oof_any _ ⟨_, rfl⟩ _).mono ?_; rintro e w3 ⟨go, gm, rfl, O2, bel2⟩
  have HS3 := hide (Tk.made (below_one HB1.out (below_alloc w1 _)) HT.out HTA.out HTH.out HBE.out O2 bel2)
  clear O2 bel2 HT HBE HTA HTH
  go_wp2_with fail
  refine (tof_new 5 _).mono ?_; rintro e w4 ⟨rfl, T4, b4⟩
  have HO4 := hide (Od.make HS3.out T4 b4)
  obtain ⟨g, hgg⟩ : ∃ g, w3.heap.size = g := ⟨_, rfl⟩
  rw [hgg] at HO4 ⊢
  clear T4 b4 HS3 hgg
  go_wp2_with fail
  have S5 := Sv.make HO4.out
  obtain ⟨w5, hw5⟩ : ∃ w5, w4.alloc (.cells #[.slice none 0 0, .slice none 0 0] 35) = w5 := ⟨_, rfl⟩
  rw [hw5] at S5 ⊢
  obtain ⟨sb, hsb⟩ : ∃ sb, w4.heap.size = sb := ⟨_, rfl⟩
  rw [hsb] at S5 ⊢
  have HS5 := hide S5
  clear S5 hw5 hsb
  refine (srv_of _ _ (.inr ⟨_, rfl⟩) _).mono ?_; rintro e w6 ⟨rfl, S6, b6⟩
  obtain ⟨rr, hrr⟩ : ∃ rr, w5.heap.size = rr := ⟨_, rfl⟩
  rw [hrr] at S6 ⊢
  have HR6 := hide (Sr.of S6)
  have HS6 := hide (HS5.out.grow b6)
  clear S6 b6 hrr
  go_wp2_with fail
  refine (tb_create 4 _ HS6.out (by decide) _ cre_R).mono ?_; rintro e w7 ⟨rfl, E⟩
  simp only [Cp.val, show erN ((0 : Nat) : Int) = .nilIface from rfl]
  have HR7 := hide (HR6.out.kh (HS6.out.kh E))
  obtain ⟨v7, dv7, nv7, S7, -⟩ := SvEnd.run E
  have HS7 := hide S7
  clear S7 E
  obtain ⟨V1, hV1⟩ : ∃ V, w7.alloc (.cells #[.int .u64 5, .int .u32 0, .int .u8 255, .int .u64 1048576] 41) = V := ⟨_, rfl⟩
  have bV1 : Below w7.heap.size w7 V1 := hV1 ▸ below_alloc _ _
  have cV1 : CBox V1 w7.heap.size 5 0 255 1048576 := hV1 ▸ CBox.new w7 5 0 255 1048576
  have HSV1 := hide (HS7.out.grow bV1)
  have HRV1 := hide (HR7.out.grow bV1)
  have c0 : V1.cell? ⟨w7.heap.size, 0, none⟩ = some (.int .u64 5) := cV1.c0
  have c1 : V1.cell? ⟨w7.heap.size, 1, none⟩ = some (.int .u32 0) := cV1.c1
  have c2 : V1.cell? ⟨w7.heap.size, 2, none⟩ = some (.int .u8 255) := cV1.c2
  have c3 : V1.cell? ⟨w7.heap.size, 3, none⟩ = some (.int .u64 1048576) := cV1.c3
  clear bV1 cV1
  go_wp2_with fail
  refine (tb_restrict ⟨5, 0, 255, 1048576⟩ mask _ HSV1.out (cp_ok (by decide) (by decide) (by decide) (by decide)) HM.out (by decide) _ HRES.out).mono ?_; rintro e w8 ⟨rfl, E⟩
  simp only [Cp.val, show erN ((0 : Nat) : Int) = .nilIface from rfl]
  have HR8 := hide (HRV1.out.kh (HSV1.out.kh E))
  obtain ⟨v8, dv8, nv8, S8, -⟩ := SvEnd.run E
  have HS8 := hide S8
  clear S8 E c0 c1 c2 c3 hV1
  obtain ⟨V2, hV2⟩ : ∃ V, w8.alloc (.cells #[.int .u64 5, .int .u32 0, .int .u8 (mask : Int), .int .u64 (x : Int)] 41) = V := ⟨_, rfl⟩
  have bV2 : Below w8.heap.size w8 V2 := hV2 ▸ below_alloc _ _
  have cV2 : CBox V2 w8.heap.size 5 0 mask x := hV2 ▸ CBox.new w8 5 0 mask x
  have HSV2 := hide (HS8.out.grow bV2)
  have HRV2 := hide (HR8.out.grow bV2)
  have c0 : V2.cell? ⟨w8.heap.size, 0, none⟩ = some (.int .u64 5) := cV2.c0
  have c1 : V2.cell? ⟨w8.heap.size, 1, none⟩ = some (.int .u32 0) := cV2.c1
  have c2 : V2.cell? ⟨w8.heap.size, 2, none⟩ = some (.int .u8 (mask : Int)) := cV2.c2
  have c3 : V2.cell? ⟨w8.heap.size, 3, none⟩ = some (.int .u64 (x : Int)) := cV2.c3
  clear bV2 cV2
  go_wp2_with fail
  refine (rgt_serve _ rr 1 mask x t1 es1 w V2 (by omega) HM.out HX.out HH.out HL.out HRV2.out HSV2.out HG.out 101 rfl).mono ?_
  rintro e w9 ⟨vv, st, ar, dl, rfl, ⟨i0, i1, i2, i3, i5, i6, i7, i8, i10, rfl, ao, an, acap, rfl⟩, ⟨dn, dcap, da, dnv, hbox, hdn⟩, hif, hbel⟩
  have hbx : w9.heap[sb]? = some (.cells #[.slice da dn dcap, dnv] 35 (0, 0)) := hbox
  have dc : w9.cell? ⟨sb, 0, none⟩ = some (.slice da dn dcap) := by rw [cell_of_row w9 _ _ _ _ _ hbx]; rfl
  have HBEL := hide hbel
  have hnn : needN (100 + 1) = 2 := rfl
  have hq := HQ.out
  rw [hnn, hq] at hif
  clear hbox hbx hbel c0 c1 c2 c3 hV2
  by_cases hy : q = 2
  · rw [if_pos hy] at hif
    obtain ⟨rfl, rfl, hl1⟩ := hif
    rw [hl1] at hdn
    subst hdn
    have hnz : ((q : Int) != 0) = true := by rw [hy]; rfl
    clear hl1 hq hy hnn
    have dcx : (w9.alloc (.cells #[.int .u64 i0, .int .u64 i1, .int .u32 i2, .int .u16 i3, .int .u16 0, .int .u64 i5, .int .u32 i6, .int .u8 i7, .int .u64 i8, .int .u64 8, .slice ao an acap] 49)).cell? ⟨sb, 0, none⟩ = some (.slice da 1 dcap) := by rw [World.cell?_alloc_lt _ _ ⟨sb, 0, none⟩ (lt_of_cell dc)]; exact dc
    go_wp2
    go_ret
    exact ⟨rfl, HBEL.out.alloc HBEL.out.size _⟩
  · rw [if_neg hy] at hif
    obtain ⟨rfl, hl1⟩ := hif
    rw [hl1] at hdn
    subst hdn
    have hq0 : q = 0 := by
      rcases and_pow mask 1 with h | h
      · rw [← hq]; exact h
      · exact absurd (hq.symm.trans h) hy
    have hnz : ((q : Int) != 0) = false := by rw [hq0]; rfl
    clear hl1 hq hy hnn hq0
    have dcx : (w9.alloc (.cells #[.int .u64 i0, .int .u64 i1, .int .u32 i2, .int .u16 i3, .int .u16 2, .int .u64 i5, .int .u32 i6, .int .u8 i7, .int .u64 i8, .int .u64 ar, .slice ao an acap] 49)).cell? ⟨sb, 0, none⟩ = some (.slice da 0 dcap) := by rw [World.cell?_alloc_lt _ _ ⟨sb, 0, none⟩ (lt_of_cell dc)]; exact dc
    go_wp2
    go_ret
    exact ⟨rfl, HBEL.out.alloc HBEL.out.size _⟩
set_option maxRecDepth 20000 in
set_option maxHeartbeats 6400000 in
theorem walk_rights2 (mask op : Nat) (w : World) (hm : mask ≤ 255) (_hp : op ≤ 255) (hd : op % 3 = 2) (hg : Glob w) :
    Calls Tryd.prog 6 #[.int .u8 (mask : Int), .int .u8 (op : Int)] w fun e w' => e = .returned (.bool true) ∧ Below w.heap.size w w' := by
  have HG := hide hg
  have HM := hide hm
  have hdi : (op : Int) % 3 = 2 := by omega
  have hand : bits .and .u8 (mask : Int) 4 = ((mask &&& 4 : Nat) : Int) := and_nat mask 4 hm (by omega)
  obtain ⟨q, hq⟩ : ∃ q, mask &&& 4 = q := ⟨_, rfl⟩
  rw [hq] at hand
  have HQ := hide hq
  have hx := of_word (outs_R (t := 1) (by omega)) wsR_word 1048576 mask
  have hh := of_has (of_ok (ws := wsR) (t := 1) (by decide) [] 1048576 mask)
  have hel := of_len wsR 1 [] 1048576 mask
  have hres := res_R hm
  obtain ⟨X, hX⟩ : ∃ X, ofF wsR 1 [] 1048576 mask = X := ⟨_, rfl⟩
  rw [hX] at hx hh hel hres
  obtain ⟨x, ok, t1, es1⟩ := X
  simp only at hx hh hel hres
  have HX := hide hx
  have HH := hide hh
  have HL : Hid (es1.length ≤ 10) := by show _ ≤ _; simp at hel; omega
  have HRES := hide hres
  clear hg hm hx hh hel hres hX hq hd
  go_enter Tryd.func6, Tryd.ntmps6
  go_wp2_with fail
  refine (awake_any _ HG.out).mono ?_; rintro e w1 ⟨rfl, b1⟩
  have HB1 := hide b1
  clear b1
  go_wp2_with fail
  refine (of_any _ _ _ wsR _ (u64s_R w1) (by omega)).mono ?_; rintro e w2 ⟨ta, th, tk, rfl, TA, _, ha, hh2, bel⟩
  rw [cutN_R] at TA
  have HT := hide TA
  have HTA := hide ha
  have HTH := hide hh2
  have HBE := hide bel
  clear TA bel ha hh2
  go_wp2_with fail
  refine (oof_any _ ⟨_, rfl⟩ _).mono ?_; rintro e w3 ⟨go, gm, rfl, O2, bel2⟩
  have HS3 := hide (Tk.made (below_one HB1.out (below_alloc w1 _)) HT.out HTA.out HTH.out HBE.out O2 bel2)
  clear O2 bel2 HT HBE HTA HTH
  go_wp2_with fail
  refine (tof_new 5 _).mono ?_; rintro e w4 ⟨rfl, T4, b4⟩
  have HO4 := hide (Od.make HS3.out T4 b4)
  obtain ⟨g, hgg⟩ : ∃ g, w3.heap.size = g := ⟨_, rfl⟩
  rw [hgg] at HO4 ⊢
  clear T4 b4 HS3 hgg
  go_wp2_with fail
  have S5 := Sv.make HO4.out
  obtain ⟨w5, hw5⟩ : ∃ w5, w4.alloc (.cells #[.slice none 0 0, .slice none 0 0] 35) = w5 := ⟨_, rfl⟩
  rw [hw5] at S5 ⊢
  obtain ⟨sb, hsb⟩ : ∃ sb, w4.heap.size = sb := ⟨_, rfl⟩
  rw [hsb] at S5 ⊢
  have HS5 := hide S5
  clear S5 hw5 hsb
  refine (srv_of _ _ (.inr ⟨_, rfl⟩) _).mono ?_; rintro e w6 ⟨rfl, S6, b6⟩
  obtain ⟨rr, hrr⟩ : ∃ rr, w5.heap.size = rr := ⟨_, rfl⟩
  rw [hrr] at S6 ⊢
  have HR6 := hide (Sr.of S6)
  have HS6 := hide (HS5.out.grow b6)
  clear S6 b6 hrr
  go_wp2_with fail
  refine (tb_create 4 _ HS6.out (by decide) _ cre_R).mono ?_; rintro e w7 ⟨rfl, E⟩
  simp only [Cp.val, show erN ((0 : Nat) : Int) = .nilIface from rfl]
  have HR7 := hide (HR6.out.kh (HS6.out.kh E))
  obtain ⟨v7, dv7, nv7, S7, -⟩ := SvEnd.run E
  have HS7 := hide S7
  clear S7 E
  obtain ⟨V1, hV1⟩ : ∃ V, w7.alloc (.cells #[.int .u64 5, .int .u32 0, .int .u8 255, .int .u64 1048576] 41) = V := ⟨_, rfl⟩
  have bV1 : Below w7.heap.size w7 V1 := hV1 ▸ below_alloc _ _
  have cV1 : CBox V1 w7.heap.size 5 0 255 1048576 := hV1 ▸ CBox.new w7 5 0 255 1048576
  have HSV1 := hide (HS7.out.grow bV1)
  have HRV1 := hide (HR7.out.grow bV1)
  have c0 : V1.cell? ⟨w7.heap.size, 0, none⟩ = some (.int .u64 5) := cV1.c0
  have c1 : V1.cell? ⟨w7.heap.size, 1, none⟩ = some (.int .u32 0) := cV1.c1
  have c2 : V1.cell? ⟨w7.heap.size, 2, none⟩ = some (.int .u8 255) := cV1.c2
  have c3 : V1.cell? ⟨w7.heap.size, 3, none⟩ = some (.int .u64 1048576) := cV1.c3
  clear bV1 cV1
  go_wp2_with fail
  refine (tb_restrict ⟨5, 0, 255, 1048576⟩ mask _ HSV1.out (cp_ok (by decide) (by decide) (by decide) (by decide)) HM.out (by decide) _ HRES.out).mono ?_; rintro e w8 ⟨rfl, E⟩
  simp only [Cp.val, show erN ((0 : Nat) : Int) = .nilIface from rfl]
  have HR8 := hide (HRV1.out.kh (HSV1.out.kh E))
  obtain ⟨v8, dv8, nv8, S8, -⟩ := SvEnd.run E
  have HS8 := hide S8
  clear S8 E c0 c1 c2 c3 hV1
  obtain ⟨V2, hV2⟩ : ∃ V, w8.alloc (.cells #[.int .u64 5, .int .u32 0, .int .u8 (mask : Int), .int .u64 (x : Int)] 41) = V := ⟨_, rfl⟩
  have bV2 : Below w8.heap.size w8 V2 := hV2 ▸ below_alloc _ _
  have cV2 : CBox V2 w8.heap.size 5 0 mask x := hV2 ▸ CBox.new w8 5 0 mask x
  have HSV2 := hide (HS8.out.grow bV2)
  have HRV2 := hide (HR8.out.grow bV2)
  have c0 : V2.cell? ⟨w8.heap.size, 0, none⟩ = some (.int .u64 5) := cV2.c0
  have c1 : V2.cell? ⟨w8.heap.size, 1, none⟩ = some (.int .u32 0) := cV2.c1
  have c2 : V2.cell? ⟨w8.heap.size, 2, none⟩ = some (.int .u8 (mask : Int)) := cV2.c2
  have c3 : V2.cell? ⟨w8.heap.size, 3, none⟩ = some (.int .u64 (x : Int)) := cV2.c3
  clear bV2 cV2
  go_wp2_with fail
  refine (rgt_serve _ rr 2 mask x t1 es1 w V2 (by omega) HM.out HX.out HH.out HL.out HRV2.out HSV2.out HG.out 102 rfl).mono ?_
  rintro e w9 ⟨vv, st, ar, dl, rfl, ⟨i0, i1, i2, i3, i5, i6, i7, i8, i10, rfl, ao, an, acap, rfl⟩, ⟨dn, dcap, da, dnv, hbox, hdn⟩, hif, hbel⟩
  have hbx : w9.heap[sb]? = some (.cells #[.slice da dn dcap, dnv] 35 (0, 0)) := hbox
  have dc : w9.cell? ⟨sb, 0, none⟩ = some (.slice da dn dcap) := by rw [cell_of_row w9 _ _ _ _ _ hbx]; rfl
  have HBEL := hide hbel
  have hnn : needN (100 + 2) = 4 := rfl
  have hq := HQ.out
  rw [hnn, hq] at hif
  clear hbox hbx hbel c0 c1 c2 c3 hV2
  by_cases hy : q = 4
  · rw [if_pos hy] at hif
    obtain ⟨rfl, rfl, hl1⟩ := hif
    rw [hl1] at hdn
    subst hdn
    have hnz : ((q : Int) != 0) = true := by rw [hy]; rfl
    clear hl1 hq hy hnn
    have dcx : (w9.alloc (.cells #[.int .u64 i0, .int .u64 i1, .int .u32 i2, .int .u16 i3, .int .u16 0, .int .u64 i5, .int .u32 i6, .int .u8 i7, .int .u64 i8, .int .u64 8, .slice ao an acap] 49)).cell? ⟨sb, 0, none⟩ = some (.slice da 1 dcap) := by rw [World.cell?_alloc_lt _ _ ⟨sb, 0, none⟩ (lt_of_cell dc)]; exact dc
    go_wp2
    go_ret
    exact ⟨rfl, HBEL.out.alloc HBEL.out.size _⟩
  · rw [if_neg hy] at hif
    obtain ⟨rfl, hl1⟩ := hif
    rw [hl1] at hdn
    subst hdn
    have hq0 : q = 0 := by
      rcases and_pow mask 2 with h | h
      · rw [← hq]; exact h
      · exact absurd (hq.symm.trans h) hy
    have hnz : ((q : Int) != 0) = false := by rw [hq0]; rfl
    clear hl1 hq hy hnn hq0
    have dcx : (w9.alloc (.cells #[.int .u64 i0, .int .u64 i1, .int .u32 i2, .int .u16 i3, .int .u16 2, .int .u64 i5, .int .u32 i6, .int .u8 i7, .int .u64 i8, .int .u64 ar, .slice ao an acap] 49)).cell? ⟨sb, 0, none⟩ = some (.slice da 0 dcap) := by rw [World.cell?_alloc_lt _ _ ⟨sb, 0, none⟩ (lt_of_cell dc)]; exact dc
    go_wp2
    go_ret
    exact ⟨rfl, HBEL.out.alloc HBEL.out.size _⟩
theorem walk_rights (mask op : Nat) (w : World) (hm : mask ≤ 255) (hp : op ≤ 255) (hg : Glob w) :
    Calls Tryd.prog 6 #[.int .u8 (mask : Int), .int .u8 (op : Int)] w fun e w' => e = .returned (.bool true) ∧ Below w.heap.size w w' := by
  have : op % 3 = 0 ∨ op % 3 = 1 ∨ op % 3 = 2 := by omega
  rcases this with h | h | h
  · exact walk_rights0 mask op w hm hp h hg
  · exact walk_rights1 mask op w hm hp h hg
  · exact walk_rights2 mask op w hm hp h hg
end
end Go.Proofs.YtjpgfldppepmiaaDoor
