/-
  The statements' own step, of one kind of deed: a contract.
-/
import Derived.Test.YtgcmompldcnhlaaDoorIJc
import Derived.Deep.CutBlock
import Derived.Deep.RegionHeldLaw
namespace Go.Proofs.YtgcmompldcnhlaaDoor
open Go.RowKit
variable {w0 w w1 w2 w' : World} {g mg p N : Nat} {ws : List Nat} {t : Nat} {es : List Ent} {T : Nat → Ob} {v : Value} {L : List Cp}
set_option maxRecDepth 20000 in
set_option maxHeartbeats 6400000 in
theorem step_age (o wh ch wi : Nat) (w : World) (S : St N w0 w g mg p ws t es T v L) (hN : N < 2000000) (ho : o ≤ 255) (hwh : wh ≤ 255) (hch : ch ≤ 255) (hwi : wi ≤ 255) (hd : o % 9 = 8) :
    Calls Tryd.prog 12 #[.pointer (some ⟨mg, 0, none⟩), .pointer (some ⟨g, 0, none⟩), .agg #[.int .u8 (o : Int), .int .u8 (wh : Int), .int .u8 (ch : Int), .int .u8 (wi : Int)], v] w fun e w' => StepEnd N w0 g mg p ws e w' := by
  obtain ⟨ao, cap, rfl, hcap, hcm0⟩ := owns_form S.row
  have hcm : cap ≤ 9223372036854775807 := hcm0
  obtain ⟨n, hn⟩ : ∃ n, L.length = n := ⟨_, rfl⟩
  have HNL := hide hn
  have hrow := S.row
  rw [hn] at hcap
  have HSS := hide S.ss
  have HGL := hide S.gl
  have HPW := hide S.pw
  have HNN := hide hN
  have HWI := hide hwi
  have HCH := hide hch
  have hb0 := S.bo.bel.size
  obtain ⟨V1, hV1⟩ : ∃ V, w.alloc (.cells #[.int .u8 (o : Int), .int .u8 (wh : Int), .int .u8 (ch : Int), .int .u8 (wi : Int)] 40) = V := ⟨_, rfl⟩
  have bV1 : Below w.heap.size w V1 := hV1 ▸ below_alloc _ _
  have hA1 : ABox V1 w.heap.size o wh ch wi := hV1 ▸ heap_alloc_new _ _
  have hs1 : V1.heap.size = w.heap.size + 1 := by rw [← hV1]; simp
  obtain ⟨V2, hV2⟩ : ∃ V, V1.alloc (.cells #[.int .u64 0, .int .u32 0, .int .u8 0, .int .u64 0] 49) = V := ⟨_, rfl⟩
  have bV2 : Below V1.heap.size V1 V2 := hV2 ▸ below_alloc _ _
  obtain ⟨ab, hab⟩ : ∃ b, w.heap.size = b := ⟨_, rfl⟩
  obtain ⟨cb, hcb⟩ : ∃ b, V1.heap.size = b := ⟨_, rfl⟩
  have hHd : Hd w0 V2 g mg p ws t es T t es T (.slice ao L.length cap) L ab cb o wh ch wi Cp.zero := by
    refine ⟨(S.bo.grow bV1).grow bV2, owns_grow (owns_grow S.row bV1) bV2, by rw [← hab]; exact hA1.grow bV2, by rw [← hcb, ← hV2]; exact CBox.new V1 0 0 0 0, fun e => ?_⟩
    obtain ⟨cur, h1, _⟩ := owns_block S.row e
    have := lt_of_heap h1
    omega
  rw [hn] at hHd ⊢
  have HD := hide hHd
  have HCB : Hid (w0.heap.size ≤ cb) := by show _ ≤ _; omega
  have HABS : Hid (w.heap.size = ab ∧ V1.heap.size = cb) := ⟨hab, hcb⟩
  have k0 : V2.cell? ⟨ab, 1, none⟩ = some (.int .u8 (wh : Int)) := hHd.act.c1
  have hcb2 : w.heap.size + 1 = cb := by omega
  clear S hn hrow hN hwi hch hb0 bV1 hA1 bV2 hHd hs1
  go_enter Tryd.func12, Tryd.ntmps12
  go_upto_if 50 with fail
  clear hcb2 hab hcb hV1 hV2
  go_cut [] from 48 to 62 (fun wx => ∃ c : Cp, c.ok ∧ Hd w0 wx g mg p ws t es T t es T (.slice ao n cap) L ab cb o wh ch wi c)
  case first =>
    by_cases h0 : 0 < n
    · have h1 : (0 : Int) < (n : Int) := by omega
      obtain ⟨r, hr⟩ : ∃ r, wh % n = r := ⟨_, rfl⟩
      have hrn : r < n := by rw [← hr]; exact Nat.mod_lt _ h0
      have hrn1 : (r : Int) < (n : Int) := by omega
      have hmod : (wh : Int) % (n : Int) = (r : Int) := by omega
      have htm : (wh : Int).tmod (n : Int) = (r : Int) := by rw [Int.tmod_eq_emod_of_nonneg (by omega)]; exact hmod
      have hwr : IntKind.i64.wrap (wh : Int) = (wh : Int) := by rw [IntKind.wrap_i64]; omega
      rcases hx : L.getD r Cp.zero with ⟨xp, xo, xr, xc⟩
      have hrl : r < L.length := by have := HNL.out; omega
      have hok := HSS.out.ok _ (cap_mem hrl)
      rw [hx] at hok
      obtain ⟨b, hao, x0, x1, x2, x3⟩ := owns_cap3 HD.out.row r hrl xp xo xr xc hx
      have HXX := hide hx
      have HAO := hide hao
      have HRL := hide hrl
      have HOK := hide hok
      have HD1 := hide (HD.out.drewN 1)
      clear hx hrl hok hr h0 x0 x1 x2 x3 k0
      go_upto_region 3 with fail
      go_region_held (fun W => W.cell? ⟨b, r * 4, none⟩ = some (.int .u64 (xp : Int)) ∧ W.cell? ⟨b, r * 4 + 1, none⟩ = some (.int .u32 (xo : Int)) ∧ W.cell? ⟨b, r * 4 + 2, none⟩ = some (.int .u8 (xr : Int)) ∧ W.cell? ⟨b, r * 4 + 3, none⟩ = some (.int .u64 (xc : Int)) ∧ W.cell? ⟨ab, 1, none⟩ = some (.int .u8 (wh : Int)) ∧ W.cell? ⟨ab, 2, none⟩ = some (.int .u8 (ch : Int))) (first | exact (by obtain ⟨b', e, y0, y1, y2, y3⟩ := owns_cap3 HP.out.row r HRL.out xp xo xr xc HXX.out; cases (HAO.out.symm.trans e); exact ⟨y0, y1, y2, y3, HP.out.act.c1, HP.out.act.c2⟩) | exact (by obtain ⟨b', e, y0, y1, y2, y3⟩ := owns_cap3 HD1.out.row r HRL.out xp xo xr xc HXX.out; cases (HAO.out.symm.trans e); exact ⟨y0, y1, y2, y3, HD1.out.act.c1, HD1.out.act.c2⟩)) (first
        | (go_at_call 19; refine (change_any ⟨xp, xo, xr, xc⟩ ch _ HOK.out HCH.out).mono ?_; rintro e wx ⟨⟨⟨zp, zo, zr, zc⟩, rfl, zok⟩, bx⟩; have HZ := hide zok; clear zok; have HD1 := hide (HD1.out.grow bx); have HP := hide (HD1.out.put HCB.out ⟨zp, zo, zr, zc⟩); have v0 := HD1.out.box.c0; have v1 := HD1.out.box.c1; have v2 := HD1.out.box.c2; have v3 := HD1.out.box.c3; have z := HD1.out.box.z; simp only [Cp.val]))
      rw [← HAO.out]
      clear hao v0 v1 v2 v3 z
      go_wp2_with fail
      go_meet
      exact ⟨_, HZ.out, HP.out⟩
    · have h1 : ¬ ((0 : Int) < (n : Int)) := by omega
      clear h0
      go_wp2_with fail
      go_meet
      exact ⟨_, cp_ok (by decide) (by decide) (by decide) (by decide), HD.out⟩
  case rest =>
    obtain ⟨c, hc, hD⟩ := hcut
    have HD := hide hD
    have HC := hide hc
    clear hD hc
    have hd1 : (o : Int) % 9 = 8 := by omega
    have HEL : Hid (es.length ≤ 2000000) := HSS.out.less
    obtain ⟨cp, co, cr, cc⟩ := c
    have a0 : wc.cell? ⟨ab, 0, none⟩ = some (.int .u8 (o : Int)) := HD.out.act.c0
    have HSA := hide (HSS.out.age HNN.out)
    have HWB : Hid (w0.heap.size ≤ wc.heap.size) := HD.out.bo.bel.size
    go_wp2_with fail
    clear a0 hd1
    go_loopg [45, 46] 63 (fun gk vo vk wr => MAgeRel w0 wc g mg p ws t es T (.slice ao n cap) L ab cb o wh ch wi ⟨cp, co, cr, cc⟩ gk vo vk wr)
    case atStart => exact ⟨1, 0, by omega, by omega, rfl, by rw [goneL_one]; rfl, by rw [goneL_one]; exact owns_nil _ _ _ _, by rw [agT_one]; exact HD.out, Nat.le_refl _⟩
    case round =>
      obtain ⟨i, q, hi, h1, rfl, hq, ho, hd, hsz⟩ := hrel
      have HO := hide ho
      have HDR := hide hd
      have HQ := hide hq
      have HSZ := hide hsz
      clear ho hd hq hsz
      cases gk with
      | zero =>
        obtain rfl : i = 64 := by omega
        obtain ⟨G, hG⟩ : ∃ G, goneL T 64 = G := ⟨_, rfl⟩
        obtain ⟨A, hA⟩ : ∃ A, agT T 64 = A := ⟨_, rfl⟩
        rw [hG] at HQ HO
        rw [hA] at HDR HSA
        have HG := hide hG
        have HA := hide hA
        clear hG hA
        obtain ⟨go1, gc1, rfl, hl1⟩ := owns_lies HO.out
        have HL1 := hide hl1
        have hlt : ¬ ((64 : Int) < 64) := by omega
        clear hl1 hi h1
        go_wp2_with fail
        refine (bo_age _ HDR.out.bo).mono ?_; rintro e w6 ⟨go2, n2, gc2, rfl, hn2, ho2, B6, k6⟩
        rw [HG.out] at ho2
        rw [HA.out] at B6
        have HD6 := hide (HDR.out.kq k6 B6)
        have HO6 := hide (owns_kq HO.out k6 int_odd2)
        obtain ⟨ao2, cap2, e2, hl2⟩ := owns_lies ho2
        obtain ⟨ao3, cap3, e3, hl3⟩ := owns_lies HO6.out
        have e4 : ao2 = go2 ∧ cap2 = gc2 := by cases e2; exact ⟨rfl, rfl⟩
        have e5 : ao3 = go1 ∧ cap3 = gc1 := by cases e3; exact ⟨rfl, rfl⟩
        obtain ⟨rfl, rfl⟩ := e4
        obtain ⟨rfl, rfl⟩ := e5
        have HN2 : Hid (Nums w6 ao2 n2 cap2 G) := hl2
        have HN3 : Hid (Nums w6 ao3 q cap3 G) := hl3
        clear e2 e3 hl2 hl3 ho2 B6 k6 hn2
        go_wp2_with fail
        refine (same_any ao2 ao3 n2 q cap2 cap3 G G _ HN2.out HN3.out).mono ?_; rintro e w7 ⟨rfl, b7⟩
        have HD7 := hide (HD6.out.grow b7)
        clear b7
        rw [show decide (G = G) = true from decide_eq_true rfl]
        go_wp2
        go_ret2
        exact ⟨t, es, A, .slice ao n cap, L, rfl, HD7.out.bo, HD7.out.row, HSA.out, HGL.out, HPW.out⟩
      | succ g1 =>
        have hin : i < 64 := by omega
        have hlt : (i : Int) < 64 := by omega
        have hi0 : (0 : Int) ≤ (i : Int) := by omega
        have HI := hide hi
        have HIN := hide hin
        have H1 := hide h1
        rcases hTi : T i with ⟨s, ep, vl, l⟩
        have hTa : agT T i i = ⟨s, ep, vl, l⟩ := by rw [agT_at]; exact hTi
        have HTI := hide hTi
        have HTA := hide hTa
        obtain ⟨m0, m1, m2, m3, m4⟩ := HDR.out.bo.md.choose_spec.at i hin s ep vl l hTa
        have z := HDR.out.bo.md.choose_spec.z
        have hok := HDR.out.bo.md.choose_spec.ok i
        rw [hTa] at hok
        clear hTi hTa hi hin h1
        by_cases hl : 0 < l
        · rw [decide_eq_true hl] at m0
          have HLP := hide hl
          have hl24 : l ≤ 24 := hok.2
          obtain ⟨l1, hl1⟩ : ∃ l1, l - 1 = l1 := ⟨_, rfl⟩
          have hsub : (l : Int) - 1 = (l1 : Int) := by omega
          have hl25 : (l1 : Int) ≤ 24 := by omega
          have hl26 : (0 : Int) ≤ (l1 : Int) := by omega
          have HL1 := hide hl1
          obtain ⟨W1, hW1⟩ : ∃ W, wr.setCell ⟨mg, 2 + i * 5 + 4, none⟩ (.int .i64 (l1 : Int)) = W := ⟨_, rfl⟩
          by_cases h0 : 0 < l1
          · have hb0 : ((l1 : Int) == 0) = false := by rw [beq_eq_false_iff_ne]; omega
            have hs : agO (T i) = ⟨s, ep, vl, l1⟩ := by
              unfold agO
              rw [HTI.out]
              simp only
              rw [if_neg (by omega), if_neg (by omega), hl1]
            have hT2 : agT T (i + 1) = updO (agT T i) i ⟨s, ep, vl, l1⟩ := by rw [agT_succ T H1.out, hs]
            have hg2 : goneL T (i + 1) = goneL T i := by rw [goneL_succ, if_neg (by rw [HTI.out]; show ¬ (_ ∧ l = 1); omega), List.append_nil]
            have hB := HDR.out.bo.turn (w' := W1) (U1 := agT T (i + 1)) (fun go y => by
              rw [hT2, ← hW1]
              exact y.set i 4 HIN.out (by omega) (.int .i64 (l1 : Int)) ⟨s, ep, vl, l1⟩ ⟨hok.1, by show l1 ≤ 24; omega⟩ (by rw [HTA.out]; simp [thC, hl, h0])) (by rw [← hW1]; exact foot_set wr ⟨mg, 2 + i * 5 + 4, none⟩ (.int .i64 (l1 : Int)))
            have HD2 := hide (HDR.out.kq hB.2 hB.1)
            have HO2 := hide (owns_kq HO.out hB.2 int_odd2)
            have HSZ2 := hide (Nat.le_trans HSZ.out hB.2.size)
            have HG2 := hide hg2
            have n4 : W1.cell? ⟨mg, 2 + i * 5 + 4, none⟩ = some (.int .i64 (l1 : Int)) := (HD2.out.bo.md.choose_spec.at i HIN.out s ep vl l1 (by rw [hT2, updO_same])).2.2.2.2
            clear hB hT2 hg2 hs hl1 hl hok hl24 h0
            go_wp2_with fail
            go_roundg g1
            case measure => have := HI.out; omega
            case rel => exact ⟨i + 1, q, by have := HI.out; omega, by omega, by go_num, by rw [HG2.out]; exact HQ.out, by rw [HG2.out]; exact HO2.out, HD2.out, HSZ2.out⟩
          · obtain rfl : l1 = 0 := by omega
            have hs : agO (T i) = Ob.zero := by
              unfold agO
              rw [HTI.out]
              simp only
              rw [if_neg (by omega), if_pos (by omega)]
            have hT2 : agT T (i + 1) = updO (agT T i) i Ob.zero := by rw [agT_succ T H1.out, hs]
            have hg2 : goneL T (i + 1) = goneL T i ++ [vl] := by rw [goneL_succ, if_pos ⟨H1.out, by rw [HTI.out]; show l = 1; omega⟩, HTI.out]
            have HMG := hide HDR.out.bo.md
            obtain ⟨go4, hmd⟩ := HDR.out.bo.md
            obtain ⟨C4, hC4⟩ := hmd.blk
            have hM1 : Mg W1 mg p go4 (fun j => if j = i then (thC (T i)).set 4 (.int .i64 ((0 : Nat) : Int)) else thC (agT T i j)) := hW1 ▸ hmd.mg.last HIN.out _
            have f1 : Foot (fun j => j = mg) wr W1 := hW1 ▸ foot_set wr ⟨mg, 2 + i * 5 + 4, none⟩ (.int .i64 ((0 : Nat) : Int))
            have hO1 := owns_foot HO.out f1 (fun r hr e => by
              obtain ⟨cur, h1, _⟩ := owns_block HO.out hr
              rw [e, hC4] at h1; cases h1)
            obtain ⟨v', w', hr, ho', hfa, -⟩ := app_int vl hO1 (by have := goneL_len T i; have := HQ.out; have := HIN.out; omega) (Nat.le_trans HSZ.out f1.size)
            obtain ⟨C5, hC5⟩ := hM1.blk
            have hM2 : Mg w' mg p go4 _ := hM1.foot hfa (fun e => by
              obtain ⟨cur, h1, _⟩ := owns_block hO1 e
              rw [hC5] at h1; cases h1)
            obtain ⟨C6, hC6⟩ := hM2.blk
            obtain ⟨W3, hW3⟩ : ∃ W, lay5 w' mg i Ob.zero = W := ⟨_, rfl⟩
            have hM3 : Mg W3 mg p go4 (fun j => thC (agT T (i + 1) j)) := by
              rw [← hW3]
              refine (hM2.lay i HIN.out Ob.zero (by simp [thC])).ext fun j => ?_
              rw [hT2]
              unfold updO
              by_cases e : j = i
              · rw [if_pos e, if_pos e]
              · rw [if_neg e, if_neg e, if_neg e]
            have f3 : Foot (fun j => j = mg) w' W3 := hW3 ▸ foot_lay5 w' mg i Ob.zero
            have hO3 := owns_foot ho' f3 (fun r hr e => by
              obtain ⟨cur, h1, _⟩ := owns_block ho' hr
              rw [e, hC6] at h1; cases h1)
            have fA := foot3 f1 hfa f3
            have HD2 : Hid (Hd w0 W3 g mg p ws t es T t es (agT T (i + 1)) (.slice ao n cap) L ab cb o wh ch wi ⟨cp, co, cr, cc⟩) := HDR.out.offT fA (fun b e => by
              rcases e with e | e
              · exact ⟨e ▸ HDR.out.bo.mn, .inl e⟩
              · obtain ⟨cur, h1, h2⟩ := owns_block HO.out e
                exact ⟨Nat.le_trans HWB.out h2, .inr ⟨cur, h1⟩⟩) (fun go5 y => by
              have e5 : go5 = go4 := by
                have a := y.c1
                have b := hmd.c1
                rw [a] at b; cases b; rfl
              subst e5
              exact ⟨hM3, fun j => by rw [hT2]; exact upd_ok y.ok ⟨by show 0 ≤ _; omega, by show 0 ≤ _; omega⟩ j⟩)
            have HO3 := hide hO3
            have HG2 := hide hg2
            have HRUN := hide hr
            have HSZ2 : Hid (wc.heap.size ≤ W3.heap.size) := Nat.le_trans HSZ.out fA.size
            obtain ⟨n0, n1, n2, n3, n4⟩ := hM1.at i HIN.out (.bool true) (.int .u64 (s : Int)) (.int .i64 (ep : Int)) (.int .i64 vl) (.int .i64 ((0 : Nat) : Int)) (by simp only [if_true]; rw [HTI.out]; simp [thC, hl])
            obtain ⟨x0, x1, x2, x3, x4⟩ := hM2.at i HIN.out (.bool true) (.int .u64 (s : Int)) (.int .i64 (ep : Int)) (.int .i64 vl) (.int .i64 ((0 : Nat) : Int)) (by simp only [if_true]; rw [HTI.out]; simp [thC, hl])
            have z2 := hM2.z
            simp only [Int.cast_ofNat_Int] at n4 x4 hW1
            simp only [lay5, Ob.zero, Int.cast_ofNat_Int, Nat.lt_irrefl, decide_false] at hW3
            simp only [Int.cast_ofNat_Int] at hsub
            clear HMG hmd hC4 hM1 f1 hO1 hr ho' hfa hC5 hM2 hC6 hM3 f3 hO3 fA hT2 hg2 hs hl1 hl hok hl24 h0 hl25 hl26
            go_wp2_with (at_builtin; refine wpList_append_run rfl _ _ _ rfl _ _ _ _ rfl rfl HRUN.out ?_)
            go_roundg g1
            case measure => have := HI.out; omega
            case rel => exact ⟨i + 1, q + 1, by have := HI.out; omega, by omega, by go_num, by rw [HG2.out, List.length_append, ← HQ.out]; rfl, by rw [HG2.out]; exact HO3.out, HD2.out, HSZ2.out⟩
        · rw [decide_eq_false hl] at m0
          have hs : agO (T i) = T i := by unfold agO; rw [if_pos (by rw [HTI.out]; show l = 0; omega)]
          have hg2 : goneL T (i + 1) = goneL T i := by rw [goneL_succ, if_neg (by rw [HTI.out]; show ¬ (_ ∧ l = 1); omega), List.append_nil]
          have HS := hide (And.intro (agT_same T hs) hg2)
          clear hl hs hg2 hok
          go_wp2_with fail
          go_roundg g1
          case measure => have := HI.out; omega
          case rel => exact ⟨i + 1, q, by have := HI.out; omega, by omega, by go_num, by rw [HS.out.2]; exact HQ.out, by rw [HS.out.2]; exact HO.out, by rw [HS.out.1]; exact HDR.out, HSZ.out⟩
end Go.Proofs.YtgcmompldcnhlaaDoor
