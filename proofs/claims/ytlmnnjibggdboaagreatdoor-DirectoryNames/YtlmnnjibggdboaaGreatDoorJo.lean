/-
  The walk of DirectoryNames.
-/
import Derived.Test.YtlmnnjibggdboaaGreatDoorJn
import Derived.Deep.CutRange
import Derived.Deep.RegionHeldLaw
namespace Go.Proofs.YtlmnnjibggdboaaGreatDoor
section
open Go.RowKit
theorem u64s_single (w : World) : U64s (w.alloc (.cells #[.int .u64 1] 32)) (some ⟨w.heap.size, 0, none⟩) 1 1 [1] :=
  (show RowN (w.alloc (.cells #[.int .u64 1] 32)) .u64 32 w.heap.size [1] from heap_alloc_new _ _).u64s (by show 1 ≤ maxLen; decide) (fun j => by
    rcases j with _ | j <;> simp)
theorem fld7 (d0 d1 d2 d3 d4 d5 d6 d7 d8 d9 : Int) (d10 : Option Addr) (d11 d12 : Nat) (w : World) : (Instr.field 55 (.agg #[.int .u64 d0, .int .u64 d1, .int .u32 d2, .int .u16 d3, .int .u16 d4, .int .u64 d5, .int .u32 d6, .int .u8 d7, .int .u64 d8, .int .u64 d9, .slice d10 d11 d12]) 7).run Tryz.prog w = .ok (.slice d10 d11 d12) w := by kernel_rfl
set_option maxRecDepth 20000 in
set_option maxHeartbeats 12800000 in
theorem walk_names (no : Option Addr) (n nc : Nat) (ns : List UInt8) (w : World) (hb : Bts w no n nc ns) (hn : n ≤ 900000000000000) (hg : Glob w) :
    Calls Tryz.prog 6 #[.slice no n nc] w fun e w' => e = .returned (.bool true) ∧ Below w.heap.size w w' := by
  obtain ⟨ws, hws⟩ : ∃ ws : List Nat, [1] = ws := ⟨_, rfl⟩
  have hcut : cutN ws = ws := by rw [← hws]; rfl
  have hcre : creF ws 0 [] 1 noneO 0 = ⟨rootC 1, 0, 1, [], updO noneO 0 ⟨1, 0, 0, 24⟩⟩ := by rw [← hws]; exact cre_first 1 _
  obtain ⟨s0, hs0⟩ : ∃ s : Hs, (⟨1, [], updO noneO 0 ⟨1, 0, 0, 24⟩, 0, 0, L0⟩ : Hs) = s := ⟨_, rfl⟩
  have HNA : Hid (Na s0 [] 0) := hs0 ▸ na_first
  have HU1 : Hid (∀ W : World, U64s (W.alloc (.cells #[.int .u64 1] 32)) (some ⟨W.heap.size, 0, none⟩) 1 1 ws) := fun W => hws ▸ u64s_single W
  obtain ⟨M4, hM4⟩ : ∃ x, rqM 104 1 0 = x := ⟨_, rfl⟩
  obtain ⟨M2, hM2⟩ : ∃ x, rqM 102 1 255 = x := ⟨_, rfl⟩
  obtain ⟨M5, hM5⟩ : ∃ x, rqM 105 1 0 = x := ⟨_, rfl⟩
  obtain ⟨M1, hM1⟩ : ∃ x, rqM 101 1 0 = x := ⟨_, rfl⟩
  have HENC : Hid (∀ k, k ≤ 255 → ∀ W, Calls Tryz.prog 23 #[.agg #[.int .u64 0, .int .u32 0, .int .u8 0, .int .u64 ((k : Nat) : Int)]] W fun e w' => ∃ g, e = .returned (.slice (some ⟨g, 0, none⟩) 16 16) ∧ Bts w' (some ⟨g, 0, none⟩) 16 16 (capF 0 0 0 k) ∧ Below W.heap.size W w') := fun k hk W => rq_enc ⟨0, 0, 0, k⟩ ⟨by show 0 ≤ _; omega, by show 0 ≤ _; omega, by show 0 ≤ _; omega, by show k ≤ _; omega⟩ _ rfl _ _ _ _ rfl rfl rfl rfl W
  have HREQ4 : Hid (∀ j W, Calls Tryz.prog 22 #[.int .u16 104, .agg #[.int .u64 1, .int .u32 0, .int .u8 255, .int .u64 1], .int .u64 0, .string (str (nmk j)), .slice none 0 0] W fun e w' => ∃ co n cc, e = .returned (.agg #[.int .u64 M4.ta, .int .u64 M4.rp, .int .u32 M4.id, .int .u16 M4.op, .int .u16 M4.st, .int .u64 M4.p, .int .u32 M4.o, .int .u8 M4.r, .int .u64 M4.c, .int .u64 M4.ar, .slice co n cc]) ∧ Bts w' co n cc (reqD (nmk j) []) ∧ Typ8 w' co ∧ n ≤ 200000 ∧ Below W.heap.size W w') := fun j W => rq_req 104 1 0 (nmk j) M4 hM4 _ [] rfl _ rfl (by rw [nmk_len]; omega) _ _ _ rfl rfl rfl W none 0 0 (bts_nil _) (by omega)
  have HREQ1 : Hid (∀ j W, Calls Tryz.prog 22 #[.int .u16 101, .agg #[.int .u64 1, .int .u32 0, .int .u8 255, .int .u64 1], .int .u64 0, .string (str (nmk j)), .slice none 0 0] W fun e w' => ∃ co n cc, e = .returned (.agg #[.int .u64 M1.ta, .int .u64 M1.rp, .int .u32 M1.id, .int .u16 M1.op, .int .u16 M1.st, .int .u64 M1.p, .int .u32 M1.o, .int .u8 M1.r, .int .u64 M1.c, .int .u64 M1.ar, .slice co n cc]) ∧ Bts w' co n cc (reqD (nmk j) []) ∧ Typ8 w' co ∧ n ≤ 200000 ∧ Below W.heap.size W w') := fun j W => rq_req 101 1 0 (nmk j) M1 hM1 _ [] rfl _ rfl (by rw [nmk_len]; omega) _ _ _ rfl rfl rfl W none 0 0 (bts_nil _) (by omega)
  have HREQ2 : Hid (∀ j k W bo, Bts W bo 16 16 (capF 0 0 0 k) → Calls Tryz.prog 22 #[.int .u16 102, .agg #[.int .u64 1, .int .u32 0, .int .u8 255, .int .u64 1], .int .u64 255, .string (str (nmk j)), .slice bo 16 16] W fun e w' => ∃ co n cc, e = .returned (.agg #[.int .u64 M2.ta, .int .u64 M2.rp, .int .u32 M2.id, .int .u16 M2.op, .int .u16 M2.st, .int .u64 M2.p, .int .u32 M2.o, .int .u8 M2.r, .int .u64 M2.c, .int .u64 M2.ar, .slice co n cc]) ∧ Bts w' co n cc (reqD (nmk j) (capF 0 0 0 k)) ∧ Typ8 w' co ∧ n ≤ 200000 ∧ Below W.heap.size W w') := fun j k W bo hb => rq_req 102 1 255 (nmk j) M2 hM2 _ _ rfl _ rfl (by rw [nmk_len]; omega) _ _ _ rfl rfl rfl W bo 16 16 hb (by omega)
  have HSV4 := hide (fun w0 hg s L q (h : Na s L q) (hq : q ≤ 1000000000000000) l R hR => rq_srv (ws := ws) h.root (h.fit hq) (by omega) w0 hg 104 0 (by omega) (by omega) M4 hM4 l R hR)
  have HSV2 := hide (fun w0 hg s L q (h : Na s L q) (hq : q ≤ 1000000000000000) l R hR => rq_srv (ws := ws) h.root (h.fit hq) (by omega) w0 hg 102 255 (by omega) (by omega) M2 hM2 l R hR)
  have HSV1 := hide (fun w0 hg s L q (h : Na s L q) (hq : q ≤ 1000000000000000) l R hR hst => rq_st (ws := ws) h.root (h.fit hq) (by omega) w0 hg 101 0 (by omega) (by omega) M1 hM1 l R hR 0 hst)
  have HLST : Hid (∀ w0, Glob w0 → ∀ s L q, Na s L q → q ≤ 1000000000000000 → ∀ rr A W, Sr W rr A.g A.sb → Sv w0 W A 1 ws s → Calls Tryz.prog 17 #[.pointer (some ⟨rr, 0, none⟩), .agg #[.int .u64 0, .int .u64 0, .int .u32 0, .int .u16 105, .int .u16 0, .int .u64 1, .int .u32 0, .int .u8 255, .int .u64 1, .int .u64 0, .slice none 0 0]] W fun e w' =>
      ∃ c0 c1 c2 c3 c4 c5 c6 c7 c8 c9 co n2 cc A2, e = .returned (.agg #[.int .u64 c0, .int .u64 c1, .int .u32 c2, .int .u16 c3, .int .u16 c4, .int .u64 c5, .int .u32 c6, .int .u8 c7, .int .u64 c8, .int .u64 c9, .slice co n2 cc]) ∧ Bts w' co n2 cc (lstD L) ∧ Sv w0 w' A2 1 ws s ∧ Kh W w' ∧ Foot (SvS A) W w') := fun w0 hg s L q h hq rr A W S X => by
    have := rq_srv (ws := ws) h.root (h.fit hq) (by omega) w0 hg 105 0 (by omega) (by omega) M5 hM5 [] ⟨0, Cp.zero, 0, lstD L, s⟩ (by rw [dol_list, h.l0]) rr A W none 0 0 S X (bts_nil W) (by omega) (fun _ e => by cases e)
    rw [← hM5] at this
    refine this.mono ?_
    rintro e w' ⟨m3, co, n, cc, A2, rfl, -, B5, -, -, X5, K5, F5⟩
    exact ⟨_, _, _, _, _, _, _, _, _, _, _, _, _, A2, rfl, B5, X5, K5, F5⟩
  have HU := hide hb
  have HN := hide hn
  have HCRE := hide hcre
  have HCUT := hide hcut
  have HG := hide hg
  have HS0 := hide hs0
  have hnc := hb.2.1
  have hnc2 : nc ≤ 9223372036854775807 := hb.2.2.1
  clear hws hcut hcre hs0 hg hb hn hM1 hM2 hM4 hM5
  go_enter Tryz.func6, Tryz.ntmps6
  go_wp2_with fail
  refine (awake_any _ HG.out).mono ?_; rintro e w3 ⟨rfl, b3⟩
  have HB3 := hide b3
  have HG3 := hide (HG.out.carry HB3.out)
  clear b3
  go_wp2_with fail
  refine (of_any _ _ _ ws _ (HU1.out _) (by omega)).mono ?_; rintro e x1 ⟨ta, th, tk, rfl, TA, _, ha, hh2, bel⟩
  rw [HCUT.out] at TA
  have HT := hide TA
  have HTA := hide ha
  have HTH := hide hh2
  have HBE := hide bel
  clear TA bel ha hh2
  go_wp2_with fail
  refine (oof_any _ ⟨_, rfl⟩ _).mono ?_; rintro e x2 ⟨go, gm, rfl, O2, bel2⟩
  have HS3 := hide (Tk.made (below_alloc w3 _) HT.out HTA.out HTH.out HBE.out O2 bel2)
  clear O2 bel2 HT HBE HTA HTH
  go_wp2_with fail
  refine (tof_new 1 _).mono ?_; rintro e x3 ⟨rfl, T4, b4⟩
  have HO4 := hide (Od.make HS3.out T4 b4)
  obtain ⟨gt, hgg⟩ : ∃ g, x2.heap.size = g := ⟨_, rfl⟩
  rw [hgg] at HO4 ⊢
  clear T4 b4 HS3 hgg
  go_wp2_with fail
  refine (dir_yes _ HO4.out (by show 0 ≤ _; omega) ⟨rootC 1, 0, 1, [], updO noneO 0 ⟨1, 0, 0, 24⟩⟩ HCRE.out rfl).mono ?_; rintro e x4 ⟨rr, rfl, A, hA, -, -, -, hAh, -, -, hAN, -, -, -, X4, S4, F4⟩
  have HX4 : Hid (Sv w3 x4 A 1 ws ⟨1, [], updO noneO 0 ⟨1, 0, 0, 24⟩, 0, 0, L0⟩) := X4
  rw [HS0.out] at HX4
  have HS4 := hide S4
  clear F4 X4 S4 HO4 hA hAh hAN
  simp only [rootC, Cp.val]
  obtain ⟨V2, hV2⟩ : ∃ V2, x4.alloc (.cells #[.int .u64 1, .int .u32 0, .int .u8 255, .int .u64 1] 40) = V2 := ⟨_, rfl⟩
  have b2 : Below x4.heap.size x4 V2 := hV2 ▸ below_alloc _ _
  obtain ⟨gr, hgr⟩ : ∃ g, x4.heap.size = g := ⟨_, rfl⟩
  have HR : CBI V2 gr 1 0 255 1 := by rw [← hgr, ← hV2]; exact CBI.new x4 _ _ _ _
  have HNB : Hid (Nb w3 V2 A rr gr ws s0 (.slice none 0 0) [] 0) := ⟨HNA.out, HS4.out.grow b2, HX4.out.grow b2, HR, ownN_nil _ _⟩
  clear b2 HS4 HX4 HR HNA
  go_wp2_with fail
  go_loopg [7, 35] n (fun gk vw vi wr => ∃ (i : Nat) (A2 : Ad) (s : Hs) (L : List Rw), i + gk = n ∧ vi = .int .i64 (i : Int) ∧ Nb w3 wr A2 rr gr ws s vw L i)
  case atStart => exact ⟨0, A, s0, [], by omega, rfl, HNB.out⟩
  case round =>
    obtain ⟨i, A2, s, L, hi, rfl, hB⟩ := hrel
    have HB := hide hB
    clear hB HNB
    obtain ⟨ao, cap, rfl, hlc, hcm⟩ := ownN_form HB.out.row
    obtain ⟨ln, hln⟩ : ∃ k, L.length = k := ⟨_, rfl⟩
    have HLN := hide hln
    have hl10 : ln ≤ 10 := by rw [← hln]; exact HB.out.na.few
    have HL10 := hide hl10
    rw [hln] at hlc
    rw [hln]
    have hcm2 : cap ≤ 9223372036854775807 := hcm
    clear hln hcm
    cases gk with
    | zero =>
      have hlt : ¬ ((i : Int) < (n : Int)) := by omega
      have HI := hide hi
      clear hi
      obtain ⟨Wr, rfl⟩ : ∃ x, x = wr := ⟨wr, rfl⟩
      go_wp2_with fail
      go_loopg [15, 112] ln (fun gm vb vm wq => ∃ (m : Nat) (co : Option Addr) (bm cc : Nat), m + gm = ln ∧ vm = .int .i64 (m : Int) ∧ vb = .slice co bm cc ∧ Bts wq co bm cc (lstD (L.take m)) ∧ New Wr co ∧ Below Wr.heap.size Wr wq)
      case atStart => exact ⟨0, none, 0, 0, by omega, rfl, rfl, bts_nil _, new_none _, Below.refl _ _⟩
      case round =>
        obtain ⟨m, co, bm, cc, hm, rfl, rfl, hb, hnw, hbl⟩ := hrel
        have HNW := hide hnw
        have HBB := hide hb
        have HBW := hide hbl
        clear hb hbl hnw
        have hbm : bm ≤ 340 := by
          have h1 := HBB.out.1
          have h2 := lstD_len (L.take m) (fun y hy => by
            obtain ⟨j, _, e⟩ := HB.out.na.nm y (List.mem_of_mem_take hy)
            rw [e, nmk_len]; omega)
          have h3 := HL10.out
          have h4 := HLN.out
          rw [List.length_take] at h2
          omega
        cases gk with
        | succ g2 =>
          have hml : m < L.length := by have := HLN.out; omega
          obtain ⟨b, cp, e, _, _, hcell⟩ := ownN_at (owns_grow HB.out.row HBW.out) hml
          rw [HLN.out] at e
          obtain ⟨rfl, rfl⟩ : ao = some ⟨b, 0, none⟩ ∧ cap = cp := by simp only [Value.slice.injEq] at e; exact ⟨e.1, e.2.2⟩
          have hm1 : (m : Int) < (ln : Int) := by omega
          have hm0 : (0 : Int) ≤ (m : Int) := by omega
          have HM := hide hm
          have HML := hide hml
          obtain ⟨y, hy⟩ : ∃ y, L.getD m Rw.zero = y := ⟨_, rfl⟩
          have HLS : Hid (lstD (L.take (m + 1)) = lstD (L.take m) ++ putF y.n.length 2 ++ y.n) := lstD_snoc L m hml y hy
          have hyn : y.n.length ≤ 32 := by
            obtain ⟨j, _, e⟩ := HB.out.na.nm _ (mem_getR hml)
            rw [hy] at e
            rw [e, nmk_len]; omega
          rw [hy] at hcell
          obtain ⟨yc, X2, hcv, B2, b2⟩ := str_bytes y.n wr (by omega)
          obtain ⟨yl, hyl⟩ : ∃ l, y.n.length = l := ⟨_, rfl⟩
          rw [hyl] at hcv B2 hyn HLS
          have HB2 := hide B2
          have HX2 := hide b2
          have hwm : IntKind.i64.wrap ((m : Int) + 1) = (m : Int) + 1 := by rw [IntKind.wrap_i64]; have := HL10.out; omega
          clear B2 b2 hyl hm hml hy e
          go_wp2_with fail
          refine (putBytes_yes co bm cc _ _ yl yc y.n _ (HBB.out.carry HX2.out) HB2.out (by omega) (by omega)).mono ?_; rintro e w1 ⟨co2, cc2, rfl, B4, N4, b4⟩
          have HB4 := hide B4
          have HBL4 := hide (below_one (below_one HBW.out HX2.out) b4)
          have HN4 : Hid (New Wr co2) := N4.le (Nat.le_trans HBW.out.size HX2.out.size)
          clear B4 N4 b4
          go_wp2_with fail
          go_roundg g2
          case measure => have := HM.out; omega
          case rel => exact ⟨m + 1, co2, bm + 2 + yl, cc2, by have := HM.out; omega, by go_num, rfl, by rw [HLS.out]; exact HB4.out, HN4.out, HBL4.out⟩
        | zero =>
          obtain rfl : m = ln := by omega
          have hlt2 : ¬ ((m : Int) < (m : Int)) := by omega
          have hall : L.take m = L := List.take_of_length_le (by have := HLN.out; omega)
          rw [hall] at HBB
          have hbe := HB.out.grow HBW.out
          have HBE := hide hbe
          have HLS := hide (HLST.out w3 HG3.out s L i hbe.na (by have := HI.out; have := HN.out; omega))
          have HRT := hide hbe.rt
          clear hm hall hbe
          go_upto_region 39 with fail
          obtain ⟨sv, hsv⟩ : ∃ t, str (lstD L) = t := ⟨_, rfl⟩
          have HSVV := hide hsv
          have rd := HBE.out.rt.dr
          have cvd := conv_bts (Bts.carry HBB.out (Below.refl wr.heap.size wr).drew)
          rw [hsv] at cvd
          have Ed : Hid (wr.drew.cell? ⟨gr, 0, none⟩ = some (.int .u64 1) ∧ wr.drew.cell? ⟨gr, 1, none⟩ = some (.int .u32 0) ∧ wr.drew.cell? ⟨gr, 2, none⟩ = some (.int .u8 255) ∧ wr.drew.cell? ⟨gr, 3, none⟩ = some (.int .u64 1) ∧ (convert 23 9 (.slice co bm cc)).run Tryz.prog wr.drew = .ok (.string sv) wr.drew) := ⟨rd.c0, rd.c1, rd.c2, rd.c3, cvd⟩
          have hS : Hid (wr.drew.cell? ⟨gr, 0, none⟩ = some (.int .u64 1) ∧ wr.drew.cell? ⟨gr, 1, none⟩ = some (.int .u32 0) ∧ wr.drew.cell? ⟨gr, 2, none⟩ = some (.int .u8 255) ∧ wr.drew.cell? ⟨gr, 3, none⟩ = some (.int .u64 1) ∧ (convert 23 9 (.slice co bm cc)).run Tryz.prog wr.drew = .ok (.string sv) wr.drew) := ⟨rd.c0, rd.c1, rd.c2, rd.c3, cvd⟩
          refine wp_region_held_drew (S := fun U => U.cell? ⟨gr, 0, none⟩ = some (.int .u64 1) ∧ U.cell? ⟨gr, 1, none⟩ = some (.int .u32 0) ∧ U.cell? ⟨gr, 2, none⟩ = some (.int .u8 255) ∧ U.cell? ⟨gr, 3, none⟩ = some (.int .u64 1) ∧ (convert 23 9 (.slice co bm cc)).run Tryz.prog U = .ok (.string sv) U) (by kernel_rfl) hS.out (fun _ => ?_)
          clear rd cvd hsv
          refine wpAnyH_take (i := 0) (oi := { dst := some 124, op := Go.Op.move (Go.Operand.tmp 4), type := 37, pos := "law.go:295", after := #[], guard := none }) (v := (.pointer (some ⟨rr, 0, none⟩))) rfl (by kernel_rfl) (by kernel_rfl) (by kernel_rfl) (fun _ _ _ h => h) (Or.inl ⟨by kernel_rfl, fun w hC => by go_simp⟩) hS.out ?_
          simp only [Act.put, List.setIfInBounds_toArray, List.set_cons_zero, List.set_cons_succ]
          refine wpAnyH_take (i := 1) (oi := { dst := some 125, op := Go.Op.load 40 (Go.Operand.tmp 5), type := 40, pos := "law.go:295", after := #[], guard := none }) (v := (.agg #[.int .u64 1, .int .u32 0, .int .u8 255, .int .u64 1])) rfl (by kernel_rfl) (by kernel_rfl) (by kernel_rfl) (fun _ _ _ h => h) (Or.inl ⟨by kernel_rfl, fun w hC => by ((obtain ⟨q0, q1, q2, q3, qc⟩ := hC); go_simp)⟩) hS.out ?_
          simp only [Act.put, List.setIfInBounds_toArray, List.set_cons_zero, List.set_cons_succ]
          refine wpAnyH_take (i := 2) (oi := { dst := some 126, op := Go.Op.build 55 #[(3, Go.Operand.const (Go.Value.int Go.IntKind.u16 105)), (5, Go.Operand.tmp 125)], type := 55, pos := "law.go:295", after := #[{ on := 1, ground := Go.Ground.data }], guard := none }) (v := (.agg #[.int .u64 0, .int .u64 0, .int .u32 0, .int .u16 105, .int .u16 0, .int .u64 1, .int .u32 0, .int .u8 255, .int .u64 1, .int .u64 0, .slice none 0 0])) rfl (by kernel_rfl) (by kernel_rfl) (by kernel_rfl) (fun _ _ _ h => h) (Or.inl ⟨by kernel_rfl, fun w hC => by go_simp⟩) hS.out ?_
          simp only [Act.put, List.setIfInBounds_toArray, List.set_cons_zero, List.set_cons_succ]
          refine wpAnyH_take (i := 6) (oi := { dst := some 130, op := Go.Op.move (Go.Operand.tmp 15), type := 23, pos := "law.go:295", after := #[], guard := none }) (v := (.slice co bm cc)) rfl (by kernel_rfl) (by kernel_rfl) (by kernel_rfl) (fun _ _ _ h => h) (Or.inl ⟨by kernel_rfl, fun w hC => by go_simp⟩) hS.out ?_
          simp only [Act.put, List.setIfInBounds_toArray, List.set_cons_zero, List.set_cons_succ]
          refine wpAnyH_take (i := 7) (oi := { dst := some 131, op := Go.Op.convert 23 9 (Go.Operand.tmp 130), type := 9, pos := "law.go:295", after := #[{ on := 6, ground := Go.Ground.data }], guard := none }) (v := (.string sv)) rfl (by kernel_rfl) (by kernel_rfl) (by kernel_rfl) (fun _ _ _ h => h) (Or.inl ⟨by kernel_rfl, fun w hC => by ((obtain ⟨q0, q1, q2, q3, qc⟩ := hC); go_simp)⟩) hS.out ?_
          simp only [Act.put, List.setIfInBounds_toArray, List.set_cons_zero, List.set_cons_succ]
          refine wpAnyH_ready (rs := [3]) (by kernel_rfl) (by simp) ?_
          refine AllReadyH.cons (o := { dst := some 127, op := Go.Op.call { callee := Go.Callee.value (Go.Operand.func 17), args := #[Go.Operand.tmp 124, Go.Operand.tmp 126], argTypes := #[37, 55] }, type := 55, pos := "law.go:295", after := #[{ on := 0, ground := Go.Ground.data }, { on := 2, ground := Go.Ground.data }], guard := none }) rfl (fun KK hKK => ?_) AllReadyH.nil
          go_simp
          refine (HLS.out _ _ _ (HBE.out.sr.grow (by go_grown)) (HBE.out.sv.grow (by go_grown))).mono ?_
          rintro e W5 ⟨d0, d1, d2, d3, d4, d5, d6, d7, d8, d9, d10, d11, d12, A5, rfl, B5, X5, K5, F5⟩
          have KV : Kh wr W5 := (below_kh (by go_grown)).trans K5
          have hfld := fld7 d0 d1 d2 d3 d4 d5 d6 d7 d8 d9 d10 d11 d12
          have r5 := HBE.out.rt.kh KV
          have cv5 := conv_bts (Bts.foot (Bts.carry HBB.out (Below.refl wr.heap.size wr).drew) F5 (fun ad e _ h => by
            have h1 := (HB.out.sv.up h).2
            have h2 := HNW.out ad e
            omega))
          rw [HSVV.out] at cv5
          have cvn := conv_bts B5
          rw [HSVV.out] at cvn
          have HBL := hide (below_one HB3.out X5.bel)
          have hS : Hid (W5.cell? ⟨gr, 0, none⟩ = some (.int .u64 1) ∧ W5.cell? ⟨gr, 1, none⟩ = some (.int .u32 0) ∧ W5.cell? ⟨gr, 2, none⟩ = some (.int .u8 255) ∧ W5.cell? ⟨gr, 3, none⟩ = some (.int .u64 1) ∧ (convert 23 9 (.slice co bm cc)).run Tryz.prog W5 = .ok (.string sv) W5) := ⟨r5.c0, r5.c1, r5.c2, r5.c3, cv5⟩
          refine hKK.out _ _ hS.out (fun _ => ?_)
          clear hKK
          refine wpAnyH_take (i := 4) (oi := { dst := some 128, op := Go.Op.field 55 (Go.Operand.tmp 127) 7, type := 23, pos := "law.go:295", after := #[{ on := 3, ground := Go.Ground.data }], guard := none }) (v := (.slice d10 d11 d12)) rfl (by kernel_rfl) (by kernel_rfl) (by kernel_rfl) (fun _ _ _ h => h) (Or.inl ⟨by kernel_rfl, fun w hC => by go_simp⟩) hS.out ?_
          simp only [Act.put, List.setIfInBounds_toArray, List.set_cons_zero, List.set_cons_succ]
          refine wpAnyH_ready (rs := [5]) (by kernel_rfl) (by simp) ?_
          refine AllReadyH.cons (o := { dst := some 129, op := Go.Op.convert 23 9 (Go.Operand.tmp 128), type := 9, pos := "law.go:295", after := #[{ on := 4, ground := Go.Ground.data }], guard := none }) rfl (fun KK hKK => ?_) AllReadyH.nil
          go_simp
          have hS : Hid (W5.cell? ⟨gr, 0, none⟩ = some (.int .u64 1) ∧ W5.cell? ⟨gr, 1, none⟩ = some (.int .u32 0) ∧ W5.cell? ⟨gr, 2, none⟩ = some (.int .u8 255) ∧ W5.cell? ⟨gr, 3, none⟩ = some (.int .u64 1) ∧ (convert 23 9 (.slice co bm cc)).run Tryz.prog W5 = .ok (.string sv) W5) := ⟨r5.c0, r5.c1, r5.c2, r5.c3, cv5⟩
          refine hKK.out _ _ hS.out (fun _ => ?_)
          clear hKK
          refine wpAnyH_take (i := 8) (oi := { dst := some 132, op := Go.Op.binOp Go.BinOp.eql 9 (Go.Operand.tmp 129) (Go.Operand.tmp 131) 9, type := 4, pos := "law.go:295", after := #[{ on := 5, ground := Go.Ground.data }, { on := 7, ground := Go.Ground.data }], guard := none }) (v := (.bool true)) rfl (by kernel_rfl) (by kernel_rfl) (by kernel_rfl) (fun _ _ _ h => h) (Or.inl ⟨by kernel_rfl, fun w hC => by go_simp⟩) hS.out ?_
          simp only [Act.put, List.setIfInBounds_toArray, List.set_cons_zero, List.set_cons_succ]
          refine wpAnyH_take (i := 9) (oi := { dst := some 2, op := Go.Op.assign (Go.Operand.tmp 132), type := 4, pos := "law.go:295", after := #[{ on := 8, ground := Go.Ground.data }, { on := 3, ground := Go.Ground.chain }, { on := 0, ground := Go.Ground.phase }, { on := 1, ground := Go.Ground.phase }, { on := 2, ground := Go.Ground.phase }, { on := 3, ground := Go.Ground.phase }, { on := 4, ground := Go.Ground.phase }, { on := 5, ground := Go.Ground.phase }, { on := 6, ground := Go.Ground.phase }, { on := 7, ground := Go.Ground.phase }, { on := 8, ground := Go.Ground.phase }], guard := none }) (v := (.bool true)) rfl (by kernel_rfl) (by kernel_rfl) (by kernel_rfl) (fun _ _ _ h => h) (Or.inl ⟨by kernel_rfl, fun w hC => by go_simp⟩) hS.out ?_
          simp only [Act.put, List.setIfInBounds_toArray, List.set_cons_zero, List.set_cons_succ]
          refine wpAnyH_done (by kernel_rfl) ?_ _
          go_wp2
          go_ret
          exact ⟨by simp, HBL.out⟩
    | succ g1 =>
      have hin : i < n := by omega
      have hlt : (i : Int) < (n : Int) := by omega
      have hi0 : (0 : Int) ≤ (i : Int) := by omega
      obtain ⟨ad, rfl⟩ : ∃ ad, no = some ad := by
        cases no with
        | none => have := HU.out.2.2.2.1 rfl; omega
        | some ad => exact ⟨ad, rfl⟩
      have x0 := (HU.out.carry (below_one HB3.out HB.out.sv.bel)).2.2.2.2 ad rfl i (by rw [← HU.out.1]; exact hin)
      obtain ⟨k, hk⟩ : ∃ k : Nat, (ns.getD i 0).toNat = k := ⟨_, rfl⟩
      have hk255 : k ≤ 255 := by rw [← hk]; have := (ns.getD i 0).toNat_lt; omega
      rw [show bt ns i = (k : Int) from by unfold bt; rw [hk]] at x0
      obtain ⟨j, hj⟩ : ∃ j, k % 10 = j := ⟨_, rfl⟩
      have hj10 : j < 10 := by omega
      have hpm : (k : Int).tmod 10 = (j : Int) := by rw [Int.tmod_eq_emod_of_nonneg (by omega)]; omega
      have hpm2 : (k : Int) % 10 = (j : Int) := by omega
      obtain ⟨cn, hcn⟩ : ∃ z : Int, 97 + (j : Int) = z := ⟨_, rfl⟩
      have hw0 : IntKind.u8.wrap (j : Int) = (j : Int) := by rw [IntKind.wrap_u8]; omega
      have hw1 : IntKind.u8.wrap cn = cn := by rw [IntKind.wrap_u8]; omega
      have hw2 : IntKind.i32.wrap cn = cn := by rw [IntKind.wrap_i32]; omega
      have hen : Utf8.encode cn = str (nmk j) := by
        have := enc_nmk j hj10
        rw [show ((97 + j : Nat) : Int) = cn by omega] at this
        exact this
      have HI := hide hi
      have HIN := hide hin
      have HK := hide hk255
      have HJ := hide hj10
      clear hi hin hk hk255 hj hj10
      obtain ⟨Wr, rfl⟩ : ∃ x, x = wr := ⟨wr, rfl⟩
      go_wp2_with fail
      go_loopg [11, 46] ln (fun gm va vm wq => ∃ m : Nat, m + gm = ln ∧ vm = .int .i64 (m : Int) ∧ va = .int .i64 (atF L (nmk j) m) ∧ wq = Wr)
      case atStart => exact ⟨0, by omega, rfl, by rw [at_zero], rfl⟩
      case round =>
        obtain ⟨m, hm, rfl, rfl, hw⟩ := hrel
        subst hw
        clear x0 hpm hpm2 hcn hw0 hw1 hw2 hen hlt hi0
        cases gk with
        | succ g2 =>
          have hml : m < L.length := by have := HLN.out; omega
          obtain ⟨b, cp, e, -, -, hcell⟩ := ownN_at HB.out.row hml
          rw [HLN.out] at e
          obtain ⟨rfl, rfl⟩ : ao = some ⟨b, 0, none⟩ ∧ cap = cp := by simp only [Value.slice.injEq] at e; exact ⟨e.1, e.2.2⟩
          have hm1 : (m : Int) < (ln : Int) := by omega
          have hm0 : (0 : Int) ≤ (m : Int) := by omega
          have HM := hide hm
          have HML := hide hml
          by_cases hx : (L.getD m Rw.zero).n = nmk j
          · rw [hx] at hcell
            have HAT := hide (at_yes HB.out.na.nd hml hx)
            have hbq : ((str (nmk j)).toList == (str (nmk j)).toList) = true := by simp
            clear hx hm hml e
            go_wp2_with fail
            go_roundg g2
            case measure => have := HM.out; omega
            case rel => exact ⟨m + 1, by have := HM.out; omega, by go_num, by rw [HAT.out], rfl⟩
          · have HAT := hide (at_no hml hx)
            obtain ⟨sx, hsx⟩ : ∃ t, str (L.getD m Rw.zero).n = t := ⟨_, rfl⟩
            have hbq : (sx.toList == (str (nmk j)).toList) = false := by rw [← hsx, list_beq]; exact decide_eq_false hx
            rw [hsx] at hcell
            clear hx hm hml e hsx
            go_wp2_with fail
            go_roundg g2
            case measure => have := HM.out; omega
            case rel => exact ⟨m + 1, by have := HM.out; omega, by go_num, by rw [HAT.out], rfl⟩
        | zero =>
          obtain rfl : m = ln := by omega
          have hlt : ¬ ((m : Int) < (m : Int)) := by omega
          have hwi : IntKind.i64.wrap ((i : Int) + 1) = (i : Int) + 1 := by rw [IntKind.wrap_i64]; have := HIN.out; have := HN.out; omega
          obtain ⟨z, hz⟩ : ∃ z, atF L (nmk j) m = z := ⟨_, rfl⟩
          have HZ : Hid ((idxR L (nmk j) < L.length ∧ z = ((idxR L (nmk j) : Nat) : Int)) ∨ (idxR L (nmk j) = L.length ∧ z = -1)) := by
            by_cases hx : idxR L (nmk j) < L.length
            · exact .inl ⟨hx, by rw [← hz, ← HLN.out]; exact at_in hx⟩
            · exact .inr ⟨by have := idx_le (L := L) (nm := nmk j); omega, by rw [← hz, ← HLN.out]; exact at_out hx⟩
          rw [hz]
          clear hz hm
          have hku : IntKind.u8.wrap (k : Int) = (k : Int) := by rw [IntKind.wrap_u8]; have := HK.out; omega
          by_cases h128 : 128 ≤ k
          · have hk8 : (128 : Int) ≤ (k : Int) := by omega
            clear h128
            obtain ⟨R, hR⟩ : ∃ R, doF ws 1 s 104 0 0 (reqD (nmk j) []) = R := ⟨_, rfl⟩
            have hsv := HSV4.out w3 HG3.out s L i HB.out.na (by have := HIN.out; have := HN.out; omega) _ R hR
            have HSV := hide hsv
            have HRF : Hid ((idxR L (nmk j) < L.length ∧ z = ((idxR L (nmk j) : Nat) : Int) ∧ R.e = 0 ∧ R.s = s.row 0 (delR L (idxR L (nmk j)))) ∨ (z = -1 ∧ R.e = 12 ∧ R.s = s)) := by
              rcases HZ.out with ⟨h1, h2⟩ | ⟨h1, h2⟩
              · rw [do_delete HB.out.na.l0 (by rw [nmk_len]; omega) (by rw [nmk_len]; omega) h1] at hR
                exact .inl ⟨h1, h2, by rw [← hR]; rfl, by rw [← hR]; rfl⟩
              · rw [do_missing (.inr (.inr rfl)) HB.out.na.l0 (by rw [nmk_len]; omega) (by rw [nmk_len]; omega) h1] at hR
                exact .inr ⟨h2, by rw [← hR]; rfl, by rw [← hR]; rfl⟩
            clear hR hsv
            have r0 := HB.out.rt.c0
            have r1 := HB.out.rt.c1
            have r2 := HB.out.rt.c2
            have r3 := HB.out.rt.c3
            go_wp2_with fail
            refine (HREQ4.out j _).mono ?_; rintro e W3 ⟨qo, qn, qc, rfl, B3, T3, hn3, b3⟩
            have HB1 := hide (HB.out.grow b3)
            have HBq := hide B3
            have HTq := hide T3
            have HNq := hide hn3
            clear B3 T3 hn3 b3 r0 r1 r2 r3
            go_wp2_with fail
            refine (HSV.out _ _ _ qo qn qc HB1.out.sr HB1.out.sv HBq.out HNq.out HTq.out).mono ?_; rintro e W5 ⟨mb, cob, nb, ccb, A5, rfl, hmb, B5, T5, S5, X5, K5, F5⟩
            obtain ⟨V7, hV7⟩ : ∃ V, W5.alloc (.cells #[.int .u64 mb.ta, .int .u64 mb.rp, .int .u32 mb.id, .int .u16 mb.op, .int .u16 mb.st, .int .u64 mb.p, .int .u32 mb.o, .int .u8 mb.r, .int .u64 mb.c, .int .u64 mb.ar, .slice cob nb ccb] 55) = V := ⟨_, rfl⟩
            have b7 : Below W5.heap.size W5 V7 := hV7 ▸ below_alloc _ _
            obtain ⟨gb, hgb⟩ : ∃ g, W5.heap.size = g := ⟨_, rfl⟩
            have mb7 : MB V7 gb mb (.slice cob nb ccb) := by rw [← hgb, ← hV7]; exact mb_new _ _ _
            have mbb := mb7.all
            have K7 := K5.trans (below_kh b7)
            have HS7 := hide (S5.grow b7)
            have HX7 := hide (X5.grow b7)
            have HR7 := hide (HB1.out.rt.kh K7)
            have HO7 : Hid (OwnN V7 w3.heap.size (.slice ao L.length cap) L) := owns_kh HB1.out.row K7 str_odd3
            have hst : (mb.st : Int) = (R.e : Int) := by rw [hmb, rpl_st]
            have e1 : V7.cell? ⟨gb, 4, none⟩ = some (.int .u16 (R.e : Int)) := by rw [← hst]; exact mbb.2.2.2.2.1
            have HNA := hide HB.out.na
            clear hmb B5 T5 S5 X5 K5 F5 b7 K7 mb7 mbb hst HB HB1 HSV
            rcases HRF.out with ⟨hx, hz, he, hs⟩ | ⟨hz, he, hs⟩
            · have HX := hide hx
              obtain ⟨t, ht⟩ : ∃ t, idxR L (nmk j) = t := ⟨_, rfl⟩
              rw [ht] at HX hz hs
              have hz0 : (0 : Int) ≤ z := by omega
              rw [he] at e1
              rw [hs] at HX7
              subst hz
              have htm : t < m := by have := HX.out; have := HLN.out; omega
              have htm1 : (t : Int) ≤ (m : Int) := by omega
              have htm2 : (t : Int) + 1 ≤ (m : Int) := by omega
              have htm3 : (0 : Int) ≤ (t : Int) + 1 := by omega
              have hwt : IntKind.i64.wrap ((t : Int) + 1) = (t : Int) + 1 := by rw [IntKind.wrap_i64]; have := HL10.out; omega
              obtain ⟨b, rfl⟩ : ∃ b, ao = some ⟨b, 0, none⟩ := by
                obtain ⟨b, cp, e, _⟩ := ownN_at HO7.out HX.out
                simp only [Value.slice.injEq] at e
                exact ⟨b, e.1⟩
              have ho7 : OwnN V7 w3.heap.size (.slice (some ⟨b, 0, none⟩) L.length cap) L := HO7.out
              have HCN := hide (fun (U : World) (g : Below V7.heap.size V7 U) => cut_name (owns_grow ho7 g) HX.out (by have := HLN.out; have := HL10.out; omega) (Nat.le_trans HX7.out.bel.size g.size))
              have hcp : L.length ≤ cap := by
                obtain ⟨ao', cp, e, h1, _⟩ := ownN_form ho7
                simp only [Value.slice.injEq] at e
                omega
              have htl := fun W => cut_tlN W b m cap (t + 1) (by omega)
              have hhd := fun W => cut_headN W (some ⟨b, 0, none⟩) m cap t (by have := HLN.out; omega)
              obtain ⟨m1, hm1⟩ : ∃ x, m - (t + 1) = x := ⟨_, rfl⟩
              obtain ⟨d1, hd1⟩ : ∃ x, cap - (t + 1) = x := ⟨_, rfl⟩
              obtain ⟨a1, ha1⟩ : ∃ x, tlN b cap (t + 1) = x := ⟨_, rfl⟩
              rw [hm1, hd1, ha1, show ((t + 1 : Nat) : Int) = (t : Int) + 1 by omega] at htl
              have hli : L.length - (t + 1) = m1 := by rw [HLN.out]; exact hm1
              go_upto_region 24 with fail
              obtain ⟨v1, w1, v2, w2, hr1, hr2, ho2, hb2⟩ := HCN.out V7.drew (Below.refl _ _).drew cap d1
              rw [ha1, hli] at hr2
              have HR1 := hide hr1
              have HR2 := hide hr2
              have HO2 := hide ho2
              have HB2 := hide (show Below V7.heap.size V7 w2 from below_one (Below.refl _ _).drew hb2)
              clear hr1 hr2 ho2 hb2 hm1 hd1 ha1 hcp hli
              go_region_held_law (fun _ => True) (exact trivial)
                (first
                  | (refine step_append_run (by rfl) _ _ _ (by rfl) _ _ _ _ (by rfl) (by rfl) HR1.out ?_)
                  | (refine step_append_run (by rfl) _ _ _ (by rfl) _ _ _ _ (by rfl) (by rfl) HR2.out ?_))
              go_wp2_with fail
              go_roundg g1
              case measure => have := HIN.out; have := HI.out; omega
              case rel => exact ⟨i + 1, A5, _, delR L t, by have := HI.out; omega, by go_num, ⟨HNA.out.del t, HS7.out.grow HB2.out, HX7.out.grow HB2.out, HR7.out.grow HB2.out, HO2.out⟩⟩
            · rw [he] at e1
              rw [hs] at HX7
              subst hz
              go_wp2_with fail
              go_roundg g1
              case measure => have := HIN.out; have := HI.out; omega
              case rel => exact ⟨i + 1, A5, s, L, by have := HI.out; omega, by go_num, ⟨HNA.out.le (Nat.le_succ i), HS7.out, HX7.out, HR7.out, by rw [← HLN.out]; exact HO7.out⟩⟩
          · have hk8 : ¬ (128 : Int) ≤ (k : Int) := by omega
            clear h128
            have HB3W := hide HB3.out
            have hwk : IntKind.u64.wrap (k : Int) = (k : Int) := by rw [IntKind.wrap_u64]; have := HK.out; omega
            obtain ⟨cb, hcb⟩ : ∃ l, capF 0 0 0 k = l := ⟨_, rfl⟩
            obtain ⟨D2, hD2⟩ : ∃ l, reqD (nmk j) cb = l := ⟨_, rfl⟩
            obtain ⟨R, hR⟩ : ∃ R, doF ws 1 s 102 0 255 D2 = R := ⟨_, rfl⟩
            have hsv := HSV2.out w3 HG3.out s L i HB.out.na (by have := HIN.out; have := HN.out; omega) _ R hR
            have HSVa := hide hsv
            have HENCa : Hid (∀ W, Calls Tryz.prog 23 #[.agg #[.int .u64 0, .int .u32 0, .int .u8 0, .int .u64 (k : Int)]] W fun e w' => ∃ g, e = .returned (.slice (some ⟨g, 0, none⟩) 16 16) ∧ Bts w' (some ⟨g, 0, none⟩) 16 16 cb ∧ Below W.heap.size W w') := fun W => hcb ▸ HENC.out k HK.out W
            have HREQa : Hid (∀ W bo, Bts W bo 16 16 cb → Calls Tryz.prog 22 #[.int .u16 102, .agg #[.int .u64 1, .int .u32 0, .int .u8 255, .int .u64 1], .int .u64 255, .string (str (nmk j)), .slice bo 16 16] W fun e w' => ∃ co n cc, e = .returned (.agg #[.int .u64 M2.ta, .int .u64 M2.rp, .int .u32 M2.id, .int .u16 M2.op, .int .u16 M2.st, .int .u64 M2.p, .int .u32 M2.o, .int .u8 M2.r, .int .u64 M2.c, .int .u64 M2.ar, .slice co n cc]) ∧ Bts w' co n cc D2 ∧ Typ8 w' co ∧ n ≤ 200000 ∧ Below W.heap.size W w') := fun W bo hb => by
              subst hcb hD2
              exact HREQ2.out j k W bo hb
            have HRF : Hid ((z = -1 ∧ R.e = 0 ∧ idxR L (nmk j) = L.length ∧ R.s = s.row 0 (L ++ [⟨nmk j, ⟨0, 0, 0, k⟩, 255⟩])) ∨ (0 ≤ z ∧ R.e = 11 ∧ idxR L (nmk j) < L.length ∧ R.s = s)) := by
              subst hD2 hcb
              rcases HZ.out with ⟨h1, h2⟩ | ⟨h1, h2⟩
              · rw [do_exists HB.out.na.l0 (by rw [nmk_len]; omega) (by rw [nmk_len]; omega) h1] at hR
                exact .inr ⟨by omega, by rw [← hR]; rfl, h1, by rw [← hR]; rfl⟩
              · rw [HB.out.na.enter h1 (c := ⟨0, 0, 0, k⟩) rfl ⟨by show 0 ≤ _; omega, by show 0 ≤ _; omega, by show 0 ≤ _; omega, by show k ≤ _; have := HK.out; omega⟩] at hR
                exact .inl ⟨h2, by rw [← hR]; rfl, h1, by rw [← hR]; rfl⟩
            have HNA := hide HB.out.na
            have HSa := hide HB.out.sr
            have HXa := hide HB.out.sv
            have HRa := hide HB.out.rt
            have HOa : Hid (OwnN wr w3.heap.size (.slice ao L.length cap) L) := HB.out.row
            clear hR hsv hcb hD2 HB3 HB
            obtain ⟨V0, rfl⟩ : ∃ x, x = wr := ⟨wr, rfl⟩
            go_upto_region 25 with fail
            go_cut [14] from 81 to 89 (fun vv wx => ∃ g co n cc A2, vv = .pointer (some ⟨g, 0, none⟩) ∧ Got w3 V0 A2 1 ws rr R M2 D2 g co n cc A2 wx)
            case first =>
              have bb : Below V0.heap.size V0 V0.drew := (Below.refl _ _).drew
              have HRd := hide (CBI.dr HRa.out)
              have HXd := hide (CBI.dr HRa.out)
              have Ed := hide (eight HRd.out HXd.out)
              have Eda := hide (eight (CBI.dr (HRa.out.grow (below_alloc V0 (.cells #[.int .u64 0, .int .u64 0, .int .u32 0, .int .u16 0, .int .u16 0, .int .u64 0, .int .u32 0, .int .u8 0, .int .u64 0, .int .u64 0, .slice none 0 0] 55)))) (CBI.dr (HRa.out.grow (below_alloc V0 (.cells #[.int .u64 0, .int .u64 0, .int .u32 0, .int .u16 0, .int .u16 0, .int .u64 0, .int .u32 0, .int .u8 0, .int .u64 0, .int .u64 0, .slice none 0 0] 55)))))
              go_region_held (fun U => U.cell? ⟨gr, 0, none⟩ = some (.int .u64 1) ∧ U.cell? ⟨gr, 1, none⟩ = some (.int .u32 0) ∧ U.cell? ⟨gr, 2, none⟩ = some (.int .u8 255) ∧ U.cell? ⟨gr, 3, none⟩ = some (.int .u64 1) ∧ U.cell? ⟨gr, 0, none⟩ = some (.int .u64 1) ∧ U.cell? ⟨gr, 1, none⟩ = some (.int .u32 0) ∧ U.cell? ⟨gr, 2, none⟩ = some (.int .u8 255) ∧ U.cell? ⟨gr, 3, none⟩ = some (.int .u64 1))
                (first | with_reducible exact Ed.out | with_reducible exact Eda.out | with_reducible exact E1.out | with_reducible exact E1a.out | with_reducible exact E3.out | with_reducible exact E3a.out | with_reducible exact E5.out | with_reducible exact E5a.out | with_reducible exact E5b.out | with_reducible exact HE6.out)
                (first
                  | (go_at_call 23; refine (HENCa.out _).mono ?_; rintro e W1 ⟨ge, rfl, BE, be⟩
                     have bb1 : Below V0.heap.size V0 W1 := below_one (by go_grown) be
                     have hs1 := bb1.size
                     have HBE := hide BE
                     have HR1 := hide (HRa.out.grow bb1)
                     have HX1 := hide (HRa.out.grow bb1)
                     have E1 := hide (eight HR1.out HX1.out)
                     have E1a := hide (eight (HR1.out.grow (below_alloc W1 (.cells #[.int .u64 0, .int .u64 0, .int .u32 0, .int .u16 0, .int .u16 0, .int .u64 0, .int .u32 0, .int .u8 0, .int .u64 0, .int .u64 0, .slice none 0 0] 55))) (HX1.out.grow (below_alloc W1 (.cells #[.int .u64 0, .int .u64 0, .int .u32 0, .int .u16 0, .int .u16 0, .int .u64 0, .int .u32 0, .int .u8 0, .int .u64 0, .int .u64 0, .slice none 0 0] 55)))))
                  | (go_at_call 22; refine (HREQa.out _ _ (HBE.out.carry (by go_grown))).mono ?_; rintro e W3 ⟨qo, qn, qc, rfl, B3, T3, hn3, be3⟩
                     have bb3 : Below V0.heap.size V0 W3 := below_one (by go_grown) be3
                     have hs3 := bb3.size
                     have HB3 := hide B3
                     have HT3 := hide T3
                     have HN3 := hide hn3
                     have HR3 := hide (HRa.out.grow bb3)
                     have HX3 := hide (HRa.out.grow bb3)
                     have E3 := hide (eight HR3.out HX3.out)
                     have E3a := hide (eight (HR3.out.grow (below_alloc W3 (.cells #[.int .u64 0, .int .u64 0, .int .u32 0, .int .u16 0, .int .u16 0, .int .u64 0, .int .u32 0, .int .u8 0, .int .u64 0, .int .u64 0, .slice none 0 0] 55))) (HX3.out.grow (below_alloc W3 (.cells #[.int .u64 0, .int .u64 0, .int .u32 0, .int .u16 0, .int .u16 0, .int .u64 0, .int .u32 0, .int .u8 0, .int .u64 0, .int .u64 0, .slice none 0 0] 55))))
                     clear B3 T3 hn3)
                  | (go_at_call 17; refine (HSVa.out _ _ _ qo qn qc (HSa.out.grow (by go_grown)) (HXa.out.grow (by go_grown)) (HB3.out.carry (by go_grown)) HN3.out (HT3.out.grow (by go_grown))).mono ?_; rintro e W5 ⟨m3, co, n, cc, A2, rfl, hm3, B5, T5, S5, X5, K5, F5⟩
                     have KV : Kh V0 W5 := (below_kh (by go_grown)).trans K5
                     have HKV := hide KV
                     have HM3 := hide hm3
                     have HB5 := hide B5
                     have HT5 := hide T5
                     have HS5 := hide S5
                     have HX5' := hide X5
                     have HR5 := hide (HRa.out.kh KV)
                     have HX5 := hide (HRa.out.kh KV)
                     have E5 := hide (eight HR5.out HX5.out)
                     have E5a := hide (eight (HR5.out.grow (below_alloc W5 (.cells #[.int .u64 0, .int .u64 0, .int .u32 0, .int .u16 0, .int .u16 0, .int .u64 0, .int .u32 0, .int .u8 0, .int .u64 0, .int .u64 0, .slice none 0 0] 55))) (HX5.out.grow (below_alloc W5 (.cells #[.int .u64 0, .int .u64 0, .int .u32 0, .int .u16 0, .int .u16 0, .int .u64 0, .int .u32 0, .int .u8 0, .int .u64 0, .int .u64 0, .slice none 0 0] 55))))
                     have E5b := hide (eight (HR5.out.grow (below_alloc W5 (.cells #[.int .u64 m3.ta, .int .u64 m3.rp, .int .u32 m3.id, .int .u16 m3.op, .int .u16 m3.st, .int .u64 m3.p, .int .u32 m3.o, .int .u8 m3.r, .int .u64 m3.c, .int .u64 m3.ar, .slice co n cc] 55))) (HX5.out.grow (below_alloc W5 (.cells #[.int .u64 m3.ta, .int .u64 m3.rp, .int .u32 m3.id, .int .u16 m3.op, .int .u16 m3.st, .int .u64 m3.p, .int .u32 m3.o, .int .u8 m3.r, .int .u64 m3.c, .int .u64 m3.ar, .slice co n cc] 55))))
                     (first
                      | (have M0 : MB W5 V0.heap.size Msg.zero (.slice none 0 0) := by with_reducible exact MB.kh (MB.grow (MB.grow (MB.dr (mbz_new V0)) be) be3) K5
                         have hge : V0.heap.size ≤ V0.heap.size := Nat.le_refl _
                         have HV := hide M0
                         have HGE := hide hge
                         obtain ⟨z0, z1, z2, z3, z4, z5, z6, z7, z8, z9, z10⟩ := M0.all
                         have x0 := M0.z 0
                         have x1 := M0.z 1
                         have x2 := M0.z 2
                         have x3 := M0.z 3
                         have x4 := M0.z 4
                         have x5 := M0.z 5
                         have x6 := M0.z 6
                         have x7 := M0.z 7
                         have x8 := M0.z 8
                         have x9 := M0.z 9
                         have x10 := M0.z 10
                         have HE6 := hide (eight_lay M0 m3 (.slice co n cc) HR5.out HX5.out)
                         unfold lay11 at HE6
                         clear M0)
                      | (have M0 : MB W5 W1.heap.size Msg.zero (.slice none 0 0) := by with_reducible exact MB.kh (MB.grow (mbz_new W1) be3) K5
                         have hge : V0.heap.size ≤ W1.heap.size := bb1.size
                         have HV := hide M0
                         have HGE := hide hge
                         obtain ⟨z0, z1, z2, z3, z4, z5, z6, z7, z8, z9, z10⟩ := M0.all
                         have x0 := M0.z 0
                         have x1 := M0.z 1
                         have x2 := M0.z 2
                         have x3 := M0.z 3
                         have x4 := M0.z 4
                         have x5 := M0.z 5
                         have x6 := M0.z 6
                         have x7 := M0.z 7
                         have x8 := M0.z 8
                         have x9 := M0.z 9
                         have x10 := M0.z 10
                         have HE6 := hide (eight_lay M0 m3 (.slice co n cc) HR5.out HX5.out)
                         unfold lay11 at HE6
                         clear M0)
                      | (have M0 : MB W5 W3.heap.size Msg.zero (.slice none 0 0) := by with_reducible exact MB.kh (mbz_new W3) K5
                         have hge : V0.heap.size ≤ W3.heap.size := bb3.size
                         have HV := hide M0
                         have HGE := hide hge
                         obtain ⟨z0, z1, z2, z3, z4, z5, z6, z7, z8, z9, z10⟩ := M0.all
                         have x0 := M0.z 0
                         have x1 := M0.z 1
                         have x2 := M0.z 2
                         have x3 := M0.z 3
                         have x4 := M0.z 4
                         have x5 := M0.z 5
                         have x6 := M0.z 6
                         have x7 := M0.z 7
                         have x8 := M0.z 8
                         have x9 := M0.z 9
                         have x10 := M0.z 10
                         have HE6 := hide (eight_lay M0 m3 (.slice co n cc) HR5.out HX5.out)
                         unfold lay11 at HE6
                         clear M0)
                      | skip)
                     clear hm3 B5 T5 S5 X5 K5 F5 KV))
              all_goals go_wp2_with fail
              all_goals go_meet
              all_goals first
                | with_reducible exact ⟨_, _, _, _, _, rfl, Got.new HM3.out HB5.out HT5.out HS5.out HX5'.out HKV.out⟩
                | (have G := Got.old (A := A2) (w := V0) HM3.out HB5.out HT5.out HS5.out HX5'.out HKV.out HV.out HGE.out (HXa.out.bel.size)
                   unfold lay11 at G
                   with_reducible exact ⟨_, _, _, _, _, rfl, G⟩)
            case rest =>
              obtain ⟨V8, rfl⟩ : ∃ x, x = wc := ⟨wc, rfl⟩
              obtain ⟨gc2, coc, nc2, ccc, A6, rfl, Gc⟩ := hcut
              have HR8 := hide (HRa.out.kh Gc.kh)
              have HS8 := hide Gc.sr
              have hx8 := Gc.sv
              have HO8 : Hid (OwnN V8 w3.heap.size (.slice ao L.length cap) L) := owns_kh HOa.out Gc.kh str_odd3
              have e1 : V8.cell? ⟨gc2, 4, none⟩ = some (.int .u16 (R.e : Int)) := by rw [Gc.mb.all.2.2.2.2.1, rpl_st]
              clear Gc HRa HSa HXa HOa HSVa HENCa HREQa
              rcases HRF.out with ⟨hz, he, hx, hs⟩ | ⟨hz, he, hx, hs⟩
              · rw [he] at e1
                rw [hs] at hx8
                have HX8 := hide hx8
                subst hz
                obtain ⟨v9, W9, hr, ho, hf⟩ := app_name ⟨nmk j, ⟨0, 0, 0, k⟩, 255⟩ HO8.out (by have := HLN.out; have := HL10.out; omega) HX8.out.bel.size
                rw [HLN.out] at hr
                have HRN := hide hr
                have HNB : Hid (Nb w3 W9 A6 rr gr ws _ v9 (L ++ [⟨nmk j, ⟨0, 0, 0, k⟩, 255⟩]) (i + 1)) := Nb.app (HNA.out.snoc HJ.out _ hx) HS8.out HX8.out HR8.out HO8.out hf ho
                obtain ⟨c9, hlk⟩ := HNB.out.na.look (ws := ws) (j := j) (by rw [idx_snoc hx rfl]; simp)
                clear hr ho hf hx8 HS8 HX8 HR8 HO8 hx hs he
                have HW := hide (HSV1.out w3 HG3.out _ _ (i + 1) HNB.out.na (by have := HIN.out; have := HN.out; omega) _ _ hlk rfl)
                clear hlk
                have r0 := HNB.out.rt.c0
                have r1 := HNB.out.rt.c1
                have r2 := HNB.out.rt.c2
                have r3 := HNB.out.rt.c3
                go_wp2_with (at_builtin; refine wpList_append_run rfl _ _ _ rfl _ _ _ _ rfl rfl HRN.out ?_)
                refine (HREQ1.out j _).mono ?_; rintro e W3 ⟨qo, qn, qc, rfl, B3, T3, hn3, b3⟩
                have HB1 := hide (HNB.out.grow b3)
                have HBq := hide B3
                have HTq := hide T3
                have HNq := hide hn3
                clear B3 T3 hn3 b3 r0 r1 r2 r3 HNB
                go_wp2_with fail
                refine (HW.out _ _ _ qo qn qc HB1.out.sr HB1.out.sv HBq.out HNq.out HTq.out).mono ?_; rintro e W5 ⟨d0, d1, d2, d3, d5, d6, d7, d8, d9, d10, d11, d12, A7, rfl, S7, X7, K7⟩
                have HNC := hide (HB1.out.kh K7 S7 X7)
                have hfld := fld4 d0 d1 d2 d3 0 d5 d6 d7 d8 d9 d10 d11 d12
                clear S7 X7 K7
                go_wp2_with fail
                go_roundg g1
                case measure => have := HIN.out; have := HI.out; omega
                case rel => exact ⟨i + 1, A7, _, _, by have := HI.out; omega, by go_num, HNC.out⟩
              · rw [he] at e1
                rw [hs] at hx8
                have hz1 : ¬ z < 0 := by omega
                have HNB : Hid (Nb w3 V8 A6 rr gr ws s (.slice ao m cap) L (i + 1)) := ⟨HNA.out.le (Nat.le_succ i), HS8.out, hx8, HR8.out, by rw [← HLN.out]; exact HO8.out⟩
                obtain ⟨c9, hlk⟩ := HNB.out.na.look (ws := ws) (j := j) hx
                clear hx8 HS8 HR8 HO8 hx hs he
                have HW := hide (HSV1.out w3 HG3.out _ _ (i + 1) HNB.out.na (by have := HIN.out; have := HN.out; omega) _ _ hlk rfl)
                clear hlk
                have r0 := HNB.out.rt.c0
                have r1 := HNB.out.rt.c1
                have r2 := HNB.out.rt.c2
                have r3 := HNB.out.rt.c3
                go_wp2_with fail
                refine (HREQ1.out j _).mono ?_; rintro e W3 ⟨qo, qn, qc, rfl, B3, T3, hn3, b3⟩
                have HB1 := hide (HNB.out.grow b3)
                have HBq := hide B3
                have HTq := hide T3
                have HNq := hide hn3
                clear B3 T3 hn3 b3 r0 r1 r2 r3 HNB
                go_wp2_with fail
                refine (HW.out _ _ _ qo qn qc HB1.out.sr HB1.out.sv HBq.out HNq.out HTq.out).mono ?_; rintro e W5 ⟨d0, d1, d2, d3, d5, d6, d7, d8, d9, d10, d11, d12, A7, rfl, S7, X7, K7⟩
                have HNC := hide (HB1.out.kh K7 S7 X7)
                have hfld := fld4 d0 d1 d2 d3 0 d5 d6 d7 d8 d9 d10 d11 d12
                clear S7 X7 K7
                go_wp2_with fail
                go_roundg g1
                case measure => have := HIN.out; have := HI.out; omega
                case rel => exact ⟨i + 1, A7, _, _, by have := HI.out; omega, by go_num, HNC.out⟩
end
end Go.Proofs.YtlmnnjibggdboaaGreatDoor
