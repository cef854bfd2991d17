/-
  The walk of MailboxScript.
-/
import Derived.Test.YtibdhjohjkdgdaaDoorMOut
import Derived.Test.YtibdhjohjkdgdaaDoorYTill
import Derived.Deep.RegionLaw
namespace Go.Proofs.YtibdhjohjkdgdaaDoor
open Go.RowKit Go.Conc
theorem Tryd.infoRR : (Tryd.prog.info? 41).map (fun i => (i.zero, i.size, i.bytes)) = some (some (.slice none 0 0), 1, 24) := by kernel_rfl
theorem make_rows (w : World) : (Instr.makeSlice 27 (.int .i64 2) (.int .i64 2)).run Tryd.prog w = .ok (.slice (some ⟨w.heap.size, 0, none⟩) 2 2) (w.alloc (rrO (.slice none 0 0) (.slice none 0 0))) := by
  obtain ⟨i0, hi, hz0, hz1, hz2⟩ := info_parts Tryd.infoRR
  have h := run_make (P := Tryd.prog) w 27 41 i0 _ Tryd.underlying27 hi hz0 .i64 .i64 (2 : Int) (2 : Int) (by omega) (Int.le_refl _) (by rw [hz2]; omega) (by omega)
  rw [h, hz1, show madeCells (Value.slice none 0 0).cells (Int.toNat 2 * 1) = #[.slice none 0 0, .slice none 0 0] from by kernel_rfl]
  rfl
theorem Ac.at.all {w w' : World} {a : Addr} {x : Ac} (h : Ac.at w a x) (b : Below w.heap.size w w') : (w'.cell? a = some (.int .u8 (x.o : Nat)) ∧ w'.cell? { block := a.block, off := a.off + 1 } = some (.int .u64 x.m.ta) ∧ w'.cell? { block := a.block, off := a.off + 2 } = some (.int .u64 x.m.rp) ∧ w'.cell? { block := a.block, off := a.off + 3 } = some (.int .u32 x.m.id) ∧ w'.cell? { block := a.block, off := a.off + 4 } = some (.int .u16 x.m.op) ∧ w'.cell? { block := a.block, off := a.off + 5 } = some (.int .u16 x.m.st) ∧ w'.cell? { block := a.block, off := a.off + 6 } = some (.int .u64 x.m.p) ∧ w'.cell? { block := a.block, off := a.off + 7 } = some (.int .u32 x.m.o) ∧ w'.cell? { block := a.block, off := a.off + 8 } = some (.int .u8 x.m.r) ∧ w'.cell? { block := a.block, off := a.off + 9 } = some (.int .u64 x.m.c) ∧ w'.cell? { block := a.block, off := a.off + 10 } = some (.int .u64 x.m.ar) ∧ w'.cell? { block := a.block, off := a.off + 11 } = some (.slice x.m.so x.m.sn x.m.sc)) := by
  obtain ⟨_, _, h2, h3, h4, h5, h6, h7, h8, h9, h10, h11, h12, h13⟩ := h.carry b
  rw [addS _ 0] at h3
  rw [addS _ 1] at h4
  rw [addS _ 2] at h5
  rw [addS _ 3] at h6
  rw [addS _ 4] at h7
  rw [addS _ 5] at h8
  rw [addS _ 6] at h9
  rw [addS _ 7] at h10
  rw [addS _ 8] at h11
  rw [addS _ 9] at h12
  rw [addS _ 10] at h13
  exact ⟨h2, h3, h4, h5, h6, h7, h8, h9, h10, h11, h12, h13⟩
def RnRel (w : World) (b cu co N rr n gk : Nat) (vi : Value) (wr : World) : Prop :=
  ∃ (i : Nat) (a0 : Option Addr) (n0 c0 : Nat) (R0 : List Ms) (a1 : Option Addr) (n1 c1 : Nat) (R1 : List Ms), i + gk = n ∧ vi = .int .i64 (i : Int) ∧ Sc w wr b cu co N rr (R0.map Ms.nm) (R1.map Ms.nm) a0 n0 c0 R0 a1 n1 c1 R1
set_option maxRecDepth 20000 in
set_option maxHeartbeats 25600000 in
theorem walk_script (r : Int) (ao : Option Addr) (n cap : Nat) (xs : List Ac) (w : World) (hr : (Lit.int .i8 r).wf = true) (hA : Acts w ao n cap xs) (hs : ∀ y ∈ xs, y.sn ≤ 140737488351232) (hg : Glob w) :
    Calls Tryd.prog 3 #[.int .i8 r, .slice ao n cap] w fun e w' => e = .returned (.bool true) ∧ Below w.heap.size w w' := by
  have HG := hide hg
  have HA := hide hA
  have HSZ : Hid (∀ y ∈ xs, y.m.sn ≤ 140737488355328) := fun y hy => by have := hs y hy; unfold Ac.sn at this; omega
  have HN := hide hA.1
  have hnc := hA.2.1
  have hcm : cap ≤ 9223372036854775807 := hA.2.2.1
  have hrb := bounds_i8 hr
  obtain ⟨N, hN⟩ : ∃ N, roomF r = N := ⟨_, rfl⟩
  have HRN := hide hN
  have hN64 : N ≤ 64 := hN ▸ roomF_le r
  have hmm : max 0 (min r 64) = (N : Int) := by rw [← hN]; unfold roomF; omega
  have hmk := make_rows
  clear hg hA hs hN hr
  go_enter Tryd.func3, Tryd.ntmps3
  go_wp2_with fail
  refine (awake_any _ HG.out).mono ?_; rintro e w1 ⟨rfl, b1⟩
  have HB1 := hide b1
  clear b1
  go_wp2_with fail
  refine (st_of r N HRN.out _).mono ?_; rintro e w2 ⟨b, cu, co, rfl, x2, b2, h1, h2, h3⟩
  have HX2 := hide x2
  have HB2 := hide (below_one HB1.out b2)
  have HL2 : Hid (w.heap.size ≤ b ∧ w.heap.size ≤ cu ∧ w.heap.size ≤ co) := ⟨Nat.le_trans HB1.out.size h1, Nat.le_trans HB1.out.size h2, Nat.le_trans HB1.out.size h3⟩
  clear x2 b2 h1 h2 h3
  have b3 := below_alloc w2 (rrO (.slice none 0 0) (.slice none 0 0))
  have HSC : Hid (Sc w (w2.alloc (rrO (.slice none 0 0) (.slice none 0 0))) b cu co N w2.heap.size [] [] none 0 0 [] none 0 0 []) := ⟨HX2.out.grow b3, rw_new HB2.out, below_one HB2.out b3, HL2.out⟩
  clear b3
  go_wp2
  obtain ⟨rr, hrr⟩ : ∃ rr, w2.heap.size = rr := ⟨_, rfl⟩
  rw [hrr] at HSC
  rw [hrr]
  clear hmk hrb hmm
  go_loopg [36] n (fun gk vi wq => RnRel w b cu co N rr n gk vi wq)
  case atStart => exact ⟨0, none, 0, 0, [], none, 0, 0, [], by omega, rfl, HSC.out⟩
  case round =>
    obtain ⟨i, a0, n0, c0, R0, a1, n1, c1, R1, hi, rfl, sc⟩ := hrel
    have HI := hide hi
    have HS := hide sc
    clear sc hi hrr
    cases gk with
    | zero =>
      obtain rfl : i = n := by have := HI.out; omega
      have hlt : ¬ ((i : Int) < (i : Int)) := by omega
      go_wp2
      go_ret
      exact ⟨rfl, HS.out.bel⟩
    | succ g1 =>
      have hin : i < n := by have := HI.out; omega
      have hlt : (i : Int) < (n : Int) := by omega
      obtain ⟨ad, hao⟩ : ∃ ad, ao = some ad := by
        cases ao with
        | none => have := HA.out.2.2.2.1 rfl; omega
        | some ad => exact ⟨ad, rfl⟩
      subst hao
      have hat := HA.out.2.2.2.2 ad rfl i hin
      obtain ⟨x, hx⟩ : ∃ x, xs.getD i Ac.zero = x := ⟨_, rfl⟩
      rw [hx] at hat
      have hmem : x ∈ xs := by rw [← hx, List.getD_eq_getElem?_getD, List.getElem?_eq_getElem (by rw [← HN.out]; exact hin)]; exact List.getElem_mem _
      have HPX : Hid (x.m.has w ∧ x.m.sn ≤ 140737488355328) := ⟨hat.2.1, HSZ.out x hmem⟩
      have ho : x.o ≤ 255 := hat.1
      obtain ⟨q0, q1, q2, q3, q4, q5, q6, q7, q8, q9, q10, q11⟩ := hat.all HS.out.bel
      have bY := below_alloc wr (.cells #[.int .u8 (x.o : Nat), .int .u64 x.m.ta, .int .u64 x.m.rp, .int .u32 x.m.id, .int .u16 x.m.op, .int .u16 x.m.st, .int .u64 x.m.p, .int .u32 x.m.o, .int .u8 x.m.r, .int .u64 x.m.c, .int .u64 x.m.ar, .slice x.m.so x.m.sn x.m.sc] 37)
      obtain ⟨Y, hY⟩ : ∃ Y, wr.alloc (.cells #[.int .u8 (x.o : Nat), .int .u64 x.m.ta, .int .u64 x.m.rp, .int .u32 x.m.id, .int .u16 x.m.op, .int .u16 x.m.st, .int .u64 x.m.p, .int .u32 x.m.o, .int .u8 x.m.r, .int .u64 x.m.c, .int .u64 x.m.ar, .slice x.m.so x.m.sn x.m.sc] 37) = Y := ⟨_, rfl⟩
      rw [hY] at bY
      have HBA : Hid (Y.heap[wr.heap.size]? = some (actO x)) := by show _ = _; rw [← hY]; exact heap_alloc_new _ _
      have HSY := hide (HS.out.grow bY)
      have f0 := HSY.out.rw.s0
      have f1 := HSY.out.rw.s1
      obtain ⟨y0, y1, y2, y3, y4, y5, y6, y7, y8, y9, y10, y11⟩ : Y.cell? ⟨wr.heap.size, 0, none⟩ = some (.int .u8 (x.o : Nat)) ∧ Y.cell? ⟨wr.heap.size, 1, none⟩ = some (.int .u64 x.m.ta) ∧ Y.cell? ⟨wr.heap.size, 2, none⟩ = some (.int .u64 x.m.rp) ∧ Y.cell? ⟨wr.heap.size, 3, none⟩ = some (.int .u32 x.m.id) ∧ Y.cell? ⟨wr.heap.size, 4, none⟩ = some (.int .u16 x.m.op) ∧ Y.cell? ⟨wr.heap.size, 5, none⟩ = some (.int .u16 x.m.st) ∧ Y.cell? ⟨wr.heap.size, 6, none⟩ = some (.int .u64 x.m.p) ∧ Y.cell? ⟨wr.heap.size, 7, none⟩ = some (.int .u32 x.m.o) ∧ Y.cell? ⟨wr.heap.size, 8, none⟩ = some (.int .u8 x.m.r) ∧ Y.cell? ⟨wr.heap.size, 9, none⟩ = some (.int .u64 x.m.c) ∧ Y.cell? ⟨wr.heap.size, 10, none⟩ = some (.int .u64 x.m.ar) ∧ Y.cell? ⟨wr.heap.size, 11, none⟩ = some (.slice x.m.so x.m.sn x.m.sc) := by
        have h := HBA.out
        unfold actO at h
        refine ⟨?_, ?_, ?_, ?_, ?_, ?_, ?_, ?_, ?_, ?_, ?_, ?_⟩ <;> (rw [cell_of_row Y _ _ _ _ _ h]; rfl)
      obtain ⟨k, hk⟩ : ∃ k, x.o / 4 % 2 = k := ⟨_, rfl⟩
      have hk1 : (x.o : Int) / 4 % 2 = (k : Int) := by omega
      have hk2 : k ≤ 1 := by omega
      obtain ⟨d, hd⟩ : ∃ d, x.o % 4 = d := ⟨_, rfl⟩
      have hd1 : (x.o : Int) % 4 = (d : Int) := by omega
      have hd4 : d < 4 := by omega
      clear hat hx hmem bY hk hd ho
      by_cases hd01 : d ≤ 1
      · obtain ⟨qb, hqb⟩ : ∃ qb, ((d : Int) == 0) = qb := ⟨_, rfl⟩
        go_upto_if 99 with fail
        go_cut [99] from 100 to 101 (fun v wx => v = .bool true ∧ Y = wx)
        case first =>
          cases qb with
          | true =>
            go_wp2_with fail
            go_meet
            exact ⟨rfl, rfl⟩
          | false =>
            have hq1 : ((d : Int) == 1) = true := by
              rw [beq_iff_eq]
              have := beq_eq_false_iff_ne.1 hqb
              omega
            go_wp2_with fail
            go_meet
            exact ⟨rfl, rfl⟩
        case rest =>
          obtain ⟨rfl, rfl⟩ := hcut
          clear hqb hd1
          obtain rfl | rfl : k = 0 ∨ k = 1 := by omega
          · by_cases hN : N ≤ n0
            · as_aux_lemma =>
                have hful : (N : Int) ≤ (n0 : Int) := by omega
                go_wp2_with fail
                refine (stU_full x.m _ HSY.out.st (Bts.carry HPX.out.1 HSY.out.bel) HPX.out.2 (by rw [List.length_map]; have := HSY.out.rw.t0.len; omega)).mono ?_; rintro e w3 ⟨rfl, x3, f3⟩
                have HS3 := hide (HSY.out.deed x3 f3)
                have e0 := HS3.out.rw.s0
                unfold errV
                clear x3 f3
                go_wp2_with fail
                refine (number_errno 5 _ (HG.out.grow HS3.out.bel HG.out.lt)).mono ?_; rintro e w4 ⟨rfl, b4⟩
                have HS4 := hide (HS3.out.grow b4)
                clear b4
                go_wp2
                go_roundg g1
                case measure => have := HI.out; omega
                case rel => exact ⟨i + 1, a0, n0, c0, R0, a1, n1, c1, R1, by have := HI.out; omega, by go_num, HS4.out⟩
            · have hful : ¬ ((N : Int) ≤ (n0 : Int)) := by omega
              go_wp2_with fail
              refine (stU_room x.m _ HSY.out.st (Bts.carry HPX.out.1 HSY.out.bel) HPX.out.2 (by rw [List.length_map]; have := HSY.out.rw.t0.len; omega)).mono ?_; rintro e w3 ⟨rfl, x3, f3⟩
              have HS3 : Hid (Sc w w3 b cu co N rr ((R0 ++ [x.m]).map Ms.nm) (R1.map Ms.nm) a0 n0 c0 R0 a1 n1 c1 R1) := by
                have h := HSY.out.deed x3 f3
                rw [show R0.map Ms.nm ++ [x.m.nm] = (R0 ++ [x.m]).map Ms.nm from by rw [List.map_append]; rfl] at h
                exact h
              have e0 := HS3.out.rw.s0
              have hba : w3.heap[wr.heap.size]? = some (actO x) := HSY.out.st.other f3 HBA.out
              obtain ⟨m0, m1, m2, m3, m4, m5, m6, m7, m8, m9, m10, m11⟩ : w3.cell? ⟨wr.heap.size, 0, none⟩ = some (.int .u8 (x.o : Nat)) ∧ w3.cell? ⟨wr.heap.size, 1, none⟩ = some (.int .u64 x.m.ta) ∧ w3.cell? ⟨wr.heap.size, 2, none⟩ = some (.int .u64 x.m.rp) ∧ w3.cell? ⟨wr.heap.size, 3, none⟩ = some (.int .u32 x.m.id) ∧ w3.cell? ⟨wr.heap.size, 4, none⟩ = some (.int .u16 x.m.op) ∧ w3.cell? ⟨wr.heap.size, 5, none⟩ = some (.int .u16 x.m.st) ∧ w3.cell? ⟨wr.heap.size, 6, none⟩ = some (.int .u64 x.m.p) ∧ w3.cell? ⟨wr.heap.size, 7, none⟩ = some (.int .u32 x.m.o) ∧ w3.cell? ⟨wr.heap.size, 8, none⟩ = some (.int .u8 x.m.r) ∧ w3.cell? ⟨wr.heap.size, 9, none⟩ = some (.int .u64 x.m.c) ∧ w3.cell? ⟨wr.heap.size, 10, none⟩ = some (.int .u64 x.m.ar) ∧ w3.cell? ⟨wr.heap.size, 11, none⟩ = some (.slice x.m.so x.m.sn x.m.sc) := by
                unfold actO at hba
                refine ⟨?_, ?_, ?_, ?_, ?_, ?_, ?_, ?_, ?_, ?_, ?_, ?_⟩ <;> (rw [cell_of_row w3 _ _ _ _ _ hba]; rfl)
              obtain ⟨bo, dd, w5, hr5, c5, z5, s5⟩ := (HS3.out.grow (below_d w3 1)).app0 x.m HPX.out (by omega)
              have e1 := (HS3.out.grow (below_alloc w3 (.cells #[.int .u64 x.m.ta, .int .u64 x.m.rp, .int .u32 x.m.id, .int .u16 x.m.op, .int .u16 x.m.st, .int .u64 x.m.p, .int .u32 x.m.o, .int .u8 x.m.r, .int .u64 x.m.c, .int .u64 x.m.ar, .slice x.m.so x.m.sn x.m.sc] 35))).rw.s0
              have HR5 := hide hr5
              have HS5 := hide s5
              clear x3 f3 hba hr5 s5 y0 y1 y2 y3 y4 y5 y6 y7 y8 y9 y10 y11 q0 q1 q2 q3 q4 q5 q6 q7 q8 q9 q10 q11 f0 f1
              go_wp2_with fail
              go_cut [] from 118 to 128 (fun wx => Sc w wx b cu co N rr ((R0 ++ [x.m]).map Ms.nm) (R1.map Ms.nm) bo (n0 + 1) dd (R0 ++ [x.m]) a1 n1 c1 R1)
              case first =>
                go_region_law (refine step_append_run (by rfl) _ _ _ (by rfl) _ _ _ _ (by rfl) (by rfl) HR5.out ?_)
                all_goals go_wp2_with fail
                all_goals go_meet
                all_goals exact HS5.out
              case rest =>
                have HSC := hide hcut
                clear hcut e0 e1 c5 z5 m0 m1 m2 m3 m4 m5 m6 m7 m8 m9 m10 m11
                as_aux_lemma =>
                  go_wp2_with fail
                  refine (st_len _ HSC.out.st).mono ?_; rintro e w9 ⟨rfl, b9⟩
                  have HS9 := hide (HSC.out.grow b9)
                  have g0 := HS9.out.rw.s0
                  have g1' := HS9.out.rw.s1
                  rw [show ((List.map Ms.nm (R0 ++ [x.m])).length : Int) = ((n0 + 1 : Nat) : Int) from by rw [List.length_map, List.length_append, ← HSY.out.rw.t0.len]; rfl, show ((List.map Ms.nm R1).length : Int) = (n1 : Int) from by rw [List.length_map, ← HSY.out.rw.t1.len]]
                  clear b9
                  go_wp2
                  go_roundg g1
                  case measure => have := HI.out; omega
                  case rel => exact ⟨i + 1, bo, n0 + 1, dd, R0 ++ [x.m], a1, n1, c1, R1, by have := HI.out; omega, by go_num, HS9.out⟩
          · by_cases hN : N ≤ n1
            · as_aux_lemma =>
                have hful : (N : Int) ≤ (n1 : Int) := by omega
                go_wp2_with fail
                refine (stO_full x.m _ HSY.out.st (Bts.carry HPX.out.1 HSY.out.bel) HPX.out.2 (by rw [List.length_map]; have := HSY.out.rw.t1.len; omega)).mono ?_; rintro e w3 ⟨rfl, x3, f3⟩
                have HS3 := hide (HSY.out.deed x3 f3)
                have e0 := HS3.out.rw.s1
                unfold errV
                clear x3 f3
                go_wp2_with fail
                refine (number_errno 5 _ (HG.out.grow HS3.out.bel HG.out.lt)).mono ?_; rintro e w4 ⟨rfl, b4⟩
                have HS4 := hide (HS3.out.grow b4)
                clear b4
                go_wp2
                go_roundg g1
                case measure => have := HI.out; omega
                case rel => exact ⟨i + 1, a0, n0, c0, R0, a1, n1, c1, R1, by have := HI.out; omega, by go_num, HS4.out⟩
            · have hful : ¬ ((N : Int) ≤ (n1 : Int)) := by omega
              go_wp2_with fail
              refine (stO_room x.m _ HSY.out.st (Bts.carry HPX.out.1 HSY.out.bel) HPX.out.2 (by rw [List.length_map]; have := HSY.out.rw.t1.len; omega)).mono ?_; rintro e w3 ⟨rfl, x3, f3⟩
              have HS3 : Hid (Sc w w3 b cu co N rr (R0.map Ms.nm) ((R1 ++ [x.m]).map Ms.nm) a0 n0 c0 R0 a1 n1 c1 R1) := by
                have h := HSY.out.deed x3 f3
                rw [show R1.map Ms.nm ++ [x.m.nm] = (R1 ++ [x.m]).map Ms.nm from by rw [List.map_append]; rfl] at h
                exact h
              have e0 := HS3.out.rw.s1
              have hba : w3.heap[wr.heap.size]? = some (actO x) := HSY.out.st.other f3 HBA.out
              obtain ⟨m0, m1, m2, m3, m4, m5, m6, m7, m8, m9, m10, m11⟩ : w3.cell? ⟨wr.heap.size, 0, none⟩ = some (.int .u8 (x.o : Nat)) ∧ w3.cell? ⟨wr.heap.size, 1, none⟩ = some (.int .u64 x.m.ta) ∧ w3.cell? ⟨wr.heap.size, 2, none⟩ = some (.int .u64 x.m.rp) ∧ w3.cell? ⟨wr.heap.size, 3, none⟩ = some (.int .u32 x.m.id) ∧ w3.cell? ⟨wr.heap.size, 4, none⟩ = some (.int .u16 x.m.op) ∧ w3.cell? ⟨wr.heap.size, 5, none⟩ = some (.int .u16 x.m.st) ∧ w3.cell? ⟨wr.heap.size, 6, none⟩ = some (.int .u64 x.m.p) ∧ w3.cell? ⟨wr.heap.size, 7, none⟩ = some (.int .u32 x.m.o) ∧ w3.cell? ⟨wr.heap.size, 8, none⟩ = some (.int .u8 x.m.r) ∧ w3.cell? ⟨wr.heap.size, 9, none⟩ = some (.int .u64 x.m.c) ∧ w3.cell? ⟨wr.heap.size, 10, none⟩ = some (.int .u64 x.m.ar) ∧ w3.cell? ⟨wr.heap.size, 11, none⟩ = some (.slice x.m.so x.m.sn x.m.sc) := by
                unfold actO at hba
                refine ⟨?_, ?_, ?_, ?_, ?_, ?_, ?_, ?_, ?_, ?_, ?_, ?_⟩ <;> (rw [cell_of_row w3 _ _ _ _ _ hba]; rfl)
              obtain ⟨bo, dd, w5, hr5, c5, z5, s5⟩ := (HS3.out.grow (below_d w3 1)).app1 x.m HPX.out (by omega)
              have e1 := (HS3.out.grow (below_alloc w3 (.cells #[.int .u64 x.m.ta, .int .u64 x.m.rp, .int .u32 x.m.id, .int .u16 x.m.op, .int .u16 x.m.st, .int .u64 x.m.p, .int .u32 x.m.o, .int .u8 x.m.r, .int .u64 x.m.c, .int .u64 x.m.ar, .slice x.m.so x.m.sn x.m.sc] 35))).rw.s1
              have HR5 := hide hr5
              have HS5 := hide s5
              clear x3 f3 hba hr5 s5 y0 y1 y2 y3 y4 y5 y6 y7 y8 y9 y10 y11 q0 q1 q2 q3 q4 q5 q6 q7 q8 q9 q10 q11 f0 f1
              go_wp2_with fail
              go_cut [] from 118 to 128 (fun wx => Sc w wx b cu co N rr (R0.map Ms.nm) ((R1 ++ [x.m]).map Ms.nm) a0 n0 c0 R0 bo (n1 + 1) dd (R1 ++ [x.m]))
              case first =>
                go_region_law (refine step_append_run (by rfl) _ _ _ (by rfl) _ _ _ _ (by rfl) (by rfl) HR5.out ?_)
                all_goals go_wp2_with fail
                all_goals go_meet
                all_goals exact HS5.out
              case rest =>
                have HSC := hide hcut
                clear hcut e0 e1 c5 z5 m0 m1 m2 m3 m4 m5 m6 m7 m8 m9 m10 m11
                as_aux_lemma =>
                  go_wp2_with fail
                  refine (st_len _ HSC.out.st).mono ?_; rintro e w9 ⟨rfl, b9⟩
                  have HS9 := hide (HSC.out.grow b9)
                  have g0 := HS9.out.rw.s0
                  have g1' := HS9.out.rw.s1
                  rw [show ((List.map Ms.nm R0).length : Int) = (n0 : Int) from by rw [List.length_map, ← HSY.out.rw.t0.len], show ((List.map Ms.nm (R1 ++ [x.m])).length : Int) = ((n1 + 1 : Nat) : Int) from by rw [List.length_map, List.length_append, ← HSY.out.rw.t1.len]; rfl]
                  clear b9
                  go_wp2
                  go_roundg g1
                  case measure => have := HI.out; omega
                  case rel => exact ⟨i + 1, a0, n0, c0, R0, bo, n1 + 1, dd, R1 ++ [x.m], by have := HI.out; omega, by go_num, HS9.out⟩
      · obtain rfl | rfl : d = 2 ∨ d = 3 := by omega
        · by_cases hz0 : n0 = 0
          · by_cases hz1 : n1 = 0
            · as_aux_lemma =>
                obtain rfl : R0 = [] := List.eq_nil_of_length_eq_zero (by rw [← HSY.out.rw.t0.len]; exact hz0)
                obtain rfl : R1 = [] := List.eq_nil_of_length_eq_zero (by rw [← HSY.out.rw.t1.len]; exact hz1)
                have hz00 : (n0 : Int) = 0 := by omega
                have hz11 : (n1 : Int) = 0 := by omega
                go_wp2_with fail
                refine (st_none _ HSY.out.st).mono ?_; rintro e w3 ⟨rfl, b3⟩
                have hbz := below_alloc w3 (.cells #[.int .u64 0, .int .u64 0, .int .u32 0, .int .u16 0, .int .u16 0, .int .u64 0, .int .u32 0, .int .u8 0, .int .u64 0, .int .u64 0, .slice none 0 0] 35)
                have HBZ := hide hbz
                have HS4 := hide ((HSY.out.grow b3).grow hbz)
                have e0 := HS4.out.rw.s0
                have e1 := HS4.out.rw.s1
                clear b3 hbz y0 y1 y2 y3 y4 y5 y6 y7 y8 y9 y10 y11 q0 q1 q2 q3 q4 q5 q6 q7 q8 q9 q10 q11 f0 f1
                go_wp2_with fail
                refine (same_yes Ms.zero Ms.zero _ (bts_nil _) (bts_nil _) rfl).mono ?_; rintro e w6 ⟨rfl, b6⟩
                have HSF := hide (HS4.out.grow b6)
                clear b6
                go_wp2_with fail
                refine (st_len _ HSF.out.st).mono ?_; rintro e w9 ⟨rfl, b9⟩
                have HS9 := hide (HSF.out.grow b9)
                have g0 := HS9.out.rw.s0
                have g1' := HS9.out.rw.s1
                rw [show ((List.map Ms.nm []).length : Int) = 0 from rfl]
                clear b9
                go_wp2
                go_roundg g1
                case measure => have := HI.out; omega
                case rel => exact ⟨i + 1, a0, n0, c0, [], a1, n1, c1, [], by have := HI.out; omega, by go_num, HS9.out⟩
            · as_aux_lemma =>
                obtain rfl : R0 = [] := List.eq_nil_of_length_eq_zero (by rw [← HSY.out.rw.t0.len]; exact hz0)
                obtain ⟨y, T, hyT⟩ : ∃ y T, R1 = y :: T := by
                  cases R1 with
                  | nil => have := HSY.out.rw.t1.len; simp at this; omega
                  | cons y T => exact ⟨y, T, rfl⟩
                subst hyT
                obtain ⟨ae, hae⟩ : ∃ ae, a1 = some ae := HSY.out.rw.t1.row.there (k := 0) (by omega)
                subst hae
                obtain ⟨m0, hm0⟩ : ∃ m0, n1 - 1 = m0 := ⟨_, rfl⟩
                have HTL : Hid (T.length = m0) := by have := HSY.out.rw.t1.len; simp at this; show _ = _; omega
                have HM0 := hide hm0
                have HCP := hide HSY.out.rw.t1.row.2.1
                have hz1' : (0 : Int) < (n1 : Int) := by omega
                have hz1'' : ¬ ((n1 : Int) = 0) := by omega
                have hz00 : (n0 : Int) = 0 := by omega
                go_wp2_with fail
                refine (stO_get y.nm _ HSY.out.st).mono ?_; rintro e w3 ⟨v, rfl, E3⟩
                have HS3 : Hid (Sc w w3 b cu co N rr [] (T.map Ms.nm) a0 n0 c0 [] (some ae) n1 c1 (y :: T)) := HSY.out.deed E3.st E3.ft
                obtain ⟨Z, hZ⟩ : ∃ Z, w3.alloc (.cells #[.int .u64 v.ta, .int .u64 v.rp, .int .u32 v.id, .int .u16 v.op, .int .u16 v.st, .int .u64 v.p, .int .u32 v.o, .int .u8 v.r, .int .u64 v.c, .int .u64 v.ar, .slice v.so v.sn v.sc] 35) = Z := ⟨_, rfl⟩
                have bZ : Below w3.heap.size w3 Z := hZ ▸ below_alloc w3 _
                have hbx : BoxM Z w3.heap.size v := hZ ▸ boxM_new w3 v
                have HS4 := hide (HS3.out.grow bZ)
                have HVZ : Hid (v.has Z ∧ v.nm = y.nm) := ⟨Bts.carry E3.has bZ, E3.nm⟩
                have HBX := hide hbx
                have e0 := HS4.out.rw.s0
                have e1 := HS4.out.rw.s1
                clear E3 bZ hbx y0 y1 y2 y3 y4 y5 y6 y7 y8 y9 y10 y11 q0 q1 q2 q3 q4 q5 q6 q7 q8 q9 q10 q11 f0 f1
                go_wp2_with fail
                have HA0 : ∀ W : World, Below Z.heap.size Z W → (W.cell? ⟨w3.heap.size, 0, none⟩ = some (.int .u64 v.ta) ∧ W.cell? ⟨w3.heap.size, 1, none⟩ = some (.int .u64 v.rp) ∧ W.cell? ⟨w3.heap.size, 2, none⟩ = some (.int .u32 v.id) ∧ W.cell? ⟨w3.heap.size, 3, none⟩ = some (.int .u16 v.op) ∧ W.cell? ⟨w3.heap.size, 4, none⟩ = some (.int .u16 v.st) ∧ W.cell? ⟨w3.heap.size, 5, none⟩ = some (.int .u64 v.p) ∧ W.cell? ⟨w3.heap.size, 6, none⟩ = some (.int .u32 v.o) ∧ W.cell? ⟨w3.heap.size, 7, none⟩ = some (.int .u8 v.r) ∧ W.cell? ⟨w3.heap.size, 8, none⟩ = some (.int .u64 v.c) ∧ W.cell? ⟨w3.heap.size, 9, none⟩ = some (.int .u64 v.ar) ∧ W.cell? ⟨w3.heap.size, 10, none⟩ = some (.slice v.so v.sn v.sc)) ∧ W.cell? ⟨rr, 1, none⟩ = some (.slice (some ae) n1 c1) ∧ W.cell? ae = some (.int .u64 y.ta) ∧ W.cell? { block := ae.block, off := ae.off + 1 } = some (.int .u64 y.rp) ∧ W.cell? { block := ae.block, off := ae.off + 2 } = some (.int .u32 y.id) ∧ W.cell? { block := ae.block, off := ae.off + 3 } = some (.int .u16 y.op) ∧ W.cell? { block := ae.block, off := ae.off + 4 } = some (.int .u16 y.st) ∧ W.cell? { block := ae.block, off := ae.off + 5 } = some (.int .u64 y.p) ∧ W.cell? { block := ae.block, off := ae.off + 6 } = some (.int .u32 y.o) ∧ W.cell? { block := ae.block, off := ae.off + 7 } = some (.int .u8 y.r) ∧ W.cell? { block := ae.block, off := ae.off + 8 } = some (.int .u64 y.c) ∧ W.cell? { block := ae.block, off := ae.off + 9 } = some (.int .u64 y.ar) ∧ W.cell? { block := ae.block, off := ae.off + 10 } = some (.slice y.so y.sn y.sc) := fun W bw =>
                  ⟨(HBX.out.grow bw).all, (HS4.out.grow bw).rw.s1, lies_elem (HS4.out.grow bw).rw.t1.row 0 (by omega) y rfl ae (by rw [Nat.zero_mul, addZ])⟩
                have HAH := hide HA0
                clear HA0
                have hS : Hid ((Z.drew.cell? ⟨w3.heap.size, 0, none⟩ = some (.int .u64 v.ta) ∧ Z.drew.cell? ⟨w3.heap.size, 1, none⟩ = some (.int .u64 v.rp) ∧ Z.drew.cell? ⟨w3.heap.size, 2, none⟩ = some (.int .u32 v.id) ∧ Z.drew.cell? ⟨w3.heap.size, 3, none⟩ = some (.int .u16 v.op) ∧ Z.drew.cell? ⟨w3.heap.size, 4, none⟩ = some (.int .u16 v.st) ∧ Z.drew.cell? ⟨w3.heap.size, 5, none⟩ = some (.int .u64 v.p) ∧ Z.drew.cell? ⟨w3.heap.size, 6, none⟩ = some (.int .u32 v.o) ∧ Z.drew.cell? ⟨w3.heap.size, 7, none⟩ = some (.int .u8 v.r) ∧ Z.drew.cell? ⟨w3.heap.size, 8, none⟩ = some (.int .u64 v.c) ∧ Z.drew.cell? ⟨w3.heap.size, 9, none⟩ = some (.int .u64 v.ar) ∧ Z.drew.cell? ⟨w3.heap.size, 10, none⟩ = some (.slice v.so v.sn v.sc)) ∧ Z.drew.cell? ⟨rr, 1, none⟩ = some (.slice (some ae) n1 c1) ∧ Z.drew.cell? ae = some (.int .u64 y.ta) ∧ Z.drew.cell? { block := ae.block, off := ae.off + 1 } = some (.int .u64 y.rp) ∧ Z.drew.cell? { block := ae.block, off := ae.off + 2 } = some (.int .u32 y.id) ∧ Z.drew.cell? { block := ae.block, off := ae.off + 3 } = some (.int .u16 y.op) ∧ Z.drew.cell? { block := ae.block, off := ae.off + 4 } = some (.int .u16 y.st) ∧ Z.drew.cell? { block := ae.block, off := ae.off + 5 } = some (.int .u64 y.p) ∧ Z.drew.cell? { block := ae.block, off := ae.off + 6 } = some (.int .u32 y.o) ∧ Z.drew.cell? { block := ae.block, off := ae.off + 7 } = some (.int .u8 y.r) ∧ Z.drew.cell? { block := ae.block, off := ae.off + 8 } = some (.int .u64 y.c) ∧ Z.drew.cell? { block := ae.block, off := ae.off + 9 } = some (.int .u64 y.ar) ∧ Z.drew.cell? { block := ae.block, off := ae.off + 10 } = some (.slice y.so y.sn y.sc)) := HAH.out _ (below_d Z 1)
                have bb : Below Z.heap.size Z Z.drew := below_d Z 1
                go_region_held (fun W => (W.cell? ⟨w3.heap.size, 0, none⟩ = some (.int .u64 v.ta) ∧ W.cell? ⟨w3.heap.size, 1, none⟩ = some (.int .u64 v.rp) ∧ W.cell? ⟨w3.heap.size, 2, none⟩ = some (.int .u32 v.id) ∧ W.cell? ⟨w3.heap.size, 3, none⟩ = some (.int .u16 v.op) ∧ W.cell? ⟨w3.heap.size, 4, none⟩ = some (.int .u16 v.st) ∧ W.cell? ⟨w3.heap.size, 5, none⟩ = some (.int .u64 v.p) ∧ W.cell? ⟨w3.heap.size, 6, none⟩ = some (.int .u32 v.o) ∧ W.cell? ⟨w3.heap.size, 7, none⟩ = some (.int .u8 v.r) ∧ W.cell? ⟨w3.heap.size, 8, none⟩ = some (.int .u64 v.c) ∧ W.cell? ⟨w3.heap.size, 9, none⟩ = some (.int .u64 v.ar) ∧ W.cell? ⟨w3.heap.size, 10, none⟩ = some (.slice v.so v.sn v.sc)) ∧ W.cell? ⟨rr, 1, none⟩ = some (.slice (some ae) n1 c1) ∧ W.cell? ae = some (.int .u64 y.ta) ∧ W.cell? { block := ae.block, off := ae.off + 1 } = some (.int .u64 y.rp) ∧ W.cell? { block := ae.block, off := ae.off + 2 } = some (.int .u32 y.id) ∧ W.cell? { block := ae.block, off := ae.off + 3 } = some (.int .u16 y.op) ∧ W.cell? { block := ae.block, off := ae.off + 4 } = some (.int .u16 y.st) ∧ W.cell? { block := ae.block, off := ae.off + 5 } = some (.int .u64 y.p) ∧ W.cell? { block := ae.block, off := ae.off + 6 } = some (.int .u32 y.o) ∧ W.cell? { block := ae.block, off := ae.off + 7 } = some (.int .u8 y.r) ∧ W.cell? { block := ae.block, off := ae.off + 8 } = some (.int .u64 y.c) ∧ W.cell? { block := ae.block, off := ae.off + 9 } = some (.int .u64 y.ar) ∧ W.cell? { block := ae.block, off := ae.off + 10 } = some (.slice y.so y.sn y.sc)) (exact hS.out)
                  (first | (go_at_call 12; refine (same_yes v y _ (Bts.carry HVZ.out.1 bb) (Bts.carry (HS4.out.has (by simp)) bb) HVZ.out.2).mono ?_; rintro e w6 ⟨rfl, b6⟩; have bb := below_one bb b6; have hS : Hid ((w6.cell? ⟨w3.heap.size, 0, none⟩ = some (.int .u64 v.ta) ∧ w6.cell? ⟨w3.heap.size, 1, none⟩ = some (.int .u64 v.rp) ∧ w6.cell? ⟨w3.heap.size, 2, none⟩ = some (.int .u32 v.id) ∧ w6.cell? ⟨w3.heap.size, 3, none⟩ = some (.int .u16 v.op) ∧ w6.cell? ⟨w3.heap.size, 4, none⟩ = some (.int .u16 v.st) ∧ w6.cell? ⟨w3.heap.size, 5, none⟩ = some (.int .u64 v.p) ∧ w6.cell? ⟨w3.heap.size, 6, none⟩ = some (.int .u32 v.o) ∧ w6.cell? ⟨w3.heap.size, 7, none⟩ = some (.int .u8 v.r) ∧ w6.cell? ⟨w3.heap.size, 8, none⟩ = some (.int .u64 v.c) ∧ w6.cell? ⟨w3.heap.size, 9, none⟩ = some (.int .u64 v.ar) ∧ w6.cell? ⟨w3.heap.size, 10, none⟩ = some (.slice v.so v.sn v.sc)) ∧ w6.cell? ⟨rr, 1, none⟩ = some (.slice (some ae) n1 c1) ∧ w6.cell? ae = some (.int .u64 y.ta) ∧ w6.cell? { block := ae.block, off := ae.off + 1 } = some (.int .u64 y.rp) ∧ w6.cell? { block := ae.block, off := ae.off + 2 } = some (.int .u32 y.id) ∧ w6.cell? { block := ae.block, off := ae.off + 3 } = some (.int .u16 y.op) ∧ w6.cell? { block := ae.block, off := ae.off + 4 } = some (.int .u16 y.st) ∧ w6.cell? { block := ae.block, off := ae.off + 5 } = some (.int .u64 y.p) ∧ w6.cell? { block := ae.block, off := ae.off + 6 } = some (.int .u32 y.o) ∧ w6.cell? { block := ae.block, off := ae.off + 7 } = some (.int .u8 y.r) ∧ w6.cell? { block := ae.block, off := ae.off + 8 } = some (.int .u64 y.c) ∧ w6.cell? { block := ae.block, off := ae.off + 9 } = some (.int .u64 y.ar) ∧ w6.cell? { block := ae.block, off := ae.off + 10 } = some (.slice y.so y.sn y.sc)) := HAH.out _ bb; have hbb := hide bb; clear b6))
                have HS6 := hide (HS4.out.grow bb)
                have s6 := HS6.out.rw.s1
                have z6 := HS6.out.rw.z 1
                have hsl : ∀ W : World, (Instr.slice 41 (.slice (some ae) n1 c1) (some (.int .i64 1)) none none).run Tryd.prog W = .ok (.slice (tailG 11 (some ae) 1 c1) m0 (c1 - 1)) W := fun W => by
                  have := cutG_tail Tryd.underlying41 Tryd.sizeOfM W (some ae) n1 c1 1 (by omega)
                  rw [HM0.out] at this
                  exact this
                have hcut6 := HS6.out.cut1 (by omega)
                rw [HM0.out] at hcut6
                have HSF : Hid (Sc w (w6.setCell ⟨rr, 1, none⟩ (.slice (tailG 11 (some ae) 1 c1) m0 (c1 - 1))) b cu co N rr [] (T.map Ms.nm) a0 n0 c0 [] (tailG 11 (some ae) 1 c1) m0 (c1 - 1) T) := hcut6
                clear hcut6 hS bb hm0
                go_wp2_with fail
                refine (st_len _ HSF.out.st).mono ?_; rintro e w9 ⟨rfl, b9⟩
                have HS9 := hide (HSF.out.grow b9)
                have g0 := HS9.out.rw.s0
                have g1' := HS9.out.rw.s1
                rw [show ((List.map Ms.nm T).length : Int) = (m0 : Int) from by rw [List.length_map]; exact congrArg Nat.cast HTL.out]
                clear b9
                go_wp2
                go_roundg g1
                case measure => have := HI.out; omega
                case rel => exact ⟨i + 1, a0, n0, c0, [], tailG 11 (some ae) 1 c1, m0, c1 - 1, T, by have := HI.out; omega, by go_num, HS9.out⟩
          · as_aux_lemma =>
              obtain ⟨y, T, hyT⟩ : ∃ y T, R0 = y :: T := by
                cases R0 with
                | nil => have := HSY.out.rw.t0.len; simp at this; omega
                | cons y T => exact ⟨y, T, rfl⟩
              subst hyT
              obtain ⟨ae, hae⟩ : ∃ ae, a0 = some ae := HSY.out.rw.t0.row.there (k := 0) (by omega)
              subst hae
              obtain ⟨m0, hm0⟩ : ∃ m0, n0 - 1 = m0 := ⟨_, rfl⟩
              have HTL : Hid (T.length = m0) := by have := HSY.out.rw.t0.len; simp at this; show _ = _; omega
              have HM0 := hide hm0
              have HCP := hide HSY.out.rw.t0.row.2.1
              have hz0' : (0 : Int) < (n0 : Int) := by omega
              have hz0'' : ¬ ((n0 : Int) = 0) := by omega

              go_wp2_with fail
              refine (stU_get y.nm _ HSY.out.st).mono ?_; rintro e w3 ⟨v, rfl, E3⟩
              have HS3 : Hid (Sc w w3 b cu co N rr (T.map Ms.nm) (R1.map Ms.nm) (some ae) n0 c0 (y :: T) a1 n1 c1 R1) := HSY.out.deed E3.st E3.ft
              obtain ⟨Z, hZ⟩ : ∃ Z, w3.alloc (.cells #[.int .u64 v.ta, .int .u64 v.rp, .int .u32 v.id, .int .u16 v.op, .int .u16 v.st, .int .u64 v.p, .int .u32 v.o, .int .u8 v.r, .int .u64 v.c, .int .u64 v.ar, .slice v.so v.sn v.sc] 35) = Z := ⟨_, rfl⟩
              have bZ : Below w3.heap.size w3 Z := hZ ▸ below_alloc w3 _
              have hbx : BoxM Z w3.heap.size v := hZ ▸ boxM_new w3 v
              have HS4 := hide (HS3.out.grow bZ)
              have HVZ : Hid (v.has Z ∧ v.nm = y.nm) := ⟨Bts.carry E3.has bZ, E3.nm⟩
              have HBX := hide hbx
              have e0 := HS4.out.rw.s0
              have e1 := HS4.out.rw.s1
              clear E3 bZ hbx y0 y1 y2 y3 y4 y5 y6 y7 y8 y9 y10 y11 q0 q1 q2 q3 q4 q5 q6 q7 q8 q9 q10 q11 f0 f1
              go_wp2_with fail
              have HA0 : ∀ W : World, Below Z.heap.size Z W → (W.cell? ⟨w3.heap.size, 0, none⟩ = some (.int .u64 v.ta) ∧ W.cell? ⟨w3.heap.size, 1, none⟩ = some (.int .u64 v.rp) ∧ W.cell? ⟨w3.heap.size, 2, none⟩ = some (.int .u32 v.id) ∧ W.cell? ⟨w3.heap.size, 3, none⟩ = some (.int .u16 v.op) ∧ W.cell? ⟨w3.heap.size, 4, none⟩ = some (.int .u16 v.st) ∧ W.cell? ⟨w3.heap.size, 5, none⟩ = some (.int .u64 v.p) ∧ W.cell? ⟨w3.heap.size, 6, none⟩ = some (.int .u32 v.o) ∧ W.cell? ⟨w3.heap.size, 7, none⟩ = some (.int .u8 v.r) ∧ W.cell? ⟨w3.heap.size, 8, none⟩ = some (.int .u64 v.c) ∧ W.cell? ⟨w3.heap.size, 9, none⟩ = some (.int .u64 v.ar) ∧ W.cell? ⟨w3.heap.size, 10, none⟩ = some (.slice v.so v.sn v.sc)) ∧ W.cell? ⟨rr, 0, none⟩ = some (.slice (some ae) n0 c0) ∧ W.cell? ae = some (.int .u64 y.ta) ∧ W.cell? { block := ae.block, off := ae.off + 1 } = some (.int .u64 y.rp) ∧ W.cell? { block := ae.block, off := ae.off + 2 } = some (.int .u32 y.id) ∧ W.cell? { block := ae.block, off := ae.off + 3 } = some (.int .u16 y.op) ∧ W.cell? { block := ae.block, off := ae.off + 4 } = some (.int .u16 y.st) ∧ W.cell? { block := ae.block, off := ae.off + 5 } = some (.int .u64 y.p) ∧ W.cell? { block := ae.block, off := ae.off + 6 } = some (.int .u32 y.o) ∧ W.cell? { block := ae.block, off := ae.off + 7 } = some (.int .u8 y.r) ∧ W.cell? { block := ae.block, off := ae.off + 8 } = some (.int .u64 y.c) ∧ W.cell? { block := ae.block, off := ae.off + 9 } = some (.int .u64 y.ar) ∧ W.cell? { block := ae.block, off := ae.off + 10 } = some (.slice y.so y.sn y.sc) := fun W bw =>
                ⟨(HBX.out.grow bw).all, (HS4.out.grow bw).rw.s0, lies_elem (HS4.out.grow bw).rw.t0.row 0 (by omega) y rfl ae (by rw [Nat.zero_mul, addZ])⟩
              have HAH := hide HA0
              clear HA0
              have hS : Hid ((Z.drew.cell? ⟨w3.heap.size, 0, none⟩ = some (.int .u64 v.ta) ∧ Z.drew.cell? ⟨w3.heap.size, 1, none⟩ = some (.int .u64 v.rp) ∧ Z.drew.cell? ⟨w3.heap.size, 2, none⟩ = some (.int .u32 v.id) ∧ Z.drew.cell? ⟨w3.heap.size, 3, none⟩ = some (.int .u16 v.op) ∧ Z.drew.cell? ⟨w3.heap.size, 4, none⟩ = some (.int .u16 v.st) ∧ Z.drew.cell? ⟨w3.heap.size, 5, none⟩ = some (.int .u64 v.p) ∧ Z.drew.cell? ⟨w3.heap.size, 6, none⟩ = some (.int .u32 v.o) ∧ Z.drew.cell? ⟨w3.heap.size, 7, none⟩ = some (.int .u8 v.r) ∧ Z.drew.cell? ⟨w3.heap.size, 8, none⟩ = some (.int .u64 v.c) ∧ Z.drew.cell? ⟨w3.heap.size, 9, none⟩ = some (.int .u64 v.ar) ∧ Z.drew.cell? ⟨w3.heap.size, 10, none⟩ = some (.slice v.so v.sn v.sc)) ∧ Z.drew.cell? ⟨rr, 0, none⟩ = some (.slice (some ae) n0 c0) ∧ Z.drew.cell? ae = some (.int .u64 y.ta) ∧ Z.drew.cell? { block := ae.block, off := ae.off + 1 } = some (.int .u64 y.rp) ∧ Z.drew.cell? { block := ae.block, off := ae.off + 2 } = some (.int .u32 y.id) ∧ Z.drew.cell? { block := ae.block, off := ae.off + 3 } = some (.int .u16 y.op) ∧ Z.drew.cell? { block := ae.block, off := ae.off + 4 } = some (.int .u16 y.st) ∧ Z.drew.cell? { block := ae.block, off := ae.off + 5 } = some (.int .u64 y.p) ∧ Z.drew.cell? { block := ae.block, off := ae.off + 6 } = some (.int .u32 y.o) ∧ Z.drew.cell? { block := ae.block, off := ae.off + 7 } = some (.int .u8 y.r) ∧ Z.drew.cell? { block := ae.block, off := ae.off + 8 } = some (.int .u64 y.c) ∧ Z.drew.cell? { block := ae.block, off := ae.off + 9 } = some (.int .u64 y.ar) ∧ Z.drew.cell? { block := ae.block, off := ae.off + 10 } = some (.slice y.so y.sn y.sc)) := HAH.out _ (below_d Z 1)
              have bb : Below Z.heap.size Z Z.drew := below_d Z 1
              go_region_held (fun W => (W.cell? ⟨w3.heap.size, 0, none⟩ = some (.int .u64 v.ta) ∧ W.cell? ⟨w3.heap.size, 1, none⟩ = some (.int .u64 v.rp) ∧ W.cell? ⟨w3.heap.size, 2, none⟩ = some (.int .u32 v.id) ∧ W.cell? ⟨w3.heap.size, 3, none⟩ = some (.int .u16 v.op) ∧ W.cell? ⟨w3.heap.size, 4, none⟩ = some (.int .u16 v.st) ∧ W.cell? ⟨w3.heap.size, 5, none⟩ = some (.int .u64 v.p) ∧ W.cell? ⟨w3.heap.size, 6, none⟩ = some (.int .u32 v.o) ∧ W.cell? ⟨w3.heap.size, 7, none⟩ = some (.int .u8 v.r) ∧ W.cell? ⟨w3.heap.size, 8, none⟩ = some (.int .u64 v.c) ∧ W.cell? ⟨w3.heap.size, 9, none⟩ = some (.int .u64 v.ar) ∧ W.cell? ⟨w3.heap.size, 10, none⟩ = some (.slice v.so v.sn v.sc)) ∧ W.cell? ⟨rr, 0, none⟩ = some (.slice (some ae) n0 c0) ∧ W.cell? ae = some (.int .u64 y.ta) ∧ W.cell? { block := ae.block, off := ae.off + 1 } = some (.int .u64 y.rp) ∧ W.cell? { block := ae.block, off := ae.off + 2 } = some (.int .u32 y.id) ∧ W.cell? { block := ae.block, off := ae.off + 3 } = some (.int .u16 y.op) ∧ W.cell? { block := ae.block, off := ae.off + 4 } = some (.int .u16 y.st) ∧ W.cell? { block := ae.block, off := ae.off + 5 } = some (.int .u64 y.p) ∧ W.cell? { block := ae.block, off := ae.off + 6 } = some (.int .u32 y.o) ∧ W.cell? { block := ae.block, off := ae.off + 7 } = some (.int .u8 y.r) ∧ W.cell? { block := ae.block, off := ae.off + 8 } = some (.int .u64 y.c) ∧ W.cell? { block := ae.block, off := ae.off + 9 } = some (.int .u64 y.ar) ∧ W.cell? { block := ae.block, off := ae.off + 10 } = some (.slice y.so y.sn y.sc)) (exact hS.out)
                (first | (go_at_call 12; refine (same_yes v y _ (Bts.carry HVZ.out.1 bb) (Bts.carry (HS4.out.has (by simp)) bb) HVZ.out.2).mono ?_; rintro e w6 ⟨rfl, b6⟩; have bb := below_one bb b6; have hS : Hid ((w6.cell? ⟨w3.heap.size, 0, none⟩ = some (.int .u64 v.ta) ∧ w6.cell? ⟨w3.heap.size, 1, none⟩ = some (.int .u64 v.rp) ∧ w6.cell? ⟨w3.heap.size, 2, none⟩ = some (.int .u32 v.id) ∧ w6.cell? ⟨w3.heap.size, 3, none⟩ = some (.int .u16 v.op) ∧ w6.cell? ⟨w3.heap.size, 4, none⟩ = some (.int .u16 v.st) ∧ w6.cell? ⟨w3.heap.size, 5, none⟩ = some (.int .u64 v.p) ∧ w6.cell? ⟨w3.heap.size, 6, none⟩ = some (.int .u32 v.o) ∧ w6.cell? ⟨w3.heap.size, 7, none⟩ = some (.int .u8 v.r) ∧ w6.cell? ⟨w3.heap.size, 8, none⟩ = some (.int .u64 v.c) ∧ w6.cell? ⟨w3.heap.size, 9, none⟩ = some (.int .u64 v.ar) ∧ w6.cell? ⟨w3.heap.size, 10, none⟩ = some (.slice v.so v.sn v.sc)) ∧ w6.cell? ⟨rr, 0, none⟩ = some (.slice (some ae) n0 c0) ∧ w6.cell? ae = some (.int .u64 y.ta) ∧ w6.cell? { block := ae.block, off := ae.off + 1 } = some (.int .u64 y.rp) ∧ w6.cell? { block := ae.block, off := ae.off + 2 } = some (.int .u32 y.id) ∧ w6.cell? { block := ae.block, off := ae.off + 3 } = some (.int .u16 y.op) ∧ w6.cell? { block := ae.block, off := ae.off + 4 } = some (.int .u16 y.st) ∧ w6.cell? { block := ae.block, off := ae.off + 5 } = some (.int .u64 y.p) ∧ w6.cell? { block := ae.block, off := ae.off + 6 } = some (.int .u32 y.o) ∧ w6.cell? { block := ae.block, off := ae.off + 7 } = some (.int .u8 y.r) ∧ w6.cell? { block := ae.block, off := ae.off + 8 } = some (.int .u64 y.c) ∧ w6.cell? { block := ae.block, off := ae.off + 9 } = some (.int .u64 y.ar) ∧ w6.cell? { block := ae.block, off := ae.off + 10 } = some (.slice y.so y.sn y.sc)) := HAH.out _ bb; have hbb := hide bb; clear b6))
              have HS6 := hide (HS4.out.grow bb)
              have s6 := HS6.out.rw.s0
              have z6 := HS6.out.rw.z 0
              have hsl : ∀ W : World, (Instr.slice 41 (.slice (some ae) n0 c0) (some (.int .i64 1)) none none).run Tryd.prog W = .ok (.slice (tailG 11 (some ae) 1 c0) m0 (c0 - 1)) W := fun W => by
                have := cutG_tail Tryd.underlying41 Tryd.sizeOfM W (some ae) n0 c0 1 (by omega)
                rw [HM0.out] at this
                exact this
              have hcut6 := HS6.out.cut0 (by omega)
              rw [HM0.out] at hcut6
              have HSF : Hid (Sc w (w6.setCell ⟨rr, 0, none⟩ (.slice (tailG 11 (some ae) 1 c0) m0 (c0 - 1))) b cu co N rr (T.map Ms.nm) (R1.map Ms.nm) (tailG 11 (some ae) 1 c0) m0 (c0 - 1) T a1 n1 c1 R1) := hcut6
              clear hcut6 hS bb hm0
              go_wp2_with fail
              refine (st_len _ HSF.out.st).mono ?_; rintro e w9 ⟨rfl, b9⟩
              have HS9 := hide (HSF.out.grow b9)
              have g0 := HS9.out.rw.s0
              have g1' := HS9.out.rw.s1
              rw [show ((List.map Ms.nm T).length : Int) = (m0 : Int) from by rw [List.length_map]; exact congrArg Nat.cast HTL.out, show ((List.map Ms.nm R1).length : Int) = (n1 : Int) from by rw [List.length_map, ← HSY.out.rw.t1.len]]
              clear b9
              go_wp2
              go_roundg g1
              case measure => have := HI.out; omega
              case rel => exact ⟨i + 1, tailG 11 (some ae) 1 c0, m0, c0 - 1, T, a1, n1, c1, R1, by have := HI.out; omega, by go_num, HS9.out⟩
        · have hmf : ∀ (fn : Fn) (first cap : Array Value) (w : World), (Instr.makeFunc fn first cap).run Tryd.prog w = .ok (.func fn first cap) w := fun _ _ _ _ => rfl
          go_wp2_with fail
          refine (st_all (is_asks wr.heap.size x) _ HSY.out.st HBA.out (HSY.out.st.notTwo HBA.out)).mono ?_; rintro e X0 ⟨v, V, rfl, E⟩
          obtain ⟨q, hq⟩ : ∃ q, isF x.m.id = q := ⟨_, rfl⟩
          have HQ := hide hq
          have HQN : Hid (∀ y y' : Ms, y.nm = y'.nm → q y = q y') := by rw [← hq]; exact (is_asks wr.heap.size x).nm
          rw [hq] at E
          have st0 := E.st
          rw [keepF_nm HQN.out, keepF_nm HQN.out] at st0
          have HSC0 := hide (HSY.out.deed st0 E.ft)
          have HVN : Hid (V.map Ms.nm = (outF q R0 ++ outF q R1).map Ms.nm) := by show _ = _; rw [E.nm, outF_nm HQN.out, outF_nm HQN.out, List.map_append]
          obtain ⟨nv, hnv⟩ : ∃ nv, V.length = nv := ⟨_, rfl⟩
          have HVNL : Hid (nv = V.length) := hnv.symm
          have HVL : Hid (V.length = (outF q R0 ++ outF q R1).length) := by have := congrArg List.length HVN.out; rwa [List.length_map, List.length_map] at this
          have HNV : Hid (nv = V.length) := hnv.symm
          have erow := E.row
          rw [hnv] at erow
          obtain ⟨vo, vc, rfl, _⟩ := owns_lies erow
          have HEX0 : Hid (Ex X0 wr.heap.size x Y.heap.size (.slice vo nv vc) nv V) := ⟨HSY.out.st.other E.ft HBA.out, erow, E.has⟩
          have t0 := HSC0.out.rw.s0
          have t1 := HSC0.out.rw.s1
          clear E st0 erow hnv hq hmf y0 y1 y2 y3 y4 y5 y6 y7 y8 y9 y10 y11 q0 q1 q2 q3 q4 q5 q6 q7 q8 q9 q10 q11 f0 f1
          go_wp2
          refine wp_loop_rounds 3 ?_
          rw [rounds_succ]
          have hnc0 := HSC0.out.rw.t0.row.2.1
          have hcm0 : c0 ≤ 9223372036854775807 := HSC0.out.rw.t0.row.2.2.1
          have hnk0 : R0.length ≤ 64 := by have := HSY.out.st.few; simp only [List.length_map] at this; omega
          go_wp2
          clear t0 t1
          go_loopg [17, 19, 62] n0 (fun gk va vs vi wz => InRel X0 q R0 0 n0 gk va vs vi wz)
          case atStart => exact ⟨0, by omega, rfl, by simp [outF], owns_nil _ _ _ _, Below.refl _ _⟩
          case round =>
            rename World => wz
            obtain ⟨j, hj, rfl, rfl, own, bl⟩ := hrel
            have HJ := hide hj
            have HO := hide own
            have HB := hide bl
            have hlk := keepF_len q (R0.take j)
            rw [List.length_take] at hlk
            have HRL := hide HSC0.out.rw.t0.len
            obtain ⟨so, sc, rfl, _⟩ := owns_lies own
            obtain ⟨mk, hmk⟩ : ∃ mk, (keepF q (R0.take j)).length = mk := ⟨_, rfl⟩
            have HMK := hide hmk
            rw [hmk] at HO hlk ⊢
            have hmk64 : mk ≤ 64 := by omega
            obtain ⟨at_, hat⟩ : ∃ at_, 0 + (outF q (R0.take j)).length = at_ := ⟨_, rfl⟩
            have HAT := hide hat
            rw [hat]
            clear own bl hj hmk hat
            cases gk with
            | zero =>
              obtain rfl : j = n0 := by have := HJ.out; omega
              have hlt : ¬ ((j : Int) < (j : Int)) := by omega
              have HT : Hid (R0.take j = R0) := by show _ = _; rw [HRL.out, List.take_length]
              have HSZ := hide (HSC0.out.grow HB.out)
              have HEZ := hide (HEX0.out.grow HB.out)
              have s0 := HSZ.out.rw.s0
              have z0 := HSZ.out.rw.z 0
              have HTL : Hid (Tl wz w.heap.size so mk sc (keepF q R0)) := by
                have h := HO.out
                rw [HT.out] at h
                obtain ⟨ao', c', e', t'⟩ := tl_own h
                obtain ⟨rfl, rfl⟩ : so = ao' ∧ sc = c' := by cases e'; exact ⟨rfl, rfl⟩
                exact t'.base HSC0.out.bel.size
              have HNEW : Hid (∀ kk, Bk so kk → X0.heap.size ≤ kk) := fun kk h => by
                obtain ⟨ad', e', rfl⟩ := h
                exact owns_new HO.out ad' e'
              have HSN2 := hide (HSZ.out.set0 HTL.out (fun kk h1 h2 => by
                have := HNEW.out kk h1
                obtain ⟨ad', e', rfl⟩ := h2
                have := (HSC0.out.rw.t1.lt ad' e').1
                omega) (fun y hy => (List.mem_filter.1 hy).1))
              have HEN2 := hide (HEZ.out.put HSZ.out.rw.box 0 (.slice so mk sc))
              go_wp2
              obtain ⟨X1, hX1⟩ : ∃ X1, wz.setCell ⟨rr, 0, none⟩ (.slice so mk sc) = X1 := ⟨_, rfl⟩
              rw [hX1] at HSN2 HEN2
              rw [hX1]
              have HSC1 := HSN2
              have HEX1 := HEN2
              have HS1 : Hid ((outF q R0).length = at_) := by have h := HAT.out; rw [HT.out] at h; show _ = _; omega
              have HKL : Hid ((keepF q R0).length = mk) := HTL.out.len.symm
              obtain ⟨s1, hs1⟩ : ∃ s1, at_ = s1 := ⟨_, rfl⟩
              rw [hs1] at HS1 ⊢
              obtain ⟨b0, hb0⟩ : ∃ b0, b0 = so := ⟨_, rfl⟩
              obtain ⟨m0, hm0⟩ : ∃ m0, m0 = mk := ⟨_, rfl⟩
              obtain ⟨d0, hd0⟩ : ∃ d0, d0 = sc := ⟨_, rfl⟩
              subst hb0 hm0 hd0
              clear hs1 HSN2 HEN2 HTL HNEW HSZ HEZ HO HB HT HAT HMK HJ hX1 s0 z0 hlk
              rw [rounds_succ]
              have t0 := HSC1.out.rw.s0
              have t1 := HSC1.out.rw.s1
              have hnc1 := HSC1.out.rw.t1.row.2.1
              have hcm1 : c1 ≤ 9223372036854775807 := HSC1.out.rw.t1.row.2.2.1
              have hnk1 : R1.length ≤ 64 := by have := HSY.out.st.few; simp only [List.length_map] at this; omega
              go_wp2
              clear t0 t1
              go_loopg [17, 19, 62] n1 (fun gk va vs vi wz => InRel X1 q R1 s1 n1 gk va vs vi wz)
              case atStart => exact ⟨0, by omega, rfl, by simp [outF], owns_nil _ _ _ _, Below.refl _ _⟩
              case round =>
                rename World => wz
                obtain ⟨j, hj, rfl, rfl, own, bl⟩ := hrel
                have HJ := hide hj
                have HO := hide own
                have HB := hide bl
                have hlk := keepF_len q (R1.take j)
                rw [List.length_take] at hlk
                have HRL := hide HSC1.out.rw.t1.len
                obtain ⟨so, sc, rfl, _⟩ := owns_lies own
                obtain ⟨mk, hmk⟩ : ∃ mk, (keepF q (R1.take j)).length = mk := ⟨_, rfl⟩
                have HMK := hide hmk
                rw [hmk] at HO hlk ⊢
                have hmk64 : mk ≤ 64 := by omega
                obtain ⟨at_, hat⟩ : ∃ at_, s1 + (outF q (R1.take j)).length = at_ := ⟨_, rfl⟩
                have HAT := hide hat
                rw [hat]
                clear own bl hj hmk hat
                cases gk with
                | zero =>
                  obtain rfl : j = n1 := by have := HJ.out; omega
                  have hlt : ¬ ((j : Int) < (j : Int)) := by omega
                  have HT : Hid (R1.take j = R1) := by show _ = _; rw [HRL.out, List.take_length]
                  have HSZ := hide (HSC1.out.grow HB.out)
                  have HEZ := hide (HEX1.out.grow HB.out)
                  have s0 := HSZ.out.rw.s1
                  have z0 := HSZ.out.rw.z 1
                  have HTL : Hid (Tl wz w.heap.size so mk sc (keepF q R1)) := by
                    have h := HO.out
                    rw [HT.out] at h
                    obtain ⟨ao', c', e', t'⟩ := tl_own h
                    obtain ⟨rfl, rfl⟩ : so = ao' ∧ sc = c' := by cases e'; exact ⟨rfl, rfl⟩
                    exact t'.base HSC1.out.bel.size
                  have HNEW : Hid (∀ kk, Bk so kk → X1.heap.size ≤ kk) := fun kk h => by
                    obtain ⟨ad', e', rfl⟩ := h
                    exact owns_new HO.out ad' e'
                  have HSN2 := hide (HSZ.out.set1 HTL.out (fun kk h1 h2 => by
                    have := HNEW.out kk h1
                    obtain ⟨ad', e', rfl⟩ := h2
                    have := (HSC1.out.rw.t0.lt ad' e').1
                    omega) (fun y hy => (List.mem_filter.1 hy).1))
                  have HEN2 := hide (HEZ.out.put HSZ.out.rw.box 1 (.slice so mk sc))
                  have hfin : (at_ : Int) = (nv : Int) := by
                    have h := HAT.out
                    rw [HT.out, ← HS1.out] at h
                    rw [HNV.out, HVL.out, List.length_append, h]
                  have HNATV := hide hfin
                  go_wp2
                  rw [rounds_succ]
                  go_wp2_with fail
                  go_wp2_with fail
                  refine (st_len _ HSN2.out.st).mono ?_; rintro e w9 ⟨rfl, b9⟩
                  have HS9 := hide (HSN2.out.grow b9)
                  have gg0 := HS9.out.rw.s0
                  have gg1 := HS9.out.rw.s1
                  rw [show ((List.map Ms.nm (keepF q R0)).length : Int) = (m0 : Int) from by rw [List.length_map, HKL.out], show ((List.map Ms.nm (keepF q R1)).length : Int) = (mk : Int) from by rw [List.length_map, ← HTL.out.len]]
                  clear b9
                  go_wp2
                  go_roundg g1
                  case measure => have := HI.out; omega
                  case rel => exact ⟨i + 1, b0, m0, d0, keepF q R0, so, mk, sc, keepF q R1, by have := HI.out; omega, by go_num, HS9.out⟩
                | succ g2 =>
                  have hjn : j < n1 := by have := HJ.out; omega
                  have hlt : (j : Int) < (n1 : Int) := by omega
                  have hjR : j < R1.length := by rw [← HRL.out]; exact hjn
                  have HSZ := hide (HSC1.out.grow HB.out)
                  have HEZ := hide (HEX1.out.grow HB.out)
                  obtain ⟨ae, hae⟩ : ∃ ae, a1 = some ae := HSZ.out.rw.t1.row.there (k := j) hjn
                  subst hae
                  obtain ⟨p, hp⟩ : ∃ p, R1.getD j Ms.zero = p := ⟨_, rfl⟩
                  obtain ⟨k0, k1, k2, k3, k4, k5, k6, k7, k8, k9, k10⟩ := lies_elem HSZ.out.rw.t1.row j hjn p hp _ rfl
                  have HT : Hid (R1.take (j + 1) = R1.take j ++ [p]) := by have := takeM_snoc R1 j hjR; rwa [hp] at this
                  have HPM : Hid (p ∈ keepF q R0 ++ R1) := List.mem_append_right _ (hp ▸ getM_mem R1 j hjR)
                  obtain ⟨t, ht⟩ : ∃ t, q p = t := ⟨_, rfl⟩
                  have HSN := hide (outF_snoc q (R1.take j) p t ht)
                  obtain ⟨Z, hZ⟩ : ∃ Z, wz.alloc (.cells #[.int .u64 p.ta, .int .u64 p.rp, .int .u32 p.id, .int .u16 p.op, .int .u16 p.st, .int .u64 p.p, .int .u32 p.o, .int .u8 p.r, .int .u64 p.c, .int .u64 p.ar, .slice p.so p.sn p.sc] 35) = Z := ⟨_, rfl⟩
                  have bZ : Below wz.heap.size wz Z := hZ ▸ below_alloc wz _
                  have hbx : BoxM Z wz.heap.size p := hZ ▸ boxM_new wz p
                  have HBX := hide hbx
                  have HBZ := hide bZ
                  obtain ⟨z0, z1, z2, z3, z4, z5, z6, z7, z8, z9, z10⟩ := hbx.all
                  have HPJ := hide hp
                  have HTQ := hide ht
                  clear bZ hbx hp ht
                  go_wp2_with fail
                  refine ((is_asks wr.heap.size x).call p _ (HEZ.out.grow HBZ.out).act).mono ?_; rintro e w6 ⟨rfl, b6⟩
                  rw [show isF x.m.id p = t from by rw [← HTQ.out, ← HQ.out]]
                  have hb6 := HBX.out.grow b6
                  have HB6 := hide (below_one HBZ.out b6)
                  have HBX6 := hide hb6
                  obtain ⟨u0, u1, u2, u3, u4', u5, u6, u7, u8, u9', u10'⟩ := hb6.all
                  clear b6 hb6 k0 k1 k2 k3 k4 k5 k6 k7 k8 k9 k10 z0 z1 z2 z3 z4 z5 z6 z7 z8 z9 z10
                  cases t with
                  | false =>
                    obtain ⟨ao5, ac5, w7, hr7, ho7, hf7, hB7⟩ := app_one p (owns_carry HO.out HB6.out) (by omega) (Nat.le_trans HB.out.size HB6.out.size)
                    have HR7 := hide hr7
                    have HO7 := hide ho7
                    have HB7 : Hid (Below X1.heap.size X1 w7) := (below_one HB.out HB6.out).trans (hf7.below (Nat.le_trans HB.out.size HB6.out.size) hB7)
                    clear hr7 ho7 hf7 hB7
                    go_wp2_with (at_builtin; refine wpList_append_run rfl _ _ _ rfl _ _ _ _ rfl rfl HR7.out ?_)
                    go_wp2
                    go_roundg g2
                    case measure => have := HJ.out; omega
                    case rel =>
                      refine ⟨j + 1, by have := HJ.out; omega, by go_num, ?_, ?_, HB7.out⟩
                      · rw [HT.out, HSN.out.1, if_neg (by decide), List.append_nil, HAT.out]
                      · rw [HT.out, HSN.out.2, if_neg (by decide), cellsM_append, List.length_append, HMK.out]; exact HO7.out
                  | true =>
                    have hoa := out_at (q := q) R1 j hjR (by rw [HPJ.out]; exact HTQ.out)
                    rw [HPJ.out] at hoa
                    have hav : at_ < nv ∧ (V.map Ms.nm).getD at_ Ms.zero = p.nm := by
                      rw [HVN.out, ← HAT.out, HNV.out, HVL.out]
                      refine ⟨by rw [List.length_append, ← HS1.out]; omega, ?_⟩
                      rw [getM_nm, ← HS1.out, getD_app1, hoa.2]
                    have h1 := hav.1
                    have hav1 : ¬ ((nv : Int) ≤ (at_ : Int)) := by omega
                    have hav2 : (at_ : Int) < (nv : Int) := by omega
                    obtain ⟨vq, hvq⟩ : ∃ vq, V.getD at_ Ms.zero = vq := ⟨_, rfl⟩
                    have HVQ : Hid (vq.nm = p.nm) := by show _ = _; rw [← hvq, ← getM_nm]; exact hav.2
                    have HE6 := hide (HEZ.out.grow HB6.out)
                    obtain ⟨vo2, vc2, hve, hvl⟩ := owns_lies HE6.out.row
                    obtain ⟨rfl, rfl⟩ : vo = vo2 ∧ vc = vc2 := by cases hve; exact ⟨rfl, rfl⟩
                    have hvc := hvl.2.1
                    have hvm : vc ≤ 9223372036854775807 := hvl.2.2.1
                    obtain ⟨av, hav0⟩ := hvl.there (k := at_) h1
                    subst hav0
                    obtain ⟨aq, haq⟩ : ∃ aq, av.add (at_ * 11) = aq := ⟨_, rfl⟩
                    have HVH : Hid (vq.has w6) := (HE6.out.has vq (by rw [← hvq]; exact getM_mem V at_ (by rw [← HVNL.out]; exact h1))).1
                    have HA0 : ∀ W : World, Below w6.heap.size w6 W → (W.cell? aq = some (.int .u64 vq.ta) ∧ W.cell? { block := aq.block, off := aq.off + 1 } = some (.int .u64 vq.rp) ∧ W.cell? { block := aq.block, off := aq.off + 2 } = some (.int .u32 vq.id) ∧ W.cell? { block := aq.block, off := aq.off + 3 } = some (.int .u16 vq.op) ∧ W.cell? { block := aq.block, off := aq.off + 4 } = some (.int .u16 vq.st) ∧ W.cell? { block := aq.block, off := aq.off + 5 } = some (.int .u64 vq.p) ∧ W.cell? { block := aq.block, off := aq.off + 6 } = some (.int .u32 vq.o) ∧ W.cell? { block := aq.block, off := aq.off + 7 } = some (.int .u8 vq.r) ∧ W.cell? { block := aq.block, off := aq.off + 8 } = some (.int .u64 vq.c) ∧ W.cell? { block := aq.block, off := aq.off + 9 } = some (.int .u64 vq.ar) ∧ W.cell? { block := aq.block, off := aq.off + 10 } = some (.slice vq.so vq.sn vq.sc)) ∧ W.cell? ⟨wz.heap.size, 0, none⟩ = some (.int .u64 p.ta) ∧ W.cell? ⟨wz.heap.size, 1, none⟩ = some (.int .u64 p.rp) ∧ W.cell? ⟨wz.heap.size, 2, none⟩ = some (.int .u32 p.id) ∧ W.cell? ⟨wz.heap.size, 3, none⟩ = some (.int .u16 p.op) ∧ W.cell? ⟨wz.heap.size, 4, none⟩ = some (.int .u16 p.st) ∧ W.cell? ⟨wz.heap.size, 5, none⟩ = some (.int .u64 p.p) ∧ W.cell? ⟨wz.heap.size, 6, none⟩ = some (.int .u32 p.o) ∧ W.cell? ⟨wz.heap.size, 7, none⟩ = some (.int .u8 p.r) ∧ W.cell? ⟨wz.heap.size, 8, none⟩ = some (.int .u64 p.c) ∧ W.cell? ⟨wz.heap.size, 9, none⟩ = some (.int .u64 p.ar) ∧ W.cell? ⟨wz.heap.size, 10, none⟩ = some (.slice p.so p.sn p.sc) := fun W bw =>
                      ⟨lies_elem (hvl.carry bw (Nat.le_refl _)) at_ h1 vq hvq aq haq, (HBX6.out.grow bw).all⟩
                    have HAH := hide HA0
                    clear HA0 hve hvl hav hvq hoa u0 u1 u2 u3 u4' u5 u6 u7 u8 u9' u10'
                    have hS : Hid ((w6.drew.cell? aq = some (.int .u64 vq.ta) ∧ w6.drew.cell? { block := aq.block, off := aq.off + 1 } = some (.int .u64 vq.rp) ∧ w6.drew.cell? { block := aq.block, off := aq.off + 2 } = some (.int .u32 vq.id) ∧ w6.drew.cell? { block := aq.block, off := aq.off + 3 } = some (.int .u16 vq.op) ∧ w6.drew.cell? { block := aq.block, off := aq.off + 4 } = some (.int .u16 vq.st) ∧ w6.drew.cell? { block := aq.block, off := aq.off + 5 } = some (.int .u64 vq.p) ∧ w6.drew.cell? { block := aq.block, off := aq.off + 6 } = some (.int .u32 vq.o) ∧ w6.drew.cell? { block := aq.block, off := aq.off + 7 } = some (.int .u8 vq.r) ∧ w6.drew.cell? { block := aq.block, off := aq.off + 8 } = some (.int .u64 vq.c) ∧ w6.drew.cell? { block := aq.block, off := aq.off + 9 } = some (.int .u64 vq.ar) ∧ w6.drew.cell? { block := aq.block, off := aq.off + 10 } = some (.slice vq.so vq.sn vq.sc)) ∧ w6.drew.cell? ⟨wz.heap.size, 0, none⟩ = some (.int .u64 p.ta) ∧ w6.drew.cell? ⟨wz.heap.size, 1, none⟩ = some (.int .u64 p.rp) ∧ w6.drew.cell? ⟨wz.heap.size, 2, none⟩ = some (.int .u32 p.id) ∧ w6.drew.cell? ⟨wz.heap.size, 3, none⟩ = some (.int .u16 p.op) ∧ w6.drew.cell? ⟨wz.heap.size, 4, none⟩ = some (.int .u16 p.st) ∧ w6.drew.cell? ⟨wz.heap.size, 5, none⟩ = some (.int .u64 p.p) ∧ w6.drew.cell? ⟨wz.heap.size, 6, none⟩ = some (.int .u32 p.o) ∧ w6.drew.cell? ⟨wz.heap.size, 7, none⟩ = some (.int .u8 p.r) ∧ w6.drew.cell? ⟨wz.heap.size, 8, none⟩ = some (.int .u64 p.c) ∧ w6.drew.cell? ⟨wz.heap.size, 9, none⟩ = some (.int .u64 p.ar) ∧ w6.drew.cell? ⟨wz.heap.size, 10, none⟩ = some (.slice p.so p.sn p.sc)) := HAH.out _ (below_d w6 1)
                    have bb : Below w6.heap.size w6 w6.drew := below_d w6 1
                    go_wp2_with fail
                    refine wp_region_held_drew (S := fun W => (W.cell? aq = some (.int .u64 vq.ta) ∧ W.cell? { block := aq.block, off := aq.off + 1 } = some (.int .u64 vq.rp) ∧ W.cell? { block := aq.block, off := aq.off + 2 } = some (.int .u32 vq.id) ∧ W.cell? { block := aq.block, off := aq.off + 3 } = some (.int .u16 vq.op) ∧ W.cell? { block := aq.block, off := aq.off + 4 } = some (.int .u16 vq.st) ∧ W.cell? { block := aq.block, off := aq.off + 5 } = some (.int .u64 vq.p) ∧ W.cell? { block := aq.block, off := aq.off + 6 } = some (.int .u32 vq.o) ∧ W.cell? { block := aq.block, off := aq.off + 7 } = some (.int .u8 vq.r) ∧ W.cell? { block := aq.block, off := aq.off + 8 } = some (.int .u64 vq.c) ∧ W.cell? { block := aq.block, off := aq.off + 9 } = some (.int .u64 vq.ar) ∧ W.cell? { block := aq.block, off := aq.off + 10 } = some (.slice vq.so vq.sn vq.sc)) ∧ W.cell? ⟨wz.heap.size, 0, none⟩ = some (.int .u64 p.ta) ∧ W.cell? ⟨wz.heap.size, 1, none⟩ = some (.int .u64 p.rp) ∧ W.cell? ⟨wz.heap.size, 2, none⟩ = some (.int .u32 p.id) ∧ W.cell? ⟨wz.heap.size, 3, none⟩ = some (.int .u16 p.op) ∧ W.cell? ⟨wz.heap.size, 4, none⟩ = some (.int .u16 p.st) ∧ W.cell? ⟨wz.heap.size, 5, none⟩ = some (.int .u64 p.p) ∧ W.cell? ⟨wz.heap.size, 6, none⟩ = some (.int .u32 p.o) ∧ W.cell? ⟨wz.heap.size, 7, none⟩ = some (.int .u8 p.r) ∧ W.cell? ⟨wz.heap.size, 8, none⟩ = some (.int .u64 p.c) ∧ W.cell? ⟨wz.heap.size, 9, none⟩ = some (.int .u64 p.ar) ∧ W.cell? ⟨wz.heap.size, 10, none⟩ = some (.slice p.so p.sn p.sc)) (by kernel_rfl) hS.out (fun _ => ?_)
                    refine wpAnyH_take (i := 0) (oi := { dst := some 74, op := Op.move (Operand.tmp 17), type := 3, pos := "law.go:83", after := #[], guard := none }) (v := (.int .i64 (at_ : Int))) rfl (by kernel_rfl) (by kernel_rfl) (by kernel_rfl) (fun _ _ _ h => h) (Or.inl ⟨by kernel_rfl, fun w hC => by go_simp⟩) hS.out ?_
                    simp only [Act.put, List.setIfInBounds_toArray, List.set_cons_zero, List.set_cons_succ]
                    refine wpAnyH_take (i := 1) (oi := { dst := some 75, op := Op.move (Operand.tmp 16), type := 41, pos := "law.go:83", after := #[], guard := none }) (v := (.slice (some av) nv vc)) rfl (by kernel_rfl) (by kernel_rfl) (by kernel_rfl) (fun _ _ _ h => h) (Or.inl ⟨by kernel_rfl, fun w hC => by go_simp⟩) hS.out ?_
                    simp only [Act.put, List.setIfInBounds_toArray, List.set_cons_zero, List.set_cons_succ]
                    refine wpAnyH_take (i := 2) (oi := { dst := some 76, op := Op.call { callee := Callee.builtin Builtin.len, args := #[Operand.tmp 75], argTypes := #[41] }, type := 3, pos := "law.go:83", after := #[{ on := 1, ground := Ground.data }], guard := none }) (v := (.int .i64 (nv : Int))) rfl (by kernel_rfl) (by kernel_rfl) (by kernel_rfl) (fun _ _ _ h => h) (Or.inl ⟨by kernel_rfl, fun w hC => by go_simp⟩) hS.out ?_
                    simp only [Act.put, List.setIfInBounds_toArray, List.set_cons_zero, List.set_cons_succ]
                    refine wpAnyH_take (i := 3) (oi := { dst := some 77, op := Op.binOp BinOp.geq 3 (Operand.tmp 74) (Operand.tmp 76) 3, type := 4, pos := "law.go:83", after := #[{ on := 0, ground := Ground.data }, { on := 2, ground := Ground.data }], guard := none }) (v := (.bool false)) rfl (by kernel_rfl) (by kernel_rfl) (by kernel_rfl) (fun _ _ _ h => h) (Or.inl ⟨by kernel_rfl, fun w hC => by go_simp⟩) hS.out ?_
                    simp only [Act.put, List.setIfInBounds_toArray, List.set_cons_zero, List.set_cons_succ]
                    refine wpAnyH_take (i := 4) (oi := { dst := some 78, op := Op.move (Operand.tmp 77), type := 4, pos := "law.go:83", after := #[{ on := 3, ground := Ground.data }], guard := none }) (v := (.bool false)) rfl (by kernel_rfl) (by kernel_rfl) (by kernel_rfl) (fun _ _ _ h => h) (Or.inl ⟨by kernel_rfl, fun w hC => by go_simp⟩) hS.out ?_
                    simp only [Act.put, List.setIfInBounds_toArray, List.set_cons_zero, List.set_cons_succ]
                    refine wpAnyH_take (i := 5) (oi := { dst := some 79, op := Op.move (Operand.tmp 16), type := 41, pos := "law.go:83", after := #[{ on := 4, ground := Ground.guard }], guard := some (4, false) }) (v := (.slice (some av) nv vc)) rfl (by kernel_rfl) (by kernel_rfl) (by kernel_rfl) (fun _ _ _ h => h) (Or.inl ⟨by kernel_rfl, fun w hC => by go_simp⟩) hS.out ?_
                    simp only [Act.put, List.setIfInBounds_toArray, List.set_cons_zero, List.set_cons_succ]
                    refine wpAnyH_take (i := 6) (oi := { dst := some 80, op := Op.move (Operand.tmp 17), type := 3, pos := "law.go:83", after := #[{ on := 4, ground := Ground.guard }], guard := some (4, false) }) (v := (.int .i64 (at_ : Int))) rfl (by kernel_rfl) (by kernel_rfl) (by kernel_rfl) (fun _ _ _ h => h) (Or.inl ⟨by kernel_rfl, fun w hC => by go_simp⟩) hS.out ?_
                    simp only [Act.put, List.setIfInBounds_toArray, List.set_cons_zero, List.set_cons_succ]
                    refine wpAnyH_take (i := 7) (oi := { dst := some 81, op := Op.indexAddr 41 (Operand.tmp 79) (Operand.tmp 80), type := 0, pos := "law.go:83", after := #[{ on := 5, ground := Ground.data }, { on := 6, ground := Ground.data }, { on := 4, ground := Ground.guard }], guard := some (4, false) }) (v := (.pointer (some aq))) rfl (by kernel_rfl) (by kernel_rfl) (by kernel_rfl) (fun _ _ _ h => h) (Or.inl ⟨by kernel_rfl, fun w hC => by go_simp⟩) hS.out ?_
                    simp only [Act.put, List.setIfInBounds_toArray, List.set_cons_zero, List.set_cons_succ]
                    refine wpAnyH_take (i := 8) (oi := { dst := some 82, op := Op.load 35 (Operand.tmp 81), type := 35, pos := "law.go:83", after := #[{ on := 7, ground := Ground.data }, { on := 4, ground := Ground.guard }], guard := some (4, false) }) (v := (.agg #[.int .u64 vq.ta, .int .u64 vq.rp, .int .u32 vq.id, .int .u16 vq.op, .int .u16 vq.st, .int .u64 vq.p, .int .u32 vq.o, .int .u8 vq.r, .int .u64 vq.c, .int .u64 vq.ar, .slice vq.so vq.sn vq.sc])) rfl (by kernel_rfl) (by kernel_rfl) (by kernel_rfl) (fun _ _ _ h => h) (Or.inl ⟨by kernel_rfl, fun w hC => by (obtain ⟨⟨p0, p1, p2, p3, p4, p5, p6, p7, p8, p9, p10⟩, r0, r1, r2, r3, r4, r5, r6, r7, r8, r9, r10⟩ := hC; go_simp)⟩) hS.out ?_
                    simp only [Act.put, List.setIfInBounds_toArray, List.set_cons_zero, List.set_cons_succ]
                    refine wpAnyH_take (i := 9) (oi := { dst := some 83, op := Op.load 35 (Operand.tmp 21), type := 35, pos := "law.go:83", after := #[{ on := 4, ground := Ground.guard }], guard := some (4, false) }) (v := (.agg #[.int .u64 p.ta, .int .u64 p.rp, .int .u32 p.id, .int .u16 p.op, .int .u16 p.st, .int .u64 p.p, .int .u32 p.o, .int .u8 p.r, .int .u64 p.c, .int .u64 p.ar, .slice p.so p.sn p.sc])) rfl (by kernel_rfl) (by kernel_rfl) (by kernel_rfl) (fun _ _ _ h => h) (Or.inl ⟨by kernel_rfl, fun w hC => by (obtain ⟨⟨p0, p1, p2, p3, p4, p5, p6, p7, p8, p9, p10⟩, r0, r1, r2, r3, r4, r5, r6, r7, r8, r9, r10⟩ := hC; go_simp)⟩) hS.out ?_
                    simp only [Act.put, List.setIfInBounds_toArray, List.set_cons_zero, List.set_cons_succ]
                    refine wpAnyH_ready (rs := [10]) (by kernel_rfl) (by simp) ?_
                    refine AllReadyH.cons (o := { dst := some 84, op := Op.call { callee := Callee.value (Operand.func 12), args := #[Operand.tmp 82, Operand.tmp 83], argTypes := #[35, 35] }, type := 4, pos := "law.go:83", after := #[{ on := 8, ground := Ground.data }, { on := 9, ground := Ground.data }, { on := 4, ground := Ground.chain }, { on := 4, ground := Ground.guard }], guard := some (4, false) }) rfl (fun K hK => ?_) AllReadyH.nil
                    go_simp
                    refine (same_yes vq p _ (Bts.carry HVH.out bb) (Bts.carry ((HSZ.out.grow HB6.out).has HPM.out) bb) HVQ.out).mono ?_; rintro e w8 ⟨rfl, b8⟩
                    have bb := below_one bb b8
                    have hS := hide (HAH.out _ bb)
                    refine hK.out _ _ hS.out (fun _ => ?_)
                    clear hK b8
                    refine wpAnyH_take (i := 11) (oi := { dst := some 85, op := Op.unOp UnOp.not 4 (Operand.tmp 84), type := 4, pos := "law.go:83", after := #[{ on := 10, ground := Ground.data }, { on := 4, ground := Ground.guard }], guard := some (4, false) }) (v := (.bool false)) rfl (by kernel_rfl) (by kernel_rfl) (by kernel_rfl) (fun _ _ _ h => h) (Or.inl ⟨by kernel_rfl, fun w hC => by go_simp⟩) hS.out ?_
                    simp only [Act.put, List.setIfInBounds_toArray, List.set_cons_zero, List.set_cons_succ]
                    refine wpAnyH_take (i := 12) (oi := { dst := some 86, op := Op.pick (Operand.tmp 78) (Operand.const (Value.bool true)) (Operand.tmp 85), type := 4, pos := "law.go:83", after := #[{ on := 4, ground := Ground.data }, { on := 11, ground := Ground.data }], guard := none }) (v := (.bool false)) rfl (by kernel_rfl) (by kernel_rfl) (by kernel_rfl) (fun _ _ _ h => h) (Or.inl ⟨by kernel_rfl, fun w hC => by go_simp⟩) hS.out ?_
                    simp only [Act.put, List.setIfInBounds_toArray, List.set_cons_zero, List.set_cons_succ]
                    refine wpAnyH_done (by kernel_rfl) ?_ _
                    have HO8 := hide (owns_carry (owns_carry HO.out HB6.out) bb)
                    have HB8 := hide (below_one (below_one HB.out HB6.out) bb)
                    clear bb hS
                    go_wp2
                    go_roundg g2
                    case measure => have := HJ.out; omega
                    case rel =>
                      refine ⟨j + 1, by have := HJ.out; omega, by go_num, ?_, ?_, HB8.out⟩
                      · rw [HT.out, HSN.out.1, if_pos trivial, List.length_append, List.length_singleton, ← Nat.add_assoc, HAT.out]; go_num
                      · rw [HT.out, HSN.out.2, if_pos trivial, List.append_nil, HMK.out]; exact HO8.out
            | succ g2 =>
              have hjn : j < n0 := by have := HJ.out; omega
              have hlt : (j : Int) < (n0 : Int) := by omega
              have hjR : j < R0.length := by rw [← HRL.out]; exact hjn
              have HSZ := hide (HSC0.out.grow HB.out)
              have HEZ := hide (HEX0.out.grow HB.out)
              obtain ⟨ae, hae⟩ : ∃ ae, a0 = some ae := HSZ.out.rw.t0.row.there (k := j) hjn
              subst hae
              obtain ⟨p, hp⟩ : ∃ p, R0.getD j Ms.zero = p := ⟨_, rfl⟩
              obtain ⟨k0, k1, k2, k3, k4, k5, k6, k7, k8, k9, k10⟩ := lies_elem HSZ.out.rw.t0.row j hjn p hp _ rfl
              have HT : Hid (R0.take (j + 1) = R0.take j ++ [p]) := by have := takeM_snoc R0 j hjR; rwa [hp] at this
              have HPM : Hid (p ∈ R0 ++ R1) := List.mem_append_left _ (hp ▸ getM_mem R0 j hjR)
              obtain ⟨t, ht⟩ : ∃ t, q p = t := ⟨_, rfl⟩
              have HSN := hide (outF_snoc q (R0.take j) p t ht)
              obtain ⟨Z, hZ⟩ : ∃ Z, wz.alloc (.cells #[.int .u64 p.ta, .int .u64 p.rp, .int .u32 p.id, .int .u16 p.op, .int .u16 p.st, .int .u64 p.p, .int .u32 p.o, .int .u8 p.r, .int .u64 p.c, .int .u64 p.ar, .slice p.so p.sn p.sc] 35) = Z := ⟨_, rfl⟩
              have bZ : Below wz.heap.size wz Z := hZ ▸ below_alloc wz _
              have hbx : BoxM Z wz.heap.size p := hZ ▸ boxM_new wz p
              have HBX := hide hbx
              have HBZ := hide bZ
              obtain ⟨z0, z1, z2, z3, z4, z5, z6, z7, z8, z9, z10⟩ := hbx.all
              have HPJ := hide hp
              have HTQ := hide ht
              clear bZ hbx hp ht
              go_wp2_with fail
              refine ((is_asks wr.heap.size x).call p _ (HEZ.out.grow HBZ.out).act).mono ?_; rintro e w6 ⟨rfl, b6⟩
              rw [show isF x.m.id p = t from by rw [← HTQ.out, ← HQ.out]]
              have hb6 := HBX.out.grow b6
              have HB6 := hide (below_one HBZ.out b6)
              have HBX6 := hide hb6
              obtain ⟨u0, u1, u2, u3, u4', u5, u6, u7, u8, u9', u10'⟩ := hb6.all
              clear b6 hb6 k0 k1 k2 k3 k4 k5 k6 k7 k8 k9 k10 z0 z1 z2 z3 z4 z5 z6 z7 z8 z9 z10
              cases t with
              | false =>
                obtain ⟨ao5, ac5, w7, hr7, ho7, hf7, hB7⟩ := app_one p (owns_carry HO.out HB6.out) (by omega) (Nat.le_trans HB.out.size HB6.out.size)
                have HR7 := hide hr7
                have HO7 := hide ho7
                have HB7 : Hid (Below X0.heap.size X0 w7) := (below_one HB.out HB6.out).trans (hf7.below (Nat.le_trans HB.out.size HB6.out.size) hB7)
                clear hr7 ho7 hf7 hB7
                go_wp2_with (at_builtin; refine wpList_append_run rfl _ _ _ rfl _ _ _ _ rfl rfl HR7.out ?_)
                go_wp2
                go_roundg g2
                case measure => have := HJ.out; omega
                case rel =>
                  refine ⟨j + 1, by have := HJ.out; omega, by go_num, ?_, ?_, HB7.out⟩
                  · rw [HT.out, HSN.out.1, if_neg (by decide), List.append_nil, HAT.out]
                  · rw [HT.out, HSN.out.2, if_neg (by decide), cellsM_append, List.length_append, HMK.out]; exact HO7.out
              | true =>
                have hoa := out_at (q := q) R0 j hjR (by rw [HPJ.out]; exact HTQ.out)
                rw [HPJ.out] at hoa
                have hav : at_ < nv ∧ (V.map Ms.nm).getD at_ Ms.zero = p.nm := by
                  rw [HVN.out, ← HAT.out, HNV.out, HVL.out]
                  refine ⟨by rw [List.length_append]; omega, ?_⟩
                  rw [getM_nm, Nat.zero_add, getD_app0 _ _ _ hoa.1, hoa.2]
                have h1 := hav.1
                have hav1 : ¬ ((nv : Int) ≤ (at_ : Int)) := by omega
                have hav2 : (at_ : Int) < (nv : Int) := by omega
                obtain ⟨vq, hvq⟩ : ∃ vq, V.getD at_ Ms.zero = vq := ⟨_, rfl⟩
                have HVQ : Hid (vq.nm = p.nm) := by show _ = _; rw [← hvq, ← getM_nm]; exact hav.2
                have HE6 := hide (HEZ.out.grow HB6.out)
                obtain ⟨vo2, vc2, hve, hvl⟩ := owns_lies HE6.out.row
                obtain ⟨rfl, rfl⟩ : vo = vo2 ∧ vc = vc2 := by cases hve; exact ⟨rfl, rfl⟩
                have hvc := hvl.2.1
                have hvm : vc ≤ 9223372036854775807 := hvl.2.2.1
                obtain ⟨av, hav0⟩ := hvl.there (k := at_) h1
                subst hav0
                obtain ⟨aq, haq⟩ : ∃ aq, av.add (at_ * 11) = aq := ⟨_, rfl⟩
                have HVH : Hid (vq.has w6) := (HE6.out.has vq (by rw [← hvq]; exact getM_mem V at_ (by rw [← HVNL.out]; exact h1))).1
                have HA0 : ∀ W : World, Below w6.heap.size w6 W → (W.cell? aq = some (.int .u64 vq.ta) ∧ W.cell? { block := aq.block, off := aq.off + 1 } = some (.int .u64 vq.rp) ∧ W.cell? { block := aq.block, off := aq.off + 2 } = some (.int .u32 vq.id) ∧ W.cell? { block := aq.block, off := aq.off + 3 } = some (.int .u16 vq.op) ∧ W.cell? { block := aq.block, off := aq.off + 4 } = some (.int .u16 vq.st) ∧ W.cell? { block := aq.block, off := aq.off + 5 } = some (.int .u64 vq.p) ∧ W.cell? { block := aq.block, off := aq.off + 6 } = some (.int .u32 vq.o) ∧ W.cell? { block := aq.block, off := aq.off + 7 } = some (.int .u8 vq.r) ∧ W.cell? { block := aq.block, off := aq.off + 8 } = some (.int .u64 vq.c) ∧ W.cell? { block := aq.block, off := aq.off + 9 } = some (.int .u64 vq.ar) ∧ W.cell? { block := aq.block, off := aq.off + 10 } = some (.slice vq.so vq.sn vq.sc)) ∧ W.cell? ⟨wz.heap.size, 0, none⟩ = some (.int .u64 p.ta) ∧ W.cell? ⟨wz.heap.size, 1, none⟩ = some (.int .u64 p.rp) ∧ W.cell? ⟨wz.heap.size, 2, none⟩ = some (.int .u32 p.id) ∧ W.cell? ⟨wz.heap.size, 3, none⟩ = some (.int .u16 p.op) ∧ W.cell? ⟨wz.heap.size, 4, none⟩ = some (.int .u16 p.st) ∧ W.cell? ⟨wz.heap.size, 5, none⟩ = some (.int .u64 p.p) ∧ W.cell? ⟨wz.heap.size, 6, none⟩ = some (.int .u32 p.o) ∧ W.cell? ⟨wz.heap.size, 7, none⟩ = some (.int .u8 p.r) ∧ W.cell? ⟨wz.heap.size, 8, none⟩ = some (.int .u64 p.c) ∧ W.cell? ⟨wz.heap.size, 9, none⟩ = some (.int .u64 p.ar) ∧ W.cell? ⟨wz.heap.size, 10, none⟩ = some (.slice p.so p.sn p.sc) := fun W bw =>
                  ⟨lies_elem (hvl.carry bw (Nat.le_refl _)) at_ h1 vq hvq aq haq, (HBX6.out.grow bw).all⟩
                have HAH := hide HA0
                clear HA0 hve hvl hav hvq hoa u0 u1 u2 u3 u4' u5 u6 u7 u8 u9' u10'
                have hS : Hid ((w6.drew.cell? aq = some (.int .u64 vq.ta) ∧ w6.drew.cell? { block := aq.block, off := aq.off + 1 } = some (.int .u64 vq.rp) ∧ w6.drew.cell? { block := aq.block, off := aq.off + 2 } = some (.int .u32 vq.id) ∧ w6.drew.cell? { block := aq.block, off := aq.off + 3 } = some (.int .u16 vq.op) ∧ w6.drew.cell? { block := aq.block, off := aq.off + 4 } = some (.int .u16 vq.st) ∧ w6.drew.cell? { block := aq.block, off := aq.off + 5 } = some (.int .u64 vq.p) ∧ w6.drew.cell? { block := aq.block, off := aq.off + 6 } = some (.int .u32 vq.o) ∧ w6.drew.cell? { block := aq.block, off := aq.off + 7 } = some (.int .u8 vq.r) ∧ w6.drew.cell? { block := aq.block, off := aq.off + 8 } = some (.int .u64 vq.c) ∧ w6.drew.cell? { block := aq.block, off := aq.off + 9 } = some (.int .u64 vq.ar) ∧ w6.drew.cell? { block := aq.block, off := aq.off + 10 } = some (.slice vq.so vq.sn vq.sc)) ∧ w6.drew.cell? ⟨wz.heap.size, 0, none⟩ = some (.int .u64 p.ta) ∧ w6.drew.cell? ⟨wz.heap.size, 1, none⟩ = some (.int .u64 p.rp) ∧ w6.drew.cell? ⟨wz.heap.size, 2, none⟩ = some (.int .u32 p.id) ∧ w6.drew.cell? ⟨wz.heap.size, 3, none⟩ = some (.int .u16 p.op) ∧ w6.drew.cell? ⟨wz.heap.size, 4, none⟩ = some (.int .u16 p.st) ∧ w6.drew.cell? ⟨wz.heap.size, 5, none⟩ = some (.int .u64 p.p) ∧ w6.drew.cell? ⟨wz.heap.size, 6, none⟩ = some (.int .u32 p.o) ∧ w6.drew.cell? ⟨wz.heap.size, 7, none⟩ = some (.int .u8 p.r) ∧ w6.drew.cell? ⟨wz.heap.size, 8, none⟩ = some (.int .u64 p.c) ∧ w6.drew.cell? ⟨wz.heap.size, 9, none⟩ = some (.int .u64 p.ar) ∧ w6.drew.cell? ⟨wz.heap.size, 10, none⟩ = some (.slice p.so p.sn p.sc)) := HAH.out _ (below_d w6 1)
                have bb : Below w6.heap.size w6 w6.drew := below_d w6 1
                go_wp2_with fail
                refine wp_region_held_drew (S := fun W => (W.cell? aq = some (.int .u64 vq.ta) ∧ W.cell? { block := aq.block, off := aq.off + 1 } = some (.int .u64 vq.rp) ∧ W.cell? { block := aq.block, off := aq.off + 2 } = some (.int .u32 vq.id) ∧ W.cell? { block := aq.block, off := aq.off + 3 } = some (.int .u16 vq.op) ∧ W.cell? { block := aq.block, off := aq.off + 4 } = some (.int .u16 vq.st) ∧ W.cell? { block := aq.block, off := aq.off + 5 } = some (.int .u64 vq.p) ∧ W.cell? { block := aq.block, off := aq.off + 6 } = some (.int .u32 vq.o) ∧ W.cell? { block := aq.block, off := aq.off + 7 } = some (.int .u8 vq.r) ∧ W.cell? { block := aq.block, off := aq.off + 8 } = some (.int .u64 vq.c) ∧ W.cell? { block := aq.block, off := aq.off + 9 } = some (.int .u64 vq.ar) ∧ W.cell? { block := aq.block, off := aq.off + 10 } = some (.slice vq.so vq.sn vq.sc)) ∧ W.cell? ⟨wz.heap.size, 0, none⟩ = some (.int .u64 p.ta) ∧ W.cell? ⟨wz.heap.size, 1, none⟩ = some (.int .u64 p.rp) ∧ W.cell? ⟨wz.heap.size, 2, none⟩ = some (.int .u32 p.id) ∧ W.cell? ⟨wz.heap.size, 3, none⟩ = some (.int .u16 p.op) ∧ W.cell? ⟨wz.heap.size, 4, none⟩ = some (.int .u16 p.st) ∧ W.cell? ⟨wz.heap.size, 5, none⟩ = some (.int .u64 p.p) ∧ W.cell? ⟨wz.heap.size, 6, none⟩ = some (.int .u32 p.o) ∧ W.cell? ⟨wz.heap.size, 7, none⟩ = some (.int .u8 p.r) ∧ W.cell? ⟨wz.heap.size, 8, none⟩ = some (.int .u64 p.c) ∧ W.cell? ⟨wz.heap.size, 9, none⟩ = some (.int .u64 p.ar) ∧ W.cell? ⟨wz.heap.size, 10, none⟩ = some (.slice p.so p.sn p.sc)) (by kernel_rfl) hS.out (fun _ => ?_)
                refine wpAnyH_take (i := 0) (oi := { dst := some 74, op := Op.move (Operand.tmp 17), type := 3, pos := "law.go:83", after := #[], guard := none }) (v := (.int .i64 (at_ : Int))) rfl (by kernel_rfl) (by kernel_rfl) (by kernel_rfl) (fun _ _ _ h => h) (Or.inl ⟨by kernel_rfl, fun w hC => by go_simp⟩) hS.out ?_
                simp only [Act.put, List.setIfInBounds_toArray, List.set_cons_zero, List.set_cons_succ]
                refine wpAnyH_take (i := 1) (oi := { dst := some 75, op := Op.move (Operand.tmp 16), type := 41, pos := "law.go:83", after := #[], guard := none }) (v := (.slice (some av) nv vc)) rfl (by kernel_rfl) (by kernel_rfl) (by kernel_rfl) (fun _ _ _ h => h) (Or.inl ⟨by kernel_rfl, fun w hC => by go_simp⟩) hS.out ?_
                simp only [Act.put, List.setIfInBounds_toArray, List.set_cons_zero, List.set_cons_succ]
                refine wpAnyH_take (i := 2) (oi := { dst := some 76, op := Op.call { callee := Callee.builtin Builtin.len, args := #[Operand.tmp 75], argTypes := #[41] }, type := 3, pos := "law.go:83", after := #[{ on := 1, ground := Ground.data }], guard := none }) (v := (.int .i64 (nv : Int))) rfl (by kernel_rfl) (by kernel_rfl) (by kernel_rfl) (fun _ _ _ h => h) (Or.inl ⟨by kernel_rfl, fun w hC => by go_simp⟩) hS.out ?_
                simp only [Act.put, List.setIfInBounds_toArray, List.set_cons_zero, List.set_cons_succ]
                refine wpAnyH_take (i := 3) (oi := { dst := some 77, op := Op.binOp BinOp.geq 3 (Operand.tmp 74) (Operand.tmp 76) 3, type := 4, pos := "law.go:83", after := #[{ on := 0, ground := Ground.data }, { on := 2, ground := Ground.data }], guard := none }) (v := (.bool false)) rfl (by kernel_rfl) (by kernel_rfl) (by kernel_rfl) (fun _ _ _ h => h) (Or.inl ⟨by kernel_rfl, fun w hC => by go_simp⟩) hS.out ?_
                simp only [Act.put, List.setIfInBounds_toArray, List.set_cons_zero, List.set_cons_succ]
                refine wpAnyH_take (i := 4) (oi := { dst := some 78, op := Op.move (Operand.tmp 77), type := 4, pos := "law.go:83", after := #[{ on := 3, ground := Ground.data }], guard := none }) (v := (.bool false)) rfl (by kernel_rfl) (by kernel_rfl) (by kernel_rfl) (fun _ _ _ h => h) (Or.inl ⟨by kernel_rfl, fun w hC => by go_simp⟩) hS.out ?_
                simp only [Act.put, List.setIfInBounds_toArray, List.set_cons_zero, List.set_cons_succ]
                refine wpAnyH_take (i := 5) (oi := { dst := some 79, op := Op.move (Operand.tmp 16), type := 41, pos := "law.go:83", after := #[{ on := 4, ground := Ground.guard }], guard := some (4, false) }) (v := (.slice (some av) nv vc)) rfl (by kernel_rfl) (by kernel_rfl) (by kernel_rfl) (fun _ _ _ h => h) (Or.inl ⟨by kernel_rfl, fun w hC => by go_simp⟩) hS.out ?_
                simp only [Act.put, List.setIfInBounds_toArray, List.set_cons_zero, List.set_cons_succ]
                refine wpAnyH_take (i := 6) (oi := { dst := some 80, op := Op.move (Operand.tmp 17), type := 3, pos := "law.go:83", after := #[{ on := 4, ground := Ground.guard }], guard := some (4, false) }) (v := (.int .i64 (at_ : Int))) rfl (by kernel_rfl) (by kernel_rfl) (by kernel_rfl) (fun _ _ _ h => h) (Or.inl ⟨by kernel_rfl, fun w hC => by go_simp⟩) hS.out ?_
                simp only [Act.put, List.setIfInBounds_toArray, List.set_cons_zero, List.set_cons_succ]
                refine wpAnyH_take (i := 7) (oi := { dst := some 81, op := Op.indexAddr 41 (Operand.tmp 79) (Operand.tmp 80), type := 0, pos := "law.go:83", after := #[{ on := 5, ground := Ground.data }, { on := 6, ground := Ground.data }, { on := 4, ground := Ground.guard }], guard := some (4, false) }) (v := (.pointer (some aq))) rfl (by kernel_rfl) (by kernel_rfl) (by kernel_rfl) (fun _ _ _ h => h) (Or.inl ⟨by kernel_rfl, fun w hC => by go_simp⟩) hS.out ?_
                simp only [Act.put, List.setIfInBounds_toArray, List.set_cons_zero, List.set_cons_succ]
                refine wpAnyH_take (i := 8) (oi := { dst := some 82, op := Op.load 35 (Operand.tmp 81), type := 35, pos := "law.go:83", after := #[{ on := 7, ground := Ground.data }, { on := 4, ground := Ground.guard }], guard := some (4, false) }) (v := (.agg #[.int .u64 vq.ta, .int .u64 vq.rp, .int .u32 vq.id, .int .u16 vq.op, .int .u16 vq.st, .int .u64 vq.p, .int .u32 vq.o, .int .u8 vq.r, .int .u64 vq.c, .int .u64 vq.ar, .slice vq.so vq.sn vq.sc])) rfl (by kernel_rfl) (by kernel_rfl) (by kernel_rfl) (fun _ _ _ h => h) (Or.inl ⟨by kernel_rfl, fun w hC => by (obtain ⟨⟨p0, p1, p2, p3, p4, p5, p6, p7, p8, p9, p10⟩, r0, r1, r2, r3, r4, r5, r6, r7, r8, r9, r10⟩ := hC; go_simp)⟩) hS.out ?_
                simp only [Act.put, List.setIfInBounds_toArray, List.set_cons_zero, List.set_cons_succ]
                refine wpAnyH_take (i := 9) (oi := { dst := some 83, op := Op.load 35 (Operand.tmp 21), type := 35, pos := "law.go:83", after := #[{ on := 4, ground := Ground.guard }], guard := some (4, false) }) (v := (.agg #[.int .u64 p.ta, .int .u64 p.rp, .int .u32 p.id, .int .u16 p.op, .int .u16 p.st, .int .u64 p.p, .int .u32 p.o, .int .u8 p.r, .int .u64 p.c, .int .u64 p.ar, .slice p.so p.sn p.sc])) rfl (by kernel_rfl) (by kernel_rfl) (by kernel_rfl) (fun _ _ _ h => h) (Or.inl ⟨by kernel_rfl, fun w hC => by (obtain ⟨⟨p0, p1, p2, p3, p4, p5, p6, p7, p8, p9, p10⟩, r0, r1, r2, r3, r4, r5, r6, r7, r8, r9, r10⟩ := hC; go_simp)⟩) hS.out ?_
                simp only [Act.put, List.setIfInBounds_toArray, List.set_cons_zero, List.set_cons_succ]
                refine wpAnyH_ready (rs := [10]) (by kernel_rfl) (by simp) ?_
                refine AllReadyH.cons (o := { dst := some 84, op := Op.call { callee := Callee.value (Operand.func 12), args := #[Operand.tmp 82, Operand.tmp 83], argTypes := #[35, 35] }, type := 4, pos := "law.go:83", after := #[{ on := 8, ground := Ground.data }, { on := 9, ground := Ground.data }, { on := 4, ground := Ground.chain }, { on := 4, ground := Ground.guard }], guard := some (4, false) }) rfl (fun K hK => ?_) AllReadyH.nil
                go_simp
                refine (same_yes vq p _ (Bts.carry HVH.out bb) (Bts.carry ((HSZ.out.grow HB6.out).has HPM.out) bb) HVQ.out).mono ?_; rintro e w8 ⟨rfl, b8⟩
                have bb := below_one bb b8
                have hS := hide (HAH.out _ bb)
                refine hK.out _ _ hS.out (fun _ => ?_)
                clear hK b8
                refine wpAnyH_take (i := 11) (oi := { dst := some 85, op := Op.unOp UnOp.not 4 (Operand.tmp 84), type := 4, pos := "law.go:83", after := #[{ on := 10, ground := Ground.data }, { on := 4, ground := Ground.guard }], guard := some (4, false) }) (v := (.bool false)) rfl (by kernel_rfl) (by kernel_rfl) (by kernel_rfl) (fun _ _ _ h => h) (Or.inl ⟨by kernel_rfl, fun w hC => by go_simp⟩) hS.out ?_
                simp only [Act.put, List.setIfInBounds_toArray, List.set_cons_zero, List.set_cons_succ]
                refine wpAnyH_take (i := 12) (oi := { dst := some 86, op := Op.pick (Operand.tmp 78) (Operand.const (Value.bool true)) (Operand.tmp 85), type := 4, pos := "law.go:83", after := #[{ on := 4, ground := Ground.data }, { on := 11, ground := Ground.data }], guard := none }) (v := (.bool false)) rfl (by kernel_rfl) (by kernel_rfl) (by kernel_rfl) (fun _ _ _ h => h) (Or.inl ⟨by kernel_rfl, fun w hC => by go_simp⟩) hS.out ?_
                simp only [Act.put, List.setIfInBounds_toArray, List.set_cons_zero, List.set_cons_succ]
                refine wpAnyH_done (by kernel_rfl) ?_ _
                have HO8 := hide (owns_carry (owns_carry HO.out HB6.out) bb)
                have HB8 := hide (below_one (below_one HB.out HB6.out) bb)
                clear bb hS
                go_wp2
                go_roundg g2
                case measure => have := HJ.out; omega
                case rel =>
                  refine ⟨j + 1, by have := HJ.out; omega, by go_num, ?_, ?_, HB8.out⟩
                  · rw [HT.out, HSN.out.1, if_pos trivial, List.length_append, List.length_singleton, ← Nat.add_assoc, HAT.out]; go_num
                  · rw [HT.out, HSN.out.2, if_pos trivial, List.append_nil, HMK.out]; exact HO8.out
end Go.Proofs.YtibdhjohjkdgdaaDoor
