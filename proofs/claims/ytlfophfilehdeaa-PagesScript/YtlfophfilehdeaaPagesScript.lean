/-
  PagesScript (P8.1, P8.2): pages that are given out, taken back, written and read are what the document says, deed by deed: of up to 12 pages. No condition: every input that can be read.
-/
import Derived.Test.YtlfophfilehdeaaRows
import Derived.Test.YtlfophfilehdeaaPScript
import Derived.WalkKit
import Derived.WalkSpells
import Derived.WalkLawsBesides
import Derived.Deep.QuietTactic
import Derived.BigQuiet
import Derived.ProofKit
import Derived.OpenShut
import Derived.ShutString
import Derived.ChangeOld
import Derived.Below
import Derived.SizedLaws
namespace Go.Proofs.Ytlfophfilehdeaa

open Go.RowKit
def ScriptRel (w : World) (m a b n x t y N : Nat) (gk : Nat) (i : Value) (wr : World) : Prop :=
  ∃ (k : Nat) (gl : List Bool) (sl : List (Option Nat)) (bs : List UInt8), k + gk = N ∧ i = .int .i64 k ∧ Hid (MemAt wr m a b n gl bs) ∧ Hid (ModAt wr w.heap.size x t y n gl sl bs) ∧ Hid (Below w.heap.size w wr)
set_option maxRecDepth 100000 in
set_option maxHeartbeats 6400000 in
theorem walk_script (q : Nat) (ao : Option Addr) (N cap : Nat) (xs : List Ac) (w : World) (hq : q ≤ 255) (hx : Acts w ao N cap xs) (hN : N ≤ 140737488351232) :
    Calls Try.prog 3 #[.int .u8 (q : Int), .slice ao N cap] w fun e w' => e = .returned (.bool true) ∧ Below w.heap.size w w' := by
  have HQ := hide hx
  have hcap : cap ≤ 9223372036854775807 := hx.2.2.1
  have hnc : N ≤ cap := hx.2.1
  obtain ⟨n, hn⟩ : ∃ n, q % 13 = n := ⟨_, rfl⟩
  have hqn : (q : Int) % 13 = (n : Int) := by omega
  have h12 : n ≤ 12 := by omega
  clear hx hn
  obtain ⟨T, hT⟩ : ∃ T, boolsV (List.replicate n false) = T := ⟨_, rfl⟩
  obtain ⟨C, hC⟩ : ∃ C, slicesV n = C := ⟨_, rfl⟩
  have HT := hide hT
  have HC := hide hC
  have mb := make_bools n n rfl (by omega)
  have ms := make_slices n h12
  rw [hT] at mb
  rw [hC] at ms
  clear hT hC
  go_enter Try.func3, Try.ntmps3
  go_wp2_with fail
  refine (awake_any _).mono ?_; rintro e w1 ⟨rfl, bel1⟩
  have HB1 := hide bel1
  clear bel1
  go_wp2_with fail
  refine (of_any _ _ n (by unfold clampF; omega) (by omega)).mono ?_; rintro e w2 ⟨m, a, b, rfl, N2⟩
  have H2 := hide N2
  have HB2 := hide (HB1.out.trans (N2.bel.mono HB1.out.size))
  clear N2
  have HA := hide (show a < w2.heap.size from lt_of_heap H2.out.mem.giv)
  go_upto_region 5 with fail
  go_cut [7] from 31 to 36 (fun v wx => ∃ x t y, v = .pointer (some ⟨x, 0, none⟩) ∧ Hid (ModAt wx w.heap.size x t y n (List.replicate n false) (List.replicate n none) (zeros (n * 64))) ∧ Hid (Below w2.heap.size w2 wx) ∧ Hid (a ≠ t))
  case first =>
    as_aux_lemma =>
      go_region
      all_goals (go_wp2_with fail)
      all_goals go_meet
      all_goals
        exact mod_made _ _ w2 _ _ _ _ _ _ n a T C HT.out HC.out h12 HB2.out.size HA.out (by first | exact (alloc3 _ _ _ _).1 | exact (alloc3 _ _ _ _).2.1 | exact (alloc3 _ _ _ _).2.2) (by first | exact (alloc3 _ _ _ _).1 | exact (alloc3 _ _ _ _).2.1 | exact (alloc3 _ _ _ _).2.2) (by first | exact (alloc3 _ _ _ _).1 | exact (alloc3 _ _ _ _).2.1 | exact (alloc3 _ _ _ _).2.2) (by omega) (by omega) (by omega)
  case rest =>
    obtain ⟨x, t, y, rfl, HO, HBx, Hat⟩ := hcut
    have HM := hide (H2.out.mem.grow HBx.out)
    have HMA := hide (Nat.le_trans HB1.out.size H2.out.ha)
    have HMB := hide (Nat.le_trans HB1.out.size H2.out.hb)
    have HB := hide (HB2.out.trans (HBx.out.mono HB2.out.size))
    clear mb ms HT HC HB2 HBx HA H2 HB1
    go_wp2_with fail
    go_loopg [38] N (fun gk i wr => ScriptRel w m a b n x t y N gk i wr)
    case atStart => exact ⟨0, _, _, _, by omega, rfl, HM, HO, HB⟩
    case round =>
      clear HM HO HB
      obtain ⟨k, gl, sl, bs, hk, rfl, HM, HO, HB⟩ := hrel
      cases gk with
      | zero =>
        as_aux_lemma =>
          have hlt : ¬ ((k : Int) < (N : Int)) := by omega
          have c0 := HO.out.c0
          go_wp2_with fail
          go_loopg [22, 270] n (fun gk s i wq => LeftRel gl n gk s i ∧ wq = wr)
          case atStart => exact ⟨⟨0, 0, by omega, rfl, rfl, by omega, rfl⟩, rfl⟩
          case round =>
            rename World => wq
            obtain ⟨⟨j, c, hj, rfl, rfl, hcj, HC⟩, rfl⟩ := hrel
            cases gk with
            | zero =>
              have hlt2 : ¬ ((j : Int) < (n : Int)) := by omega
              have HL := hide (show leftF gl = c by rw [← HC.out, List.take_of_length_le (by rw [HO.out.num]; omega)])
              go_wp2_with fail
              refine (left_any m a b n _ _ _ HM.out).mono ?_; rintro e w3 ⟨rfl, rfl⟩
              rw [HL.out]
              go_wp2
              go_ret
              exact ⟨rfl, HB.out⟩
            | succ g1 =>
              have hlt2 : ((j : Int) < (n : Int)) := by omega
              have hjl : j < gl.length := by rw [HO.out.num]; omega
              have hc := HO.out.tak.cell j hjl
              have HT := hide (leftF_take gl j hjl)
              cases hb : gl.getD j true with
              | true =>
                rw [hb] at hc HT
                clear hb
                go_wp2
                go_roundg g1
                case measure => omega
                case rel => exact ⟨⟨j + 1, c, by omega, by go_num, rfl, by omega, by show _ = _; rw [HT.out, HC.out]; rfl⟩, rfl⟩
              | false =>
                rw [hb] at hc HT
                clear hb
                go_wp2
                go_roundg g1
                case measure => omega
                case rel => exact ⟨⟨j + 1, c + 1, by omega, by go_num, by go_num, by omega, by show _ = _; rw [HT.out, HC.out]; rfl⟩, rfl⟩
      | succ g1 =>
        have hlt : ((k : Int) < (N : Int)) := by omega
        have hkN : k < N := by omega
        cases ao with
        | none => have := HQ.out.2.2.2.1 rfl; omega
        | some ad =>
          obtain ⟨o, pg, pt, so, sn, sc, l, hact⟩ : ∃ o pg pt so sn sc l, xs.getD k Ac.zero = ⟨o, pg, pt, so, sn, sc, l⟩ := ⟨_, _, _, _, _, _, _, rfl⟩
          obtain ⟨⟨ho, hpg, hpt⟩, _, e0, e1, e2, e3⟩ := (HQ.out.carry HB.out).2.2.2.2 ad rfl k hkN
          have hbts := (HQ.out.2.2.2.2 ad rfl k hkN).2.1
          simp only [hact] at ho hpg hpt hbts e0 e1 e2 e3
          rw [addS _ 0] at e1
          rw [addS _ 1] at e2
          rw [addS _ 2] at e3
          obtain ⟨X, hX⟩ : ∃ X, wr.alloc (.cells #[.int .u8 (o : Int), .int .i8 pg, .int .i8 pt, .slice so sn sc] 33) = X := ⟨_, rfl⟩
          have belX : Below wr.heap.size wr X := hX ▸ below_alloc wr _
          obtain ⟨c, hcb⟩ : ∃ c, wr.heap.size = c := ⟨_, rfl⟩
          have HK : Hid (Pk w X m a b n x t y c gl sl bs o pg pt so sn sc l) :=
            ⟨HM.out.grow belX, HO.out.grow belX, HB.out.trans (belX.mono HB.out.size), hbts, by rw [← hcb, ← hX]; exact heap_alloc_new _ _⟩
          have wpg : IntKind.i64.wrap pg = pg := by rw [IntKind.wrap_i64]; omega
          have wpt : IntKind.i64.wrap pt = pt := by rw [IntKind.wrap_i64]; omega
          have hsn : sn ≤ 9223372036854775807 := Nat.le_trans hbts.2.1 hbts.2.2.1
          clear hact hbts belX HM HO HB
          go_upto_region 9 with fail
          clear hX hcb e0 e1 e2 e3
          go_cut [10, 11] from 42 to 48 (fun u v wx => u = .int .i64 pg ∧ v = .int .i64 pt ∧ Hid (Pk w wx m a b n x t y c gl sl bs o pg pt so sn sc l))
          case first =>
            have q1 : ∀ j, (X.drewN j).cell? ⟨c, 1, none⟩ = some (.int .i8 pg) := fun j => HK.out.q1
            have q2 : ∀ j, (X.drewN j).cell? ⟨c, 2, none⟩ = some (.int .i8 pt) := fun j => HK.out.q2
            go_quiet (fail)
            go_wp2_with fail
            go_meet
            case rel => exact ⟨rfl, rfl, HK.out.drewN _⟩
          case rest =>
            rename World => X1
            clear HK wpg wpt
            obtain ⟨rfl, rfl, HK⟩ := hcut
            have c0 := HK.out.mod.c0
            obtain ⟨hv, hhv⟩ : ∃ hv, hasF gl pg = hv := ⟨_, rfl⟩
            have HV := hide hhv
            clear hhv
            go_upto_region 10 with fail
            go_cut [12] from 48 to 62 (fun v wx => v = .bool hv ∧ wx = X1)
            case first =>
              by_cases h0 : 0 ≤ pg
              · obtain ⟨j, rfl⟩ := Int.eq_ofNat_of_zero_le h0
                by_cases h1 : (j : Int) < (n : Int)
                · have hj : j < gl.length := by rw [HK.out.mod.num]; omega
                  have hc := HK.out.mod.tak.cell j hj
                  have HE := hide (show gl.getD j true = hv by rw [← HV.out, hasF_nat, decide_eq_true hj]; simp)
                  rw [HE.out] at hc
                  go_wp2_with fail
                  go_meet
                  case rel => exact ⟨rfl, rfl⟩
                · have HE := hide (show hv = false by rw [← HV.out, hasF_nat, decide_eq_false (by rw [HK.out.mod.num]; omega)]; simp)
                  go_wp2_with fail
                  go_meet
                  case rel => exact ⟨by rw [HE.out], rfl⟩
              · have HE := hide (show hv = false by rw [← HV.out]; unfold hasF; rw [decide_eq_false (by omega)]; simp)
                go_wp2_with fail
                go_meet
                case rel => exact ⟨by rw [HE.out], rfl⟩
            case rest =>
              obtain ⟨rfl, rfl⟩ := hcut
              have q0 := HK.out.q0
              have q3 := HK.out.q3
              have ho4 : (o : Int) % 4 = 0 ∨ (o : Int) % 4 = 1 ∨ (o : Int) % 4 = 2 ∨ (o : Int) % 4 = 3 := by omega
              rcases ho4 with ho4 | ho4 | ho4 | ho4
              · -- a page is asked for
                as_aux_lemma =>
                  rcases low_cases gl n HK.out.mod.num with hl | hl
                  · have HL := hide hl
                    clear hl
                    go_wp2_with fail
                    refine (malloc_no HK.out.mod HL.out).mono ?_; rintro e w3 ⟨rfl, rfl⟩
                    go_wp2_with fail
                    refine (alloc_no m a b n _ _ _ HK.out.mem HL.out).mono ?_; rintro e w4 ⟨rfl, rfl⟩
                    unfold errV
                    go_wp2_with fail
                    refine (is_same 6 _).mono ?_; rintro e w5 ⟨rfl, rfl⟩
                    go_wp2
                    go_roundg g1
                    case measure => omega
                    case rel => exact ⟨k + 1, gl, sl, bs, by omega, by go_num, HK.out.mem, HK.out.mod, HK.out.bel⟩
                  · obtain ⟨j, hj⟩ : ∃ j, lowF gl = j := ⟨_, rfl⟩
                    have HJ := hide hj
                    have HJN := hide (show j < n by omega)
                    have hj0 : (0 : Int) ≤ (j : Int) := by omega
                    have hj1 : ¬ ((j : Int) < 0) := by omega
                    clear hj hl
                    go_wp2_with fail
                    refine (malloc_yes HK.out.mod j HJ.out HJN.out HK.out.mem.clean HK.out.mem.len HK.out.bel.size).mono ?_; rintro e w3 ⟨rfl, ⟨g, O3⟩, F3⟩
                    have HO3 := hide O3
                    have HM3 := hide (HK.out.mem.apart HK.out.mod Hat.out F3)
                    have HB3 := hide (HK.out.mod.below HK.out.bel F3 HK.out.bel.size)
                    clear O3 F3
                    go_wp2_with fail
                    refine (alloc_yes m a b n j _ _ _ HM3.out HJ.out HJN.out).mono ?_; rintro e w4 ⟨rfl, M4, F4⟩
                    have HM4 := hide M4
                    have HO4 := hide (HO3.out.apart HM3.out Hat.out F4)
                    have HB4 := hide (HB3.out.trans (F4.below HB3.out.size fun z e => by
                      have := HMA.out; have := HMB.out
                      rcases e with e | e <;> omega))
                    clear M4 F4
                    go_wp2
                    go_roundg g1
                    case measure => omega
                    case rel => exact ⟨k + 1, _, _, bs, by omega, by go_num, HM4, HO4, HB4⟩
              · -- a page is taken back
                cases hv with
                | false =>
                  as_aux_lemma =>
                    go_wp2_with fail
                    refine (free_no m a b n _ _ _ _ HK.out.mem HV.out).mono ?_; rintro e w3 ⟨rfl, rfl⟩
                    unfold errV
                    go_wp2_with fail
                    refine (is_same 4 _).mono ?_; rintro e w5 ⟨rfl, rfl⟩
                    go_wp2
                    go_roundg g1
                    case measure => omega
                    case rel => exact ⟨k + 1, gl, sl, bs, by omega, by go_num, HK.out.mem, HK.out.mod, HK.out.bel⟩
                | true =>
                  as_aux_lemma =>
                    obtain ⟨j, rfl, hj, hg⟩ := hasF_yes HV.out
                    rw [HK.out.mod.num] at hj
                    have HG := hide hg
                    have HJ := hide hj
                    have hj1 : ((j : Int) < (n : Int)) := by omega
                    clear hg hj
                    go_wp2_with fail
                    refine (free_yes m a b n j _ _ _ HK.out.mem HJ.out HG.out).mono ?_; rintro e w3 ⟨rfl, M3, F3⟩
                    have HM3 := hide M3
                    have HO3 := hide (HK.out.mod.apart HK.out.mem Hat.out F3)
                    have HB3 := hide (HK.out.below F3 HMA.out HMB.out)
                    have c3 := HO3.out.c0
                    have t3 := HO3.out.tak.cell j (by rw [HO3.out.num]; exact HJ.out)
                    have z3 := HO3.out.tak.frozen j
                    have HLN := hide HK.out.mem.len
                    clear M3 F3
                    go_wp2
                    go_roundg g1
                    case measure => omega
                    case rel =>
                      have f4 : Foot (ModS t y sl) w3 (w3.setCell ⟨t, j, none⟩ (.bool false)) := (foot_set w3 ⟨t, j, none⟩ _).mono fun _ e => .inl e
                      exact ⟨k + 1, gl.set j false, sl, splice bs (j * 64) (zeros 64), by omega, by go_num, HM3.out.apart HO3.out Hat.out f4, HO3.out.freed HJ.out HLN.out, HO3.out.below HB3.out f4 HB3.out.size⟩
              · -- a page is written
                obtain ⟨fv, hfv⟩ : ∃ fv, fitsF pt (sn : Int) = fv := ⟨_, rfl⟩
                have HFV := hide hfv
                clear hfv
                have HSN := hide (show sn ≤ maxLen from hsn)
                have HPT := hide (show -9223372036854775808 ≤ pt ∧ pt ≤ 9223372036854775807 by omega)
                cases hv with
                | false =>
                  as_aux_lemma =>
                    go_wp2_with fail
                    refine (write_no m a b n _ _ _ _ 4 _ _ _ _ HK.out.mem HPT.out HSN.out (wrongV_has _ _ HV.out)).mono ?_; rintro e w3 ⟨rfl, rfl⟩
                    unfold errV
                    go_upto_region 29 with fail
                    go_cut [18] from 205 to 221 (fun v wx => v = .bool fv ∧ wx = w3)
                    case first =>
                      by_cases f0 : 0 ≤ pt
                      · by_cases f1 : (sn : Int) ≤ 64
                        · by_cases f2 : pt ≤ 64 - (sn : Int)
                          · have HE := hide (show fv = true by rw [← HFV.out]; exact decide_eq_true (by omega))
                            go_wp2_with fail
                            go_meet
                            case rel => exact ⟨by rw [HE.out], rfl⟩
                          · have HE := hide (show fv = false by rw [← HFV.out]; exact decide_eq_false (by omega))
                            go_wp2_with fail
                            go_meet
                            case rel => exact ⟨by rw [HE.out], rfl⟩
                        · have HE := hide (show fv = false by rw [← HFV.out]; exact decide_eq_false (by omega))
                          go_wp2_with fail
                          go_meet
                          case rel => exact ⟨by rw [HE.out], rfl⟩
                      · have HE := hide (show fv = false by rw [← HFV.out]; exact decide_eq_false (by omega))
                        go_wp2_with fail
                        go_meet
                        case rel => exact ⟨by rw [HE.out], rfl⟩
                    case rest =>
                      obtain ⟨rfl, rfl⟩ := hcut
                      go_wp2_with fail
                      refine (is_same 4 _).mono ?_; rintro e w5 ⟨rfl, rfl⟩
                      go_wp2
                      go_roundg g1
                      case measure => omega
                      case rel => exact ⟨k + 1, gl, sl, bs, by omega, by go_num, HK.out.mem, HK.out.mod, HK.out.bel⟩
                | true =>
                  cases fv with
                  | false =>
                    as_aux_lemma =>
                      obtain ⟨fv, hfv⟩ : ∃ fv, false = fv := ⟨_, rfl⟩
                      have HE0 := hide hfv
                      have HF0 := hide HFV.out
                      rw [hfv] at HFV
                      clear hfv
                      go_wp2_with fail
                      refine (write_no m a b n _ _ _ _ 13 _ _ _ _ HK.out.mem HPT.out HSN.out (wrongV_fits HV.out HF0.out)).mono ?_; rintro e w3 ⟨rfl, rfl⟩
                      unfold errV
                      go_upto_region 29 with fail
                      go_cut [18] from 205 to 221 (fun v wx => v = .bool fv ∧ wx = w3)
                      case first =>
                        by_cases f0 : 0 ≤ pt
                        · by_cases f1 : (sn : Int) ≤ 64
                          · by_cases f2 : pt ≤ 64 - (sn : Int)
                            · have HE := hide (show fv = true by rw [← HFV.out]; exact decide_eq_true (by omega))
                              go_wp2_with fail
                              go_meet
                              case rel => exact ⟨by rw [HE.out], rfl⟩
                            · have HE := hide (show fv = false by rw [← HFV.out]; exact decide_eq_false (by omega))
                              go_wp2_with fail
                              go_meet
                              case rel => exact ⟨by rw [HE.out], rfl⟩
                          · have HE := hide (show fv = false by rw [← HFV.out]; exact decide_eq_false (by omega))
                            go_wp2_with fail
                            go_meet
                            case rel => exact ⟨by rw [HE.out], rfl⟩
                        · have HE := hide (show fv = false by rw [← HFV.out]; exact decide_eq_false (by omega))
                          go_wp2_with fail
                          go_meet
                          case rel => exact ⟨by rw [HE.out], rfl⟩
                      case rest =>
                        obtain ⟨rfl, rfl⟩ := hcut
                        rw [← HE0.out]
                        go_wp2_with fail
                        refine (is_same 13 _).mono ?_; rintro e w5 ⟨rfl, rfl⟩
                        go_wp2
                        go_roundg g1
                        case measure => omega
                        case rel => exact ⟨k + 1, gl, sl, bs, by omega, by go_num, HK.out.mem, HK.out.mod, HK.out.bel⟩
                  | true =>
                    as_aux_lemma =>
                      obtain ⟨j, rfl, hj, hg⟩ := hasF_yes HV.out
                      rw [HK.out.mod.num] at hj
                      have hf := of_decide_eq_true HFV.out
                      obtain ⟨p, rfl⟩ := Int.eq_ofNat_of_zero_le hf.1
                      have hps : p + sn ≤ 64 := by omega
                      obtain ⟨g, e1, e2⟩ := HK.out.mod.page j hj hg
                      have HG := hide hg
                      have HJ := hide hj
                      have HPS := hide hps
                      have HE1 := hide e1
                      have hj1 : ((j : Int) < (n : Int)) := by omega
                      have hp0 : ((0 : Int) ≤ (p : Int)) := by omega
                      have hs64 : ((sn : Int) ≤ 64) := by omega
                      have hp64 : ((p : Int) ≤ 64 - (sn : Int)) := by omega
                      have HSL := hide (cutS_l · g p (by omega))
                      clear hg hj e1 e2 hf
                      go_wp2_with fail
                      refine (write_yes m a b n j p _ _ _ _ _ _ _ HK.out.mem HJ.out HG.out (HK.out.bts.carry HK.out.bel) HPS.out).mono ?_; rintro e w3 ⟨rfl, M3, F3⟩
                      have HM3 := hide M3
                      have HO3 := hide (HK.out.mod.apart HK.out.mem Hat.out F3)
                      have HB3 := hide (HK.out.below F3 HMA.out HMB.out)
                      have HLN := hide HK.out.mem.len
                      have d3 := HK.out.foot3 F3
                      clear M3 F3
                      obtain ⟨g', e1, e2⟩ := HO3.out.page j HJ.out HG.out
                      rw [HE1.out] at e1
                      obtain rfl := Option.some.inj e1
                      have hpl : (pieceF bs (j * 64) 64).length = 64 := pieceF_len _ _ _ (by have := HLN.out; have := HJ.out; omega)
                      have hcp : (Builtin.copy_ #[31, 31] 3 #[.slice (some (cutA g 0 p)) (64 - p) (64 - p), .slice so sn sc]).run Try.prog w3.drew = .ok (goInt sn) (w3.setRow g (cellsB (splice (pieceF bs (j * 64) 64) p l)).toArray).drew := copy_modpage (w := w3.drew) e2 p hpl (HK.out.bts.carry (below_drewN HB3.out 1)) HPS.out
                      have HW := hide (HO3.out.wrote (p := p) (l := l) HJ.out HLN.out HE1.out e2 (by have := HPS.out; have := HK.out.bts.1; omega))
                      have HF4 : Hid (Foot (ModS t y sl) w3 (w3.setRow g (cellsB (splice (pieceF bs (j * 64) 64) p l)).toArray)) := (foot_row w3 g _).mono fun z e => .inr (.inr ⟨j, by rw [e]; exact HE1.out⟩)
                      obtain ⟨W, hW⟩ : ∃ W, w3.setRow g (cellsB (splice (pieceF bs (j * 64) 64) p l)).toArray = W := ⟨_, rfl⟩
                      rw [hW] at hcp HW HF4
                      have c3 := HO3.out.c1
                      have s3 := HO3.out.slot HJ.out HE1.out
                      have sl3 := HSL.out
                      clear e1 e2 hpl hW c0 q3
                      go_wp2_with fail
                      go_region
                      all_goals
                        go_wp2
                        go_roundg g1
                        case measure => omega
                        case rel => exact ⟨k + 1, gl, sl, splice bs (j * 64 + p) l, by omega, by go_num, (HM3.out.apart HO3.out Hat.out HF4.out).drewN 1, HW.out.drewN 1, below_drewN (HO3.out.below HB3.out HF4.out HB3.out.size) 1⟩
              · -- a page is read
                obtain ⟨fv, hfv⟩ : ∃ fv, fitsF pt (sn : Int) = fv := ⟨_, rfl⟩
                have HFV := hide hfv
                clear hfv
                have HPT := hide (show -9223372036854775808 ≤ pt ∧ pt ≤ 9223372036854775807 by omega)
                cases hv with
                | false =>
                  as_aux_lemma =>
                    go_wp2_with fail
                    refine (read_no m a b n _ _ _ _ _ 4 _ HK.out.mem HPT.out (wrongV_has _ _ HV.out)).mono ?_; rintro e w3 ⟨rfl, rfl⟩
                    unfold errV
                    go_upto_region 13 with fail
                    go_cut [21] from 75 to 91 (fun v wx => v = .bool fv ∧ wx = w3)
                    case first =>
                      by_cases f0 : 0 ≤ pt
                      · by_cases f1 : (sn : Int) ≤ 64
                        · by_cases f2 : pt ≤ 64 - (sn : Int)
                          · have HE := hide (show fv = true by rw [← HFV.out]; exact decide_eq_true (by omega))
                            go_wp2_with fail
                            go_meet
                            case rel => exact ⟨by rw [HE.out], rfl⟩
                          · have HE := hide (show fv = false by rw [← HFV.out]; exact decide_eq_false (by omega))
                            go_wp2_with fail
                            go_meet
                            case rel => exact ⟨by rw [HE.out], rfl⟩
                        · have HE := hide (show fv = false by rw [← HFV.out]; exact decide_eq_false (by omega))
                          go_wp2_with fail
                          go_meet
                          case rel => exact ⟨by rw [HE.out], rfl⟩
                      · have HE := hide (show fv = false by rw [← HFV.out]; exact decide_eq_false (by omega))
                        go_wp2_with fail
                        go_meet
                        case rel => exact ⟨by rw [HE.out], rfl⟩
                    case rest =>
                      obtain ⟨rfl, rfl⟩ := hcut
                      go_wp2_with fail
                      go_quiet ((go_at_call 11; exact Calls.quiet_of_same (is_same 4 _)))
                      go_wp2
                      go_roundg g1
                      case measure => omega
                      case rel => exact ⟨k + 1, gl, sl, bs, by omega, by go_num, HK.out.mem.drewN _, HK.out.mod.drewN _, below_drewN HK.out.bel _⟩
                | true =>
                  cases fv with
                  | false =>
                    as_aux_lemma =>
                      obtain ⟨fv, hfv⟩ : ∃ fv, false = fv := ⟨_, rfl⟩
                      have HE0 := hide hfv
                      have HF0 := hide HFV.out
                      rw [hfv] at HFV
                      clear hfv
                      go_wp2_with fail
                      refine (read_no m a b n _ _ _ _ _ 13 _ HK.out.mem HPT.out (wrongV_fits HV.out HF0.out)).mono ?_; rintro e w3 ⟨rfl, rfl⟩
                      unfold errV
                      go_upto_region 13 with fail
                      go_cut [21] from 75 to 91 (fun v wx => v = .bool fv ∧ wx = w3)
                      case first =>
                        by_cases f0 : 0 ≤ pt
                        · by_cases f1 : (sn : Int) ≤ 64
                          · by_cases f2 : pt ≤ 64 - (sn : Int)
                            · have HE := hide (show fv = true by rw [← HFV.out]; exact decide_eq_true (by omega))
                              go_wp2_with fail
                              go_meet
                              case rel => exact ⟨by rw [HE.out], rfl⟩
                            · have HE := hide (show fv = false by rw [← HFV.out]; exact decide_eq_false (by omega))
                              go_wp2_with fail
                              go_meet
                              case rel => exact ⟨by rw [HE.out], rfl⟩
                          · have HE := hide (show fv = false by rw [← HFV.out]; exact decide_eq_false (by omega))
                            go_wp2_with fail
                            go_meet
                            case rel => exact ⟨by rw [HE.out], rfl⟩
                        · have HE := hide (show fv = false by rw [← HFV.out]; exact decide_eq_false (by omega))
                          go_wp2_with fail
                          go_meet
                          case rel => exact ⟨by rw [HE.out], rfl⟩
                      case rest =>
                        obtain ⟨rfl, rfl⟩ := hcut
                        rw [← HE0.out]
                        go_wp2_with fail
                        go_quiet ((go_at_call 11; exact Calls.quiet_of_same (is_same 13 _)))
                        go_wp2
                        go_roundg g1
                        case measure => omega
                        case rel => exact ⟨k + 1, gl, sl, bs, by omega, by go_num, HK.out.mem.drewN _, HK.out.mod.drewN _, below_drewN HK.out.bel _⟩
                  | true =>
                    as_aux_lemma =>
                      obtain ⟨j, rfl, hj, hg⟩ := hasF_yes HV.out
                      rw [HK.out.mod.num] at hj
                      have hf := of_decide_eq_true HFV.out
                      obtain ⟨p, rfl⟩ := Int.eq_ofNat_of_zero_le hf.1
                      have hps : p + sn ≤ 64 := by omega
                      have HG := hide hg
                      have HJ := hide hj
                      have HPS := hide hps
                      have hj1 : ((j : Int) < (n : Int)) := by omega
                      have hp0 : ((0 : Int) ≤ (p : Int)) := by omega
                      have hs64 : ((sn : Int) ≤ 64) := by omega
                      have hp64 : ((p : Int) ≤ 64 - (sn : Int)) := by omega
                      have wps : IntKind.i64.wrap ((p : Int) + (sn : Int)) = (p : Int) + (sn : Int) := by rw [IntKind.wrap_i64]; omega
                      have HWP := hide wps
                      clear hg hj hf wps
                      go_wp2_with fail
                      refine (read_yes m a b n j p sn _ _ _ HK.out.mem HJ.out HG.out HPS.out).mono ?_; rintro e w3 ⟨co, cc, rfl, B3, _, bel3⟩
                      have H3 := hide (HK.out.grow bel3)
                      obtain ⟨S, hS⟩ : ∃ S, str (pieceF bs (j * 64 + p) sn) = S := ⟨_, rfl⟩
                      have cv1 : ∀ z, (convert 31 9 (.slice co sn cc)).run Try.prog (w3.drewN z) = .ok (.string S) (w3.drewN z) := fun z => by rw [← hS]; exact conv_bts (B3.drewN z)
                      obtain ⟨g, e1, e2⟩ := H3.out.mod.page j HJ.out HG.out
                      have hln := H3.out.mem.len
                      have cv2 : ∀ z, (convert 31 9 (.slice (some (cutA g 0 p)) sn (64 - p))).run Try.prog (w3.drewN z) = .ok (.string S) (w3.drewN z) := fun z => by
                        rw [← hS, ← piece_piece j p sn HPS.out hln HJ.out]
                        exact conv_bts ((cutG_bts e2 p sn (pieceF_len _ _ _ (by have := HJ.out; omega)) HPS.out).drewN z)
                      have c3 : ∀ z, (w3.drewN z).cell? ⟨x, 1, none⟩ = some (.slice (some ⟨y, 0, none⟩) n n) := fun z => H3.out.mod.c1
                      have s3 : ∀ z, (w3.drewN z).cell? ⟨y, j, none⟩ = some (.slice (some ⟨g, 0, none⟩) 64 64) := fun z => H3.out.mod.slot HJ.out e1
                      have d3 : ∀ z, (w3.drewN z).cell? ⟨c, 3, none⟩ = some (.slice so sn sc) := fun z => H3.out.q3
                      have d30 := H3.out.q3
                      have sl3 := fun w => cutS_lh w g p sn HPS.out
                      have wps := HWP.out
                      clear B3 bel3 e1 e2 hln hS c0 q3
                      go_wp2_with fail
                      go_quiet (fail)
                      go_wp2
                      go_roundg g1
                      case measure => omega
                      case rel => exact ⟨k + 1, gl, sl, bs, by omega, by go_num, H3.out.mem.drewN _, H3.out.mod.drewN _, below_drewN H3.out.bel _⟩

end Go.Proofs.Ytlfophfilehdeaa

namespace Go.Proofs.Ytlfophfilehdeaa.pagesScript
open Go.ChangeShapes Go.WideShapes Go.ChangeAt Go.RowKit
set_option linter.unusedVariables false

theorem own : ownKnob Try.prog.godebug = none := by kernel_rfl
theorem laidOut : laidOutB Try.prog = true := by kernel_rfl

theorem walk (a0 : Int) (a1 : Option Addr) (len1 cap1 : Nat) (z1 : List Ac) (w : World) (w0 : (Lit.int .u8 a0).wf = true) (w1 : Acts w a1 len1 cap1 z1) (s1 : cap1 * 32 ≤ 140737488351232) :
    Calls Try.prog 3 #[.int .u8 a0, .slice a1 len1 cap1] w fun e w' => e = .returned (.bool true) ∧ Below w.heap.size w w' :=
  by obtain ⟨q0, rfl, h0⟩ := u8_nat w0; exact walk_script q0 a1 len1 cap1 z1 w h0 w1 (by have := w1.2.1; omega)

set_option maxRecDepth 100000 in
theorem lifted (os : Os) (started : os.Started) (H : Type) (enc : TypeId × Value → H) :
    ReturnsInHanded {} Try.checked os 3 .any (Rows.pagesScriptSpec.pre6 enc Try.prog Try.f3 Rows.pagesScriptRow.domain false) (Rows.pagesScriptSpec.post enc Try.prog Try.f3 false true false false) := by
  refine returnsInHanded_of_change_sized (C := Try.checked) own started (by kernel_rfl) Try.func3
    (ChangeSpec.witness6 (enc := enc) (C := Try.checked) false ⟨#[], #[.int .u8 0, .slice none 0 0], []⟩ 8 (by kernel_rfl) (by kernel_rfl) (by kernel_rfl) (by kernel_rfl)) ?_
  intro W base args ds gs before hval0 hW hcnd hsz0 _
  have hval : ∀ (j : Nat) t v, Try.f3.params[j]? = some t → args[j]? = some v → Value.okWide Try.prog W .any base t v := hval0
  have hW' := hW
  obtain ⟨p, q, hA0, hV, rfl, hfz, hnd⟩ := hW
  have hA : DataW.TrodAll enc Try.prog W 0 (fun _ => true) true Try.f3.params.toList args.toList ds p := hA0
  have hsz : (DataW.weightsEach Try.prog (Try.f3.params.toList ++ Rows.pagesScriptSpec.plain.varTypes Try.prog) (ds ++ gs)).all (· ≤ reachBytes) = true := hsz0
  rw [Try.params3] at hA hval hsz
  obtain ⟨v0, vs0, d0, ds0, p0, q0, hargs, rfl, rfl, h0, r0⟩ := trodAll_cons hA
  obtain ⟨v1, vs1, d1, ds1, p1, q1, rfl, rfl, rfl, h1, r1⟩ := trodAll_cons r0
  obtain ⟨rfl, rfl, rfl⟩ := trodAll_nil r1
  obtain rfl : args = #[v0, v1] := by cases args; simp_all
  obtain ⟨rfl, rfl⟩ := trodVars_none hV
  obtain ⟨a0, rfl, rfl, rfl, w0⟩ := open_int Try.underlying5 (hval 0 5 v0 rfl rfl) h0
  obtain ⟨a1, len1, cap1, rfl⟩ := okWide_slice Try.underlying22 (hval 1 22 v1 rfl rfl)
  have k1 := h1
  have lt1 : ∀ x ∈ p1, x.block < W.heap.size := by obtain ⟨m, hm⟩ := k1; exact DataW.trod_lt m _ _ _ hm
  obtain ⟨z1, w1, s1⟩ : ∃ zs, Acts W a1 len1 cap1 zs ∧ cap1 * 32 ≤ 140737488351232 := by
    obtain ⟨fuel, hf⟩ := h1
    obtain ⟨xs, hc, hd⟩ := open_acts hf
    refine ⟨xs, hc, ?_⟩
    rcases hd with ⟨_, h0⟩ | ⟨els, sp, hd, hlen⟩
    · omega
    · simp only at hd
      subst hd
      have hs := sized_slice hsz (j := 1) (t := 22) (e := 33) rfl rfl Try.underlying22
      rw [bytesA] at hs
      simp only [reachBytes] at hs
      omega
  clear hA0 hval0
  refine (walk a0 a1 len1 cap1 z1 W w0 w1 s1).mono fun e W' ⟨he, bel⟩ => ?_
  subst he
  exact ⟨_, rfl, _, _, _, [], _, [], hW', trodAll_mk1 (shut_bool Try.underlying4 _), (trodAll_cons_mk (shut_int Try.underlying5 w0) (trodAll_cons_mk (Below.trod laidOut (by kernel_rfl) (of_decide_eq_true (by kernel_rfl)) k1 bel lt1) trodAll_mk0)), rfl, bel.frame _, fun h => by cases h⟩

theorem over : Rows.pagesScriptRow.holds Try.pinned (OpenSpec.ofChange Rows.pagesScriptSpec) :=
  OpenClaim.holds_of_wide 3 Try.f3 rfl rfl rfl rfl rfl rfl rfl ⟨rfl, rfl, rfl, rfl, rfl⟩ rfl rfl rfl rfl rfl (by kernel_rfl) Try.func3 (by kernel_rfl)
    (of_decide_eq_true (by kernel_rfl)) (by unfold Func.isWrapper; first | (rw [if_pos (by decide +kernel)]; kernel_rfl) | (rw [if_neg (by decide +kernel)]; exact ⟨rfl, rfl⟩))
    (fun os started H enc _ => lifted os started H enc)
end Go.Proofs.Ytlfophfilehdeaa.pagesScript

namespace Go.Proofs.Ytlfophfilehdeaa
theorem pagesScript_holds : Rows.PagesScriptSaid := pagesScript.over
#print axioms pagesScript_holds
end Go.Proofs.Ytlfophfilehdeaa
