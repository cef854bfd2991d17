/-
  OracleAsks (P6.1, P6.2): answers are drawn when they are asked for first, and stay; draws for something else stand between them; behind the last draw there is none. No condition: every input that can be read.
-/
import Derived.Test.YtckpdgheoacbfaaRows
import Derived.Test.YtckpdgheoacbfaaOAs
import Derived.Deep.RegionHeld3
import Derived.Deep.DrawnRows
import Derived.WalkKit
import Derived.WalkSpells
import Derived.WalkLawsBesides
import Derived.Deep.QuietTactic
import Derived.BigQuiet
import Derived.ProofKit
import Derived.OpenShut
import Derived.ShutString
import Derived.ChangeOld
import Derived.Below
import Derived.SizedLaws
namespace Go.Proofs.Ytckpdgheoacbfaa

open Go.RowKit
attribute [local go_sem ↓] Go.wp_at_zero Go.wp_at_succ
def AsksRel (w : World) (B g m a h kk c d k2 : Nat) (ws : List Nat) (n : Nat) (gk : Nat) (s7 i : Value) (wr : World) : Prop :=
  ∃ (k : Nat) (v : Value) (t : Nat) (es : List Ent) (n3 : Nat) (oo : Option Addr) (cc : Nat), k + gk = n ∧ i = .int .i64 k ∧ s7 = .slice oo n3 cc ∧ Hid (es.length = n3) ∧ n3 ≤ 10 ∧ Hid (As w wr B g m a h kk c d k2 v (.slice oo n3 cc) ws t es)
set_option maxRecDepth 100000 in
set_option maxHeartbeats 6400000 in
theorem walk_asks (ao : Option Addr) (n cap : Nat) (us : List Nat) (bo : Option Addr) (n2 cap2 : Nat) (xs : List Qu) (w : World) (hu : U64s w ao n cap us) (hb : n ≤ 17592186043904) (hx : Qus w bo n2 cap2 xs) :
    Calls Try.prog 3 #[.slice ao n cap, .slice bo n2 cap2] w fun e w' => e = .returned (.bool true) ∧ Below w.heap.size w w' := by
  have HU := hide hu
  have HQ := hide hx
  have hc2 : cap2 ≤ 9223372036854775807 := hx.2.2.1
  have HL := hide (show (cutN us).length = n by rw [cutN_len]; exact hu.1.symm)
  have hnc : n2 ≤ cap2 := hx.2.1
  obtain ⟨i0, hi0, hz0, hz1, hz2⟩ := info_parts Try.infoE
  clear hu hx
  go_enter Try.func3, Try.ntmps3
  go_wp2_with fail
  refine (awake_any _).mono ?_; rintro e w1 ⟨rfl, bel1⟩
  have HB1 := hide bel1
  clear bel1
  go_wp2_with fail
  refine (of_any ao n cap us _ (HU.out.carry HB1.out) hb).mono ?_; rintro e w2 ⟨c, d, k2, rfl, T, _, hc, hd, bel2⟩
  have HTc := hide T
  have HB := hide (HB1.out.trans (bel2.mono HB1.out.size))
  have HC := hide (Nat.le_trans HB1.out.size hc)
  clear T hc hd bel2 HB1
  go_wp2_with fail
  refine (of_any ao n cap us _ (HU.out.carry HB.out) hb).mono ?_; rintro e w3 ⟨a, h, kk, rfl, T, _, ha, hh, bel3⟩
  have HT := hide T
  have HTc3 := hide (HTc.out.grow bel3)
  have HCA := hide (show c ≠ a by have := lt_of_heap HTc.out.box; omega)
  have HB3 := hide (HB.out.trans (bel3.mono HB.out.size))
  have HA := hide (Nat.le_trans HB.out.size ha)
  have HH := hide (Nat.le_trans HB.out.size hh)
  clear T ha hh bel3 HTc HB
  go_wp2_with fail
  refine (oof_any _ ⟨_, rfl⟩ _).mono ?_; rintro e w4 ⟨g, m, rfl, O4, bel4⟩
  have HS : Hid (As w w4 w3.heap.size g m a h kk c d k2 (.slice none 0 0) (.slice none 0 0) (cutN us) 0 []) :=
    ⟨⟨O4, HT.out.grow bel4, ⟨HB3.out.size, HA.out, HH.out, HB3.out.trans (bel4.mono HB3.out.size), bel4.size⟩, few_nil⟩, HTc3.out.grow bel4, HC.out, HCA.out, World.ownsRow_nil _ _ _ _, fun r hr => by cases hr⟩
  clear O4 bel4 HT HTc3 HB3 HA HH HC HCA
  go_wp2_with fail
  go_loopg [7, 36] n2 (fun gk s7 i wr => AsksRel w w3.heap.size g m a h kk c d k2 (cutN us) n2 gk s7 i wr)
  case atStart => exact ⟨0, _, 0, [], 0, none, 0, by omega, rfl, rfl, rfl, by omega, HS⟩
  case round =>
    obtain ⟨k, v, t, es, n3, oo, cc, hk, rfl, rfl, HN3, hn10, HSr⟩ := hrel
    cases gk with
    | zero =>
      have hlt : ¬ ((k : Int) < (n2 : Int)) := by omega
      go_wp2_with fail
      refine (entries_any g m _ _ v es _ HSr.out.st.orc (by have := HN3.out; omega)).mono ?_; rintro e w5 ⟨o5, cap5, rfl, own5, bel5⟩
      have HS5 := hide (HSr.out.grow bel5)
      have HW5 := hide own5
      rw [HN3.out] at HW5 ⊢
      clear own5 bel5 HSr hlt hk hnc hc2
      go_wp2_with fail
      refine (oleft_any g m _ a h _ kk v es (cutN us) _ HS5.out.st.orc HS5.out.st.tape).mono ?_; rintro e w6 ⟨rfl, q6, rfl⟩
      obtain ⟨z, hz⟩ : ∃ z : Int, ((cutN us).length : Int) - t = z := ⟨_, rfl⟩
      rw [hz]
      have HZ := hide hz
      clear hz
      go_wp2_with fail
      refine (left_any c d (cutN us) t k2 _ (HS5.out.own.drewN q6)).mono ?_; rintro e w7 ⟨rfl, q7, rfl⟩
      rw [HZ.out]
      obtain ⟨w8, hw8⟩ : ∃ w8, w5.drewN (q6 + q7) = w8 := ⟨_, rfl⟩
      have HS8 : Hid (As w w8 w3.heap.size g m a h kk c d k2 v (.slice oo n3 cc) (cutN us) t es) := hw8 ▸ HS5.out.drewN _
      have HW8 : Hid (w8.ownsRow wr.heap.size 42 3 (.slice o5 n3 cap5) n3 (cellsE es)) := by rw [← hw8]; exact HW5.out
      clear HS5 HW5
      go_wp2_with fail
      clear hw8
      go_loopg [194] n3 (fun gk i wq => ∃ j : Nat, j + gk = n3 ∧ i = .int .i64 j ∧ Hid (∃ y, wq = w8.drewN y))
      case atStart => exact ⟨0, by omega, rfl, 0, rfl⟩
      case round =>
        rename World => wq
        obtain ⟨j, hj, rfl, HY⟩ := hrel
        cases gk with
        | zero =>
          have hlt2 : ¬ ((j : Int) < (n3 : Int)) := by omega
          go_wp2
          go_ret
          obtain ⟨y, rfl⟩ := HY.out
          exact ⟨rfl, below_drewN HS8.out.st.new.bel y⟩
        | succ g2 =>
          have hlt2 : ((j : Int) < (n3 : Int)) := by omega
          have hj0 : (0 : Int) ≤ (j : Int) := by omega
          have hjl : j < es.length := by rw [HN3.out]; omega
          obtain ⟨r, c5, e5, hc5, hc6, _, hr, EA⟩ := owns_ents HW8.out (by omega)
          obtain ⟨rfl, _, rfl⟩ := Value.slice.inj e5
          obtain ⟨r', c7, e7, hc7, hc8, _, hr', EB⟩ := owns_ents (by have := HS8.out.had; rw [HN3.out] at this; exact this) (by omega)
          obtain ⟨rfl, _, rfl⟩ := Value.slice.inj e7
          obtain ⟨f, i, o, hx⟩ : ∃ f i o, es.getD j Ent.zero = ⟨f, i, o⟩ := ⟨_, _, _, rfl⟩
          obtain ⟨x0, x1, x2⟩ := EA j hjl
          obtain ⟨y0, y1, y2⟩ := EB j hjl
          simp only [hx] at x0 x1 x2 y0 y1 y2
          have hY := HY.out
          clear HY
          obtain ⟨y, rfl⟩ := hY
          have a0 : ∀ b, ((w8.drewN y).drewN b).cell? ⟨r, j * 3, none⟩ = some (.int .i64 f) := fun b => x0
          have a1 : ∀ b, ((w8.drewN y).drewN b).cell? ⟨r, j * 3 + 1, none⟩ = some (.int .u64 (i : Int)) := fun b => x1
          have a2 : ∀ b, ((w8.drewN y).drewN b).cell? ⟨r, j * 3 + 2, none⟩ = some (.int .u64 (o : Int)) := fun b => x2
          have b0 : ∀ b, ((w8.drewN y).drewN b).cell? ⟨r', j * 3, none⟩ = some (.int .i64 f) := fun b => y0
          have b1 : ∀ b, ((w8.drewN y).drewN b).cell? ⟨r', j * 3 + 1, none⟩ = some (.int .u64 (i : Int)) := fun b => y1
          have b2 : ∀ b, ((w8.drewN y).drewN b).cell? ⟨r', j * 3 + 2, none⟩ = some (.int .u64 (o : Int)) := fun b => y2
          obtain ⟨w9, hw9⟩ : ∃ w9, w8.drewN y = w9 := ⟨_, rfl⟩
          simp only [hw9] at a0 a1 a2 b0 b1 b2 ⊢
          have HY9 : Hid (w9 = w8.drewN y) := hw9.symm
          have hg := eqGuardE
          have hN : ∀ wx, (binOp .neq 42 (.agg #[.int .i64 f, .int .u64 (i : Int), .int .u64 (o : Int)]) (.agg #[.int .i64 f, .int .u64 (i : Int), .int .u64 (o : Int)])).run Try.prog wx = .ok (.bool false) wx := by
            intro wx; rw [neq_ent]; simp
          clear hx x0 x1 x2 y0 y1 y2 e5 e7 EA EB hw9
          go_wp2_with fail
          go_quiet (fail)
          go_wp2
          go_roundg g2
          case measure => omega
          case rel => exact ⟨j + 1, by omega, by go_num, _, by rw [HY9.out, World.drewN_drewN]⟩
    | succ g1 =>
      have hlt : ((k : Int) < (n2 : Int)) := by omega
      have hkn : k < n2 := by omega
      cases bo with
      | none => have := HQ.out.2.2.2.1 rfl; omega
      | some ad =>
        obtain ⟨o, q, hoq⟩ : ∃ o q, xs.getD k Qu.zero = ⟨o, q⟩ := ⟨_, _, rfl⟩
        obtain ⟨⟨ho, hq⟩, e0, e1⟩ := (HQ.out.carry HSr.out.st.new.bel).elem k hkn o q hoq
        obtain ⟨X, hX⟩ : ∃ X, wr.alloc (.cells #[.int .u8 (o : Int), .int .u64 (q : Int)] 32) = X := ⟨_, rfl⟩
        have HX : Hid (As w X w3.heap.size g m a h kk c d k2 v (.slice oo n3 cc) (cutN us) t es) := hX ▸ HSr.out.grow (below_alloc wr _)
        have QX : Hid (QBox X wr.heap.size o q) := hX ▸ QBox.new wr o q
        have q0 := QX.out.c0
        have HQ1 := hide hq
        clear hoq hq
        by_cases h4 : (o : Int) % 4 = 3
        · rcases Nat.lt_or_ge t (cutN us).length with htl | htl
          · obtain ⟨x, hx⟩ : ∃ x, (cutN us).getD t 0 = x := ⟨_, rfl⟩
            have HXX := hide hx
            have HTL := hide htl
            clear hx htl
            go_wp2_with fail
            refine (odraw_yes g m _ a h t kk x v es (cutN us) _ HX.out.st.orc HX.out.st.tape HTL.out HXX.out).mono ?_; rintro e w5 ⟨rfl, T5, t5⟩
            have HT5 := hide T5
            have Ht5 := hide t5
            have HO5 := hide (HX.out.drew1 t5)
            clear T5 t5
            go_wp2_with fail
            refine (draw_at c d (cutN us) t k2 x _ HO5.out HTL.out HXX.out).mono ?_; rintro e w6 ⟨rfl, T6, t6⟩
            have HS6 := hide (HX.out.drawn HT5.out Ht5.out T6 t6)
            clear T6 t6 HT5 Ht5 HO5
            go_wp2_with fail
            go_quiet ((go_at_call 12; exact Calls.quiet_of_same (is_nil 7 _)))
            go_wp2
            go_roundg g1
            case measure => omega
            case rel => exact ⟨k + 1, v, t + 1, es, n3, oo, cc, by omega, by go_num, rfl, HN3, hn10, HS6.out.drewN _⟩
          · obtain rfl : t = (cutN us).length := by have := HX.out.st.tape.some; omega
            go_wp2_with fail
            refine (odraw_end g m _ a h kk v es (cutN us) _ HX.out.st.orc HX.out.st.tape).mono ?_; rintro e w5 ⟨rfl, q5, rfl⟩
            go_wp2_with fail
            refine (draw_no c d (cutN us) k2 _ (HX.out.own.drewN q5)).mono ?_; rintro e w6 ⟨rfl, q6, rfl⟩
            obtain ⟨w7, hw7⟩ : ∃ w7, X.drewN (q5 + q6) = w7 := ⟨_, rfl⟩
            have HS7 : Hid (As w w7 w3.heap.size g m a h kk c d k2 v (.slice oo n3 cc) (cutN us) (cutN us).length es) := hw7 ▸ HX.out.drewN _
            go_wp2_with fail
            go_quiet ((go_at_call 12; exact Calls.quiet_of_same (is_same 7 _)))
            go_wp2
            go_roundg g1
            case measure => omega
            case rel => exact ⟨k + 1, v, _, es, n3, oo, cc, by omega, by go_num, rfl, HN3, hn10, HS7.out.drewN _⟩
        · obtain ⟨p, hp, hp1⟩ : ∃ p : Nat, (o : Int) % 2 = (p : Int) ∧ p ≤ 1 := ⟨o % 2, by omega, by omega⟩
          have ht2 : (o : Int).tmod 2 = (p : Int) := by rw [Int.tmod_eq_emod_of_nonneg (by omega)]; exact hp
          have hwr : IntKind.i64.wrap (p : Int) = (p : Int) := IntWalk.i64_in _ (by omega)
          obtain ⟨wd, hwd⟩ : ∃ wd, q % 5 * 3 = wd := ⟨_, rfl⟩
          have hand : bits .and .u64 ((inF q : Nat) : Int) 281474976710655 = (wd : Int) := by rw [and_cut _ (inF_le q), inF_cut, hwd]
          have HCUT := hide (show inF q % 281474976710656 = wd by rw [inF_cut, hwd])
          have HWD := hide (show wd ≤ 12 ∧ wd % 3 = 0 by omega)
          have HP1 := hide hp1
          have HPB := hide (show -9223372036854775808 ≤ (p : Int) ∧ (p : Int) ≤ 9223372036854775807 by omega)
          have HXd : Hid (As w X.drew w3.heap.size g m a h kk c d k2 v (.slice oo n3 cc) (cutN us) t es) := HX.out.drewN 1
          have QXd : Hid (QBox X.drew wr.heap.size o q) := QX.out
          clear hwd hp1 ho hp
          go_wp2_with fail
          go_region_held3 (fun w' => w'.cell? ⟨wr.heap.size, 0, none⟩ = some (.int .u8 (o : Int)) ∧ w'.cell? ⟨wr.heap.size, 1, none⟩ = some (.int .u64 (q : Int))) (first | exact ⟨QXd.out.c0, QXd.out.c1⟩ | exact ⟨hQi.out.c0, hQi.out.c1⟩)
            (first
              | (go_at_call 13; refine (in_any o q _ HQ1.out).mono ?_; rintro e wi ⟨rfl, beli⟩; have hSi := hide (HXd.out.grow beli); have hQi := hide (QXd.out.grow beli)))
          clear beli HX QX q0 HXd QXd hX ht2 hwr hand HSr h4 e0 e1
          go_wp2_with fail
          go_loopg [16, 83] n3 (fun gk s16 i wp => ∃ (j : Nat) (z : Int), j + gk = n3 ∧ i = .int .i64 j ∧ s16 = .int .i64 z ∧ Hid (z = atF (es.take j) p wd) ∧ Hid (Below wi.heap.size wi wp))
          case atStart => exact ⟨0, -1, by omega, rfl, rfl, rfl, Below.refl _ _⟩
          case round =>
            rename World => wp
            obtain ⟨j, z, hj, rfl, rfl, HZ, HB2⟩ := hrel
            cases gk with
            | zero =>
              have hlt2 : ¬ ((j : Int) < (n3 : Int)) := by omega
              have HAP := hide (hSi.out.grow HB2.out)
              have HQP := hide (hQi.out.grow HB2.out)
              have HZE := hide (show z = atF es p wd by rw [HZ.out, List.take_of_length_le (by rw [HN3.out]; omega)])
              have q0 := HQP.out.c0
              have q1 := HQP.out.c1
              clear HZ HB2 hSi hQi
              cases hfind : findE es p wd with
              | some jj =>
                obtain rfl : z = (jj : Int) := by rw [HZE.out]; unfold atF; rw [hfind]
                have hjj := (findE_some hfind).1
                have HFI := hide hfind
                obtain ⟨x, hx⟩ : ∃ x, (es.getD jj Ent.zero).o = x := ⟨_, rfl⟩
                have HXX := hide hx
                obtain ⟨r, c5, e5, hc5, hc6, _, hr, EA⟩ := owns_ents (by have := HAP.out.had; rw [HN3.out] at this; exact this) (by have := HN3.out; omega)
                obtain ⟨rfl, _, rfl⟩ := Value.slice.inj e5
                have HEA := hide EA
                have HJJ := hide hjj
                have hj0 : (0 : Int) ≤ (jj : Int) := by omega
                have hj1 : (jj : Int) < (n3 : Int) := by have := HN3.out; omega
                clear hfind hx hjj EA e5 HZE
                go_wp2_with fail
                refine (in_any o q _ HQ1.out).mono ?_; rintro e w8 ⟨rfl, bel8⟩
                have HA8 := hide (HAP.out.grow bel8)
                have HQ8 := hide (HQP.out.grow bel8)
                have HE8 := hide (HEA.out.carry bel8 hr)
                have hr8 : r < w8.heap.size := Nat.lt_of_lt_of_le hr bel8.size
                clear bel8 q0 q1
                go_wp2_with fail
                refine (known_yes g m _ jj x _ v es p (inF q) _ HA8.out.st.orc HPB.out (inF_le q) (by rw [HCUT.out]; exact HFI.out) HXX.out).mono ?_; rintro e w9 ⟨rfl, q9, rfl⟩
                have x9 : (w8.drewN q9).cell? ⟨r, jj * 3 + 2, none⟩ = some (.int .u64 (x : Int)) := by rw [← HXX.out]; exact (HE8.out jj HJJ.out).2.2
                have q0 : (w8.drewN q9).cell? ⟨wr.heap.size, 0, none⟩ = some (.int .u8 (o : Int)) := HQ8.out.c0
                have q1 : (w8.drewN q9).cell? ⟨wr.heap.size, 1, none⟩ = some (.int .u64 (q : Int)) := HQ8.out.c1
                go_wp2_with fail
                refine (in_any o q _ HQ1.out).mono ?_; rintro e w10 ⟨rfl, bel10⟩
                have HA10 := hide ((HA8.out.drewN q9).grow bel10)
                have x10 := (bel10.cell (p := ⟨r, jj * 3 + 2, none⟩) hr8).trans x9
                clear bel10 q0 q1 x9
                go_wp2_with fail
                refine (ask_known g m _ jj x _ v es p (inF q) _ HA10.out.st.orc HPB.out (inF_le q) (by rw [HCUT.out]; exact HFI.out) HXX.out).mono ?_; rintro e w11 ⟨rfl, q11, rfl⟩
                have x11 : (w10.drewN q11).cell? ⟨r, jj * 3 + 2, none⟩ = some (.int .u64 (x : Int)) := x10
                go_wp2
                go_roundg g1
                case measure => omega
                case rel => exact ⟨k + 1, v, t, es, n3, _, _, by omega, by go_num, rfl, HN3, hn10, HA10.out.drewN _⟩
              | none =>
                obtain rfl : z = -1 := by rw [HZE.out]; unfold atF; rw [hfind]
                have HFI := hide hfind
                clear hfind HZE
                go_wp2_with fail
                refine (in_any o q _ HQ1.out).mono ?_; rintro e w8 ⟨rfl, bel8⟩
                have HA8 := hide (HAP.out.grow bel8)
                have HQ8 := hide (HQP.out.grow bel8)
                clear bel8 q0 q1
                go_wp2_with fail
                refine (known_no g m _ _ v es p (inF q) _ HA8.out.st.orc HPB.out (inF_le q) (by rw [HCUT.out]; exact HFI.out)).mono ?_; rintro e w9 ⟨rfl, q9, rfl⟩
                have q0 : (w8.drewN q9).cell? ⟨wr.heap.size, 0, none⟩ = some (.int .u8 (o : Int)) := HQ8.out.c0
                have q1 : (w8.drewN q9).cell? ⟨wr.heap.size, 1, none⟩ = some (.int .u64 (q : Int)) := HQ8.out.c1
                go_wp2_with fail
                refine (in_any o q _ HQ1.out).mono ?_; rintro e w10 ⟨rfl, bel10⟩
                have HA10 := hide ((HA8.out.drewN q9).grow bel10)
                clear bel10 q0 q1
                rcases Nat.lt_or_ge t (cutN us).length with htl | htl
                · obtain ⟨x, hx⟩ : ∃ x, (cutN us).getD t 0 = x := ⟨_, rfl⟩
                  have HXX := hide hx
                  have HTL := hide htl
                  clear hx htl
                  go_wp2_with fail
                  refine (ask_new g m _ a h t kk x v es (cutN us) p (inF q) _ HA10.out.st.orc HA10.out.st.tape HTL.out HXX.out HPB.out (inF_le q) (by rw [HCUT.out]; exact HFI.out) (by have := HN3.out; omega) HA10.out.st.new.bs).mono ?_; rintro e w11 ⟨rfl, v', O11, T11, F11, hv11⟩
                  rw [HCUT.out] at O11
                  have HS11 : Hid (St w w11 w3.heap.size g m a h kk v' (cutN us) (t + 1) (es ++ [⟨p, wd, x⟩])) := ⟨O11, T11, HA10.out.st.new.step HA10.out.st.orc F11, HA10.out.st.few.snoc ⟨by show (p : Int) = 0 ∨ (p : Int) = 1; have := HP1.out; omega, HWD.out.2, HWD.out.1⟩⟩
                  have HO11 := hide (HA10.out.own1 F11)
                  have HD11 := hide (HA10.out.had1 F11)
                  have HP11 := hide (HA10.out.apart1 hv11)
                  have HC := hide (And.intro HA10.out.c0 HA10.out.ca)
                  clear O11 T11 F11 hv11 HAP HQP HA8 HQ8 HA10
                  go_wp2_with fail
                  refine (draw_at c d (cutN us) t k2 x _ HO11.out HTL.out HXX.out).mono ?_; rintro e w12 ⟨rfl, T12, t12⟩
                  have HS12 := hide (HS11.out.touch t12 HC.out.1 HC.out.2 HO11.out)
                  have HD12 := hide (owns_touch HD11.out t12 (HO11.out.noRow HD11.out).1)
                  have HT12 := hide T12
                  rw [HN3.out] at HD12
                  clear T12 t12 HS11 HD11 HO11
                  go_wp2_with fail
                  go_quiet (fail)
                  rename Nat => nq
                  go_wp2_with (at_builtin; refine wpList_append_lies _ rfl _ _ 29 rfl w.heap.size 42 i0 _ 3 24 Try.underlying29 hi0 hz0 hz1 hz2 rfl (by omega) _ n3 (cellsE es) rfl ?c0 ⟨w12.heap.size, 0, none⟩ 1 1 (Ent.cells ⟨p, wd, x⟩) rfl rfl ?c1 (ent_one _) (by omega) (by unfold maxLen; omega) (by omega) ?c3 (w12.heap.size + 1) ?c4 ?_)
                  case c0 =>
                    have hd : (w12.drewN nq).ownsRow w.heap.size 42 3 (.slice oo n3 cc) n3 (cellsE es) := HD12.out
                    exact hd.alloc _
                  case c1 => exact World.news_of_block (cs := #[.int .i64 (p : Int), .int .u64 (wd : Int), .int .u64 (x : Int)]) (t := 42) (fr := (0, 0)) (heap_alloc_new (w12.drewN nq) _)
                  case c3 => exact Nat.le_trans HS12.out.new.bel.size (below_alloc (w12.drewN nq) _).size
                  case c4 =>
                    have hd : ((w12.drewN nq).alloc (.cells #[.int .i64 (p : Int), .int .u64 (wd : Int), .int .u64 (x : Int)] 42)).heap.size = (w12.drewN nq).heap.size + 1 := by simp
                    exact hd
                  intro gg cap3 w14 hown hgrow hat hlt14
                  have F14 : Foot (fun j => (Value.slice oo n3 cc).ownBlock = some j) (w12.drewN nq) w14 := (foot_alloc _ (w12.drewN nq) _).trans (foot_grown hgrow) (fun j e => .inl e)
                  have hd12 : (w12.drewN nq).ownsRow w.heap.size 42 3 (.slice oo n3 cc) es.length (cellsE es) := by rw [HN3.out]; exact HD12.out
                  have HS14 := hide (As.put (x := ⟨p, wd, x⟩) gg cap3 (HS12.out.drewN nq) (HT12.out.drewN nq) HC.out.1 HC.out.2 hd12 HP11.out F14 (by rw [HN3.out]; exact hown) hat)
                  have HN14 := hide (show (es ++ [(⟨p, wd, x⟩ : Ent)]).length = n3 + 1 by rw [List.length_append, List.length_singleton, HN3.out])
                  rw [HN14.out] at HS14
                  have HL14 := hide HS14.out.st.len
                  clear hown hgrow hat hlt14 F14 hd12 HS12 HD12 HT12 HP11
                  go_wp2
                  go_roundg g1
                  case measure => omega
                  case rel => exact ⟨k + 1, v', t + 1, _, n3 + 1, _, cap3, by omega, by go_num, rfl, HN14, by have := HL14.out; rw [HN14.out] at this; exact this, HS14⟩
                · obtain rfl : t = (cutN us).length := by have := HA10.out.st.tape.some; omega
                  go_wp2_with fail
                  refine (ask_end g m _ a h kk v es (cutN us) p (inF q) _ HA10.out.st.orc HA10.out.st.tape HPB.out (inF_le q) (by rw [HCUT.out]; exact HFI.out)).mono ?_; rintro e w11 ⟨rfl, q11, rfl⟩
                  go_wp2_with fail
                  refine (draw_no c d (cutN us) k2 _ (HA10.out.own.drewN q11)).mono ?_; rintro e w12 ⟨rfl, q12, rfl⟩
                  obtain ⟨w13, hw13⟩ : ∃ w13, w10.drewN (q11 + q12) = w13 := ⟨_, rfl⟩
                  have HS13 : Hid (As w w13 w3.heap.size g m a h kk c d k2 v (.slice oo n3 cc) (cutN us) (cutN us).length es) := hw13 ▸ HA10.out.drewN _
                  go_wp2_with fail
                  go_quiet (fail)
                  go_wp2
                  go_roundg g1
                  case measure => omega
                  case rel => exact ⟨k + 1, v, _, es, n3, oo, cc, by omega, by go_num, rfl, HN3, hn10, HS13.out.drewN _⟩
            | succ g2 =>
              have hlt2 : ((j : Int) < (n3 : Int)) := by omega
              have hjl : j < es.length := by rw [HN3.out]; omega
              obtain ⟨r, c5, e5, hc5, hc6, _, hr, EA⟩ := owns_ents (by have := hSi.out.had; rw [HN3.out] at this; exact this) (by omega)
              obtain ⟨rfl, _, rfl⟩ := Value.slice.inj e5
              obtain ⟨f', i', o', hy⟩ : ∃ f i o, es.getD j Ent.zero = ⟨f, i, o⟩ := ⟨_, _, _, rfl⟩
              obtain ⟨y0, y1, y2⟩ := EA.carry HB2.out hr j hjl
              simp only [hy] at y0 y1 y2
              obtain ⟨Y, hY⟩ : ∃ Y, wp.alloc (.cells #[.int .i64 f', .int .u64 (i' : Int), .int .u64 (o' : Int)] 42) = Y := ⟨_, rfl⟩
              have EZ : Hid (EBox Y wp.heap.size f' i' o') := hY ▸ EBox.new wp f' i' o'
              have BY : Hid (Below wi.heap.size wi Y) := hY ▸ HB2.out.alloc HB2.out.size _
              have z0 := EZ.out.c0
              have z1 := EZ.out.c1
              clear e5 EA
              by_cases hff : f' = (p : Int)
              · subst hff
                have hif : ((p : Int) == (p : Int)) = true := by simp
                by_cases hii : i' = wd
                · subst hii
                  have hie : ((i' : Int) == (i' : Int)) = true := by simp
                  have HZ2 := hide (atF_hit hSi.out.st.orc.dist hjl (by rw [hy]) (by rw [hy]) : atF (es.take (j + 1)) p i' = (j : Int))
                  clear hy
                  go_wp2
                  go_roundg g2
                  case measure => omega
                  case rel => exact ⟨j + 1, j, by omega, by go_num, rfl, HZ2.out.symm, BY⟩
                · have hie : ((i' : Int) == (wd : Int)) = false := beq_eq_false_iff_ne.2 (by omega)
                  have HZ2 := hide (atF_miss hjl (by rw [hy]; exact fun e => hii e.2) : atF (es.take (j + 1)) p wd = atF (es.take j) p wd)
                  clear hy hii
                  go_wp2
                  go_roundg g2
                  case measure => omega
                  case rel => exact ⟨j + 1, z, by omega, by go_num, rfl, HZ.out.trans HZ2.out.symm, BY⟩
              · have hif : (f' == (p : Int)) = false := beq_eq_false_iff_ne.2 hff
                have HZ2 := hide (atF_miss hjl (by rw [hy]; exact fun e => hff e.1) : atF (es.take (j + 1)) p wd = atF (es.take j) p wd)
                clear hy hff
                go_wp2
                go_roundg g2
                case measure => omega
                case rel => exact ⟨j + 1, z, by omega, by go_num, rfl, HZ.out.trans HZ2.out.symm, BY⟩

end Go.Proofs.Ytckpdgheoacbfaa

namespace Go.Proofs.Ytckpdgheoacbfaa.oracleAsks
open Go.ChangeShapes Go.WideShapes Go.ChangeAt Go.RowKit
set_option linter.unusedVariables false

theorem own : ownKnob Try.prog.godebug = none := by kernel_rfl
theorem laidOut : laidOutB Try.prog = true := by kernel_rfl

theorem walk (a0 : Option Addr) (len0 cap0 : Nat) (z0 : List Int) (a1 : Option Addr) (len1 cap1 : Nat) (z1 : List Qu) (w : World) (w0 : RowOf .u64 w a0 len0 cap0 z0) (s0 : cap0 * 8 ≤ 140737488351232) (w1 : Qus w a1 len1 cap1 z1) (s1 : cap1 * 16 ≤ 140737488351232) :
    Calls Try.prog 3 #[.slice a0 len0 cap0, .slice a1 len1 cap1] w fun e w' => e = .returned (.bool true) ∧ Below w.heap.size w w' :=
  by obtain ⟨us, hu⟩ := w0.u64s; exact walk_asks a0 len0 cap0 us a1 len1 cap1 z1 w hu (by have := hu.2.1; omega) w1

set_option maxRecDepth 100000 in
theorem lifted (os : Os) (started : os.Started) (H : Type) (enc : TypeId × Value → H) :
    ReturnsInHanded {} Try.checked os 3 .any (Rows.oracleAsksSpec.pre6 enc Try.prog Try.f3 Rows.oracleAsksRow.domain false) (Rows.oracleAsksSpec.post enc Try.prog Try.f3 false true false false) := by
  refine returnsInHanded_of_change_sized (C := Try.checked) own started (by kernel_rfl) Try.func3
    (ChangeSpec.witness6 (enc := enc) (C := Try.checked) false ⟨#[], #[.slice none 0 0, .slice none 0 0], []⟩ 8 (by kernel_rfl) (by kernel_rfl) (by kernel_rfl) (by kernel_rfl)) ?_
  intro W base args ds gs before hval0 hW hcnd hsz0 _
  have hval : ∀ (j : Nat) t v, Try.f3.params[j]? = some t → args[j]? = some v → Value.okWide Try.prog W .any base t v := hval0
  have hW' := hW
  obtain ⟨p, q, hA0, hV, rfl, hfz, hnd⟩ := hW
  have hA : DataW.TrodAll enc Try.prog W 0 (fun _ => true) true Try.f3.params.toList args.toList ds p := hA0
  have hsz : (DataW.weightsEach Try.prog (Try.f3.params.toList ++ Rows.oracleAsksSpec.plain.varTypes Try.prog) (ds ++ gs)).all (· ≤ reachBytes) = true := hsz0
  rw [Try.params3] at hA hval hsz
  obtain ⟨v0, vs0, d0, ds0, p0, q0, hargs, rfl, rfl, h0, r0⟩ := trodAll_cons hA
  obtain ⟨v1, vs1, d1, ds1, p1, q1, rfl, rfl, rfl, h1, r1⟩ := trodAll_cons r0
  obtain ⟨rfl, rfl, rfl⟩ := trodAll_nil r1
  obtain rfl : args = #[v0, v1] := by cases args; simp_all
  obtain ⟨rfl, rfl⟩ := trodVars_none hV
  obtain ⟨a0, len0, cap0, rfl⟩ := okWide_slice Try.underlying22 (hval 0 22 v0 rfl rfl)
  have k0 := h0
  have lt0 : ∀ x ∈ p0, x.block < W.heap.size := by obtain ⟨m, hm⟩ := k0; exact DataW.trod_lt m _ _ _ hm
  obtain ⟨z0, w0, s0⟩ : ∃ zs, RowOf .u64 W a0 len0 cap0 zs ∧ cap0 * 8 ≤ 140737488351232 := by
    obtain ⟨fuel, hf⟩ := h0
    rcases open_ints Try.underlying22 Try.underlying30 (by kernel_rfl) hf with ⟨hcs, _⟩ | ⟨x, l, c, zs, hcs, _, hl, hm, hz, hx, hcell, hwz⟩
    · simp [Value.cells] at hcs
      obtain ⟨rfl, rfl, rfl⟩ := hcs
      exact ⟨[], .inl ⟨rfl, rfl, rfl, rfl⟩, by omega⟩
    · simp [Value.cells] at hcs
      obtain ⟨rfl, rfl, rfl⟩ := hcs
      have hd := congrArg Prod.fst hx
      simp only at hd
      subst hd
      have hs := sized_slice hsz (j := 0) (t := 22) (e := 30) rfl rfl Try.underlying22
      rw [bytesOf30] at hs
      simp only [lits, List.length_map, List.length_take, List.length_drop, reachBytes] at hs
      have hz' : zs.length = cap0 := by simpa using hz
      exact ⟨zs, .inr ⟨_, rfl, hl, hm, hz', hcell, hwz⟩, by omega⟩
  obtain ⟨a1, len1, cap1, rfl⟩ := okWide_slice Try.underlying23 (hval 1 23 v1 rfl rfl)
  have k1 := h1
  have lt1 : ∀ x ∈ p1, x.block < W.heap.size := by obtain ⟨m, hm⟩ := k1; exact DataW.trod_lt m _ _ _ hm
  obtain ⟨z1, w1, s1⟩ : ∃ zs, Qus W a1 len1 cap1 zs ∧ cap1 * 16 ≤ 140737488351232 := by
    obtain ⟨fuel, hf⟩ := h1
    obtain ⟨xs, hc, hd⟩ := open_qus hf
    refine ⟨xs, hc, ?_⟩
    rcases hd with ⟨_, h0⟩ | ⟨els, sp, hd, hlen⟩
    · omega
    · simp only at hd
      subst hd
      have hs := sized_slice hsz (j := 1) (t := 23) (e := 32) rfl rfl Try.underlying23
      rw [bytesA] at hs
      simp only [reachBytes] at hs
      omega
  clear hA0 hval0
  refine (walk a0 len0 cap0 z0 a1 len1 cap1 z1 W w0 s0 w1 s1).mono fun e W' ⟨he, bel⟩ => ?_
  subst he
  exact ⟨_, rfl, _, _, _, [], _, [], hW', trodAll_mk1 (shut_bool Try.underlying4 _), (trodAll_cons_mk (Below.trod laidOut (by kernel_rfl) (of_decide_eq_true (by kernel_rfl)) k0 bel lt0) (trodAll_cons_mk (Below.trod laidOut (by kernel_rfl) (of_decide_eq_true (by kernel_rfl)) k1 bel lt1) trodAll_mk0)), rfl, bel.frame _, fun h => by cases h⟩

theorem over : Rows.oracleAsksRow.holds Try.pinned (OpenSpec.ofChange Rows.oracleAsksSpec) :=
  OpenClaim.holds_of_wide 3 Try.f3 rfl rfl rfl rfl rfl rfl rfl ⟨rfl, rfl, rfl, rfl, rfl⟩ rfl rfl rfl rfl rfl (by kernel_rfl) Try.func3 (by kernel_rfl)
    (of_decide_eq_true (by kernel_rfl)) (by unfold Func.isWrapper; first | (rw [if_pos (by decide +kernel)]; kernel_rfl) | (rw [if_neg (by decide +kernel)]; exact ⟨rfl, rfl⟩))
    (fun os started H enc _ => lifted os started H enc)
end Go.Proofs.Ytckpdgheoacbfaa.oracleAsks

namespace Go.Proofs.Ytckpdgheoacbfaa
theorem oracleAsks_holds : Rows.OracleAsksSaid := oracleAsks.over
#print axioms oracleAsks_holds
end Go.Proofs.Ytckpdgheoacbfaa
