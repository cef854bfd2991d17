/-
  OracleEntries (P6.2): no question stands twice among the answers; each answer is a word that was drawn. No condition: every input that can be read.
-/
import Derived.Test.YtckpdgheoacbfaaRows
import Derived.Test.YtckpdgheoacbfaaOStep
import Derived.Deep.RegionHeld3
import Derived.Deep.DrawnRows
import Derived.WalkKit
import Derived.WalkSpells
import Derived.WalkLawsBesides
import Derived.Deep.QuietTactic
import Derived.BigQuiet
import Derived.ProofKit
import Derived.OpenShut
import Derived.ShutString
import Derived.ChangeOld
import Derived.Below
import Derived.SizedLaws
namespace Go.Proofs.Ytckpdgheoacbfaa

open Go.RowKit
attribute [local go_sem ↓] Go.wp_at_zero Go.wp_at_succ
/- each answer is the draw of its place -/
def Outs (ws : List Nat) (es : List Ent) : Prop := ∀ j, j < es.length → (es.getD j Ent.zero).o = ws.getD j 0
theorem Outs.step {ws : List Nat} {es es' : List Ent} {t' i x : Nat} {f : Int} {er : Value} (h : Outs ws es) (s : Step ws es.length es t' es' f i x er) : Outs ws es' ∧ t' = es'.length := by
  rcases s with ⟨_, _, rfl, rfl⟩ | ⟨_, _, _, hx, rfl, rfl⟩ | ⟨_, _, _, _, rfl, rfl⟩
  · exact ⟨h, rfl⟩
  · refine ⟨fun j hj => ?_, by simp⟩
    simp only [List.length_append, List.length_singleton] at hj
    rcases Nat.lt_or_ge j es.length with hl | hl
    · rw [getD_snoc_lt _ _ _ hl]; exact h j hl
    · obtain rfl : j = es.length := by omega
      rw [getD_snoc_end]; exact hx.symm
  · exact ⟨h, rfl⟩
def EntRel (w : World) (B g m a h kk : Nat) (ws : List Nat) (n : Nat) (gk : Nat) (i : Value) (wr : World) : Prop :=
  ∃ (k : Nat) (v : Value) (es : List Ent), k + gk = n ∧ i = .int .i64 k ∧ Hid (St w wr B g m a h kk v ws es.length es) ∧ Hid (Outs ws es)
set_option maxHeartbeats 3200000 in
theorem walk_entries (ao : Option Addr) (n cap : Nat) (us : List Nat) (bo : Option Addr) (n2 cap2 : Nat) (xs : List Qu) (w : World) (hu : U64s w ao n cap us) (hb : n ≤ 17592186043904) (hx : Qus w bo n2 cap2 xs) :
    Calls Try.prog 6 #[.slice ao n cap, .slice bo n2 cap2] w fun e w' => e = .returned (.bool true) ∧ Below w.heap.size w w' := by
  have HU := hide hu
  have HQ := hide hx
  have hcm : cap ≤ 9223372036854775807 := hu.2.2.1
  have hc2 : cap2 ≤ 9223372036854775807 := hx.2.2.1
  have HL := hide (show (cutN us).length = n by rw [cutN_len]; exact hu.1.symm)
  have hnc : n2 ≤ cap2 := hx.2.1
  clear hu hx
  go_enter Try.func6, Try.ntmps6
  go_wp2_with fail
  refine (awake_any _).mono ?_; rintro e w1 ⟨rfl, bel1⟩
  go_wp2_with fail
  refine (of_any ao n cap us _ (HU.out.carry bel1) hb).mono ?_; rintro e w2 ⟨a, h, kk, rfl, T, _, ha, hh, bel2⟩
  have HT := hide T
  have HB := hide (bel1.trans (bel2.mono bel1.size))
  have HA := hide (Nat.le_trans bel1.size ha)
  have HH := hide (Nat.le_trans bel1.size hh)
  clear T ha hh bel1 bel2
  go_wp2_with fail
  refine (oof_any _ ⟨_, rfl⟩ _).mono ?_; rintro e w3 ⟨g, m, rfl, O3, bel3⟩
  have HS : Hid (St w w3 w2.heap.size g m a h kk (.slice none 0 0) (cutN us) 0 []) := ⟨O3, HT.out.grow bel3, ⟨HB.out.size, HA.out, HH.out, HB.out.trans (bel3.mono HB.out.size), bel3.size⟩, few_nil⟩
  clear O3 bel3 HT HB HA HH
  go_wp2_with fail
  go_loopg [20] n2 (fun gk i wr => EntRel w w2.heap.size g m a h kk (cutN us) n2 gk i wr)
  case atStart => exact ⟨0, _, [], by omega, rfl, HS, fun j hj => by simp at hj⟩
  case round =>
    obtain ⟨k, v, es, hk, rfl, HSr, HO⟩ := hrel
    cases gk with
    | zero =>
      have hlt : ¬ ((k : Int) < (n2 : Int)) := by omega
      have hl10 := HSr.out.len
      have HL3 := hide hl10
      have HLe := hide HSr.out.tape.some
      go_wp2_with fail
      refine (entries_any g m _ _ v es _ HSr.out.orc (by omega)).mono ?_; rintro e w4 ⟨o4, cap4, rfl, own4, bel4⟩
      have HS4 := hide (HSr.out.grow bel4)
      have HD := hide HSr.out.orc.dist
      have HW4 := hide own4
      clear own4 bel4 HSr hlt hk hnc hc2
      go_wp2_with fail
      refine (oleft_any g m _ a h _ kk v es (cutN us) _ HS4.out.orc HS4.out.tape).mono ?_; rintro e w5 ⟨rfl, q5, rfl⟩
      rw [HL.out]
      have HS5 := hide (HS4.out.drewN q5)
      have HW5 : Hid ((w4.drewN q5).ownsRow wr.heap.size 42 3 (.slice o4 es.length cap4) es.length (cellsE es)) := HW4.out
      rw [HL.out] at HLe
      obtain ⟨w6, hw6⟩ : ∃ w6, w4.drewN q5 = w6 := ⟨_, rfl⟩
      rw [hw6] at HS5 HW5 ⊢
      clear HS4 HW4 hw6
      obtain ⟨n3, hn3⟩ : ∃ n3, es.length = n3 := ⟨_, rfl⟩
      rw [hn3] at HW5 HLe hl10 ⊢
      have HN3 := hide hn3
      clear hn3
      go_wp2_with fail
      go_loopg [48] n3 (fun gk i wq => ∃ k : Nat, k + gk = n3 ∧ i = .int .i64 k ∧ Hid (Below w6.heap.size w6 wq))
      case atStart => exact ⟨0, by omega, rfl, Below.refl _ _⟩
      case round =>
        rename World => wq
        obtain ⟨k2, hk2, rfl, HB2⟩ := hrel
        cases gk with
        | zero =>
          have hlt2 : ¬ ((k2 : Int) < (n3 : Int)) := by omega
          go_wp2
          go_ret
          exact ⟨rfl, HS5.out.new.bel.trans (HB2.out.mono HS5.out.new.bel.size)⟩
        | succ g2 =>
          have hlt2 : ((k2 : Int) < (n3 : Int)) := by omega
          have hkn2 : k2 < n3 := by omega
          have hke : k2 < es.length := by rw [HN3.out]; exact hkn2
          obtain ⟨r, c5, e5, hc5, hc6, _, hr, EA⟩ := owns_ents HW5.out (by omega)
          obtain ⟨rfl, _, rfl⟩ := Value.slice.inj e5
          obtain ⟨f, i, o, hx⟩ : ∃ f i o, es.getD k2 Ent.zero = ⟨f, i, o⟩ := ⟨_, _, _, rfl⟩
          obtain ⟨x0, x1, x2⟩ := EA.carry HB2.out hr k2 hke
          simp only [hx] at x0 x1 x2
          have hu1 := HU.out.2.2.2.2.2 k2
          have hLe : n3 ≤ n := HLe.out
          have hkl : k2 < us.length := by rw [← HU.out.1]; omega
          have HEA := hide EA
          cases ao with
          | none => have := HU.out.2.2.2.1 rfl; have := HU.out.2.1; omega
          | some ad =>
            have bW : Below w.heap.size w wq := HS5.out.new.bel.trans (HB2.out.mono HS5.out.new.bel.size)
            have hce := (HU.out.carry bW).2.2.2.2.1 ad rfl k2 hkl
            have ho := HO.out k2 hke
            rw [hx, cutN_get] at ho
            have ho' : o = us.getD k2 0 % 281474976710656 := ho
            generalize us.getD k2 0 = u at hu1 hce ho'
            have hand := and_cut u hu1
            rw [← ho'] at hand
            obtain ⟨X, hX⟩ : ∃ X, wq.alloc (.cells #[.int .i64 f, .int .u64 (i : Int), .int .u64 (o : Int)] 42) = X := ⟨_, rfl⟩
            have EX : Hid (EBox X wq.heap.size f i o) := hX ▸ EBox.new wq f i o
            have BX : Hid (Below wq.heap.size wq X) := hX ▸ below_alloc wq _
            have hcx : ∀ q, (X.drewN q).cell? (ad.add k2) = some (.int .u64 (u : Int)) := fun q => (BX.out.cell (lt_of_cell hce)).trans hce
            have hbx : ∀ q, (X.drewN q).cell? ⟨wq.heap.size, 2, none⟩ = some (.int .u64 (o : Int)) := fun q => EX.out.c2
            have HXX := hide hx
            have HBW := hide bW
            have HHO := hide ho'
            have HHU := hide hu1
            clear hx ho ho' EA bW hce hu1 e5
            go_wp2_with fail
            go_quiet (fail)
            go_wp2_with fail
            go_loopg [65] k2 (fun gk i wp => ∃ j : Nat, j + gk = k2 ∧ i = .int .i64 j ∧ Hid (Below X.heap.size X wp))
            case atStart => exact ⟨0, by omega, rfl, below_drewN (Below.refl _ _) _⟩
            case round =>
              rename World => wp
              obtain ⟨j, hj, rfl, HB3⟩ := hrel
              cases gk with
              | zero =>
                have hlt3 : ¬ ((j : Int) < (k2 : Int)) := by omega
                go_wp2
                go_roundg g2
                case measure => omega
                case rel => exact ⟨k2 + 1, by omega, by go_num, (HB2.out.trans (BX.out.mono HB2.out.size)).trans (HB3.out.mono (Nat.le_trans HB2.out.size BX.out.size))⟩
              | succ g3 =>
                have hlt3 : ((j : Int) < (k2 : Int)) := by omega
                have hjl : j < es.length := by omega
                obtain ⟨f', i', o', hy⟩ : ∃ f i o, es.getD j Ent.zero = ⟨f, i, o⟩ := ⟨_, _, _, rfl⟩
                have bY : Below w6.heap.size w6 wp := (HB2.out.trans (BX.out.mono HB2.out.size)).trans (HB3.out.mono (Nat.le_trans HB2.out.size BX.out.size))
                obtain ⟨y0, y1, y2⟩ := HEA.out.carry bY hr j hjl
                simp only [hy] at y0 y1 y2
                have EY := hide (EX.out.grow HB3.out)
                obtain ⟨Y, hY⟩ : ∃ Y, wp.alloc (.cells #[.int .i64 f', .int .u64 (i' : Int), .int .u64 (o' : Int)] 42) = Y := ⟨_, rfl⟩
                have EZ : Hid (EBox Y wp.heap.size f' i' o') := hY ▸ EBox.new wp f' i' o'
                have EW : Hid (EBox Y wq.heap.size f i o) := hY ▸ EY.out.grow (below_alloc wp _)
                have BY : Hid (Below X.heap.size X Y) := hY ▸ HB3.out.alloc HB3.out.size _
                have z0 := EZ.out.c0
                have z1 := EZ.out.c1
                have v0 := EW.out.c0
                have v1 := EW.out.c1
                have hne : ¬ (f = f' ∧ i = i') := fun e => by
                  have := HD.out k2 j hke hjl (by rw [HXX.out, hy]; exact e.1) (by rw [HXX.out, hy]; exact e.2)
                  omega
                clear hy bY
                by_cases hff : f = f'
                · subst hff
                  have hii : ((i : Int) == (i' : Int)) = false := by
                    have : i ≠ i' := fun e => hne ⟨rfl, e⟩
                    exact beq_eq_false_iff_ne.2 (by omega)
                  have hif : (f == f) = true := by simp
                  clear hne
                  go_wp2
                  go_roundg g3
                  case measure => omega
                  case rel => exact ⟨j + 1, by omega, by go_num, BY⟩
                · have hii : (f == f') = false := beq_eq_false_iff_ne.2 hff
                  clear hne
                  go_wp2
                  go_roundg g3
                  case measure => omega
                  case rel => exact ⟨j + 1, by omega, by go_num, BY⟩
    | succ g1 =>
      have hlt : ((k : Int) < (n2 : Int)) := by omega
      have hkn : k < n2 := by omega
      cases bo with
      | none => have := HQ.out.2.2.2.1 rfl; omega
      | some ad =>
        obtain ⟨o, q, hoq⟩ : ∃ o q, xs.getD k Qu.zero = ⟨o, q⟩ := ⟨_, _, rfl⟩
        obtain ⟨⟨ho, hq⟩, e0, e1⟩ := (HQ.out.carry HSr.out.new.bel).elem k hkn o q hoq
        obtain ⟨p, hp, hp1⟩ : ∃ p : Nat, (o : Int) % 2 = (p : Int) ∧ p ≤ 1 := ⟨o % 2, by omega, by omega⟩
        have ht2 : (o : Int).tmod 2 = (p : Int) := by rw [Int.tmod_eq_emod_of_nonneg (by omega)]; exact hp
        have hwr : IntKind.i64.wrap (p : Int) = (p : Int) := IntWalk.i64_in _ (by omega)
        obtain ⟨X, hX⟩ : ∃ X, wr.alloc (.cells #[.int .u8 (o : Int), .int .u64 (q : Int)] 32) = X := ⟨_, rfl⟩
        have HX : Hid (St w X.drew w2.heap.size g m a h kk v (cutN us) es.length es) := hX ▸ (HSr.out.grow (below_alloc wr _)).drewN 1
        have QX : Hid (QBox X.drew wr.heap.size o q) := hX ▸ QBox.new wr o q
        have HP1 := hide hp1
        have HQ1 := hide hq
        clear hoq hp1 hq ho
        go_wp2_with fail
        go_region_held3 (fun w' => w'.cell? ⟨wr.heap.size, 0, none⟩ = some (.int .u8 (o : Int)) ∧ w'.cell? ⟨wr.heap.size, 1, none⟩ = some (.int .u64 (q : Int))) (first | exact ⟨QX.out.c0, QX.out.c1⟩ | exact ⟨hQi.out.c0, hQi.out.c1⟩ | exact ⟨hQj.out.c0, hQj.out.c1⟩)
          (first
            | (go_at_call 13; refine (in_any o q _ HQ1.out).mono ?_; rintro e wi ⟨rfl, beli⟩; have hSi := hide (HX.out.grow beli); have hQi := hide (QX.out.grow beli))
            | (go_at_call 15; refine (ask_any w _ g m a h kk v _ _ es p q _ hSi.out HP1.out).mono ?_; rintro e wj ⟨x, er, v', t', es', rfl, sj, Fj, hvj, stj⟩; have hQj := hide (hQi.out.ask hSi.out Fj)))
        have HS1 := hide sj
        have HO1 := hide (HO.out.step stj)
        clear sj stj Fj hvj hSi hQi hQj beli
        go_wp2
        go_roundg g1
        case measure => omega
        case rel => exact ⟨k + 1, v', es', by omega, by go_num, (by have := HS1.out; rw [HO1.out.2] at this; exact this), HO1.out.1⟩

end Go.Proofs.Ytckpdgheoacbfaa

namespace Go.Proofs.Ytckpdgheoacbfaa.oracleEntries
open Go.ChangeShapes Go.WideShapes Go.ChangeAt Go.RowKit
set_option linter.unusedVariables false

theorem own : ownKnob Try.prog.godebug = none := by kernel_rfl
theorem laidOut : laidOutB Try.prog = true := by kernel_rfl

theorem walk (a0 : Option Addr) (len0 cap0 : Nat) (z0 : List Int) (a1 : Option Addr) (len1 cap1 : Nat) (z1 : List Qu) (w : World) (w0 : RowOf .u64 w a0 len0 cap0 z0) (s0 : cap0 * 8 ≤ 140737488351232) (w1 : Qus w a1 len1 cap1 z1) (s1 : cap1 * 16 ≤ 140737488351232) :
    Calls Try.prog 6 #[.slice a0 len0 cap0, .slice a1 len1 cap1] w fun e w' => e = .returned (.bool true) ∧ Below w.heap.size w w' :=
  by obtain ⟨us, hu⟩ := w0.u64s; exact walk_entries a0 len0 cap0 us a1 len1 cap1 z1 w hu (by have := hu.2.1; omega) w1

set_option maxRecDepth 100000 in
theorem lifted (os : Os) (started : os.Started) (H : Type) (enc : TypeId × Value → H) :
    ReturnsInHanded {} Try.checked os 6 .any (Rows.oracleEntriesSpec.pre6 enc Try.prog Try.f6 Rows.oracleEntriesRow.domain false) (Rows.oracleEntriesSpec.post enc Try.prog Try.f6 false true false false) := by
  refine returnsInHanded_of_change_sized (C := Try.checked) own started (by kernel_rfl) Try.func6
    (ChangeSpec.witness6 (enc := enc) (C := Try.checked) false ⟨#[], #[.slice none 0 0, .slice none 0 0], []⟩ 8 (by kernel_rfl) (by kernel_rfl) (by kernel_rfl) (by kernel_rfl)) ?_
  intro W base args ds gs before hval0 hW hcnd hsz0 _
  have hval : ∀ (j : Nat) t v, Try.f6.params[j]? = some t → args[j]? = some v → Value.okWide Try.prog W .any base t v := hval0
  have hW' := hW
  obtain ⟨p, q, hA0, hV, rfl, hfz, hnd⟩ := hW
  have hA : DataW.TrodAll enc Try.prog W 0 (fun _ => true) true Try.f6.params.toList args.toList ds p := hA0
  have hsz : (DataW.weightsEach Try.prog (Try.f6.params.toList ++ Rows.oracleEntriesSpec.plain.varTypes Try.prog) (ds ++ gs)).all (· ≤ reachBytes) = true := hsz0
  rw [Try.params6] at hA hval hsz
  obtain ⟨v0, vs0, d0, ds0, p0, q0, hargs, rfl, rfl, h0, r0⟩ := trodAll_cons hA
  obtain ⟨v1, vs1, d1, ds1, p1, q1, rfl, rfl, rfl, h1, r1⟩ := trodAll_cons r0
  obtain ⟨rfl, rfl, rfl⟩ := trodAll_nil r1
  obtain rfl : args = #[v0, v1] := by cases args; simp_all
  obtain ⟨rfl, rfl⟩ := trodVars_none hV
  obtain ⟨a0, len0, cap0, rfl⟩ := okWide_slice Try.underlying22 (hval 0 22 v0 rfl rfl)
  have k0 := h0
  have lt0 : ∀ x ∈ p0, x.block < W.heap.size := by obtain ⟨m, hm⟩ := k0; exact DataW.trod_lt m _ _ _ hm
  obtain ⟨z0, w0, s0⟩ : ∃ zs, RowOf .u64 W a0 len0 cap0 zs ∧ cap0 * 8 ≤ 140737488351232 := by
    obtain ⟨fuel, hf⟩ := h0
    rcases open_ints Try.underlying22 Try.underlying30 (by kernel_rfl) hf with ⟨hcs, _⟩ | ⟨x, l, c, zs, hcs, _, hl, hm, hz, hx, hcell, hwz⟩
    · simp [Value.cells] at hcs
      obtain ⟨rfl, rfl, rfl⟩ := hcs
      exact ⟨[], .inl ⟨rfl, rfl, rfl, rfl⟩, by omega⟩
    · simp [Value.cells] at hcs
      obtain ⟨rfl, rfl, rfl⟩ := hcs
      have hd := congrArg Prod.fst hx
      simp only at hd
      subst hd
      have hs := sized_slice hsz (j := 0) (t := 22) (e := 30) rfl rfl Try.underlying22
      rw [bytesOf30] at hs
      simp only [lits, List.length_map, List.length_take, List.length_drop, reachBytes] at hs
      have hz' : zs.length = cap0 := by simpa using hz
      exact ⟨zs, .inr ⟨_, rfl, hl, hm, hz', hcell, hwz⟩, by omega⟩
  obtain ⟨a1, len1, cap1, rfl⟩ := okWide_slice Try.underlying23 (hval 1 23 v1 rfl rfl)
  have k1 := h1
  have lt1 : ∀ x ∈ p1, x.block < W.heap.size := by obtain ⟨m, hm⟩ := k1; exact DataW.trod_lt m _ _ _ hm
  obtain ⟨z1, w1, s1⟩ : ∃ zs, Qus W a1 len1 cap1 zs ∧ cap1 * 16 ≤ 140737488351232 := by
    obtain ⟨fuel, hf⟩ := h1
    obtain ⟨xs, hc, hd⟩ := open_qus hf
    refine ⟨xs, hc, ?_⟩
    rcases hd with ⟨_, h0⟩ | ⟨els, sp, hd, hlen⟩
    · omega
    · simp only at hd
      subst hd
      have hs := sized_slice hsz (j := 1) (t := 23) (e := 32) rfl rfl Try.underlying23
      rw [bytesA] at hs
      simp only [reachBytes] at hs
      omega
  clear hA0 hval0
  refine (walk a0 len0 cap0 z0 a1 len1 cap1 z1 W w0 s0 w1 s1).mono fun e W' ⟨he, bel⟩ => ?_
  subst he
  exact ⟨_, rfl, _, _, _, [], _, [], hW', trodAll_mk1 (shut_bool Try.underlying4 _), (trodAll_cons_mk (Below.trod laidOut (by kernel_rfl) (of_decide_eq_true (by kernel_rfl)) k0 bel lt0) (trodAll_cons_mk (Below.trod laidOut (by kernel_rfl) (of_decide_eq_true (by kernel_rfl)) k1 bel lt1) trodAll_mk0)), rfl, bel.frame _, fun h => by cases h⟩

theorem over : Rows.oracleEntriesRow.holds Try.pinned (OpenSpec.ofChange Rows.oracleEntriesSpec) :=
  OpenClaim.holds_of_wide 6 Try.f6 rfl rfl rfl rfl rfl rfl rfl ⟨rfl, rfl, rfl, rfl, rfl⟩ rfl rfl rfl rfl rfl (by kernel_rfl) Try.func6 (by kernel_rfl)
    (of_decide_eq_true (by kernel_rfl)) (by unfold Func.isWrapper; first | (rw [if_pos (by decide +kernel)]; kernel_rfl) | (rw [if_neg (by decide +kernel)]; exact ⟨rfl, rfl⟩))
    (fun os started H enc _ => lifted os started H enc)
end Go.Proofs.Ytckpdgheoacbfaa.oracleEntries

namespace Go.Proofs.Ytckpdgheoacbfaa
theorem oracleEntries_holds : Rows.OracleEntriesSaid := oracleEntries.over
#print axioms oracleEntries_holds
end Go.Proofs.Ytckpdgheoacbfaa
