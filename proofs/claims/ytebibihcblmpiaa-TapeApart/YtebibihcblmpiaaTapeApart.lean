/-
  TapeApart (P5.2): whether all that are taken are unlike is what holding each against each says. No condition: every input that can be read.
-/
import Derived.Test.YtebibihcblmpiaaRows
import Derived.Test.YtebibihcblmpiaaTAwake
import Derived.Test.YtebibihcblmpiaaTRead
import Derived.WalkKit
import Derived.WalkSpells
import Derived.WalkLawsBesides
import Derived.Deep.QuietTactic
import Derived.BigQuiet
import Derived.ProofKit
import Derived.OpenShut
import Derived.ShutString
import Derived.ChangeOld
import Derived.Below
import Derived.SizedLaws
namespace Go.Proofs.Ytebibihcblmpiaa

open Go.RowKit
def u64w (l : List Nat) : List Value := l.map fun x : Nat => Value.int .u64 (x : Int)
theorem u64w_get (l : List Nat) (j : Nat) (h : j < l.length) : (u64w l)[j]? = some (.int .u64 (l.getD j 0 : Nat)) := by
  simp [u64w, List.getElem?_eq_getElem h, List.getD_eq_getElem?_getD]
/- is the word at k another one than the first i? -/
def freshF (ws : List Nat) (k : Nat) : Nat → Bool
  | 0 => true
  | i + 1 => freshF ws k i && (ws.getD i 0 != ws.getD k 0)
theorem freshF_iff (ws : List Nat) (k i : Nat) : freshF ws k i = true ↔ ∀ j, j < i → ws.getD j 0 ≠ ws.getD k 0 := by
  induction i with
  | zero => simp [freshF]
  | succ i ih =>
    simp only [freshF, Bool.and_eq_true, ih, bne_iff_ne]
    constructor
    · rintro ⟨h1, h2⟩ j hj
      rcases Nat.lt_or_ge j i with h | h
      · exact h1 j h
      · obtain rfl : j = i := by omega
        exact h2
    · intro h
      exact ⟨fun j hj => h j (by omega), h i (by omega)⟩
/- Apart behind one draw more -/
theorem apart_step {ws : List Nat} {a k : Nat} (h : Again ws a) (hk : k < ws.length) : decide (k + 1 ≤ a) = (decide (k ≤ a) && freshF ws k k) := by
  by_cases h1 : k + 1 ≤ a
  · have h2 : freshF ws k k = true := (freshF_iff ws k k).2 (fun j hj => h.2.1 j k hj (by omega))
    rw [h2, decide_eq_true h1, decide_eq_true (show k ≤ a by omega)]; rfl
  · rw [decide_eq_false h1]
    by_cases h3 : k ≤ a
    · obtain rfl : k = a := by omega
      obtain ⟨i, hi, e⟩ := h.2.2 hk
      have h2 : freshF ws k k = false := by
        cases hf : freshF ws k k with
        | false => rfl
        | true => exact absurd e ((freshF_iff ws k k).1 hf i hi)
      rw [h2, Bool.and_false]
    · rw [decide_eq_false h3]; rfl
theorem take_app (ws : List Nat) (k : Nat) (h : k < ws.length) : u64w (ws.take k) ++ [.int .u64 (ws.getD k 0 : Nat)] = u64w (ws.take (k + 1)) := by
  have e : ws.getD k 0 = ws[k] := by rw [List.getD_eq_getElem?_getD, List.getElem?_eq_getElem h]; rfl
  rw [List.take_succ_eq_append_getElem h, e]
  simp only [u64w, List.map_append, List.map_cons, List.map_nil]
theorem own_slice {w : World} {B n : Nat} {v : Value} {xs : List Value} (h : w.ownsRow B 26 1 v n xs) : ∃ oo cc, v = .slice oo n cc ∧ cc ≤ 9223372036854775807 := by
  rcases h.2 with ⟨rfl, rfl⟩ | ⟨g, cap, cur, rfl, _, _, _, h2, _⟩
  · exact ⟨none, 0, rfl, by omega⟩
  · exact ⟨_, _, rfl, h2⟩
theorem own_touch {w w' : World} {B n p : Nat} {v : Value} {xs : List Value} (h : w.ownsRow B 26 1 v n xs) (t : Touch p w w') (hp : ∀ g, v.ownBlock = some g → g ≠ p) : w'.ownsRow B 26 1 v n xs := by
  refine ⟨h.1, ?_⟩
  rcases h.2 with h0 | ⟨g, cap, cur, rfl, hb, hg, r⟩
  · exact .inl h0
  · exact .inr ⟨g, cap, cur, rfl, hb, by rw [t.block g (hp g rfl)]; exact hg, r⟩
theorem own_drewN {w : World} {B n : Nat} {v : Value} {xs : List Value} (h : w.ownsRow B 26 1 v n xs) (q : Nat) : (w.drewN q).ownsRow B 26 1 v n xs := h
theorem TapeAt.glt {w : World} {g h : Nat} {ws : List Nat} {t k : Nat} (x : TapeAt w g h ws t k) : g < w.heap.size := lt_of_heap x.box
theorem TapeAt.grown {w w' : World} {row : Option Nat} {g h : Nat} {ws : List Nat} {t k : Nat} (x : TapeAt w g h ws t k) (b : w.grownBy w' row) (hg : Option.some g ≠ row) (hh : Option.some h ≠ row) : TapeAt w' g h ws t k :=
  ⟨by rw [b.block g x.glt hg]; exact x.box, by rw [RowN, b.block h x.row.lt hh]; exact x.row, x.ne, x.fits, x.word, x.some, x.end_⟩
theorem TapeAt.alloc {w : World} {g h : Nat} {ws : List Nat} {t k : Nat} (x : TapeAt w g h ws t k) (o : Obj) : TapeAt (w.alloc o) g h ws t k := x.carry (below_alloc w o) x.glt x.row.lt
theorem bne_cast (y x : Nat) : ((y : Int) != (x : Int)) = (y != x) := by
  by_cases h : y = x
  · subst h; simp
  · rw [bne_iff_ne.2 h]; exact bne_iff_ne.2 (by omega)
theorem cell_new (w : World) (v : Value) (e : TypeId) : ∀ j u, [v][j]? = some u → (w.alloc (.cells #[v] e)).cell? ((⟨w.heap.size, 0, none⟩ : Addr).add j) = some u := by
  intro j u h
  cases j with
  | zero =>
    obtain rfl : v = u := by simpa using h
    rw [add0, cell_of_row _ _ _ _ _ _ (heap_alloc_new w _)]; rfl
  | succ j => simp at h
def ApRel (w w0 : World) (g b : Nat) (ws : List Nat) (a q : Nat) (gk : Nat) (s6 s7 i : Value) (wr : World) : Prop :=
  ∃ (k : Nat) (oo : Option Addr) (cc : Nat) (c : Bool), k + gk = q ∧ k ≤ ws.length ∧ i = .int .i64 k ∧ s6 = .slice oo k cc ∧ s7 = .bool c ∧ Hid (c = decide (k ≤ a)) ∧ cc ≤ 9223372036854775807 ∧ Hid (wr.ownsRow w0.heap.size 26 1 (.slice oo k cc) k (u64w (ws.take k))) ∧ Hid (TapeAt wr g b ws k a) ∧ Hid (Below w.heap.size w wr) ∧ Hid (w0.heap.size ≤ wr.heap.size)
def ApIn (wo : World) (ws : List Nat) (a k : Nat) (gk : Nat) (s7 i : Value) (wr : World) : Prop :=
  ∃ (j : Nat) (c : Bool), j + gk = k ∧ i = .int .i64 j ∧ s7 = .bool c ∧ Hid (c = (decide (k ≤ a) && freshF ws k j)) ∧ wo = wr
set_option maxRecDepth 100000 in
set_option maxHeartbeats 1600000 in
theorem walk_apart (ao : Option Addr) (n cap : Nat) (us : List Nat) (q0 q : Nat) (w : World) (hu : U64s w ao n cap us) (hb : n ≤ 17592186043904) (hq0 : q0 ≤ 255) (hq : (q0 : Int) % 40 = (q : Int)) :
    Calls Try.prog 4 #[.slice ao n cap, .int .u8 q0] w fun e w' => e = .returned (.bool true) ∧ Below w.heap.size w w' := by
  have HU := hide hu
  have hcm : cap ≤ 9223372036854775807 := hu.2.2.1
  have HL := hide (show (cutN us).length = n by rw [cutN_len]; exact hu.1.symm)
  obtain ⟨i0, hi, hz0, hz1, hz2⟩ : ∃ i0, Try.prog.info? 26 = some i0 ∧ i0.zero = some (.int .u64 0) ∧ i0.size = 1 ∧ i0.bytes = 8 := by
    obtain ⟨i, hi, hzz⟩ := Option.map_eq_some_iff.1 Try.tinfo26
    simp only [Prod.mk.injEq] at hzz
    exact ⟨i, hi, hzz.1, hzz.2.1, hzz.2.2⟩
  clear hu
  go_enter Try.func4, Try.ntmps4
  go_wp2_with fail
  refine (awake_any _).mono ?_; rintro e w1 ⟨rfl, bel1⟩
  go_wp2_with fail
  refine (of_any ao n cap us _ (HU.out.carry bel1) hb).mono ?_; rintro e w2 ⟨g, b, a, rfl, T, ha, hg, hh, bel2⟩
  have HT := hide T
  have HA := hide ha
  have HB := hide (bel1.trans (bel2.mono bel1.size))
  have HG := hide (Nat.le_trans bel1.size hg)
  clear T hg hh bel1 bel2 ha
  go_wp2_with fail
  refine (apart_any g b _ _ a _ HT.out).mono ?_; rintro e w3 ⟨rfl, q3, rfl⟩
  rw [decide_eq_true (Nat.zero_le a)]
  obtain ⟨w0, ew0⟩ : ∃ w0, w2.drewN q3 = w0 := ⟨_, rfl⟩
  have HT0 := hide (HT.out.drewN q3)
  have HB0 := hide (below_drewN HB.out q3)
  have HS0 := hide (And.intro HT0.out.glt HT0.out.row.lt)
  rw [ew0] at HT0 HB0 HS0 ⊢
  clear ew0
  go_wp2_with fail
  go_loopg [6, 7, 8] q (fun gk s6 s7 i wr => ApRel w w0 g b (cutN us) a q gk s6 s7 i wr)
  case atStart => exact ⟨0, none, 0, true, by omega, Nat.zero_le _, rfl, rfl, rfl, (decide_eq_true (Nat.zero_le a)).symm, by omega, World.ownsRow_nil _ _ _ _, HT0, HB0, Nat.le_refl _⟩
  case round =>
    obtain ⟨k, oo, cc, c, hk, hkl, rfl, rfl, rfl, HCc, hcc, HO, HT1, HB1, HW1⟩ := hrel
    rw [HL.out] at hkl
    cases gk with
    | zero =>
      have hlt : ¬ ((k : Int) < (q : Int)) := by omega
      go_wp2
      go_ret
      exact ⟨rfl, HB1.out⟩
    | succ g1 =>
      have hlt : ((k : Int) < (q : Int)) := by omega
      by_cases hkn : k < n
      · have hlt2 : ((k : Int) < (n : Int)) := by omega
        have hx := HT1.out.word k
        obtain ⟨x, ex⟩ : ∃ x, (cutN us).getD k 0 = x := ⟨_, rfl⟩
        have HX := hide ex
        rw [ex] at hx
        clear ex
        go_wp2_with fail
        refine (draw_at g b _ k a x _ HT1.out (by rw [HL.out]; exact hkn) HX.out).mono ?_; rintro e w5 ⟨rfl, T5, t5⟩
        have HT5 := hide T5
        have HO5 := hide (own_touch HO.out t5 (fun p e => by have := (HO.out.lt p e).1; have := HS0.out.1; omega))
        have HB5 := hide (HB1.out.trans (t5.below HG.out))
        have HW5 := hide (show w0.heap.size ≤ w5.heap.size by rw [t5.size]; exact HW1.out)
        clear T5 t5
        go_wp2_with fail
        go_loopg [7, 11] k (fun g2 s7 i wr => ApIn w5 (cutN us) a k g2 s7 i wr)
        case atStart => exact ⟨0, c, by omega, rfl, rfl, by rw [HCc.out]; show _ = (_ && true); rw [Bool.and_true], rfl⟩
        case round =>
          obtain ⟨j, d, hj, rfl, rfl, HDd, rfl⟩ := hrel
          cases gk with
          | zero =>
            have hjk : ¬ ((j : Int) < (k : Int)) := by omega
            have hjj : j = k := by omega
            have HDk := hide (show d = decide (k + 1 ≤ a) by rw [HDd.out, hjj, ← apart_step HA.out (by rw [HL.out]; exact hkn)])
            clear HDd
            go_wp2_with (at_builtin; refine wpList_append_own _ rfl _ _ 22 rfl w0.heap.size 26 i0 (.int .u64 0) 1 8 Try.underlying22 hi hz0 hz1 hz2 rfl (by decide) _ k _ rfl (HO5.out.alloc _) ⟨w5.heap.size, 0, none⟩ 1 1 [.int .u64 (x : Int)] rfl rfl (cell_new _ _ _) ?c2 (by unfold maxLen; omega) (by omega) (Nat.le_trans HW5.out (below_alloc w5 _).size) ?_)
            case c2 => first | rfl | (intro u hu; obtain rfl := List.mem_singleton.1 hu; rfl)
            intro v' w6 hown hgrow _
            rw [← HX.out, take_app _ k (by rw [HL.out]; exact hkn)] at hown
            obtain ⟨oo2, cc2, rfl, hcc2⟩ := own_slice hown
            have HO6 := hide hown
            have HT6 := hide ((HT5.out.alloc _).grown hgrow (fun e => by have := (HO5.out.lt _ e.symm).1; have := HS0.out.1; omega) (fun e => by have := (HO5.out.lt _ e.symm).1; have := HS0.out.2; omega))
            have hb6 := (HB5.out.alloc HB5.out.size (Obj.cells #[.int .u64 (x : Int)] 26)).grown hgrow (HB5.out.alloc HB5.out.size _).size (fun p e => Nat.le_trans HB0.out.size (HO5.out.lt p e).1)
            have HB6 := hide hb6
            have HW6 := hide (show w0.heap.size ≤ w6.heap.size from Nat.le_trans HW5.out (Nat.le_trans (below_alloc w5 _).size hgrow.size))
            clear hown hgrow hb6
            go_wp2_with fail
            refine (apart_any g b _ _ a _ HT6.out).mono ?_; rintro e w7 ⟨rfl, q7, rfl⟩
            rw [← HDk.out]
            go_wp2
            go_roundg g1
            case measure => omega
            case rel => exact ⟨k + 1, oo2, cc2, d, by omega, by rw [HL.out]; omega, by go_num, rfl, rfl, HDk, hcc2, own_drewN HO6.out _, HT6.out.drewN _, below_drewN HB6.out _, HW6⟩
          | succ g2 =>
            have hjk : ((j : Int) < (k : Int)) := by omega
            rcases HO5.out.2 with ⟨_, h0⟩ | ⟨gp, cp, cur, ev, _, _, _, _, _, _⟩
            · omega
            · cases ev
              have hjl : j < ((cutN us).take k).length := by rw [List.length_take, HL.out]; omega
              have cj := HO5.out.cellAt j (by omega)
              rw [u64w_get _ j hjl] at cj
              have ey : ((cutN us).take k).getD j 0 = (cutN us).getD j 0 := by
                simp only [List.getD_eq_getElem?_getD]; rw [List.getElem?_take, if_pos (by omega)]
              rw [ey] at cj
              clear ey
              obtain ⟨y, ey⟩ : ∃ y, (cutN us).getD j 0 = y := ⟨_, rfl⟩
              have HY := hide ey
              rw [ey] at cj
              clear ey
              cases d with
              | false =>
                go_wp2
                go_roundg g2
                case measure => omega
                case rel => exact ⟨j + 1, false, by omega, by go_num, rfl, by simp only [freshF]; rw [← Bool.and_assoc, ← HDd.out]; rfl, rfl⟩
              | true =>
                go_wp2
                go_roundg g2
                case measure => omega
                case rel => exact ⟨j + 1, _, by omega, by go_num, rfl, by simp only [freshF]; rw [← Bool.and_assoc, ← HDd.out, HY.out, HX.out, Bool.true_and]; exact bne_cast y x, rfl⟩
      · have hlt2 : ¬ ((k : Int) < (n : Int)) := by omega
        go_wp2
        go_ret
        exact ⟨rfl, HB1.out⟩

end Go.Proofs.Ytebibihcblmpiaa

namespace Go.Proofs.Ytebibihcblmpiaa.tapeApart
open Go.ChangeShapes Go.WideShapes Go.ChangeAt Go.RowKit
set_option linter.unusedVariables false

theorem own : ownKnob Try.prog.godebug = none := by kernel_rfl
theorem laidOut : laidOutB Try.prog = true := by kernel_rfl

theorem walk (a0 : Option Addr) (len0 cap0 : Nat) (z0 : List Int) (a1 : Int) (w : World) (w0 : RowOf .u64 w a0 len0 cap0 z0) (s0 : cap0 * 8 ≤ 140737488351232) (w1 : (Lit.int .u8 a1).wf = true) :
    Calls Try.prog 4 #[.slice a0 len0 cap0, .int .u8 a1] w fun e w' => e = .returned (.bool true) ∧ Below w.heap.size w w' :=
  by obtain ⟨us, hu⟩ := w0.u64s; obtain ⟨q, rfl, hq⟩ := u8_nat w1; exact walk_apart a0 len0 cap0 us q (q % 40) w hu (by have := hu.2.1; omega) hq (by omega)

set_option maxRecDepth 100000 in
theorem lifted (os : Os) (started : os.Started) (H : Type) (enc : TypeId × Value → H) :
    ReturnsInHanded {} Try.checked os 4 .any (Rows.tapeApartSpec.pre6 enc Try.prog Try.f4 Rows.tapeApartRow.domain false) (Rows.tapeApartSpec.post enc Try.prog Try.f4 false true false false) := by
  refine returnsInHanded_of_change_sized (C := Try.checked) own started (by kernel_rfl) Try.func4
    (ChangeSpec.witness6 (enc := enc) (C := Try.checked) false ⟨#[], #[.slice none 0 0, .int .u8 0], []⟩ 8 (by kernel_rfl) (by kernel_rfl) (by kernel_rfl) (by kernel_rfl)) ?_
  intro W base args ds gs before hval0 hW hcnd hsz0 _
  have hval : ∀ (j : Nat) t v, Try.f4.params[j]? = some t → args[j]? = some v → Value.okWide Try.prog W .any base t v := hval0
  have hW' := hW
  obtain ⟨p, q, hA0, hV, rfl, hfz, hnd⟩ := hW
  have hA : DataW.TrodAll enc Try.prog W 0 (fun _ => true) true Try.f4.params.toList args.toList ds p := hA0
  have hsz : (DataW.weightsEach Try.prog (Try.f4.params.toList ++ Rows.tapeApartSpec.plain.varTypes Try.prog) (ds ++ gs)).all (· ≤ reachBytes) = true := hsz0
  rw [Try.params4] at hA hval hsz
  obtain ⟨v0, vs0, d0, ds0, p0, q0, hargs, rfl, rfl, h0, r0⟩ := trodAll_cons hA
  obtain ⟨v1, vs1, d1, ds1, p1, q1, rfl, rfl, rfl, h1, r1⟩ := trodAll_cons r0
  obtain ⟨rfl, rfl, rfl⟩ := trodAll_nil r1
  obtain rfl : args = #[v0, v1] := by cases args; simp_all
  obtain ⟨rfl, rfl⟩ := trodVars_none hV
  obtain ⟨a0, len0, cap0, rfl⟩ := okWide_slice Try.underlying22 (hval 0 22 v0 rfl rfl)
  have k0 := h0
  have lt0 : ∀ x ∈ p0, x.block < W.heap.size := by obtain ⟨m, hm⟩ := k0; exact DataW.trod_lt m _ _ _ hm
  obtain ⟨z0, w0, s0⟩ : ∃ zs, RowOf .u64 W a0 len0 cap0 zs ∧ cap0 * 8 ≤ 140737488351232 := by
    obtain ⟨fuel, hf⟩ := h0
    rcases open_ints Try.underlying22 Try.underlying26 (by kernel_rfl) hf with ⟨hcs, _⟩ | ⟨x, l, c, zs, hcs, _, hl, hm, hz, hx, hcell, hwz⟩
    · simp [Value.cells] at hcs
      obtain ⟨rfl, rfl, rfl⟩ := hcs
      exact ⟨[], .inl ⟨rfl, rfl, rfl, rfl⟩, by omega⟩
    · simp [Value.cells] at hcs
      obtain ⟨rfl, rfl, rfl⟩ := hcs
      have hd := congrArg Prod.fst hx
      simp only at hd
      subst hd
      have hs := sized_slice hsz (j := 0) (t := 22) (e := 26) rfl rfl Try.underlying22
      rw [bytesOf26] at hs
      simp only [lits, List.length_map, List.length_take, List.length_drop, reachBytes] at hs
      have hz' : zs.length = cap0 := by simpa using hz
      exact ⟨zs, .inr ⟨_, rfl, hl, hm, hz', hcell, hwz⟩, by omega⟩
  obtain ⟨a1, rfl, rfl, rfl, w1⟩ := open_int Try.underlying5 (hval 1 5 v1 rfl rfl) h1
  clear hA0 hval0
  refine (walk a0 len0 cap0 z0 a1 W w0 s0 w1).mono fun e W' ⟨he, bel⟩ => ?_
  subst he
  exact ⟨_, rfl, _, _, _, [], _, [], hW', trodAll_mk1 (shut_bool Try.underlying4 _), (trodAll_cons_mk (Below.trod laidOut (by kernel_rfl) (of_decide_eq_true (by kernel_rfl)) k0 bel lt0) (trodAll_cons_mk (shut_int Try.underlying5 w1) trodAll_mk0)), rfl, bel.frame _, fun h => by cases h⟩

theorem over : Rows.tapeApartRow.holds Try.pinned (OpenSpec.ofChange Rows.tapeApartSpec) :=
  OpenClaim.holds_of_wide 4 Try.f4 rfl rfl rfl rfl rfl rfl rfl ⟨rfl, rfl, rfl, rfl, rfl⟩ rfl rfl rfl rfl rfl (by kernel_rfl) Try.func4 (by kernel_rfl)
    (of_decide_eq_true (by kernel_rfl)) (by unfold Func.isWrapper; first | (rw [if_pos (by decide +kernel)]; kernel_rfl) | (rw [if_neg (by decide +kernel)]; exact ⟨rfl, rfl⟩))
    (fun os started H enc _ => lifted os started H enc)
end Go.Proofs.Ytebibihcblmpiaa.tapeApart

namespace Go.Proofs.Ytebibihcblmpiaa
theorem tapeApart_holds : Rows.TapeApartSaid := tapeApart.over
#print axioms tapeApart_holds
end Go.Proofs.Ytebibihcblmpiaa
