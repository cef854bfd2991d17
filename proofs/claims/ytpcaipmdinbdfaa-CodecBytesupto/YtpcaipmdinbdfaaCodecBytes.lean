/-
  CodecBytes (P2.2): bytes with their length are read as they were, and the place behind them; bytes that are too many are not laid. Condition: what the call reads is of bulk at most 1048576 (the second form).
-/
import Derived.Test.YtpcaipmdinbdfaaRows
import Derived.Test.YtpcaipmdinbdfaaMore
import Derived.Test.YtpcaipmdinbdfaaBulk
import Derived.WalkKit
import Derived.WalkSpells
import Derived.WalkLawsBesides
import Derived.Deep.QuietTactic
import Derived.BigQuiet
import Derived.Deep.CutRange
import Derived.ProofKit
import Derived.OpenShut
import Derived.ShutString
import Derived.ChangeOld
import Derived.Below
import Derived.SizedLaws
import Derived.JoinedCond
namespace Go.Proofs.Ytpcaipmdinbdfaa

open Go.RowKit
set_option maxHeartbeats 800000 in
theorem walk_bytes_many (ao : Option Addr) (n cap : Nat) (so : Option Addr) (sn scap : Nat) (mo : Option Addr) (mn mcap : Nat) (p : Int) (w : World) (hs : 65535 < sn) (hm : sn ≤ 1048576) :
    Calls Try.prog 5 #[.slice ao n cap, .slice so sn scap, .slice mo mn mcap, .int .i64 p] w fun e w' => e = .returned (.bool true) ∧ Below w.heap.size w w' := by
  go_enter Try.func5, Try.ntmps5
  go_wp2_with fail
  refine (awake_any _).mono ?_; rintro e w1 ⟨rfl, bel1⟩
  go_wp2_with fail
  refine (putBytes_no ao n cap so sn scap _ hs (by unfold maxLen; omega)).mono ?_; rintro e w2 ⟨rfl, rfl⟩
  go_wp2
  go_ret
  exact ⟨rfl, bel1⟩
def AllRel (w : World) (n : Nat) (l : List UInt8) (x : Value) (wx : World) : Prop := ∃ ao cap, x = .slice ao n cap ∧ Bts wx ao n cap l ∧ Below w.heap.size w wx
theorem owns_low {w : World} {base : Nat} {e : TypeId} {size : Nat} {v : Value} {n : Nat} {xs : List Value} (h : w.ownsRow base e size v n xs) : ∀ g, v.ownBlock = some g → base ≤ g := by
  intro g0 e
  rcases h.2 with ⟨rfl, hn⟩ | ⟨g, cap, cur, rfl, hb, _⟩
  · cases e
  · obtain rfl : g = g0 := Option.some.inj e
    exact hb
theorem all_num (l s r : List UInt8) (n sn : Nat) (hn : n = l.length) (h : sn ≤ 65535) : numF (((l ++ putF sn 2 ++ s ++ r).drop n).take 2) = sn := by
  rw [List.append_assoc, List.append_assoc, hn, List.drop_left, List.take_append_of_le_length (by rw [putF_len]; omega), List.take_of_length_le (by rw [putF_len]; omega), numF_putF]
  exact Nat.mod_eq_of_lt (Nat.lt_of_le_of_lt h (by decide))
theorem all_bytes (l s r : List UInt8) (n sn : Nat) (hn : n = l.length) (hs : sn = s.length) : ((l ++ putF sn 2 ++ s ++ r).drop (n + 2)).take sn = s := by
  have e : (l ++ putF sn 2).length = n + 2 := by rw [List.length_append, putF_len, hn]
  rw [List.append_assoc, ← e, List.drop_left, hs, List.take_left]
set_option maxRecDepth 100000 in
set_option maxHeartbeats 3200000 in
theorem walk_bytes_few (ao : Option Addr) (n cap : Nat) (l : List UInt8) (so : Option Addr) (sn scap : Nat) (s : List UInt8) (mo : Option Addr) (mn mcap : Nat) (r : List UInt8) (p : Int) (w : World)
    (hb : Bts w ao n cap l) (hs : Bts w so sn scap s) (hr : Bts w mo mn mcap r) (h64 : sn ≤ 65535) (hn : n ≤ 1048576) (hm : mn ≤ 1048576) :
    Calls Try.prog 5 #[.slice ao n cap, .slice so sn scap, .slice mo mn mcap, .int .i64 p] w fun e w' => e = .returned (.bool true) ∧ Below w.heap.size w w' := by
  have HB : Hid (Bts w ao n cap l) := hb
  have HS : Hid (Bts w so sn scap s) := hs
  have HR : Hid (Bts w mo mn mcap r) := hr
  clear hb hs hr
  obtain ⟨i0, hi, hz0, hz1, hz2⟩ := info_parts Try.info5
  go_enter Try.func5, Try.ntmps5
  go_wp2_with fail
  refine (awake_any _).mono ?_; rintro e w1 ⟨rfl, bel1⟩
  have HB1 : Hid (Bts w1 ao n cap l) := HB.out.carry bel1
  have HS1 : Hid (Bts w1 so sn scap s) := HS.out.carry bel1
  have HR1 : Hid (Bts w1 mo mn mcap r) := HR.out.carry bel1
  clear HB HS HR
  go_wp2_with fail
  refine (putBytes_yes ao n cap l so sn scap s _ HB1.out HS1.out h64 (by omega)).mono ?_; rintro e w2 ⟨co, cc, rfl, hb2, bel2⟩
  have b2 : Below w.heap.size w w2 := bel1.trans (bel2.mono bel1.size)
  have HB2 : Hid (Bts w2 ao n cap l) := HB1.out.carry bel2
  have HS2 : Hid (Bts w2 so sn scap s) := HS1.out.carry bel2
  have HR2 : Hid (Bts w2 mo mn mcap r) := HR1.out.carry bel2
  obtain ⟨q, hq⟩ : ∃ q, q = l ++ putF sn 2 ++ s := ⟨_, rfl⟩
  rw [← hq] at hb2
  have HO2 : Hid (Bts w2 co (n + 2 + sn) cc q) := hb2
  have HQ : Hid (q = l ++ putF sn 2 ++ s) := hq
  clear HB1 HS1 HR1 hb2 bel1 bel2 hq
  cases co with
  | none => have := HO2.out.none rfl; omega
  | some cd =>
    have hcc : cc ≤ 9223372036854775807 := HO2.out.2.2.1
    have hmc : mcap ≤ 9223372036854775807 := HR2.out.2.2.1
    go_upto_region 6 with fail
    go_cut [11] from 37 to 40 (fun x wx => AllRel w2 (n + 2 + sn + mn) (q ++ r) x wx)
    case first =>
      go_wp2_with (at_builtin; refine wpList_append_own _ rfl _ _ 22 rfl w2.heap.size 5 i0 (.int .u8 0) 1 1 Try.underlying22 hi hz0 hz1 hz2 rfl (by decide) _ 0 [] rfl (World.ownsRow_nil _ _ _ _) cd (n + 2 + sn) cc (cellsB q) rfl (by rw [cellsB_len]; have := HO2.out.1; omega) (HO2.out.news cd rfl) (cellsB_one _) (by unfold maxLen; omega) (by omega) (Nat.le_refl _) ?_)
      intro v1 w3 hown3 hgrow3 _
      have bel3 : Below w2.heap.size w2 w3 := (Below.refl _ _).grown hgrow3 (Nat.le_refl _) (fun k e => by cases e)
      have HR3 : Hid (Bts w3 mo mn mcap r) := HR2.out.carry bel3
      have HO3 : Hid (w3.ownsRow w2.heap.size 5 1 v1 (n + 2 + sn) (cellsB q)) := hown3
      obtain ⟨vo, vc, hv1, hb3⟩ := owns_bts hown3
      subst hv1
      clear hown3 hgrow3
      cases mo with
      | none =>
        obtain ⟨rfl, rfl⟩ := HR3.out.none rfl
        obtain rfl : r = [] := List.eq_nil_of_length_eq_zero HR3.out.1.symm
        have HB3 : Hid (Bts w3 vo (n + 2 + sn) vc q) := hb3
        clear hb3
        cases vo with
        | none => have := HB3.out.none rfl; omega
        | some vd =>
          have hvc : n + 2 + sn ≤ vc := HB3.out.2.1
          go_wp2_with fail
          go_meet
          exact ⟨_, _, rfl, by rw [List.append_nil]; exact HB3.out, bel3⟩
      | some md =>
        clear hb3
        go_wp2_with (at_builtin; refine wpList_append_own _ rfl _ _ 22 rfl w2.heap.size 5 i0 (.int .u8 0) 1 1 Try.underlying22 hi hz0 hz1 hz2 rfl (by decide) _ (n + 2 + sn) (cellsB q) rfl HO3.out md mn mcap (cellsB r) rfl (by rw [cellsB_len]; have := HR3.out.1; omega) (HR3.out.news md rfl) (cellsB_one _) (by unfold maxLen; omega) (by omega) bel3.size ?_)
        intro v2 w4 hown4 hgrow4 _
        rw [← cellsB_append] at hown4
        have bel4 : Below w2.heap.size w2 w4 := bel3.grown hgrow4 bel3.size (fun k e => (owns_low HO3.out k e))
        obtain ⟨ao2, ac2, hv2, hb4⟩ := owns_bts hown4
        subst hv2
        have HB4 : Hid (Bts w4 ao2 (n + 2 + sn + mn) ac2 (q ++ r)) := hb4
        clear hown4 hgrow4 hb4
        go_wp2_with fail
        go_meet
        exact ⟨_, _, rfl, HB4.out, bel4⟩
    case rest =>
      obtain ⟨xo, xc, rfl, hb4, bel4⟩ := hcut
      have HA4 : Hid (Bts wc xo (n + 2 + sn + mn) xc (q ++ r)) := hb4
      have b4 : Below w.heap.size w wc := b2.trans (bel4.mono b2.size)
      have HB4 : Hid (Bts wc ao n cap l) := HB2.out.carry bel4
      have HS4 : Hid (Bts wc so sn scap s) := HS2.out.carry bel4
      have HO4 : Hid (Bts wc (some cd) (n + 2 + sn) cc q) := HO2.out.carry bel4
      have HE : Hid (numF (((q ++ r).drop n).take 2) = sn) := by show numF _ = sn; rw [HQ.out]; exact all_num l s r n sn HB2.out.1 h64
      have HF : Hid (((q ++ r).drop (n + 2)).take sn = s) := by show List.take _ _ = s; rw [HQ.out]; exact all_bytes l s r n sn HB2.out.1 HS2.out.1
      clear hb4 bel4 HB2 HS2 HR2 HO2 b2
      go_wp2_with fail
      refine (getBytes_yes xo (n + 2 + sn + mn) xc n (q ++ r) _ HA4.out (by omega) sn HE.out (by omega) (by omega)).mono ?_; rintro e w5 ⟨tq, tc, rfl, hb5, bel5⟩
      rw [HF.out] at hb5
      have b5 : Below w.heap.size w w5 := b4.trans (bel5.mono b4.size)
      have HB5 : Hid (Bts w5 ao n cap l) := HB4.out.carry bel5
      have ho5 := HO4.out.carry bel5
      rw [HQ.out, List.append_assoc] at ho5
      have hf5 := ho5.first n HB5.out.1
      have hs5 := HS4.out.carry bel5
      have c1 := fun k => conv_bts (hb5.drewN k)
      have c2 := fun k => conv_bts (hs5.drewN k)
      have c3 := fun k => conv_bts (hf5.drewN k)
      have c4 := fun k => conv_bts (HB5.out.drewN k)
      have hcc2 : n + 2 + sn ≤ cc := HO4.out.2.1
      clear hb5 bel5 ho5 hf5 hs5 HA4 HB4 HS4 HO4 b4
      go_wp2_with fail
      go_quiet (fail)
      have HB6 : Hid (Bts (w5.drewN nq) ao n cap l) := HB5.out.drewN nq
      have b6 : Below w.heap.size w (w5.drewN nq) := below_drewN b5 nq
      clear c1 c2 c3 c4 HB5 b5
      generalize w5.drewN nq = w6 at HB6 b6
      by_cases hp : 0 ≤ p ∧ p + 2 ≤ (n : Int)
      · obtain ⟨k, rfl⟩ := Int.eq_ofNat_of_zero_le hp.1
        have hk : k + 2 ≤ n := by omega
        have hx := num2 l k
        obtain ⟨x, hxe⟩ : ∃ x, numF ((l.drop k).take 2) = x := ⟨_, rfl⟩
        rw [hxe] at hx
        have HX : Hid (numF ((l.drop k).take 2) = x) := hxe
        have hcap : n ≤ cap := HB6.out.2.1
        have hcap2 : cap ≤ 9223372036854775807 := HB6.out.2.2.1
        clear hxe hp
        cases ao with
        | none => have := HB6.out.none rfl; omega
        | some ad =>
          by_cases hkx : k + 2 + x ≤ n
          · go_wp2_with fail
            refine (getBytes_yes (some ad) n cap k l _ HB6.out hk x HX.out hkx (by omega)).mono ?_; rintro e w7 ⟨go, gc, rfl, hb7, bel7⟩
            have b7 : Below w.heap.size w w7 := b6.trans (bel7.mono b6.size)
            have HB7 : Hid (Bts w7 (some ad) n cap l) := HB6.out.carry bel7
            have HG7 : Hid (Bts w7 go x gc ((l.drop (k + 2)).take x)) := hb7
            clear hb7 bel7 HB6 b6
            go_wp2_with fail
            refine (number_any (some (ad.add k)) 2 (cap - k) ((l.drop k).take 2) _ (HB7.out.add k 2 (by omega)) (by omega)).mono ?_; rintro e w8 ⟨rfl, rfl⟩
            rw [HX.out]
            go_wp2_with fail
            refine (number_any (some (ad.add k)) 2 (cap - k) ((l.drop k).take 2) _ (HB7.out.add k 2 (by omega)) (by omega)).mono ?_; rintro e w8 ⟨rfl, rfl⟩
            rw [HX.out]
            go_wp2_with fail
            have c1 := fun j => conv_bts (HG7.out.drewN j)
            by_cases hcp : cap = k + 2
            · obtain rfl : x = 0 := by omega
              obtain rfl : n = k + 2 := by omega
              subst hcp
              have c2 := fun j => conv_bts (bts_zero (w8.drewN j) ad)
              rw [List.take_zero] at c1
              go_quiet (fail)
              go_wp2
              go_ret
              exact ⟨rfl, below_drewN b7 _⟩
            · have c2 := fun j => conv_bts ((HB7.out.add (k + 2) x (by omega)).drewN j)
              rw [add_two] at c2
              go_quiet (fail)
              go_wp2
              go_ret
              exact ⟨rfl, below_drewN b7 _⟩
          · have HNO : Hid (¬ (0 ≤ (k : Int) ∧ (k : Int) + 2 ≤ (n : Int) ∧ (k : Int) + 2 + numF ((l.drop (k : Int).toNat).take 2) ≤ (n : Int))) := by
              show ¬ _
              rw [Int.toNat_natCast, HX.out]; omega
            go_wp2_with fail
            refine (getBytes_no (some ad) n cap k l _ HB6.out HNO.out).mono ?_; rintro e w7 ⟨rfl, bel7⟩
            have b7 : Below w.heap.size w w7 := b6.trans (bel7.mono b6.size)
            have HB7 : Hid (Bts w7 (some ad) n cap l) := HB6.out.carry bel7
            clear bel7 HB6 b6
            go_wp2_with fail
            refine (number_any (some (ad.add k)) 2 (cap - k) ((l.drop k).take 2) _ (HB7.out.add k 2 (by omega)) (by omega)).mono ?_; rintro e w8 ⟨rfl, rfl⟩
            rw [HX.out]
            go_wp2
            go_ret
            exact ⟨rfl, b7⟩
      · have HNO : Hid (¬ (0 ≤ p ∧ p + 2 ≤ (n : Int) ∧ p + 2 + numF ((l.drop p.toNat).take 2) ≤ (n : Int))) := fun h => hp ⟨h.1, h.2.1⟩
        rcases (show p < 0 ∨ (0 ≤ p ∧ (n : Int) - 2 < p) from by omega) with h | ⟨h0, h⟩
        all_goals clear hp
        all_goals go_wp2_with fail
        all_goals (refine (getBytes_no ao n cap p l _ HB6.out HNO.out).mono ?_; rintro e w7 ⟨rfl, bel7⟩)
        all_goals have b7 : Below w.heap.size w w7 := b6.trans (bel7.mono b6.size)
        all_goals clear bel7
        all_goals go_wp2
        all_goals go_ret
        all_goals exact ⟨rfl, b7⟩
theorem walk_bytes (ao : Option Addr) (n cap : Nat) (l : List UInt8) (so : Option Addr) (sn scap : Nat) (s : List UInt8) (mo : Option Addr) (mn mcap : Nat) (r : List UInt8) (p : Int) (w : World)
    (hb : Bts w ao n cap l) (hs : Bts w so sn scap s) (hr : Bts w mo mn mcap r) (h1 : cap ≤ 1048576) (h2 : scap ≤ 1048576) (h3 : mcap ≤ 1048576) :
    Calls Try.prog 5 #[.slice ao n cap, .slice so sn scap, .slice mo mn mcap, .int .i64 p] w fun e w' => e = .returned (.bool true) ∧ Below w.heap.size w w' := by
  by_cases h : sn ≤ 65535
  · exact walk_bytes_few ao n cap l so sn scap s mo mn mcap r p w hb hs hr h (Nat.le_trans hb.2.1 h1) (Nat.le_trans hr.2.1 h3)
  · exact walk_bytes_many ao n cap so sn scap mo mn mcap p w (by omega) (Nat.le_trans hs.2.1 h2)

end Go.Proofs.Ytpcaipmdinbdfaa

namespace Go.Proofs.Ytpcaipmdinbdfaa.codecBytes
open Go.ChangeShapes Go.WideShapes Go.ChangeAt Go.RowKit
set_option linter.unusedVariables false

theorem own : ownKnob Try.prog.godebug = none := by kernel_rfl
theorem laidOut : laidOutB Try.prog = true := by kernel_rfl

theorem walk (a0 : Option Addr) (len0 cap0 : Nat) (z0 : List Int) (a1 : Option Addr) (len1 cap1 : Nat) (z1 : List Int) (a2 : Option Addr) (len2 cap2 : Nat) (z2 : List Int) (a3 : Int) (w : World) (w0 : RowOf .u8 w a0 len0 cap0 z0) (s0 : cap0 ≤ 1048576) (w1 : RowOf .u8 w a1 len1 cap1 z1) (s1 : cap1 ≤ 1048576) (w2 : RowOf .u8 w a2 len2 cap2 z2) (s2 : cap2 ≤ 1048576) (w3 : (Lit.int .i64 a3).wf = true) :
    Calls Try.prog 5 #[.slice a0 len0 cap0, .slice a1 len1 cap1, .slice a2 len2 cap2, .int .i64 a3] w fun e w' => e = .returned (.bool true) ∧ Below w.heap.size w w' :=
  by obtain ⟨l, hl⟩ := w0.bytes; obtain ⟨s, hs⟩ := w1.bytes; obtain ⟨r, hr⟩ := w2.bytes; exact walk_bytes a0 len0 cap0 l a1 len1 cap1 s a2 len2 cap2 r a3 w hl hs hr s0 s1 s2

set_option maxRecDepth 100000 in
theorem lifted (os : Os) (started : os.Started) (H : Type) (enc : TypeId × Value → H) (F : Stop.Interp) :
    ReturnsInHanded {} Try.checked os 5 .any ((Rows.OpenSpec.upto Rows.codecBytesSpec).pre6 enc Try.prog Try.f5 Rows.codecBytesUptoRow.domain false) (((Rows.OpenSpec.upto Rows.codecBytesSpec).at F).post enc Try.prog Try.f5 false true false false) := by
  refine returnsInHanded_of_cond (C := Try.checked) (s := Rows.OpenSpec.upto Rows.codecBytesSpec) (k := Rows.uptoSmall) rfl own started (by kernel_rfl) Try.func5
    (OpenSpec.witness (enc := enc) (C := Try.checked) (s := Rows.OpenSpec.upto Rows.codecBytesSpec) (k := Rows.uptoSmall) rfl false ⟨#[], #[.slice none 0 0, .slice none 0 0, .slice none 0 0, .int .i64 0], []⟩ 8 (by kernel_rfl) (by kernel_rfl) (by kernel_rfl)
      (x := ([.nil, .nil, .nil, .lit (.int .i64 0)], [], [])) (by kernel_rfl) rfl (by kernel_rfl)) ?_
  intro W base args ds gs before hval0 hW hcnd hk0 _
  have hval : ∀ (j : Nat) t v, Try.f5.params[j]? = some t → args[j]? = some v → Value.okWide Try.prog W .any base t v := hval0
  have hW' := hW
  obtain ⟨p, q, hA0, hV, rfl, hfz, hnd⟩ := hW
  have hA : DataW.TrodAll enc Try.prog W 0 (fun _ => true) true Try.f5.params.toList args.toList ds p := hA0
  rw [Try.params5] at hA hval
  obtain ⟨v0, vs0, d0, ds0, p0, q0, hargs, rfl, rfl, h0, r0⟩ := trodAll_cons hA
  obtain ⟨v1, vs1, d1, ds1, p1, q1, rfl, rfl, rfl, h1, r1⟩ := trodAll_cons r0
  obtain ⟨v2, vs2, d2, ds2, p2, q2, rfl, rfl, rfl, h2, r2⟩ := trodAll_cons r1
  obtain ⟨v3, vs3, d3, ds3, p3, q3, rfl, rfl, rfl, h3, r3⟩ := trodAll_cons r2
  obtain ⟨rfl, rfl, rfl⟩ := trodAll_nil r3
  obtain rfl : args = #[v0, v1, v2, v3] := by cases args; simp_all
  obtain ⟨rfl, rfl⟩ := trodVars_none hV
  have hk : Rows.uptoSmall H ([d0, d1, d2, d3] ++ []) = true := hk0
  obtain ⟨a0, len0, cap0, rfl⟩ := okWide_slice Try.underlying22 (hval 0 22 v0 rfl rfl)
  have k0 := h0
  have lt0 : ∀ x ∈ p0, x.block < W.heap.size := by obtain ⟨m, hm⟩ := k0; exact DataW.trod_lt m _ _ _ hm
  obtain ⟨z0, w0, s0⟩ : ∃ zs, RowOf .u8 W a0 len0 cap0 zs ∧ cap0 ≤ 1048576 := by
    obtain ⟨fuel, hf⟩ := h0
    rcases open_ints Try.underlying22 Try.underlying5 (by kernel_rfl) hf with ⟨hcs, _⟩ | ⟨x, l, c, zs, hcs, _, hl, hm, hz, hx, hcell, hwz⟩
    · simp [Value.cells] at hcs
      obtain ⟨rfl, rfl, rfl⟩ := hcs
      exact ⟨[], .inl ⟨rfl, rfl, rfl, rfl⟩, by omega⟩
    · simp [Value.cells] at hcs
      obtain ⟨rfl, rfl, rfl⟩ := hcs
      have hd := congrArg Prod.fst hx
      simp only at hd
      subst hd
      have hz' : zs.length = cap0 := by simpa using hz
      exact ⟨zs, .inr ⟨_, rfl, hl, hm, hz', hcell, hwz⟩, by
        have hs := bulk_slice hk (elems := lits .u8 (zs.take len0)) (spare := lits .u8 (zs.drop len0)) (by simp)
        simp only [lits, List.length_map, List.length_take, List.length_drop] at hs
        omega⟩
  obtain ⟨a1, len1, cap1, rfl⟩ := okWide_slice Try.underlying22 (hval 1 22 v1 rfl rfl)
  have k1 := h1
  have lt1 : ∀ x ∈ p1, x.block < W.heap.size := by obtain ⟨m, hm⟩ := k1; exact DataW.trod_lt m _ _ _ hm
  obtain ⟨z1, w1, s1⟩ : ∃ zs, RowOf .u8 W a1 len1 cap1 zs ∧ cap1 ≤ 1048576 := by
    obtain ⟨fuel, hf⟩ := h1
    rcases open_ints Try.underlying22 Try.underlying5 (by kernel_rfl) hf with ⟨hcs, _⟩ | ⟨x, l, c, zs, hcs, _, hl, hm, hz, hx, hcell, hwz⟩
    · simp [Value.cells] at hcs
      obtain ⟨rfl, rfl, rfl⟩ := hcs
      exact ⟨[], .inl ⟨rfl, rfl, rfl, rfl⟩, by omega⟩
    · simp [Value.cells] at hcs
      obtain ⟨rfl, rfl, rfl⟩ := hcs
      have hd := congrArg Prod.fst hx
      simp only at hd
      subst hd
      have hz' : zs.length = cap1 := by simpa using hz
      exact ⟨zs, .inr ⟨_, rfl, hl, hm, hz', hcell, hwz⟩, by
        have hs := bulk_slice hk (elems := lits .u8 (zs.take len1)) (spare := lits .u8 (zs.drop len1)) (by simp)
        simp only [lits, List.length_map, List.length_take, List.length_drop] at hs
        omega⟩
  obtain ⟨a2, len2, cap2, rfl⟩ := okWide_slice Try.underlying22 (hval 2 22 v2 rfl rfl)
  have k2 := h2
  have lt2 : ∀ x ∈ p2, x.block < W.heap.size := by obtain ⟨m, hm⟩ := k2; exact DataW.trod_lt m _ _ _ hm
  obtain ⟨z2, w2, s2⟩ : ∃ zs, RowOf .u8 W a2 len2 cap2 zs ∧ cap2 ≤ 1048576 := by
    obtain ⟨fuel, hf⟩ := h2
    rcases open_ints Try.underlying22 Try.underlying5 (by kernel_rfl) hf with ⟨hcs, _⟩ | ⟨x, l, c, zs, hcs, _, hl, hm, hz, hx, hcell, hwz⟩
    · simp [Value.cells] at hcs
      obtain ⟨rfl, rfl, rfl⟩ := hcs
      exact ⟨[], .inl ⟨rfl, rfl, rfl, rfl⟩, by omega⟩
    · simp [Value.cells] at hcs
      obtain ⟨rfl, rfl, rfl⟩ := hcs
      have hd := congrArg Prod.fst hx
      simp only at hd
      subst hd
      have hz' : zs.length = cap2 := by simpa using hz
      exact ⟨zs, .inr ⟨_, rfl, hl, hm, hz', hcell, hwz⟩, by
        have hs := bulk_slice hk (elems := lits .u8 (zs.take len2)) (spare := lits .u8 (zs.drop len2)) (by simp)
        simp only [lits, List.length_map, List.length_take, List.length_drop] at hs
        omega⟩
  obtain ⟨a3, rfl, rfl, rfl, w3⟩ := open_int Try.underlying3 (hval 3 3 v3 rfl rfl) h3
  clear hA0 hval0
  refine (walk a0 len0 cap0 z0 a1 len1 cap1 z1 a2 len2 cap2 z2 a3 W w0 s0 w1 s1 w2 s2 w3).mono fun e W' ⟨he, bel⟩ => ?_
  subst he
  exact ⟨_, rfl, _, _, _, [], _, [], hW', trodAll_mk1 (shut_bool Try.underlying4 _), (trodAll_cons_mk (Below.trod laidOut (by kernel_rfl) (of_decide_eq_true (by kernel_rfl)) k0 bel lt0) (trodAll_cons_mk (Below.trod laidOut (by kernel_rfl) (of_decide_eq_true (by kernel_rfl)) k1 bel lt1) (trodAll_cons_mk (Below.trod laidOut (by kernel_rfl) (of_decide_eq_true (by kernel_rfl)) k2 bel lt2) (trodAll_cons_mk (shut_int Try.underlying3 w3) trodAll_mk0)))), rfl, bel.frame _, fun h => by cases h⟩

theorem over : Rows.codecBytesUptoRow.holds Try.pinned (Rows.OpenSpec.upto Rows.codecBytesSpec) :=
  OpenClaim.holds_of_cond 5 Try.f5 rfl rfl rfl rfl rfl rfl rfl ⟨rfl, rfl, rfl, rfl, rfl⟩ rfl rfl rfl rfl rfl (by kernel_rfl) Try.func5 (by kernel_rfl)
    (of_decide_eq_true (by kernel_rfl)) (by unfold Func.isWrapper; first | (rw [if_pos (by decide +kernel)]; kernel_rfl) | (rw [if_neg (by decide +kernel)]; exact ⟨rfl, rfl⟩))
    (fun os started H enc _ F => lifted os started H enc F)
end Go.Proofs.Ytpcaipmdinbdfaa.codecBytes

namespace Go.Proofs.Ytpcaipmdinbdfaa
theorem codecBytes_upto : Rows.CodecBytesUptoSaid := codecBytes.over
#print axioms codecBytes_upto
end Go.Proofs.Ytpcaipmdinbdfaa
