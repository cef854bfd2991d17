/-
  CodecRow (P2.1, P2.3): numbers that are laid one behind the other are read one behind the other. No condition: every input that can be read.
-/
import Derived.Test.YtpcaipmdinbdfaaRows
import Derived.Test.YtpcaipmdinbdfaaMore
import Derived.Test.YtpcaipmdinbdfaaRowParts
import Derived.WalkKit
import Derived.WalkSpells
import Derived.WalkLawsBesides
import Derived.Deep.QuietTactic
import Derived.BigQuiet
import Derived.Deep.RegionHeld
import Derived.ProofKit
import Derived.OpenShut
import Derived.ShutString
import Derived.ChangeOld
import Derived.Below
import Derived.SizedLaws
namespace Go.Proofs.Ytpcaipmdinbdfaa

open Go.RowKit
theorem put_at (v m : Nat) (x : Int) (w : World) (hx : x = (m : Int)) (h1 : 1 ≤ m) (h8 : m ≤ 8) (hv : v ≤ 18446744073709551615) :
    Calls Try.prog 10 #[.slice none 0 0, .int .u64 v, .int .i64 x] w fun e w' => ∃ co cc, e = .returned (.slice co m cc) ∧ Bts w' co m cc (putF v m) ∧ Below w.heap.size w w' := by
  subst hx
  refine (put_yes none 0 0 v m [] w (bts_nil w) (by omega) h1 h8 hv).mono ?_
  rintro e w' ⟨rfl, hown, bel⟩
  obtain ⟨po, pc, hpv, hb⟩ := owns_bts hown
  obtain ⟨rfl, _, rfl⟩ := Value.slice.inj hpv
  rw [Nat.zero_add, List.nil_append] at hb
  exact ⟨_, _, by rw [Nat.zero_add], hb, bel⟩
theorem take_all (l : List UInt8) (m : Nat) (h : l.length = m) : (l.drop 0).take m = l := by rw [List.drop_zero, List.take_of_length_le (by omega)]
theorem get_at (co : Option Addr) (m cc : Nat) (v : Nat) (x : Int) (w : World) (hx : x = (m : Int)) (hb : Bts w co m cc (putF v m)) (h1 : 1 ≤ m) (h8 : m ≤ 8) (hv : v < 256 ^ m) :
    Calls Try.prog 12 #[.slice co m cc, .int .i64 0, .int .i64 x] w fun e w' => e = .returned (.tuple #[.int .u64 (v : Nat), .bool true]) ∧ Below w.heap.size w w' := by
  subst hx
  refine (get_yes co m cc 0 m _ w hb h1 h8 (by omega)).mono ?_
  rintro e w' ⟨rfl, bel⟩
  rw [take_all _ _ (putF_len v m), numF_putF, Nat.mod_eq_of_lt hv]
  exact ⟨rfl, bel⟩
theorem str_list (l : List UInt8) : (str l).toList = l := by
  unfold str; exact ByteArray.toList_eq _
theorem str_eq (a b m : Nat) (ha : a < 256 ^ m) (hb : b < 256 ^ m) : (((str (putF a m)).toList == (str (putF b m)).toList) == ((a : Int) == (b : Int))) = true := by
  rw [str_list, str_list]
  by_cases h : a = b
  · subst h; simp
  · have h1 : ¬ putF a m = putF b m := fun e => h (putF_inj a b m ha hb e)
    have h2 : ¬ (a : Int) = (b : Int) := by omega
    rw [beq_eq_false_iff_ne.2 h1, beq_eq_false_iff_ne.2 h2]; rfl
theorem below_two {B : Nat} {w w3 wx wy : World} (b3 : Below B w w3) (hB : B ≤ w3.heap.size) (b1 : Below w3.drew.heap.size w3.drew wx) (b2 : Below wx.heap.size wx wy) : Below B w wy :=
  (b3.drew.trans (b1.mono hB)).trans (b2.mono (Nat.le_trans hB b1.size))
def RowRel (w : World) (n m : Nat) (us : List Nat) (x v i : Value) (wr : World) : Prop :=
  ∃ (k : Nat) (bo : Option Addr) (bc : Nat), k ≤ n ∧ i = .int .i64 k ∧ x = .slice bo (k * m) bc ∧ Hid (Bts wr bo (k * m) bc (catF us m k)) ∧
    Hid (wr.ownsRow w.heap.size 3 1 v k (List.replicate k (Value.int .i64 (m : Int)))) ∧ Hid (Below w.heap.size w wr)
theorem below_append {w wr w2 w3 : World} {v : Value} {k : Nat} {xs : List Value} {o : Obj} (bel : Below w.heap.size w wr) (hown : wr.ownsRow w.heap.size 3 1 v k xs) (b2 : Below wr.heap.size wr w2) (hg : (w2.alloc o).grownBy w3 v.ownBlock) : Below w.heap.size w w3 := by
  have b3 : Below w.heap.size w (w2.alloc o) := (bel.trans (b2.mono bel.size)).alloc (Nat.le_trans bel.size b2.size) o
  exact b3.grown hg b3.size (fun g e => (owns_lt hown g e).1)
theorem wrap_mul (a b : Nat) (h : a * b ≤ 140737488351232) : IntKind.i64.wrap ((a : Int) * (b : Int)) = (a : Int) * (b : Int) := by
  rw [← Int.natCast_mul, IntKind.wrap_i64]
  omega
set_option maxHeartbeats 1600000 in
theorem walk_row (ao : Option Addr) (n cap : Nat) (us : List Nat) (q m : Nat) (w : World) (hu : U64s w ao n cap us) (hr : n * 8 ≤ 140737488351232) (hq : q ≤ 255) (hm : 1 + (q : Int) % 8 = (m : Int)) (h1 : 1 ≤ m) (h8 : m ≤ 8) :
    Calls Try.prog 7 #[.slice ao n cap, .int .u8 q] w fun e w' => e = .returned (.bool true) ∧ Below w.heap.size w w' := by
  have HU : Hid (U64s w ao n cap us) := hu
  have HM : Hid (1 + (q : Int) % 8 = (m : Int)) := hm
  have hcm : cap ≤ 9223372036854775807 := hu.2.2.1
  clear hu hm
  obtain ⟨i0, hi, hz0, hz1, hz2⟩ := info_parts Try.info3
  go_enter Try.func7, Try.ntmps7
  go_wp2_with fail
  refine (awake_any _).mono ?_; rintro e w1 ⟨rfl, bel1⟩
  have HU1 : Hid (U64s w1 ao n cap us) := HU.out.carry bel1
  go_wp2_with fail
  rw [HM.out]
  go_loopw [6, 7, 24] (fun x v i wr => RowRel w1 n m us x v i wr) (fun _ _ i _ => n - (intOf i).toNat)
  case atStart => exact ⟨0, none, 0, Nat.zero_le _, rfl, by rw [Nat.zero_mul], by rw [Nat.zero_mul]; exact bts_nil _, World.ownsRow_nil _ _ _ _, Below.refl _ _⟩
  case round =>
    obtain ⟨k, bo, bc, hk, rfl, rfl, HB, HO, HL⟩ := hrel
    by_cases hkn : k < n
    · have hkl : k < us.length := by have := HU.out.1; omega
      have hkm : k * m ≤ n * 8 := Nat.mul_le_mul hk h8
      have hu1 := HU1.out.2.2.2.2.2 k
      cases ao with
      | none => have := HU.out.2.2.2.1 rfl; have := HU.out.2.1; omega
      | some ad =>
        have hce := (HU1.out.carry HL.out).2.2.2.2.1 ad rfl k hkl
        generalize hu0 : us.getD k 0 = u at hu1 hce
        have HC : Hid (us.getD k 0 = u) := hu0
        clear hu0
        have hown := HO.out
        go_wp2_with fail
        refine (put_yes bo (k * m) bc u m (catF us m k) _ HB.out (by omega) h1 h8 hu1).mono ?_; rintro e w2 ⟨rfl, hown2, bel2⟩
        obtain ⟨po, pc, hpv, hb2⟩ := owns_bts hown2
        obtain ⟨rfl, _, rfl⟩ := Value.slice.inj hpv
        have HB2 : Hid (Bts w2 (some ⟨wr.heap.size, 0, none⟩) (k * m + m) (k * m + m) (catF us m k ++ putF u m)) := hb2
        have hsz : w1.heap.size ≤ w2.heap.size := Nat.le_trans HL.out.size bel2.size
        have HS : Hid (w1.heap.size ≤ w2.heap.size) := hsz
        have hownc := owns_carry hown bel2
        have HW : Hid (Below wr.heap.size wr w2) := bel2
        clear hown2 hpv hb2 hown bel2 hsz
        go_wp2_with (at_builtin; refine wpList_append_own _ rfl _ _ 36 rfl w1.heap.size 3 i0 (.int .i64 0) 1 8 Try.underlying36 hi hz0 hz1 hz2 rfl (by decide) _ k _ rfl (hownc.alloc _) ⟨w2.heap.size, 0, none⟩ 1 1 [.int .i64 (m : Int)] rfl rfl (cell_new _ _ _) (one_new _) (by unfold maxLen; omega) (by omega) (Nat.le_trans HS.out (below_alloc w2 _).size) ?_)
        intro v' w4 hown4 hgrow4 _
        rw [show List.replicate k (Value.int .i64 (m : Int)) ++ [Value.int .i64 (m : Int)] = List.replicate (k + 1) (Value.int .i64 (m : Int)) from (List.replicate_succ').symm] at hown4
        have bel4 := below_append HL.out HO.out HW.out hgrow4
        have hb4 := bts_grown (HB2.out.carry (below_alloc w2 _)) hgrow4 (fun e => by have := (owns_lt HO.out _ e.symm).2; omega)
        have HB4 : Hid (Bts w4 (some ⟨wr.heap.size, 0, none⟩) (k * m + m) (k * m + m) (catF us m k ++ putF u m)) := hb4
        have HO4 : Hid (w4.ownsRow w1.heap.size 3 1 v' (k + 1) (List.replicate (k + 1) (Value.int .i64 (m : Int)))) := hown4
        have HL4 : Hid (Below w1.heap.size w1 w4) := bel4
        clear hown4 hgrow4 hb4 bel4 hownc
        go_wp2
        go_roundw
        case rel => exact ⟨k + 1, some ⟨wr.heap.size, 0, none⟩, k * m + m, by omega, by go_num, by rw [Nat.succ_mul], by rw [Nat.succ_mul]; simp only [catF]; rw [HC.out]; exact HB4.out, HO4, HL4⟩
        case measure => simp [intOf]; omega
    · obtain rfl : k = n := by omega
      obtain ⟨so, sc, hv, hin⟩ := owns_ints HO.out
      subst hv
      have HI : Hid (Ints wr so k sc (List.replicate k (m : Int))) := hin
      have HUr : Hid (U64s wr ao k cap us) := HU1.out.carry HL.out
      have HSK : Hid (skipA (k * m) 0 (List.replicate k (m : Int)) = some (k * m)) := skipA_rep m k
      have hkm : k * m ≤ k * 8 := Nat.mul_le_mul_left _ h8
      have b0 : Below w.heap.size w wr := bel1.trans (HL.out.mono bel1.size)
      clear hin HO HL bel1
      go_wp2_with fail
      refine (skip_any bo (k * m) bc 0 so k sc _ _ (by unfold maxLen; omega) HI.out).mono ?_; rintro e w2 ⟨rfl, rfl⟩
      rw [HSK.out]
      simp only [skipV]
      go_wp2_with fail
      simp only [Int.natCast_mul]
      go_loopw [45] (fun i wx => ∃ j : Nat, j ≤ k ∧ i = .int .i64 j ∧ Hid (Below w2.heap.size w2 wx)) (fun i _ => k - (intOf i).toNat)
      case atStart => exact ⟨0, Nat.zero_le _, rfl, Below.refl _ _⟩
      case round =>
        obtain ⟨j, hj, rfl, HL⟩ := hrel
        by_cases hjk : j < k
        · have hjl : j < us.length := by have := HU.out.1; omega
          have hjm : j * m + m ≤ k * m := by rw [← Nat.succ_mul]; exact Nat.mul_le_mul_right _ hjk
          have hwr : IntKind.i64.wrap ((j : Int) * (m : Int)) = (j : Int) * (m : Int) := wrap_mul j m (by omega)
          have hu1 := HUr.out.2.2.2.2.2 j
          cases ao with
          | none => have := HU.out.2.2.2.1 rfl; have := HU.out.2.1; omega
          | some ad =>
            have hce := (HUr.out.carry HL.out).2.2.2.2.1 ad rfl j hjl
            have hg := catF_get us m j k hjk
            generalize us.getD j 0 = u at hu1 hce hg
            obtain ⟨y, hy⟩ : ∃ y, y = u % 256 ^ m := ⟨_, rfl⟩
            have hG : numF (((catF us m k).drop (j * m)).take m) = y := by rw [hg, numF_putF, hy]
            have HG : Hid (numF (((catF us m k).drop (j * m)).take m) = y) := hG
            have heq : ((str (putF y m)).toList == (str (putF u m)).toList) = true := by rw [hy, putF_mod]; simp
            have hy1 : y ≤ 18446744073709551615 := by rw [hy]; exact Nat.le_trans (Nat.mod_le _ _) hu1
            have HBx : Hid (Bts _ bo (k * m) bc (catF us m k)) := HB.out.carry HL.out
            clear hg hG hy
            go_wp2_with fail
            rw [show (j : Int) * (m : Int) = ((j * m : Nat) : Int) from (Int.natCast_mul j m).symm]
            refine (get_yes bo (k * m) bc (j * m) m _ _ HBx.out h1 h8 hjm).mono ?_; rintro e w3 ⟨rfl, bel3⟩
            rw [HG.out]
            have b3 : Below w2.heap.size w2 w3 := HL.out.trans (bel3.mono HL.out.size)
            have B3 : Hid (Below w2.heap.size w2 w3) := b3
            clear bel3 b3
            go_wp2_with fail
            go_region_held (fun _ => True) (trivial) (first | (go_at_call 10; have hb0 := hb1; refine (put_at _ m _ _ (by omega) (by omega) (by omega) (by omega)).mono ?_; rintro e wy ⟨c2, k2, rfl, hb2, bel2⟩; have cv2 := conv_bts hb2; have cv1 := conv_bts (hb1.carry bel2)) | (go_at_call 10; refine (put_at _ m _ _ (by omega) (by omega) (by omega) (by omega)).mono ?_; rintro e wx ⟨c1, k1, rfl, hb1, bel1⟩; have cv1 := conv_bts hb1))
            all_goals have B4 : Hid (Below w2.heap.size w2 wy) := below_two B3.out B3.out.size bel1 bel2
            all_goals clear cv1 cv2 hb1 hb2 hb0 bel1 bel2
            all_goals go_wp2
            all_goals go_roundw
            all_goals first | exact ⟨j + 1, by omega, by go_num, B4⟩ | (simp [intOf]; omega)
        · have hwr : IntKind.i64.wrap ((m : Int) * (k : Int)) = (k : Int) * (m : Int) := by rw [Int.mul_comm]; exact wrap_mul k m (by omega)
          go_wp2
          go_ret
          exact ⟨rfl, b0.trans (HL.out.mono b0.size)⟩
theorem u8_nat {n : Int} (h : (Lit.int .u8 n).wf = true) : ∃ v : Nat, n = (v : Int) ∧ v ≤ 255 := by
  have := bounds_u8 h; exact ⟨n.toNat, by omega, by omega⟩

end Go.Proofs.Ytpcaipmdinbdfaa

namespace Go.Proofs.Ytpcaipmdinbdfaa.codecRow
open Go.ChangeShapes Go.WideShapes Go.ChangeAt Go.RowKit
set_option linter.unusedVariables false

theorem own : ownKnob Try.prog.godebug = none := by kernel_rfl
theorem laidOut : laidOutB Try.prog = true := by kernel_rfl

theorem walk (a0 : Option Addr) (len0 cap0 : Nat) (z0 : List Int) (a1 : Int) (w : World) (w0 : RowOf .u64 w a0 len0 cap0 z0) (s0 : cap0 * 8 ≤ 140737488351232) (w1 : (Lit.int .u8 a1).wf = true) :
    Calls Try.prog 7 #[.slice a0 len0 cap0, .int .u8 a1] w fun e w' => e = .returned (.bool true) ∧ Below w.heap.size w w' :=
  by obtain ⟨us, hu⟩ := w0.u64s; obtain ⟨q, rfl, hq⟩ := u8_nat w1; exact walk_row a0 len0 cap0 us q (1 + q % 8) w hu (by have := hu.2.1; omega) hq (by omega) (by omega) (by omega)

set_option maxRecDepth 100000 in
theorem lifted (os : Os) (started : os.Started) (H : Type) (enc : TypeId × Value → H) :
    ReturnsInHanded {} Try.checked os 7 .any (Rows.codecRowSpec.pre6 enc Try.prog Try.f7 Rows.codecRowRow.domain false) (Rows.codecRowSpec.post enc Try.prog Try.f7 false true false false) := by
  refine returnsInHanded_of_change_sized (C := Try.checked) own started (by kernel_rfl) Try.func7
    (ChangeSpec.witness6 (enc := enc) (C := Try.checked) false ⟨#[], #[.slice none 0 0, .int .u8 0], []⟩ 8 (by kernel_rfl) (by kernel_rfl) (by kernel_rfl) (by kernel_rfl)) ?_
  intro W base args ds gs before hval0 hW hcnd hsz0 _
  have hval : ∀ (j : Nat) t v, Try.f7.params[j]? = some t → args[j]? = some v → Value.okWide Try.prog W .any base t v := hval0
  have hW' := hW
  obtain ⟨p, q, hA0, hV, rfl, hfz, hnd⟩ := hW
  have hA : DataW.TrodAll enc Try.prog W 0 (fun _ => true) true Try.f7.params.toList args.toList ds p := hA0
  have hsz : (DataW.weightsEach Try.prog (Try.f7.params.toList ++ Rows.codecRowSpec.plain.varTypes Try.prog) (ds ++ gs)).all (· ≤ reachBytes) = true := hsz0
  rw [Try.params7] at hA hval hsz
  obtain ⟨v0, vs0, d0, ds0, p0, q0, hargs, rfl, rfl, h0, r0⟩ := trodAll_cons hA
  obtain ⟨v1, vs1, d1, ds1, p1, q1, rfl, rfl, rfl, h1, r1⟩ := trodAll_cons r0
  obtain ⟨rfl, rfl, rfl⟩ := trodAll_nil r1
  obtain rfl : args = #[v0, v1] := by cases args; simp_all
  obtain ⟨rfl, rfl⟩ := trodVars_none hV
  obtain ⟨a0, len0, cap0, rfl⟩ := okWide_slice Try.underlying40 (hval 0 40 v0 rfl rfl)
  have k0 := h0
  have lt0 : ∀ x ∈ p0, x.block < W.heap.size := by obtain ⟨m, hm⟩ := k0; exact DataW.trod_lt m _ _ _ hm
  obtain ⟨z0, w0, s0⟩ : ∃ zs, RowOf .u64 W a0 len0 cap0 zs ∧ cap0 * 8 ≤ 140737488351232 := by
    obtain ⟨fuel, hf⟩ := h0
    rcases open_ints Try.underlying40 Try.underlying23 (by kernel_rfl) hf with ⟨hcs, _⟩ | ⟨x, l, c, zs, hcs, _, hl, hm, hz, hx, hcell, hwz⟩
    · simp [Value.cells] at hcs
      obtain ⟨rfl, rfl, rfl⟩ := hcs
      exact ⟨[], .inl ⟨rfl, rfl, rfl, rfl⟩, by omega⟩
    · simp [Value.cells] at hcs
      obtain ⟨rfl, rfl, rfl⟩ := hcs
      have hd := congrArg Prod.fst hx
      simp only at hd
      subst hd
      have hs := sized_slice hsz (j := 0) (t := 40) (e := 23) rfl rfl Try.underlying40
      rw [bytesOf23] at hs
      simp only [lits, List.length_map, List.length_take, List.length_drop, reachBytes] at hs
      have hz' : zs.length = cap0 := by simpa using hz
      exact ⟨zs, .inr ⟨_, rfl, hl, hm, hz', hcell, hwz⟩, by omega⟩
  obtain ⟨a1, rfl, rfl, rfl, w1⟩ := open_int Try.underlying5 (hval 1 5 v1 rfl rfl) h1
  clear hA0 hval0
  refine (walk a0 len0 cap0 z0 a1 W w0 s0 w1).mono fun e W' ⟨he, bel⟩ => ?_
  subst he
  exact ⟨_, rfl, _, _, _, [], _, [], hW', trodAll_mk1 (shut_bool Try.underlying4 _), (trodAll_cons_mk (Below.trod laidOut (by kernel_rfl) (of_decide_eq_true (by kernel_rfl)) k0 bel lt0) (trodAll_cons_mk (shut_int Try.underlying5 w1) trodAll_mk0)), rfl, bel.frame _, fun h => by cases h⟩

theorem over : Rows.codecRowRow.holds Try.pinned (OpenSpec.ofChange Rows.codecRowSpec) :=
  OpenClaim.holds_of_wide 7 Try.f7 rfl rfl rfl rfl rfl rfl rfl ⟨rfl, rfl, rfl, rfl, rfl⟩ rfl rfl rfl rfl rfl (by kernel_rfl) Try.func7 (by kernel_rfl)
    (of_decide_eq_true (by kernel_rfl)) (by unfold Func.isWrapper; first | (rw [if_pos (by decide +kernel)]; kernel_rfl) | (rw [if_neg (by decide +kernel)]; exact ⟨rfl, rfl⟩))
    (fun os started H enc _ => lifted os started H enc)
end Go.Proofs.Ytpcaipmdinbdfaa.codecRow

namespace Go.Proofs.Ytpcaipmdinbdfaa
theorem codecRow_holds : Rows.CodecRowSaid := codecRow.over
#print axioms codecRow_holds
end Go.Proofs.Ytpcaipmdinbdfaa
