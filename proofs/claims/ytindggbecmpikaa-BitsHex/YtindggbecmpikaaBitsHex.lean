/-
  BitsHex (P1.3): a word's digits are read as that word; what is read has these digits; what is not read answers zero. No condition: every input that can be read.
-/
import Derived.Test.YtindggbecmpikaaRows
import Derived.Test.YtindggbecmpikaaHex
import Derived.Test.YtindggbecmpikaaRows
import Derived.WalkKit
import Derived.ProofKit
import Derived.OpenShut
import Derived.ShutString
namespace Go.Proofs.Ytindggbecmpikaa

open Go.RowKit
theorem u64_lt {n : Int} (h : (Lit.int .u64 n).wf = true) : 0 ≤ n ∧ n < 18446744073709551616 := by have := bounds_u64 h; omega
def hexS (v : Nat) : ByteArray := ⟨(hexL v).toArray⟩
theorem hexS_size (v : Nat) : (hexS v).size = 12 := by show (hexL v).toArray.size = 12; simp [hexL]
theorem letD_ok (d : Nat) (h : d < 16) : dok ((letD d).toNat : Int) = true ∧ dv ((letD d).toNat : Int) = (d : Int) := by
  have key : ∀ d : Fin 16, dok ((letD d.val).toNat : Int) = true ∧ dv ((letD d.val).toNat : Int) = (d.val : Int) := by decide
  exact key ⟨d, h⟩
theorem letD_dv (c : UInt8) (h : dok (c.toNat : Int) = true) : letD (dv (c.toNat : Int)).toNat = c := by
  have key : ∀ n : Fin 256, dok (n.val : Int) = true → (letD (dv (n.val : Int)).toNat).toNat = n.val := by decide +kernel
  exact UInt8.toNat_inj.mp (key ⟨c.toNat, c.toNat_lt⟩ h)
theorem byteAt_hex (v k : Nat) (h : k < 12) : byteAt (hexS v) k = ((letD (v / 16 ^ (11 - k) % 16)).toNat : Int) := by
  rw [byteAt_eq _ _ (by rw [hexS_size]; exact h)]
  have : (hexS v)[k]'(by rw [hexS_size]; exact h) = (hexL v)[k]'(by simp [hexL]; exact h) := rfl
  rw [this]; simp [hexL]
theorem hex_ok (v k : Nat) (h : k < 12) : dok (byteAt (hexS v) k) = true := by
  rw [byteAt_hex v k h]; exact (letD_ok _ (Nat.mod_lt _ (by omega))).1
theorem div_step (v j : Nat) : v / 16 ^ (j + 1) * 16 + v / 16 ^ j % 16 = v / 16 ^ j := by
  rw [Nat.pow_succ, ← Nat.div_div_eq_div_mul]; omega
theorem valF_hex (v : Nat) (hv : v < 281474976710656) (k : Nat) (h : k ≤ 12) : valF (hexS v) k = v / 16 ^ (12 - k) := by
  induction k with
  | zero => simp only [valF]; rw [Nat.div_eq_of_lt]; exact hv
  | succ k ih =>
    simp only [valF]
    rw [ih (by omega), byteAt_hex v k (by omega), (letD_ok _ (Nat.mod_lt _ (by omega))).2]
    have e : 12 - k = (11 - k) + 1 := by omega
    have e2 : 12 - (k + 1) = 11 - k := by omega
    rw [e, e2]
    exact div_step v (11 - k)
theorem valF_hex12 (v : Nat) (hv : v < 281474976710656) : valF (hexS v) 12 = v := by
  rw [valF_hex v hv 12 (by omega)]; simp
theorem valF_lt12 (s : ByteArray) : valF s 12 < 281474976710656 := Nat.lt_of_lt_of_le (valF_lt s 12) (by decide)
theorem valF_div (s : ByteArray) (j k : Nat) : valF s (k + j) / 16 ^ j = valF s k := by
  induction j with
  | zero => simp
  | succ j ih =>
    have := dv_hi (byteAt s (k + j)); have := dv_lo (byteAt s (k + j))
    rw [show k + (j + 1) = (k + j) + 1 from by omega, Nat.pow_succ, Nat.mul_comm, ← Nat.div_div_eq_div_mul]
    rw [show valF s ((k + j) + 1) / 16 = valF s (k + j) from by simp only [valF]; omega, ih]
theorem hex_val (s : ByteArray) (hs : s.size = 12) (hok : ∀ k, k < 12 → dok (byteAt s k) = true) : hexS (valF s 12) = s := by
  apply ByteArray.ext
  apply Array.ext
  · show (hexL _).toArray.size = s.size
    rw [hs]; simp [hexL]
  · intro i h1 h2
    have hi : i < 12 := by have : s.data.size = 12 := hs; omega
    have e1 := byteAt_eq s i (by omega)
    have hb := hok i hi
    have e2 : valF s 12 / 16 ^ (11 - i) = valF s (i + 1) := by
      have := valF_div s (11 - i) (i + 1); rw [show i + 1 + (11 - i) = 12 from by omega] at this; exact this
    have e3 : valF s (i + 1) % 16 = (dv (byteAt s i)).toNat := by
      have := dv_hi (byteAt s i); have := dv_lo (byteAt s i); simp only [valF]; omega
    rw [e1] at hb e3
    have e4 : (hexL (valF s 12))[i]'(by simp [hexL]; exact hi) = letD (valF s 12 / 16 ^ (11 - i) % 16) := by simp [hexL]
    have e5 : (hexS (valF s 12)).data[i]'h1 = (hexL (valF s 12))[i]'(by simp [hexL]; exact hi) := rfl
    rw [e5, e4, e2, e3]
    exact letD_dv _ hb
theorem hex_at (a : Int) (w : World) (h0 : 0 ≤ a) (h1 : a < 18446744073709551616) :
    Calls Try.prog 16 #[.int .u64 a] w fun e w' => e = .returned (.string (hexS (cutF a).toNat)) ∧ Grown w w' := hex_any a w h0 h1
theorem read_hex (v : Nat) (hv : v < 281474976710656) (w : World) :
    Calls Try.prog 17 #[.string (hexS v)] w fun e w' => e = .returned (.tuple #[.int .u64 (v : Int), .bool true]) ∧ w' = w := by
  refine (read_12 (hexS v) w (hexS_size v)).mono ?_
  rintro e w' (⟨_, h, k⟩ | ⟨⟨k, hk, hbad⟩, _⟩)
  · rw [valF_hex12 v hv] at h; exact ⟨h, k⟩
  · rw [hex_ok v k hk] at hbad; cases hbad
theorem dv_hi_digit (c : Int) (h : dok c = true) (h2 : 97 ≤ c) : c - 97 + 10 = dv c ∧ c ≤ 102 := by
  unfold dok at h; have := of_decide_eq_true h; unfold dv; rw [if_neg (by omega), if_pos (by omega)]; omega
theorem dv_lo_digit (c : Int) (h : dok c = true) (h2 : ¬ 97 ≤ c) : c - 48 = dv c ∧ 48 ≤ c := by
  unfold dok at h; have := of_decide_eq_true h; unfold dv; rw [if_pos (by omega)]; omega
set_option maxHeartbeats 400000 in
theorem walk_hex_no (a : Int) (s : ByteArray) (w0 : 0 ≤ a ∧ a < 18446744073709551616) (w : World)
    (hread : ∀ wx, Calls Try.prog 17 #[.string s] wx fun e w' => e = .returned (.tuple #[.int .u64 0, .bool false]) ∧ w' = wx) :
    Calls Try.prog 5 #[.int .u64 a, .string s] w fun e w' => e = .returned (.bool true) ∧ Grown w w' := by
  obtain ⟨h0, h1⟩ := w0
  have HR : Hid _ := hread
  clear hread
  have c1 := and_word a h0 h1
  obtain ⟨v, hv⟩ := Int.eq_ofNat_of_zero_le (cutF_lo a)
  have hv1 : v < 281474976710656 := by have := cutF_hi a; omega
  rw [hv] at c1
  have hz := hexS_size v
  have HV : Hid (cutF a = (v : Int)) := hv
  clear hv
  go_enter Try.func5, Try.ntmps5
  go_wp2_with fail
  refine (awake_any _).mono ?_; rintro e wa ⟨rfl, hg⟩
  go_wp2_with fail
  refine (hex_at _ _ h0 h1).mono ?_; rintro e wb ⟨rfl, hgb⟩
  rw [show (cutF a).toNat = v from by rw [HV.out]; rfl]
  go_wp2_with fail
  refine (read_hex v hv1 _).mono ?_; rintro e w1 ⟨rfl, rfl⟩
  go_wp2_with fail
  refine (HR.out _).mono ?_; rintro e w1 ⟨rfl, rfl⟩
  go_wp2_with fail
  go_loop [10, 11] (fun x i => ∃ k : Nat, k ≤ 12 ∧ i = .int .i64 k ∧ x = .int .u64 (valF (hexS v) k : Nat)) (fun _ i => 12 - (intOf i).toNat)
  case atStart => exact ⟨0, by omega, rfl, rfl⟩
  case round =>
    obtain ⟨k, hk, rfl, rfl⟩ := hrel
    by_cases hk3 : k < 12
    · have hks : k < (hexS v).size := by omega
      have hvl : valF (hexS v) k ≤ 17592186044415 := by have := valF_12 (hexS v) k hk3; omega
      have e1 := byteAt_eq (hexS v) k hks
      have e2 := byteAt_lo (hexS v) k
      have e3 : byteAt (hexS v) k ≤ 255 := by have := byteAt_hi (hexS v) k; omega
      have HD : Hid (valF (hexS v) (k + 1) = valF (hexS v) k * 16 + (dv (byteAt (hexS v) k)).toNat) := rfl
      have hok := hex_ok v k hk3
      have d0 := dv_lo (byteAt (hexS v) k)
      rw [e1] at e2 e3
      have HO : Hid _ := hok
      have HE : Hid _ := e1
      by_cases hc : 97 ≤ byteAt (hexS v) k
      · have hq := dv_hi_digit _ hok hc
        have HQ : Hid _ := hq.1
        rw [e1] at hc
        clear hq e1 hok d0
        go_wp2
        go_round
        case rel => exact ⟨k + 1, by omega, by go_num, by rw [HD.out]; have := HQ.out; have := HE.out; congr 1; omega⟩
        case measure => simp [intOf]; omega
      · have hq := dv_lo_digit _ hok hc
        have HQ : Hid _ := hq.1
        have hq2 := hq.2
        rw [e1] at hc hq2
        clear hq e1 hok d0
        go_wp2
        go_round
        case rel => exact ⟨k + 1, by omega, by go_num, by rw [HD.out]; have := HQ.out; have := HE.out; congr 1; omega⟩
        case measure => simp [intOf]; omega
    · have e3 : k = 12 := by omega
      subst e3
      rw [valF_hex12 v hv1]
      go_wp2
      go_ret
      exact ⟨rfl, grown_trans hg hgb⟩
set_option maxHeartbeats 400000 in
theorem walk_hex_yes (a : Int) (s : ByteArray) (y : Nat) (hy : y < 281474976710656) (hs : hexS y = s) (w0 : 0 ≤ a ∧ a < 18446744073709551616) (w : World)
    (hread : ∀ wx, Calls Try.prog 17 #[.string s] wx fun e w' => e = .returned (.tuple #[.int .u64 (y : Int), .bool true]) ∧ w' = wx) :
    Calls Try.prog 5 #[.int .u64 a, .string s] w fun e w' => e = .returned (.bool true) ∧ Grown w w' := by
  obtain ⟨h0, h1⟩ := w0
  have HR : Hid _ := hread
  clear hread
  have c1 := and_word a h0 h1
  obtain ⟨v, hv⟩ := Int.eq_ofNat_of_zero_le (cutF_lo a)
  have hv1 : v < 281474976710656 := by have := cutF_hi a; omega
  rw [hv] at c1
  have hz := hexS_size v
  have HV : Hid (cutF a = (v : Int)) := hv
  clear hv
  have HS : Hid _ := hs
  clear hs
  go_enter Try.func5, Try.ntmps5
  go_wp2_with fail
  refine (awake_any _).mono ?_; rintro e wa ⟨rfl, hg⟩
  go_wp2_with fail
  refine (hex_at _ _ h0 h1).mono ?_; rintro e wb ⟨rfl, hgb⟩
  rw [show (cutF a).toNat = v from by rw [HV.out]; rfl]
  go_wp2_with fail
  refine (read_hex v hv1 _).mono ?_; rintro e w1 ⟨rfl, rfl⟩
  go_wp2_with fail
  refine (HR.out _).mono ?_; rintro e w1 ⟨rfl, rfl⟩
  go_wp2_with fail
  go_loop [10, 11] (fun x i => ∃ k : Nat, k ≤ 12 ∧ i = .int .i64 k ∧ x = .int .u64 (valF (hexS v) k : Nat)) (fun _ i => 12 - (intOf i).toNat)
  case atStart => exact ⟨0, by omega, rfl, rfl⟩
  case round =>
    obtain ⟨k, hk, rfl, rfl⟩ := hrel
    by_cases hk3 : k < 12
    · have hks : k < (hexS v).size := by omega
      have hvl : valF (hexS v) k ≤ 17592186044415 := by have := valF_12 (hexS v) k hk3; omega
      have e1 := byteAt_eq (hexS v) k hks
      have e2 := byteAt_lo (hexS v) k
      have e3 : byteAt (hexS v) k ≤ 255 := by have := byteAt_hi (hexS v) k; omega
      have HD : Hid (valF (hexS v) (k + 1) = valF (hexS v) k * 16 + (dv (byteAt (hexS v) k)).toNat) := rfl
      have hok := hex_ok v k hk3
      have d0 := dv_lo (byteAt (hexS v) k)
      rw [e1] at e2 e3
      have HO : Hid _ := hok
      have HE : Hid _ := e1
      by_cases hc : 97 ≤ byteAt (hexS v) k
      · have hq := dv_hi_digit _ hok hc
        have HQ : Hid _ := hq.1
        rw [e1] at hc
        clear hq e1 hok d0
        go_wp2
        go_round
        case rel => exact ⟨k + 1, by omega, by go_num, by rw [HD.out]; have := HQ.out; have := HE.out; congr 1; omega⟩
        case measure => simp [intOf]; omega
      · have hq := dv_lo_digit _ hok hc
        have HQ : Hid _ := hq.1
        have hq2 := hq.2
        rw [e1] at hc hq2
        clear hq e1 hok d0
        go_wp2
        go_round
        case rel => exact ⟨k + 1, by omega, by go_num, by rw [HD.out]; have := HQ.out; have := HE.out; congr 1; omega⟩
        case measure => simp [intOf]; omega
    · have e3 : k = 12 := by omega
      subst e3
      rw [valF_hex12 v hv1]
      go_wp2_with fail
      refine (hex_at _ _ (by omega) (by omega)).mono ?_; rintro e wc ⟨rfl, hgc⟩
      rw [show (cutF (y : Int)).toNat = y from by unfold cutF; omega, HS.out]
      go_wp2
      go_ret
      exact ⟨rfl, grown_trans (grown_trans hg hgb) hgc⟩

theorem walk_hex (a : Int) (s : ByteArray) (w0 : 0 ≤ a ∧ a < 18446744073709551616) (hm : s.size ≤ maxLen) (w : World) :
    Calls Try.prog 5 #[.int .u64 a, .string s] w fun e w' => e = .returned (.bool true) ∧ Grown w w' := by
  by_cases hs : s.size = 12
  · by_cases hall : ∀ k, k < 12 → dok (byteAt s k) = true
    · refine walk_hex_yes a s (valF s 12) (valF_lt12 s) (hex_val s hs hall) w0 w (fun wx => (read_12 s wx hs).mono ?_)
      rintro e w' (⟨_, h, k⟩ | ⟨⟨k, hk, hbad⟩, _⟩)
      · exact ⟨h, k⟩
      · rw [hall k hk] at hbad; cases hbad
    · refine walk_hex_no a s w0 w (fun wx => (read_12 s wx hs).mono ?_)
      rintro e w' (⟨h, _⟩ | ⟨_, h, k⟩)
      · exact absurd h hall
      · exact ⟨h, k⟩
  · exact walk_hex_no a s w0 w (fun wx => read_len s wx (by simp; omega) hm)

end Go.Proofs.Ytindggbecmpikaa

namespace Go.Proofs.Ytindggbecmpikaa.bitsHex
open Go.ChangeShapes Go.WideShapes Go.ChangeAt Go.RowKit
open Go.ChangeMaps (open_string shut_string)
set_option linter.unusedVariables false

theorem own : ownKnob Try.prog.godebug = none := by kernel_rfl

theorem walk (a0 : Int) (a1 : ByteArray) (w0 : (Lit.int .u64 a0).wf = true) (w1 : a1.size ≤ maxLen) (w : World) :
    Calls Try.prog 5 #[.int .u64 a0, .string a1] w fun e w' => e = .returned (.bool true) ∧ Grown w w' :=
  walk_hex a0 a1 (u64_lt w0) w1 w

set_option maxRecDepth 100000 in
theorem lifted (os : Os) (started : os.Started) (H : Type) (enc : TypeId × Value → H) :
    ReturnsInHanded {} Try.checked os 5 .any (Rows.bitsHexSpec.pre6 enc Try.prog Try.f5 Rows.bitsHexRow.domain false) (Rows.bitsHexSpec.post enc Try.prog Try.f5 false true false false) := by
  refine returnsInHanded_of_change (C := Try.checked) own started (by kernel_rfl) Try.func5
    (ChangeSpec.witness6 (enc := enc) (C := Try.checked) false ⟨#[], #[.int .u64 0, .string ByteArray.empty], []⟩ 8 (by kernel_rfl) (by kernel_rfl) (by kernel_rfl) (by kernel_rfl)) ?_
  intro W base args ds gs before hval0 hW hcnd _
  have hval : ∀ (j : Nat) t v, Try.f5.params[j]? = some t → args[j]? = some v → Value.okWide Try.prog W .any base t v := hval0
  have hW' := hW
  obtain ⟨p, q, hA0, hV, rfl, hfz, hnd⟩ := hW
  have hA : DataW.TrodAll enc Try.prog W 0 (fun _ => true) true Try.f5.params.toList args.toList ds p := hA0
  rw [Try.params5] at hA hval
  obtain ⟨v0, vs0, d0, ds0, p0, q0, hargs, rfl, rfl, h0, r0⟩ := trodAll_cons hA
  obtain ⟨v1, vs1, d1, ds1, p1, q1, rfl, rfl, rfl, h1, r1⟩ := trodAll_cons r0
  obtain ⟨rfl, rfl, rfl⟩ := trodAll_nil r1
  obtain rfl : args = #[v0, v1] := by cases args; simp_all
  obtain ⟨rfl, rfl⟩ := trodVars_none hV
  obtain ⟨a0, rfl, rfl, rfl, w0⟩ := open_int Try.underlying22 (hval 0 22 v0 rfl rfl) h0
  obtain ⟨a1, rfl, rfl, rfl, w1⟩ := open_string Try.underlying9 (hval 1 9 v1 rfl rfl) h1
  clear hA0 hval0
  simp only [List.append_nil] at hW'
  refine (walk a0 a1 w0 w1 W).mono fun e W' ⟨he, hg⟩ => ?_
  subst he
  exact ⟨_, rfl, post_of_same (pa := []) (pv := []) hW' (fun _ _ _ => (trodAll_cons_mk (shut_bool Try.underlying4 _) trodAll_mk0)) (fun sp _ => (trodAll_cons_mk (shut_int Try.underlying22 w0) (trodAll_cons_mk (shut_string Try.underlying9 w1) trodAll_mk0))) (fun _ _ => rfl) rfl
    (hg.frame _) hg.2.1 (ok_one (by kernel_rfl) rfl (okWide_bool_mk Try.underlying4 _))⟩

theorem over : Rows.bitsHexRow.holds Try.pinned (OpenSpec.ofChange Rows.bitsHexSpec) :=
  OpenClaim.holds_of_wide 5 Try.f5 rfl rfl rfl rfl rfl rfl rfl ⟨rfl, rfl, rfl, rfl, rfl⟩ rfl rfl rfl rfl rfl (by kernel_rfl) Try.func5 (by kernel_rfl)
    (of_decide_eq_true (by kernel_rfl)) (by unfold Func.isWrapper; first | (rw [if_pos (by decide +kernel)]; kernel_rfl) | (rw [if_neg (by decide +kernel)]; exact ⟨rfl, rfl⟩))
    (fun os started H enc _ => lifted os started H enc)
end Go.Proofs.Ytindggbecmpikaa.bitsHex

namespace Go.Proofs.Ytindggbecmpikaa
theorem bitsHex_holds : Rows.BitsHexSaid := bitsHex.over
#print axioms bitsHex_holds
end Go.Proofs.Ytindggbecmpikaa
