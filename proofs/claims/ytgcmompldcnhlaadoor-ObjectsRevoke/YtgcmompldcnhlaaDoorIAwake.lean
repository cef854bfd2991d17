/-
  The statements' own first step, and their tapes, as contracts.
-/
import Derived.Test.YtgcmompldcnhlaaDoorISt
namespace Go.Proofs.YtgcmompldcnhlaaDoor
open Go.RowKit
variable {w0 w w1 w2 w' : World} {B g go m a h k p : Nat} {v v1 : Value} {ws : List Nat} {t t1 t' : Nat} {es es1 es' : List Ent} {T T1 T' : Nat → Ob}
theorem eqGuard49 : Tryd.prog.eqGuardType Tryd.prog.depth 49 = false := by kernel_rfl
theorem eql_cap (p o r c p' o' r' c' : Int) (w : World) : (binOp .eql 49 (.agg #[.int .u64 p, .int .u32 o, .int .u8 r, .int .u64 c]) (.agg #[.int .u64 p', .int .u32 o', .int .u8 r', .int .u64 c'])).run Tryd.prog w = .ok (.bool (decide (p = p' ∧ o = o' ∧ r = r' ∧ c = c'))) w := by
  have hS : Tryd.prog.underlying 49 = some (.struct (Tryd.prog.fieldsOf 49)) := by kernel_rfl
  have hp : Tryd.prog.stoodInHeld 49 = false := by kernel_rfl
  rw [run_eql_struct, show (10000 : Nat) = 9999 + 1 from rfl, run_equalIn_agg w 9999 49 _ _ hS hp]
  simp only [Program.fieldsOf, Tryd.underlying49]
  have u1 := Tryd.underlying22
  have u2 := Tryd.underlying47
  have u3 := Tryd.underlying5
  go_simp
  by_cases h1 : p = p' <;> by_cases h2 : o = o' <;> by_cases h3 : r = r' <;> by_cases h4 : c = c' <;> simp [h1, h2, h3, h4]
theorem Sd.made (S : Tk w0 w B go m a h k v ws 0 []) (tb : Tb w' w.heap.size p go noneO) (b : Below w.heap.size w w') : Sd w0 w' w.heap.size p ws 0 [] noneO := ⟨_, _, _, _, _, _, _, ⟨S.grow b, tb, S.new.bel.size⟩⟩
theorem cutN_58 : cutN [5, 8] = [5, 8] := by decide
theorem row_58 (w : World) : RowN (w.alloc (.cells #[.int .u64 5, .int .u64 8] 22)) .u64 22 w.heap.size [5, 8] := heap_alloc_new _ _
theorem u64s_58 (w : World) : U64s (w.alloc (.cells #[.int .u64 5, .int .u64 8] 22)) (some ⟨w.heap.size, 0, none⟩) 2 2 [5, 8] :=
  (row_58 w).u64s (by decide) (fun j => by
    rcases j with _ | _ | j <;> simp)
set_option maxHeartbeats 3200000 in
theorem awake_any (w : World) (hg : Glob w) :
    Calls Tryd.prog 8 #[] w fun e w' => e = .returned (.bool true) ∧ Below w.heap.size w w' := by
  have HG := hide hg
  clear hg
  obtain ⟨R, hR⟩ : ∃ R, creF [5, 8] 0 [] 3 noneO 9 = R := ⟨_, rfl⟩
  have HR := hide hR
  have HRc := hide (show R.c = ⟨3, 0, 255, 5⟩ by rw [← hR]; kernel_rfl)
  have HRe := hide (show R.e = 0 by rw [← hR]; kernel_rfl)
  have HRl := hide (show R.es.length ≤ 10 by rw [← hR]; exact of_decide_eq_true (by kernel_rfl))
  obtain ⟨K, hK⟩ : ∃ K, chkF [5, 8] R.t R.es 3 R.T ⟨3, 0, 1, 5⟩ 0 = K := ⟨_, rfl⟩
  have HK := hide hK
  have HKe := hide (show K.e = 1 by rw [← hK, ← hR]; kernel_rfl)
  have HKl := hide (show K.es.length ≤ 10 by rw [← hK, ← hR]; exact of_decide_eq_true (by kernel_rfl))
  obtain ⟨Q, hQ⟩ : ∃ Q, revF [5, 8] K.t K.es 3 R.T ⟨3, 0, 255, 5⟩ = Q := ⟨_, rfl⟩
  have HQ := hide hQ
  have HQe := hide (show Q.e = 7 by rw [← hQ, ← hK, ← hR]; kernel_rfl)
  have HTe : Hid (∀ j, (R.T j).e ≤ 9223372036854775806) := by
    rw [← hR]
    intro j
    show (updO noneO _ _ j).e ≤ _
    unfold updO
    split
    · show 0 ≤ _; omega
    · show 0 ≤ _; omega
  clear hR hK hQ
  obtain ⟨Rc, Re, Rt, Res, RT⟩ := R
  have e1 := HRc.out
  have e2 := HRe.out
  simp only at e1 e2
  subst e1 e2
  go_enter Tryd.func8, Tryd.ntmps8
  go_wp2_with fail
  refine (of_any _ _ _ [5, 8] _ (u64s_58 w) (by omega)).mono ?_; rintro e w1 ⟨a, h, k, rfl, T, _, ha, hh, bel⟩
  rw [cutN_58] at T
  have HT := hide T
  have HA := hide ha
  have HH := hide hh
  have HB := hide bel
  clear T bel ha hh
  go_wp2_with fail
  refine (oof_any _ ⟨_, rfl⟩ _).mono ?_; rintro e w2 ⟨go, m, rfl, O2, bel2⟩
  have HS2 := hide (Tk.made (below_alloc w _) HT.out HA.out HH.out HB.out O2 bel2)
  clear O2 bel2 HT HB HA HH
  go_wp2_with fail
  refine (tof_new 3 _).mono ?_; rintro e w3 ⟨rfl, T3, b3⟩
  have HS3 := hide (Sd.made HS2.out T3 b3)
  obtain ⟨g, hgg⟩ : ∃ g, w2.heap.size = g := ⟨_, rfl⟩
  rw [hgg] at HS3 ⊢
  clear T3 b3 HS2 hgg
  go_wp2_with fail
  refine (sd_create 9 _ HS3.out (by decide) _ HR.out).mono ?_; rintro e w4 ⟨rfl, S4, -⟩
  rw [show erN ((0 : Nat) : Int) = .nilIface from rfl]
  simp only [Cp.val]
  obtain ⟨V, hV⟩ : ∃ V, w4.alloc (.cells #[.int .u64 3, .int .u32 0, .int .u8 255, .int .u64 5] 49) = V := ⟨_, rfl⟩
  have bV : Below w4.heap.size w4 V := hV ▸ below_alloc _ _
  obtain ⟨V2, hV2⟩ : ∃ V2, V.alloc (.cells #[.int .u64 3, .int .u32 0, .int .u8 1, .int .u64 5] 49) = V2 := ⟨_, rfl⟩
  have bV2 : Below V.heap.size V V2 := hV2 ▸ below_alloc _ _
  have HC : Hid (CBox V2 w4.heap.size 3 0 255 5) := (hV ▸ CBox.new w4 3 0 255 5 : CBox V w4.heap.size 3 0 255 5).grow bV2
  have HD : Hid (CBox V2 V.heap.size 3 0 1 5) := hV2 ▸ CBox.new V 3 0 1 5
  have HS5 := hide ((S4.grow bV).grow bV2)
  have hC : CBox V w4.heap.size 3 0 255 5 := hV ▸ CBox.new w4 3 0 255 5
  have c0 : V.cell? ⟨w4.heap.size, 0, none⟩ = some (.int .u64 3) := hC.c0
  have c1 : V.cell? ⟨w4.heap.size, 1, none⟩ = some (.int .u32 0) := hC.c1
  have c2 : V.cell? ⟨w4.heap.size, 2, none⟩ = some (.int .u8 255) := hC.c2
  have c3 : V.cell? ⟨w4.heap.size, 3, none⟩ = some (.int .u64 5) := hC.c3
  have d0 : V2.cell? ⟨V.heap.size, 0, none⟩ = some (.int .u64 3) := HD.out.c0
  have d1 : V2.cell? ⟨V.heap.size, 1, none⟩ = some (.int .u32 0) := HD.out.c1
  have d2 : V2.cell? ⟨V.heap.size, 2, none⟩ = some (.int .u8 1) := HD.out.c2
  have d3 : V2.cell? ⟨V.heap.size, 3, none⟩ = some (.int .u64 5) := HD.out.c3
  clear hC S4 bV bV2
  go_wp2_with fail
  refine (sd_check ⟨3, 0, 1, 5⟩ 0 _ HS5.out ⟨by decide, by decide, by decide, by decide⟩ (by omega) (by have := HRl.out; omega) K HK.out).mono ?_; rintro e w6 ⟨rfl, S6, kp6⟩
  rw [HKe.out, erN_not (by decide)]
  have HS6 := hide S6
  have HC6 := hide (HC.out.kp kp6)
  clear S6 kp6 c0 c1 c2 c3 d0 d1 d2 d3 hV hV2
  have c0 : w6.cell? ⟨w4.heap.size, 0, none⟩ = some (.int .u64 3) := HC6.out.c0
  have c1 : w6.cell? ⟨w4.heap.size, 1, none⟩ = some (.int .u32 0) := HC6.out.c1
  have c2 : w6.cell? ⟨w4.heap.size, 2, none⟩ = some (.int .u8 255) := HC6.out.c2
  have c3 : w6.cell? ⟨w4.heap.size, 3, none⟩ = some (.int .u64 5) := HC6.out.c3
  go_wp2_with fail
  refine (sd_revoke ⟨3, 0, 255, 5⟩ _ HS6.out ⟨by decide, by decide, by decide, by decide⟩ (by have := HKl.out; omega) HTe.out Q HQ.out).mono ?_; rintro e w7 ⟨rfl, S7, kp7⟩
  rw [HQe.out, erN_not (by decide)]
  obtain ⟨⟨q1, q2, q3, q4⟩, Qe, Qt, Qes, QT⟩ := Q
  simp only [Cp.val]
  obtain ⟨V3, hV3⟩ : ∃ V3, w7.alloc (.cells #[.int .u64 (q1 : Int), .int .u32 (q2 : Int), .int .u8 (q3 : Int), .int .u64 (q4 : Int)] 49) = V3 := ⟨_, rfl⟩
  have bV3 : Below w7.heap.size w7 V3 := hV3 ▸ below_alloc _ _
  have HS8 := hide (S7.grow bV3)
  have HC8 := hide ((HC6.out.kp kp7).grow bV3)
  clear S7 kp7 bV3 c0 c1 c2 c3
  have c0 : V3.cell? ⟨w4.heap.size, 0, none⟩ = some (.int .u64 3) := HC8.out.c0
  have c1 : V3.cell? ⟨w4.heap.size, 1, none⟩ = some (.int .u32 0) := HC8.out.c1
  have c2 : V3.cell? ⟨w4.heap.size, 2, none⟩ = some (.int .u8 255) := HC8.out.c2
  have c3 : V3.cell? ⟨w4.heap.size, 3, none⟩ = some (.int .u64 5) := HC8.out.c3
  have hE := eql_cap 3 0 255 5 3 0 255 5
  go_wp2_with fail
  refine (number_errno 1 _ (HS8.out.glob HG.out)).mono ?_; rintro e w9 ⟨rfl, b9⟩
  have HS9 := hide (HS8.out.grow b9)
  clear b9 hE c0 c1 c2 c3
  go_wp2_with fail
  refine (number_errno 7 _ (HS9.out.glob HG.out)).mono ?_; rintro e w10 ⟨rfl, b10⟩
  have HS10 := hide (HS9.out.grow b10)
  clear b10
  go_wp2
  go_ret
  exact ⟨rfl, HS10.out.bel⟩
end Go.Proofs.YtgcmompldcnhlaaDoor
