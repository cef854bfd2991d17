/-
  What objects' Create answers, as a contract.
-/
import Derived.Test.YtgcmompldcnhlaaDoorIDeeds
namespace Go.Proofs.YtgcmompldcnhlaaDoor
open Go.RowKit
variable {w0 w w1 w2 : World} {B g go m a h k p : Nat} {v v1 : Value} {ws : List Nat} {t t1 : Nat} {es es1 : List Ent} {T T1 : Nat → Ob}
theorem Tryd.cut64 (W : World) (g : Nat) : (Instr.sliceAt 72 (.pointer (some ⟨g, 2, none⟩)) none none none).run Tryd.prog W = .ok (.slice (some ⟨g, 2, none⟩) 64 64) W := by
  have hs : ∀ w, (sizeOf 71).run Tryd.prog w = .ok 4 w := fun w => by kernel_rfl
  have hu : Tryd.prog.underlying 72 = some (.array (Tryd.prog.arrayLen 72) (Tryd.prog.elem 72)) := by kernel_rfl
  have hl : Tryd.prog.arrayLen 72 = 64 := by kernel_rfl
  have he : Tryd.prog.elem 72 = 71 := by kernel_rfl
  rw [run_sliceAt_array_all W _ _ hu, he, hs]
  simp [slicedAt, hl, Addr.add]
set_option maxHeartbeats 1600000 in
theorem create_full (vl : Int) (w : World) (x : Od w0 w B g go m a h k p v ws t es T) (hf : ¬ freeO T < 64) :
    Calls Tryd.prog 16 #[.pointer (some ⟨g, 0, none⟩), .int .i64 vl] w fun e w' => e = .returned (.tuple #[Cp.zero.val, erN 5]) ∧ OdEnd w0 w B g go m a h k p v ws w' t es T := by
  obtain ⟨Y, hY⟩ : ∃ Y, w.alloc (.cells #[.int .u64 0, .int .u32 0, .int .u8 0, .int .u64 0] 49) = Y := ⟨_, rfl⟩
  have bY : Below w.heap.size w Y := hY ▸ below_alloc w _
  have HK := hide (x.grow bY)
  have HC : Hid (CBox Y w.heap.size 0 0 0 0) := hY ▸ CBox.new w 0 0 0 0
  have HB := hide bY
  have HW := hide x.tk.new.bel.size
  have HF := hide hf
  have hcut := fun W => Tryd.cut64 W g
  clear x bY hf
  rw [erN_not (by omega : (5 : Int) ≠ 0)]
  go_enter Tryd.func16, Tryd.ntmps16
  go_wp2_with fail
  refine (index_any _ HK.out.tb).mono ?_; rintro e w1 ⟨rfl, b1⟩
  rw [show freeI T = -1 from if_neg HF.out]
  have HC1 := hide (HC.out.grow b1)
  have HE : Hid (OdEnd w0 w B g go m a h k p v ws w1 t es T) := (HK.out.grow b1).stay.from (below_one HB.out b1)
  clear b1
  have d0 : w1.cell? ⟨w.heap.size, 0, none⟩ = some (.int .u64 0) := HC1.out.c0
  have d1 : w1.cell? ⟨w.heap.size, 1, none⟩ = some (.int .u32 0) := HC1.out.c1
  have d2 : w1.cell? ⟨w.heap.size, 2, none⟩ = some (.int .u8 0) := HC1.out.c2
  have d3 : w1.cell? ⟨w.heap.size, 3, none⟩ = some (.int .u64 0) := HC1.out.c3
  have z := HC1.out.z
  go_wp2
  refine bodyPost_ret (by simp [results, Tryd.results16, go_sem, d0, d1, d2, d3]; rfl) rfl ?_
  exact ⟨rfl, HE.out.cap HC1.out.capB HW.out (Nat.le_refl _) (foot4 _ _ _ _ _ _)⟩
set_option maxHeartbeats 1600000 in
theorem create_end (vl : Int) (w : World) (x : Od w0 w B g go m a h k p v ws t es T) (hf : freeO T < 64) (ht : ¬ t < ws.length) :
    Calls Tryd.prog 16 #[.pointer (some ⟨g, 0, none⟩), .int .i64 vl] w fun e w' => e = .returned (.tuple #[Cp.zero.val, erN 7]) ∧ OdEnd w0 w B g go m a h k p v ws w' t es T := by
  obtain ⟨Y, hY⟩ : ∃ Y, w.alloc (.cells #[.int .u64 0, .int .u32 0, .int .u8 0, .int .u64 0] 49) = Y := ⟨_, rfl⟩
  have bY : Below w.heap.size w Y := hY ▸ below_alloc w _
  have HK := hide (x.grow bY)
  have HC : Hid (CBox Y w.heap.size 0 0 0 0) := hY ▸ CBox.new w 0 0 0 0
  have HB := hide bY
  have HW := hide x.tk.new.bel.size
  have HF := hide hf
  have HX : Hid (drwF ws t es = ⟨0, false, t, es⟩) := if_neg ht
  have hcut := fun W => Tryd.cut64 W g
  clear x bY hf ht
  rw [erN_not (by omega : (7 : Int) ≠ 0)]
  go_enter Tryd.func16, Tryd.ntmps16
  go_wp2_with fail
  refine (index_any _ HK.out.tb).mono ?_; rintro e w1 ⟨rfl, b1⟩
  rw [show freeI T = (freeO T : Int) from if_pos HF.out]
  have HC1 := hide (HC.out.grow b1)
  have HK1 := hide (HK.out.grow b1)
  have HB1 := hide (below_one HB.out b1)
  obtain ⟨i, hi⟩ : ∃ i, freeO T = i := ⟨_, rfl⟩
  rw [hi]
  have hi0 : (0 : Int) ≤ (i : Int) := by omega
  clear b1 hi
  go_wp2_with fail
  refine (oracle_any _ HK1.out.tb).mono ?_; rintro e wx ⟨rfl, rfl⟩
  go_wp2_with fail
  refine (draw_ans _ HK1.out.tk).mono ?_
  rw [HX.out]
  rintro e w2 ⟨rfl, L⟩
  have HC2 := hide (HC1.out.ask HK1.out.tk L.choose_spec.2.1)
  have HE : Hid (OdEnd w0 w B g go m a h k p v ws w2 t es T) := (HK1.out.asked L).from HB1.out
  clear L
  have d0 : w2.cell? ⟨w.heap.size, 0, none⟩ = some (.int .u64 0) := HC2.out.c0
  have d1 : w2.cell? ⟨w.heap.size, 1, none⟩ = some (.int .u32 0) := HC2.out.c1
  have d2 : w2.cell? ⟨w.heap.size, 2, none⟩ = some (.int .u8 0) := HC2.out.c2
  have d3 : w2.cell? ⟨w.heap.size, 3, none⟩ = some (.int .u64 0) := HC2.out.c3
  have z := HC2.out.z
  simp only [erV]
  go_wp2
  refine bodyPost_ret (by simp [results, Tryd.results16, go_sem, d0, d1, d2, d3]; rfl) rfl ?_
  exact ⟨rfl, HE.out.cap HC2.out.capB HW.out (Nat.le_refl _) (foot4 _ _ _ _ _ _)⟩
set_option maxHeartbeats 1600000 in
theorem create_yes (vl : Int) (w : World) (x : Od w0 w B g go m a h k p v ws t es T) (hf : freeO T < 64) (ht : t < ws.length) (hl : es.length ≤ 5000000000000) :
    Calls Tryd.prog 16 #[.pointer (some ⟨g, 0, none⟩), .int .i64 vl] w fun e w' => e = .returned (.tuple #[(Cp.mk p (freeO T) 255 (ws.getD t 0)).val, .nilIface]) ∧ OdEnd w0 w B g go m a h k p v ws w' (t + 1) es (updO T (freeO T) ⟨ws.getD t 0, 0, vl, 24⟩) := by
  obtain ⟨Y, hY⟩ : ∃ Y, w.alloc (.cells #[.int .u64 0, .int .u32 0, .int .u8 0, .int .u64 0] 49) = Y := ⟨_, rfl⟩
  have bY : Below w.heap.size w Y := hY ▸ below_alloc w _
  have HK := hide (x.grow bY)
  have HC : Hid (CBox Y w.heap.size 0 0 0 0) := hY ▸ CBox.new w 0 0 0 0
  have HB := hide bY
  have HW := hide x.tk.new.bel.size
  have HF := hide hf
  have HL := hide hl
  have hword := x.tk.tape.word t
  obtain ⟨s, hs⟩ : ∃ s, ws.getD t 0 = s := ⟨_, rfl⟩
  have HX : Hid (drwF ws t es = ⟨s, true, t + 1, es⟩) := by rw [← hs]; exact if_pos ht
  rw [hs] at hword ⊢
  have HO : Hid (∀ l, ofF ws (t + 1) l s 255 = ⟨s, true, t + 1, l⟩) := by
    intro l; rw [of_owner, Nat.mod_eq_of_lt (by omega)]
  have HWD := hide hword
  have hcut := fun W => Tryd.cut64 W g
  have HFI : Hid (freeI T = (freeO T : Int)) := if_pos hf
  obtain ⟨i, hi⟩ : ∃ i, freeO T = i := ⟨_, rfl⟩
  rw [hi] at HF HFI ⊢
  have hi0 : (0 : Int) ≤ (i : Int) := by omega
  have hi1 : (i : Int) < 64 := by omega
  clear x bY hf ht hl hi hs hword
  go_enter Tryd.func16, Tryd.ntmps16
  go_wp2_with fail
  refine (index_any _ HK.out.tb).mono ?_; rintro e w1 ⟨rfl, b1⟩
  rw [HFI.out]
  have HC1 := hide (HC.out.grow b1)
  have HK1 := hide (HK.out.grow b1)
  have HB1 := hide (below_one HB.out b1)
  clear b1
  go_wp2_with fail
  refine (oracle_any _ HK1.out.tb).mono ?_; rintro e wx ⟨rfl, rfl⟩
  go_wp2_with fail
  refine (draw_ans _ HK1.out.tk).mono ?_
  rw [HX.out]
  rintro e w2 ⟨rfl, L⟩
  have HC2 := hide (HC1.out.ask HK1.out.tk L.choose_spec.2.1)
  obtain ⟨v2, S2, F2, hv2⟩ := HK1.out.asked L
  have HS2 := hide S2
  have HE2 : Hid (∀ (t' : Nat) es' T' wz, OdEnd w0 w2 B g go m a h k p v2 ws wz t' es' T' → OdEnd w0 w B g go m a h k p v ws wz t' es' T') := fun t' es' T' wz E => (OdEnd.on F2 hv2 E).from HB1.out
  clear L S2 F2 hv2
  obtain ⟨V, hV⟩ : ∃ V, lay4 w2 g i ⟨s, 0, vl, 24⟩ = V := ⟨_, rfl⟩
  have HTV : Hid (Tb V g p go (updO T i ⟨s, 0, vl, 24⟩)) := hV ▸ HS2.out.tb.lay i HF.out _ ⟨HWD.out, by show 24 ≤ 24; omega⟩
  have HFV : Hid (Foot (fun j => j = g) w2 V) := hV ▸ foot_lay4 w2 g i _
  simp only [lay4, Int.cast_ofNat_Int] at hV
  rcases hT : T i with ⟨s0, e0, v0, l0⟩
  obtain ⟨k0, k1, k2, k3⟩ := HS2.out.tb.at i HF.out s0 e0 v0 l0 hT
  have z := HS2.out.tb.z
  clear hT
  simp only [erV]
  go_wp2_with fail
  obtain ⟨v3, S3, F3, hv3⟩ := HS2.out.turn HTV.out HFV.out
  have HS3 := hide S3
  have HC3 := hide (HC2.out.od HS2.out F3)
  have HE3 : Hid (∀ (t' : Nat) es' T' wz, OdEnd w0 V B g go m a h k p v3 ws wz t' es' T' → OdEnd w0 w B g go m a h k p v ws wz t' es' T') := fun t' es' T' wz E => HE2.out _ _ _ _ (OdEnd.on F3 hv3 E)
  clear S3 F3 hv3 k0 k1 k2 k3 z hV
  refine (cap_any i 255 _ HS3.out HF.out (by omega) HL.out ⟨s, true, t + 1, es⟩ (by rw [updO_same]; exact HO.out es)).mono ?_
  rintro e w4 ⟨rfl, E4⟩
  have HC4 := hide (HC3.out.od HS3.out E4.choose_spec.2.1)
  have HE4 := hide (HE3.out _ _ _ _ E4)
  clear E4
  have d0 : w4.cell? ⟨w.heap.size, 0, none⟩ = some (.int .u64 0) := HC4.out.c0
  have d1 : w4.cell? ⟨w.heap.size, 1, none⟩ = some (.int .u32 0) := HC4.out.c1
  have d2 : w4.cell? ⟨w.heap.size, 2, none⟩ = some (.int .u8 0) := HC4.out.c2
  have d3 : w4.cell? ⟨w.heap.size, 3, none⟩ = some (.int .u64 0) := HC4.out.c3
  have z := HC4.out.z
  simp only [erV, cabF, Cp.val, if_true]
  go_wp2
  refine bodyPost_ret (by simp [results, Tryd.results16, go_sem, d0, d1, d2, d3]; rfl) rfl ?_
  exact ⟨rfl, HE4.out.cap HC4.out.capB HW.out (Nat.le_refl _) (foot4 _ _ _ _ _ _)⟩
theorem create_any (vl : Int) (w : World) (x : Od w0 w B g go m a h k p v ws t es T) (hl : es.length ≤ 5000000000000) (R : Cre) (hR : creF ws t es p T vl = R) :
    Calls Tryd.prog 16 #[.pointer (some ⟨g, 0, none⟩), .int .i64 vl] w fun e w' => e = .returned (.tuple #[R.c.val, erN (R.e : Int)]) ∧ OdEnd w0 w B g go m a h k p v ws w' R.t R.es R.T := by
  subst hR
  by_cases hf : freeO T < 64
  · by_cases ht : t < ws.length
    · have e : creF ws t es p T vl = ⟨⟨p, freeO T, 255, ws.getD t 0⟩, 0, t + 1, es, updO T (freeO T) ⟨ws.getD t 0, 0, vl, 24⟩⟩ := by unfold creF; rw [if_pos hf, if_pos ht]
      rw [e]
      exact create_yes vl w x hf ht hl
    · have e : creF ws t es p T vl = ⟨Cp.zero, 7, t, es, T⟩ := by unfold creF; rw [if_pos hf, if_neg ht]
      rw [e]
      exact create_end vl w x hf ht
  · have e : creF ws t es p T vl = ⟨Cp.zero, 5, t, es, T⟩ := by unfold creF; rw [if_neg hf]
    rw [e]
    exact create_full vl w x hf
end Go.Proofs.YtgcmompldcnhlaaDoor
