/-
  What objects' Create answers, as a contract.
  What objects' Restrict answers, as a contract.
  What objects' Revoke answers, as a contract.
  What objects' Destroy, Touch and Info answer, as contracts.
  A slice's elements, so many cells each: what stays of them; appends whose run is known.
  A table without addresses; what a deed leaves of other memory; the deeds' contracts so; a table that is made; rows that grow.
  The statements' own first step, and their tapes, as contracts.
  The statements' own tape (spread), as a contract.
  A question that has its answer keeps it; an answer of an elder secret is none of a later one, where draws are unlike: plain facts.
  What deeds answer of capabilities that are good, plain facts.
  An own row of capabilities beside a table.
-/
import Derived.Test.YtlmnnjibggdboaaGreatDoorJd
import Derived.Maps.AppendAt
namespace Go.Proofs.YtlmnnjibggdboaaGreatDoor
section
open Go.RowKit
variable {w0 w w1 w2 : World} {B g go m a h k p : Nat} {v v1 : Value} {ws : List Nat} {t t1 : Nat} {es es1 : List Ent} {T T1 : Nat → Ob}
theorem Tryz.cut64 (W : World) (g : Nat) : (Instr.sliceAt 86 (.pointer (some ⟨g, 2, none⟩)) none none none).run Tryz.prog W = .ok (.slice (some ⟨g, 2, none⟩) 64 64) W := by
  have hs : ∀ w, (sizeOf 85).run Tryz.prog w = .ok 4 w := fun w => by kernel_rfl
  have hu : Tryz.prog.underlying 86 = some (.array (Tryz.prog.arrayLen 86) (Tryz.prog.elem 86)) := by kernel_rfl
  have hl : Tryz.prog.arrayLen 86 = 64 := by kernel_rfl
  have he : Tryz.prog.elem 86 = 85 := by kernel_rfl
  rw [run_sliceAt_array_all W _ _ hu, he, hs]
  simp [slicedAt, hl, Addr.add]
set_option maxHeartbeats 1600000 in
theorem create_full (vl : Int) (w : World) (x : Od w0 w B g go m a h k p v ws t es T) (hf : ¬ freeO T < 64) :
    Calls Tryz.prog 13 #[.pointer (some ⟨g, 0, none⟩), .int .i64 vl] w fun e w' => e = .returned (.tuple #[Cp.zero.val, erN 5]) ∧ OdEnd w0 w B g go m a h k p v ws w' t es T := by
  obtain ⟨Y, hY⟩ : ∃ Y, w.alloc (.cells #[.int .u64 0, .int .u32 0, .int .u8 0, .int .u64 0] 40) = Y := ⟨_, rfl⟩
  have bY : Below w.heap.size w Y := hY ▸ below_alloc w _
  have HK := hide (x.grow bY)
  have HC : Hid (CBox Y w.heap.size 0 0 0 0) := hY ▸ CBox.new w 0 0 0 0
  have HB := hide bY
  have HW := hide x.tk.new.bel.size
  have HF := hide hf
  have hcut := fun W => Tryz.cut64 W g
  clear x bY hf
  rw [erN_not (by omega : (5 : Int) ≠ 0)]
  go_enter Tryz.func13, Tryz.ntmps13
  go_wp2_with fail
  refine (index_any _ HK.out.tb).mono ?_; rintro e w1 ⟨rfl, b1⟩
  rw [show freeI T = -1 from if_neg HF.out]
  have HC1 := hide (HC.out.grow b1)
  have HE : Hid (OdEnd w0 w B g go m a h k p v ws w1 t es T) := (HK.out.grow b1).stay.from (below_one HB.out b1)
  clear b1
  have d0 : w1.cell? ⟨w.heap.size, 0, none⟩ = some (.int .u64 0) := HC1.out.c0
  have d1 : w1.cell? ⟨w.heap.size, 1, none⟩ = some (.int .u32 0) := HC1.out.c1
  have d2 : w1.cell? ⟨w.heap.size, 2, none⟩ = some (.int .u8 0) := HC1.out.c2
  have d3 : w1.cell? ⟨w.heap.size, 3, none⟩ = some (.int .u64 0) := HC1.out.c3
  have z := HC1.out.z
  go_wp2
  refine bodyPost_ret (by simp [results, Tryz.results13, go_sem, d0, d1, d2, d3]; rfl) rfl ?_
  exact ⟨rfl, HE.out.cap HC1.out.capB HW.out (Nat.le_refl _) (foot4 _ _ _ _ _ _)⟩
set_option maxHeartbeats 1600000 in
theorem create_end (vl : Int) (w : World) (x : Od w0 w B g go m a h k p v ws t es T) (hf : freeO T < 64) (ht : ¬ t < ws.length) :
    Calls Tryz.prog 13 #[.pointer (some ⟨g, 0, none⟩), .int .i64 vl] w fun e w' => e = .returned (.tuple #[Cp.zero.val, erN 7]) ∧ OdEnd w0 w B g go m a h k p v ws w' t es T := by
  obtain ⟨Y, hY⟩ : ∃ Y, w.alloc (.cells #[.int .u64 0, .int .u32 0, .int .u8 0, .int .u64 0] 40) = Y := ⟨_, rfl⟩
  have bY : Below w.heap.size w Y := hY ▸ below_alloc w _
  have HK := hide (x.grow bY)
  have HC : Hid (CBox Y w.heap.size 0 0 0 0) := hY ▸ CBox.new w 0 0 0 0
  have HB := hide bY
  have HW := hide x.tk.new.bel.size
  have HF := hide hf
  have HX : Hid (drwF ws t es = ⟨0, false, t, es⟩) := if_neg ht
  have hcut := fun W => Tryz.cut64 W g
  clear x bY hf ht
  rw [erN_not (by omega : (7 : Int) ≠ 0)]
  go_enter Tryz.func13, Tryz.ntmps13
  go_wp2_with fail
  refine (index_any _ HK.out.tb).mono ?_; rintro e w1 ⟨rfl, b1⟩
  rw [show freeI T = (freeO T : Int) from if_pos HF.out]
  have HC1 := hide (HC.out.grow b1)
  have HK1 := hide (HK.out.grow b1)
  have HB1 := hide (below_one HB.out b1)
  obtain ⟨i, hi⟩ : ∃ i, freeO T = i := ⟨_, rfl⟩
  rw [hi]
  have hi0 : (0 : Int) ≤ (i : Int) := by omega
  clear b1 hi
  go_wp2_with fail
  refine (oracle_any _ HK1.out.tb).mono ?_; rintro e wx ⟨rfl, rfl⟩
  go_wp2_with fail
  refine (draw_ans _ HK1.out.tk).mono ?_
  rw [HX.out]
  rintro e w2 ⟨rfl, L⟩
  have HC2 := hide (HC1.out.ask HK1.out.tk L.choose_spec.2.1)
  have HE : Hid (OdEnd w0 w B g go m a h k p v ws w2 t es T) := (HK1.out.asked L).from HB1.out
  clear L
  have d0 : w2.cell? ⟨w.heap.size, 0, none⟩ = some (.int .u64 0) := HC2.out.c0
  have d1 : w2.cell? ⟨w.heap.size, 1, none⟩ = some (.int .u32 0) := HC2.out.c1
  have d2 : w2.cell? ⟨w.heap.size, 2, none⟩ = some (.int .u8 0) := HC2.out.c2
  have d3 : w2.cell? ⟨w.heap.size, 3, none⟩ = some (.int .u64 0) := HC2.out.c3
  have z := HC2.out.z
  simp only [erV]
  go_wp2
  refine bodyPost_ret (by simp [results, Tryz.results13, go_sem, d0, d1, d2, d3]; rfl) rfl ?_
  exact ⟨rfl, HE.out.cap HC2.out.capB HW.out (Nat.le_refl _) (foot4 _ _ _ _ _ _)⟩
set_option maxHeartbeats 1600000 in
theorem create_yes (vl : Int) (w : World) (x : Od w0 w B g go m a h k p v ws t es T) (hf : freeO T < 64) (ht : t < ws.length) (hl : es.length ≤ 5000000000000) :
    Calls Tryz.prog 13 #[.pointer (some ⟨g, 0, none⟩), .int .i64 vl] w fun e w' => e = .returned (.tuple #[(Cp.mk p (freeO T) 255 (ws.getD t 0)).val, .nilIface]) ∧ OdEnd w0 w B g go m a h k p v ws w' (t + 1) es (updO T (freeO T) ⟨ws.getD t 0, 0, vl, 24⟩) := by
  obtain ⟨Y, hY⟩ : ∃ Y, w.alloc (.cells #[.int .u64 0, .int .u32 0, .int .u8 0, .int .u64 0] 40) = Y := ⟨_, rfl⟩
  have bY : Below w.heap.size w Y := hY ▸ below_alloc w _
  have HK := hide (x.grow bY)
  have HC : Hid (CBox Y w.heap.size 0 0 0 0) := hY ▸ CBox.new w 0 0 0 0
  have HB := hide bY
  have HW := hide x.tk.new.bel.size
  have HF := hide hf
  have HL := hide hl
  have hword := x.tk.tape.word t
  obtain ⟨s, hs⟩ : ∃ s, ws.getD t 0 = s := ⟨_, rfl⟩
  have HX : Hid (drwF ws t es = ⟨s, true, t + 1, es⟩) := by rw [← hs]; exact if_pos ht
  rw [hs] at hword ⊢
  have HO : Hid (∀ l, ofF ws (t + 1) l s 255 = ⟨s, true, t + 1, l⟩) := by
    intro l; rw [of_owner, Nat.mod_eq_of_lt (by omega)]
  have HWD := hide hword
  have hcut := fun W => Tryz.cut64 W g
  have HFI : Hid (freeI T = (freeO T : Int)) := if_pos hf
  obtain ⟨i, hi⟩ : ∃ i, freeO T = i := ⟨_, rfl⟩
  rw [hi] at HF HFI ⊢
  have hi0 : (0 : Int) ≤ (i : Int) := by omega
  have hi1 : (i : Int) < 64 := by omega
  clear x bY hf ht hl hi hs hword
  go_enter Tryz.func13, Tryz.ntmps13
  go_wp2_with fail
  refine (index_any _ HK.out.tb).mono ?_; rintro e w1 ⟨rfl, b1⟩
  rw [HFI.out]
  have HC1 := hide (HC.out.grow b1)
  have HK1 := hide (HK.out.grow b1)
  have HB1 := hide (below_one HB.out b1)
  clear b1
  go_wp2_with fail
  refine (oracle_any _ HK1.out.tb).mono ?_; rintro e wx ⟨rfl, rfl⟩
  go_wp2_with fail
  refine (draw_ans _ HK1.out.tk).mono ?_
  rw [HX.out]
  rintro e w2 ⟨rfl, L⟩
  have HC2 := hide (HC1.out.ask HK1.out.tk L.choose_spec.2.1)
  obtain ⟨v2, S2, F2, hv2⟩ := HK1.out.asked L
  have HS2 := hide S2
  have HE2 : Hid (∀ (t' : Nat) es' T' wz, OdEnd w0 w2 B g go m a h k p v2 ws wz t' es' T' → OdEnd w0 w B g go m a h k p v ws wz t' es' T') := fun t' es' T' wz E => (OdEnd.on F2 hv2 E).from HB1.out
  clear L S2 F2 hv2
  obtain ⟨V, hV⟩ : ∃ V, lay4 w2 g i ⟨s, 0, vl, 24⟩ = V := ⟨_, rfl⟩
  have HTV : Hid (Tb V g p go (updO T i ⟨s, 0, vl, 24⟩)) := hV ▸ HS2.out.tb.lay i HF.out _ ⟨HWD.out, by show 24 ≤ 24; omega⟩
  have HFV : Hid (Foot (fun j => j = g) w2 V) := hV ▸ foot_lay4 w2 g i _
  simp only [lay4, Int.cast_ofNat_Int] at hV
  rcases hT : T i with ⟨s0, e0, v0, l0⟩
  obtain ⟨k0, k1, k2, k3⟩ := HS2.out.tb.at i HF.out s0 e0 v0 l0 hT
  have z := HS2.out.tb.z
  clear hT
  simp only [erV]
  go_wp2_with fail
  obtain ⟨v3, S3, F3, hv3⟩ := HS2.out.turn HTV.out HFV.out
  have HS3 := hide S3
  have HC3 := hide (HC2.out.od HS2.out F3)
  have HE3 : Hid (∀ (t' : Nat) es' T' wz, OdEnd w0 V B g go m a h k p v3 ws wz t' es' T' → OdEnd w0 w B g go m a h k p v ws wz t' es' T') := fun t' es' T' wz E => HE2.out _ _ _ _ (OdEnd.on F3 hv3 E)
  clear S3 F3 hv3 k0 k1 k2 k3 z hV
  refine (cap_any i 255 _ HS3.out HF.out (by omega) HL.out ⟨s, true, t + 1, es⟩ (by rw [updO_same]; exact HO.out es)).mono ?_
  rintro e w4 ⟨rfl, E4⟩
  have HC4 := hide (HC3.out.od HS3.out E4.choose_spec.2.1)
  have HE4 := hide (HE3.out _ _ _ _ E4)
  clear E4
  have d0 : w4.cell? ⟨w.heap.size, 0, none⟩ = some (.int .u64 0) := HC4.out.c0
  have d1 : w4.cell? ⟨w.heap.size, 1, none⟩ = some (.int .u32 0) := HC4.out.c1
  have d2 : w4.cell? ⟨w.heap.size, 2, none⟩ = some (.int .u8 0) := HC4.out.c2
  have d3 : w4.cell? ⟨w.heap.size, 3, none⟩ = some (.int .u64 0) := HC4.out.c3
  have z := HC4.out.z
  simp only [erV, cabF, Cp.val, if_true]
  go_wp2
  refine bodyPost_ret (by simp [results, Tryz.results13, go_sem, d0, d1, d2, d3]; rfl) rfl ?_
  exact ⟨rfl, HE4.out.cap HC4.out.capB HW.out (Nat.le_refl _) (foot4 _ _ _ _ _ _)⟩
theorem create_any (vl : Int) (w : World) (x : Od w0 w B g go m a h k p v ws t es T) (hl : es.length ≤ 5000000000000) (R : Cre) (hR : creF ws t es p T vl = R) :
    Calls Tryz.prog 13 #[.pointer (some ⟨g, 0, none⟩), .int .i64 vl] w fun e w' => e = .returned (.tuple #[R.c.val, erN (R.e : Int)]) ∧ OdEnd w0 w B g go m a h k p v ws w' R.t R.es R.T := by
  subst hR
  by_cases hf : freeO T < 64
  · by_cases ht : t < ws.length
    · have e : creF ws t es p T vl = ⟨⟨p, freeO T, 255, ws.getD t 0⟩, 0, t + 1, es, updO T (freeO T) ⟨ws.getD t 0, 0, vl, 24⟩⟩ := by unfold creF; rw [if_pos hf, if_pos ht]
      rw [e]
      exact create_yes vl w x hf ht hl
    · have e : creF ws t es p T vl = ⟨Cp.zero, 7, t, es, T⟩ := by unfold creF; rw [if_pos hf, if_neg ht]
      rw [e]
      exact create_end vl w x hf ht
  · have e : creF ws t es p T vl = ⟨Cp.zero, 5, t, es, T⟩ := by unfold creF; rw [if_neg hf]
    rw [e]
    exact create_full vl w x hf
end
end Go.Proofs.YtlmnnjibggdboaaGreatDoor
namespace Go.Proofs.YtlmnnjibggdboaaGreatDoor
section
open Go.RowKit
variable {w0 w w1 w2 : World} {B g go m a h k p : Nat} {v v1 : Value} {ws : List Nat} {t t1 : Nat} {es es1 : List Ent} {T T1 : Nat → Ob}
set_option maxHeartbeats 1600000 in
theorem restrict_no (c : Cp) (mask : Nat) (w : World) (x : Od w0 w B g go m a h k p v ws t es T) (hc : c.ok) (hl : es.length < 5000000000000) (K : Chk) (hK : chkF ws t es p T c 0 = K) (hn : K.e ≠ 0) :
    Calls Tryz.prog 15 #[.pointer (some ⟨g, 0, none⟩), c.val, .int .u8 (mask : Int)] w fun e w' => e = .returned (.tuple #[Cp.zero.val, erN (K.e : Int)]) ∧ OdEnd w0 w B g go m a h k p v ws w' K.t K.es T := by
  obtain ⟨cp, co, cr, cc⟩ := c
  obtain ⟨Y0, hY0⟩ : ∃ Y, w.alloc (.cells #[.int .u64 (cp : Int), .int .u32 (co : Int), .int .u8 (cr : Int), .int .u64 (cc : Int)] 40) = Y := ⟨_, rfl⟩
  obtain ⟨Y, hY⟩ : ∃ Y, Y0.alloc (.cells #[.int .u64 0, .int .u32 0, .int .u8 0, .int .u64 0] 40) = Y := ⟨_, rfl⟩
  have b0 : Below w.heap.size w Y0 := hY0 ▸ below_alloc w _
  have b1 : Below Y0.heap.size Y0 Y := hY ▸ below_alloc Y0 _
  have bY := below_one b0 b1
  have sY0 : Y0.heap.size = w.heap.size + 1 := hY0 ▸ size_al w _
  obtain ⟨G, hG⟩ : ∃ G, Y0.heap.size = G := ⟨_, rfl⟩
  have HC : Hid (CBox Y w.heap.size cp co cr cc) := (hY0 ▸ CBox.new w cp co cr cc : CBox Y0 w.heap.size cp co cr cc).grow b1
  have HD : Hid (CBox Y G 0 0 0 0) := by
    have := CBox.new Y0 0 0 0 0
    rw [hG] at this
    exact hY ▸ this
  have HK := hide (x.grow bY)
  have HB := hide bY
  have HW := hide x.tk.new.bel.size
  have HG := hide (show w.heap.size ≤ G by omega)
  have hne : ¬ w.heap.size = G := by omega
  have HOK := hide hc
  have HL := hide hl
  have c0 := HC.out.c0
  have c1 := HC.out.c1
  have c2 := HC.out.c2
  have c3 := HC.out.c3
  have HKK := hide hK
  rw [erN_not (by omega : (K.e : Int) ≠ 0)]
  have HN := hide (erN_not (by omega : (K.e : Int) ≠ 0))
  clear hK hn
  clear x b0 b1 bY sY0 hl hc
  simp only [Cp.val]
  go_enter Tryz.func15, Tryz.ntmps15
  go_wp2_with fail
  refine (check_any ⟨cp, co, cr, cc⟩ 0 _ HK.out HOK.out (by omega) (by have := HL.out; omega) K HKK.out).mono ?_
  rintro e w2 ⟨rfl, E2⟩
  obtain ⟨v2, S2, F2, hv2⟩ := E2
  have HS2 := hide S2
  have HC2 := hide (HC.out.od HK.out F2)
  have HD2 := hide (HD.out.od HK.out F2)
  have HE2 : Hid (∀ (t' : Nat) es' T' wz, OdEnd w0 w2 B g go m a h k p v2 ws wz t' es' T' → OdEnd w0 w B g go m a h k p v ws wz t' es' T') := fun t' es' T' wz E => (OdEnd.on F2 hv2 E).from HB.out
  clear S2 F2 hv2 c0 c1 c2 c3
  rw [HN.out]
  have d0 : w2.cell? ⟨G, 0, none⟩ = some (.int .u64 0) := HD2.out.c0
  have d1 : w2.cell? ⟨G, 1, none⟩ = some (.int .u32 0) := HD2.out.c1
  have d2 : w2.cell? ⟨G, 2, none⟩ = some (.int .u8 0) := HD2.out.c2
  have d3 : w2.cell? ⟨G, 3, none⟩ = some (.int .u64 0) := HD2.out.c3
  have z := HD2.out.z
  go_wp2
  refine bodyPost_ret (by simp [results, Tryz.results15, go_sem, d0, d1, d2, d3]; rfl) rfl ?_
  exact ⟨rfl, (HE2.out _ _ _ _ HS2.out.stay).cap HD2.out.capB HW.out HG.out (foot4 _ _ _ _ _ _)⟩
set_option maxHeartbeats 1600000 in
theorem restrict_yes (c : Cp) (mask : Nat) (w : World) (x : Od w0 w B g go m a h k p v ws t es T) (hc : c.ok) (hm : mask ≤ 255) (hl : es.length < 5000000000000) (K : Chk) (hK : chkF ws t es p T c 0 = K) (hn : K.e = 0) (X : Ans) (hX : ofF ws K.t K.es (T K.k).s (c.r &&& mask) = X) :
    Calls Tryz.prog 15 #[.pointer (some ⟨g, 0, none⟩), c.val, .int .u8 (mask : Int)] w fun e w' => e = .returned (.tuple #[(cabF p K.k (c.r &&& mask) X).val, erV X.ok]) ∧ OdEnd w0 w B g go m a h k p v ws w' X.t X.es T := by
  obtain ⟨cp, co, cr, cc⟩ := c
  obtain ⟨Y0, hY0⟩ : ∃ Y, w.alloc (.cells #[.int .u64 (cp : Int), .int .u32 (co : Int), .int .u8 (cr : Int), .int .u64 (cc : Int)] 40) = Y := ⟨_, rfl⟩
  obtain ⟨Y, hY⟩ : ∃ Y, Y0.alloc (.cells #[.int .u64 0, .int .u32 0, .int .u8 0, .int .u64 0] 40) = Y := ⟨_, rfl⟩
  have b0 : Below w.heap.size w Y0 := hY0 ▸ below_alloc w _
  have b1 : Below Y0.heap.size Y0 Y := hY ▸ below_alloc Y0 _
  have bY := below_one b0 b1
  have sY0 : Y0.heap.size = w.heap.size + 1 := hY0 ▸ size_al w _
  obtain ⟨G, hG⟩ : ∃ G, Y0.heap.size = G := ⟨_, rfl⟩
  have HC : Hid (CBox Y w.heap.size cp co cr cc) := (hY0 ▸ CBox.new w cp co cr cc : CBox Y0 w.heap.size cp co cr cc).grow b1
  have HD : Hid (CBox Y G 0 0 0 0) := by
    have := CBox.new Y0 0 0 0 0
    rw [hG] at this
    exact hY ▸ this
  have HK := hide (x.grow bY)
  have HB := hide bY
  have HW := hide x.tk.new.bel.size
  have HG := hide (show w.heap.size ≤ G by omega)
  have hne : ¬ w.heap.size = G := by omega
  have HOK := hide hc
  have HL := hide hl
  have c0 := HC.out.c0
  have c1 := HC.out.c1
  have c2 := HC.out.c2
  have c3 := HC.out.c3
  have HKK := hide hK
  have HKL : Hid (K.k < 64) := by rw [← hK]; exact chk_lt (by rw [hK]; exact hn)
  have HES : Hid (K.es.length ≤ 5000000000000) := by
    have := chk_len ws t es p T ⟨cp, co, cr, cc⟩ 0
    rw [hK] at this
    show _ ≤ _
    omega
  have HX : Hid (ofF ws K.t K.es (T K.k).s (cr &&& mask) = X) := hX
  have HN := hide (show erN (K.e : Int) = .nilIface by rw [hn]; rfl)
  have hand := and_nat cr mask hc.2.2.1 hm
  have HCM : Hid (cr &&& mask ≤ 255) := Nat.le_trans Nat.and_le_left hc.2.2.1
  obtain ⟨cm, hcm⟩ : ∃ cm, cr &&& mask = cm := ⟨_, rfl⟩
  rw [show (Cp.mk cp co cr cc).r &&& mask = cm from hcm]
  rw [hcm] at hand HX HCM
  rcases hcb : cabF p K.k cm X with ⟨q, o, r, y⟩
  have HCB := hide hcb
  clear hK hn hX hm hcm hcb
  clear x b0 b1 bY sY0 hl hc
  simp only [Cp.val]
  go_enter Tryz.func15, Tryz.ntmps15
  go_wp2_with fail
  refine (check_any ⟨cp, co, cr, cc⟩ 0 _ HK.out HOK.out (by omega) (by have := HL.out; omega) K HKK.out).mono ?_
  rintro e w2 ⟨rfl, E2⟩
  obtain ⟨v2, S2, F2, hv2⟩ := E2
  have HS2 := hide S2
  have HC2 := hide (HC.out.od HK.out F2)
  have HD2 := hide (HD.out.od HK.out F2)
  have HE2 : Hid (∀ (t' : Nat) es' T' wz, OdEnd w0 w2 B g go m a h k p v2 ws wz t' es' T' → OdEnd w0 w B g go m a h k p v ws wz t' es' T') := fun t' es' T' wz E => (OdEnd.on F2 hv2 E).from HB.out
  clear S2 F2 hv2 c0 c1 c2 c3
  rw [HN.out]
  have k2 := HC2.out.c2
  go_wp2_with fail
  refine (cap_any K.k cm _ HS2.out HKL.out HCM.out HES.out X HX.out).mono ?_
  rintro e w4 ⟨rfl, E4⟩
  rw [HCB.out]
  have HD4 := hide (HD2.out.od HS2.out E4.choose_spec.2.1)
  have HE4 := hide (HE2.out _ _ _ _ E4)
  clear E4 k2
  have d0 : w4.cell? ⟨G, 0, none⟩ = some (.int .u64 0) := HD4.out.c0
  have d1 : w4.cell? ⟨G, 1, none⟩ = some (.int .u32 0) := HD4.out.c1
  have d2 : w4.cell? ⟨G, 2, none⟩ = some (.int .u8 0) := HD4.out.c2
  have d3 : w4.cell? ⟨G, 3, none⟩ = some (.int .u64 0) := HD4.out.c3
  have z := HD4.out.z
  simp only [Cp.val]
  go_wp2
  refine bodyPost_ret (by simp [results, Tryz.results15, go_sem, d0, d1, d2, d3]; rfl) rfl ?_
  exact ⟨rfl, HE4.out.cap HD4.out.capB HW.out HG.out (foot4 _ _ _ _ _ _)⟩
theorem restrict_any (c : Cp) (mask : Nat) (w : World) (x : Od w0 w B g go m a h k p v ws t es T) (hc : c.ok) (hm : mask ≤ 255) (hl : es.length < 5000000000000) (R : Cre) (hR : resF ws t es p T c mask = R) :
    Calls Tryz.prog 15 #[.pointer (some ⟨g, 0, none⟩), c.val, .int .u8 (mask : Int)] w fun e w' => e = .returned (.tuple #[R.c.val, erN (R.e : Int)]) ∧ OdEnd w0 w B g go m a h k p v ws w' R.t R.es R.T := by
  subst hR
  unfold resF
  obtain ⟨K, hK⟩ : ∃ K, chkF ws t es p T c 0 = K := ⟨_, rfl⟩
  rw [hK]
  by_cases hn : K.e = 0
  · rw [if_pos hn]
    obtain ⟨X, hX⟩ : ∃ X, ofF ws K.t K.es (T K.k).s (c.r &&& mask) = X := ⟨_, rfl⟩
    rw [hX]
    refine (restrict_yes c mask w x hc hm hl K hK hn X hX).mono ?_
    rintro e w1 ⟨rfl, E⟩
    refine ⟨?_, E⟩
    obtain ⟨y, ok, t', es'⟩ := X
    cases ok <;> rfl
  · rw [if_neg hn]
    exact restrict_no c mask w x hc hl K hK hn
end
end Go.Proofs.YtlmnnjibggdboaaGreatDoor
namespace Go.Proofs.YtlmnnjibggdboaaGreatDoor
section
open Go.RowKit
variable {w0 w w1 w2 : World} {B g go m a h k p : Nat} {v v1 : Value} {ws : List Nat} {t t1 : Nat} {es es1 : List Ent} {T T1 : Nat → Ob}
set_option maxHeartbeats 1600000 in
theorem revoke_no (c : Cp) (w : World) (x : Od w0 w B g go m a h k p v ws t es T) (hc : c.ok) (hl : es.length < 5000000000000) (K : Chk) (hK : chkF ws t es p T c 255 = K) (hn : K.e ≠ 0) :
    Calls Tryz.prog 56 #[.pointer (some ⟨g, 0, none⟩), c.val] w fun e w' => e = .returned (.tuple #[Cp.zero.val, erN (K.e : Int)]) ∧ OdEnd w0 w B g go m a h k p v ws w' K.t K.es T := by
  obtain ⟨cp, co, cr, cc⟩ := c
  obtain ⟨Y0, hY0⟩ : ∃ Y, w.alloc (.cells #[.int .u64 (cp : Int), .int .u32 (co : Int), .int .u8 (cr : Int), .int .u64 (cc : Int)] 40) = Y := ⟨_, rfl⟩
  obtain ⟨Y, hY⟩ : ∃ Y, Y0.alloc (.cells #[.int .u64 0, .int .u32 0, .int .u8 0, .int .u64 0] 40) = Y := ⟨_, rfl⟩
  have b0 : Below w.heap.size w Y0 := hY0 ▸ below_alloc w _
  have b1 : Below Y0.heap.size Y0 Y := hY ▸ below_alloc Y0 _
  have bY := below_one b0 b1
  have sY0 : Y0.heap.size = w.heap.size + 1 := hY0 ▸ size_al w _
  obtain ⟨G, hG⟩ : ∃ G, Y0.heap.size = G := ⟨_, rfl⟩
  have HC : Hid (CBox Y w.heap.size cp co cr cc) := (hY0 ▸ CBox.new w cp co cr cc : CBox Y0 w.heap.size cp co cr cc).grow b1
  have HD : Hid (CBox Y G 0 0 0 0) := by
    have := CBox.new Y0 0 0 0 0
    rw [hG] at this
    exact hY ▸ this
  have HK := hide (x.grow bY)
  have HB := hide bY
  have HW := hide x.tk.new.bel.size
  have HG := hide (show w.heap.size ≤ G by omega)
  have hne : ¬ w.heap.size = G := by omega
  have HOK := hide hc
  have HL := hide hl
  have c0 := HC.out.c0
  have c1 := HC.out.c1
  have c2 := HC.out.c2
  have c3 := HC.out.c3
  have HKK := hide hK
  rw [erN_not (by omega : (K.e : Int) ≠ 0)]
  have HN := hide (erN_not (by omega : (K.e : Int) ≠ 0))
  clear hK hn
  clear x b0 b1 bY sY0 hl hc
  simp only [Cp.val]
  go_enter Tryz.func56, Tryz.ntmps56
  go_wp2_with fail
  refine (check_any ⟨cp, co, cr, cc⟩ 255 _ HK.out HOK.out (by omega) (by have := HL.out; omega) K HKK.out).mono ?_
  rintro e w2 ⟨rfl, E2⟩
  obtain ⟨v2, S2, F2, hv2⟩ := E2
  have HS2 := hide S2
  have HC2 := hide (HC.out.od HK.out F2)
  have HD2 := hide (HD.out.od HK.out F2)
  have HE2 : Hid (∀ (t' : Nat) es' T' wz, OdEnd w0 w2 B g go m a h k p v2 ws wz t' es' T' → OdEnd w0 w B g go m a h k p v ws wz t' es' T') := fun t' es' T' wz E => (OdEnd.on F2 hv2 E).from HB.out
  clear S2 F2 hv2 c0 c1 c2 c3
  rw [HN.out]
  have d0 : w2.cell? ⟨G, 0, none⟩ = some (.int .u64 0) := HD2.out.c0
  have d1 : w2.cell? ⟨G, 1, none⟩ = some (.int .u32 0) := HD2.out.c1
  have d2 : w2.cell? ⟨G, 2, none⟩ = some (.int .u8 0) := HD2.out.c2
  have d3 : w2.cell? ⟨G, 3, none⟩ = some (.int .u64 0) := HD2.out.c3
  have z := HD2.out.z
  go_wp2
  refine bodyPost_ret (by simp [results, Tryz.results56, go_sem, d0, d1, d2, d3]; rfl) rfl ?_
  exact ⟨rfl, (HE2.out _ _ _ _ HS2.out.stay).cap HD2.out.capB HW.out HG.out (foot4 _ _ _ _ _ _)⟩
set_option maxHeartbeats 1600000 in
theorem revoke_end (c : Cp) (w : World) (x : Od w0 w B g go m a h k p v ws t es T) (hc : c.ok) (hl : es.length < 5000000000000) (K : Chk) (hK : chkF ws t es p T c 255 = K) (hn : K.e = 0) (ht : ¬ K.t < ws.length) :
    Calls Tryz.prog 56 #[.pointer (some ⟨g, 0, none⟩), c.val] w fun e w' => e = .returned (.tuple #[Cp.zero.val, erN 7]) ∧ OdEnd w0 w B g go m a h k p v ws w' K.t K.es T := by
  obtain ⟨cp, co, cr, cc⟩ := c
  obtain ⟨Y0, hY0⟩ : ∃ Y, w.alloc (.cells #[.int .u64 (cp : Int), .int .u32 (co : Int), .int .u8 (cr : Int), .int .u64 (cc : Int)] 40) = Y := ⟨_, rfl⟩
  obtain ⟨Y, hY⟩ : ∃ Y, Y0.alloc (.cells #[.int .u64 0, .int .u32 0, .int .u8 0, .int .u64 0] 40) = Y := ⟨_, rfl⟩
  have b0 : Below w.heap.size w Y0 := hY0 ▸ below_alloc w _
  have b1 : Below Y0.heap.size Y0 Y := hY ▸ below_alloc Y0 _
  have bY := below_one b0 b1
  have sY0 : Y0.heap.size = w.heap.size + 1 := hY0 ▸ size_al w _
  obtain ⟨G, hG⟩ : ∃ G, Y0.heap.size = G := ⟨_, rfl⟩
  have HC : Hid (CBox Y w.heap.size cp co cr cc) := (hY0 ▸ CBox.new w cp co cr cc : CBox Y0 w.heap.size cp co cr cc).grow b1
  have HD : Hid (CBox Y G 0 0 0 0) := by
    have := CBox.new Y0 0 0 0 0
    rw [hG] at this
    exact hY ▸ this
  have HK := hide (x.grow bY)
  have HB := hide bY
  have HW := hide x.tk.new.bel.size
  have HG := hide (show w.heap.size ≤ G by omega)
  have hne : ¬ w.heap.size = G := by omega
  have HOK := hide hc
  have HL := hide hl
  have c0 := HC.out.c0
  have c1 := HC.out.c1
  have c2 := HC.out.c2
  have c3 := HC.out.c3
  have HKK := hide hK
  have HKL : Hid (K.k < 64) := by rw [← hK]; exact chk_lt (by rw [hK]; exact hn)
  have HES : Hid (K.es.length ≤ 5000000000000) := by
    have := chk_len ws t es p T ⟨cp, co, cr, cc⟩ 255
    rw [hK] at this
    show _ ≤ _
    omega
  have HN := hide (show erN (K.e : Int) = .nilIface by rw [hn]; rfl)
  have HX : Hid (drwF ws K.t K.es = ⟨0, false, K.t, K.es⟩) := if_neg ht
  clear ht
  rw [erN_not (by omega : (7 : Int) ≠ 0)]
  clear hK hn
  clear x b0 b1 bY sY0 hl hc
  simp only [Cp.val]
  go_enter Tryz.func56, Tryz.ntmps56
  go_wp2_with fail
  refine (check_any ⟨cp, co, cr, cc⟩ 255 _ HK.out HOK.out (by omega) (by have := HL.out; omega) K HKK.out).mono ?_
  rintro e w2 ⟨rfl, E2⟩
  obtain ⟨v2, S2, F2, hv2⟩ := E2
  have HS2 := hide S2
  have HC2 := hide (HC.out.od HK.out F2)
  have HD2 := hide (HD.out.od HK.out F2)
  have HE2 : Hid (∀ (t' : Nat) es' T' wz, OdEnd w0 w2 B g go m a h k p v2 ws wz t' es' T' → OdEnd w0 w B g go m a h k p v ws wz t' es' T') := fun t' es' T' wz E => (OdEnd.on F2 hv2 E).from HB.out
  clear S2 F2 hv2 c0 c1 c2 c3
  rw [HN.out]
  go_wp2_with fail
  refine (oracle_any _ HS2.out.tb).mono ?_; rintro e wx ⟨rfl, rfl⟩
  go_wp2_with fail
  refine (draw_ans _ HS2.out.tk).mono ?_
  rw [HX.out]
  rintro e w3 ⟨rfl, L⟩
  have HD3 := hide (HD2.out.ask HS2.out.tk L.choose_spec.2.1)
  obtain ⟨v3, S3, F3, hv3⟩ := HS2.out.asked L
  have HS3 := hide S3
  have HE3 : Hid (∀ (t' : Nat) es' T' wz, OdEnd w0 w3 B g go m a h k p v3 ws wz t' es' T' → OdEnd w0 w B g go m a h k p v ws wz t' es' T') := fun t' es' T' wz E => HE2.out _ _ _ _ (OdEnd.on F3 hv3 E)
  clear L S3 F3 hv3
  simp only [erV]
  have d0 : w3.cell? ⟨G, 0, none⟩ = some (.int .u64 0) := HD3.out.c0
  have d1 : w3.cell? ⟨G, 1, none⟩ = some (.int .u32 0) := HD3.out.c1
  have d2 : w3.cell? ⟨G, 2, none⟩ = some (.int .u8 0) := HD3.out.c2
  have d3 : w3.cell? ⟨G, 3, none⟩ = some (.int .u64 0) := HD3.out.c3
  have z := HD3.out.z
  go_wp2
  refine bodyPost_ret (by simp [results, Tryz.results56, go_sem, d0, d1, d2, d3]; rfl) rfl ?_
  exact ⟨rfl, (HE3.out _ _ _ _ HS3.out.stay).cap HD3.out.capB HW.out HG.out (foot4 _ _ _ _ _ _)⟩
set_option maxHeartbeats 3200000 in
theorem revoke_yes (c : Cp) (w : World) (x : Od w0 w B g go m a h k p v ws t es T) (hc : c.ok) (hl : es.length < 5000000000000) (K : Chk) (hK : chkF ws t es p T c 255 = K) (hn : K.e = 0) (ht : K.t < ws.length) (he : (T K.k).e ≤ 9223372036854775806) :
    Calls Tryz.prog 56 #[.pointer (some ⟨g, 0, none⟩), c.val] w fun e w' => e = .returned (.tuple #[(Cp.mk p K.k 255 (ws.getD K.t 0)).val, .nilIface]) ∧ OdEnd w0 w B g go m a h k p v ws w' (K.t + 1) K.es (updO T K.k (revO (T K.k) (ws.getD K.t 0))) := by
  obtain ⟨cp, co, cr, cc⟩ := c
  obtain ⟨Y0, hY0⟩ : ∃ Y, w.alloc (.cells #[.int .u64 (cp : Int), .int .u32 (co : Int), .int .u8 (cr : Int), .int .u64 (cc : Int)] 40) = Y := ⟨_, rfl⟩
  obtain ⟨Y, hY⟩ : ∃ Y, Y0.alloc (.cells #[.int .u64 0, .int .u32 0, .int .u8 0, .int .u64 0] 40) = Y := ⟨_, rfl⟩
  have b0 : Below w.heap.size w Y0 := hY0 ▸ below_alloc w _
  have b1 : Below Y0.heap.size Y0 Y := hY ▸ below_alloc Y0 _
  have bY := below_one b0 b1
  have sY0 : Y0.heap.size = w.heap.size + 1 := hY0 ▸ size_al w _
  obtain ⟨G, hG⟩ : ∃ G, Y0.heap.size = G := ⟨_, rfl⟩
  have HC : Hid (CBox Y w.heap.size cp co cr cc) := (hY0 ▸ CBox.new w cp co cr cc : CBox Y0 w.heap.size cp co cr cc).grow b1
  have HD : Hid (CBox Y G 0 0 0 0) := by
    have := CBox.new Y0 0 0 0 0
    rw [hG] at this
    exact hY ▸ this
  have HK := hide (x.grow bY)
  have HB := hide bY
  have HW := hide x.tk.new.bel.size
  have HG := hide (show w.heap.size ≤ G by omega)
  have hne : ¬ w.heap.size = G := by omega
  have HOK := hide hc
  have HL := hide hl
  have c0 := HC.out.c0
  have c1 := HC.out.c1
  have c2 := HC.out.c2
  have c3 := HC.out.c3
  have HKK := hide hK
  have HKL : Hid (K.k < 64) := by rw [← hK]; exact chk_lt (by rw [hK]; exact hn)
  have HES : Hid (K.es.length ≤ 5000000000000) := by
    have := chk_len ws t es p T ⟨cp, co, cr, cc⟩ 255
    rw [hK] at this
    show _ ≤ _
    omega
  have HN := hide (show erN (K.e : Int) = .nilIface by rw [hn]; rfl)
  obtain ⟨s, hs⟩ : ∃ s, ws.getD K.t 0 = s := ⟨_, rfl⟩
  have hword := x.tk.tape.word K.t
  have HX : Hid (drwF ws K.t K.es = ⟨s, true, K.t + 1, K.es⟩) := by rw [← hs]; exact if_pos ht
  rw [hs] at hword ⊢
  have HO : Hid (ofF ws (K.t + 1) K.es s 255 = ⟨s, true, K.t + 1, K.es⟩) := by
    show _ = _
    rw [of_owner, Nat.mod_eq_of_lt (by omega)]
  have HWD := hide hword
  rcases hT : T K.k with ⟨s0, e0, v0, l0⟩
  have hl0 : l0 ≤ 24 := by have := (x.tb.ok K.k).2; rw [hT] at this; exact this
  have HL0 := hide hl0
  rw [hT] at he
  have he2 : (e0 : Int) ≤ 9223372036854775806 := by have : e0 ≤ 9223372036854775806 := he; omega
  have he3 : (0 : Int) ≤ (e0 : Int) := by omega
  have HT := hide hT
  obtain ⟨i, hi⟩ : ∃ i, K.k = i := ⟨_, rfl⟩
  rw [hi] at HT HKL ⊢
  have HI := hide hi
  have hi0 : (0 : Int) ≤ (i : Int) := by omega
  have hi1 : (i : Int) < 64 := by have := HKL.out; omega
  have hwr : IntKind.i64.wrap ((e0 : Int) + 1) = (e0 : Int) + 1 := by
    exact IntWalk.i64_in _ (by omega)
  clear ht hs hword hT hi he hl0
  clear hK hn
  clear x b0 b1 bY sY0 hl hc
  simp only [Cp.val]
  go_enter Tryz.func56, Tryz.ntmps56
  go_wp2_with fail
  refine (check_any ⟨cp, co, cr, cc⟩ 255 _ HK.out HOK.out (by omega) (by have := HL.out; omega) K HKK.out).mono ?_
  rintro e w2 ⟨rfl, E2⟩
  obtain ⟨v2, S2, F2, hv2⟩ := E2
  have HS2 := hide S2
  have HC2 := hide (HC.out.od HK.out F2)
  have HD2 := hide (HD.out.od HK.out F2)
  have HE2 : Hid (∀ (t' : Nat) es' T' wz, OdEnd w0 w2 B g go m a h k p v2 ws wz t' es' T' → OdEnd w0 w B g go m a h k p v ws wz t' es' T') := fun t' es' T' wz E => (OdEnd.on F2 hv2 E).from HB.out
  clear S2 F2 hv2 c0 c1 c2 c3
  rw [HN.out]
  go_wp2_with fail
  refine (oracle_any _ HS2.out.tb).mono ?_; rintro e wx ⟨rfl, rfl⟩
  go_wp2_with fail
  refine (draw_ans _ HS2.out.tk).mono ?_
  rw [HX.out]
  rintro e w3 ⟨rfl, L⟩
  have HD3 := hide (HD2.out.ask HS2.out.tk L.choose_spec.2.1)
  obtain ⟨v3, S3, F3, hv3⟩ := HS2.out.asked L
  have HS3 := hide S3
  have HE3 : Hid (∀ (t' : Nat) es' T' wz, OdEnd w0 w3 B g go m a h k p v3 ws wz t' es' T' → OdEnd w0 w B g go m a h k p v ws wz t' es' T') := fun t' es' T' wz E => HE2.out _ _ _ _ (OdEnd.on F3 hv3 E)
  clear L S3 F3 hv3
  simp only [erV]
  rw [HI.out]
  obtain ⟨V1, hV1⟩ : ∃ V, w3.setCell ⟨g, 2 + i * 4, none⟩ (.int .u64 (s : Int)) = V := ⟨_, rfl⟩
  obtain ⟨V, hV⟩ : ∃ V, V1.setCell ⟨g, 2 + i * 4 + 1, none⟩ (.int .i64 ((e0 : Int) + 1)) = V := ⟨_, rfl⟩
  have HT1 : Hid (Tb V1 g p go (updO T i ⟨s, e0, v0, l0⟩)) := hV1 ▸ HS3.out.tb.set i 0 HKL.out (by omega) _ ⟨s, e0, v0, l0⟩ ⟨HWD.out, HL0.out⟩ (fun f hf => by rw [HT.out]; match f, hf with | 0, _ | 1, _ | 2, _ | 3, _ => rfl)
  have HT2 : Hid (Tb V g p go (updO T i ⟨s, e0 + 1, v0, l0⟩)) := by
    have := HT1.out.set i 1 HKL.out (by omega) (.int .i64 ((e0 : Int) + 1)) ⟨s, e0 + 1, v0, l0⟩ ⟨HWD.out, HL0.out⟩ (fun f hf => by rw [updO_same]; match f, hf with | 0, _ | 1, _ | 2, _ | 3, _ => rfl)
    rw [updO_updO] at this
    exact hV ▸ this
  have HFV : Hid (Foot (fun j => j = g) w3 V) := by
    have f1 : Foot (fun j => j = g) w3 V1 := hV1 ▸ foot_set w3 ⟨g, 2 + i * 4, none⟩ _
    exact hV ▸ f1.trans (foot_set V1 ⟨g, 2 + i * 4 + 1, none⟩ _) (fun _ e => .inl e)
  obtain ⟨k0, k1, k2, k3⟩ := HS3.out.tb.at i HKL.out s0 e0 v0 l0 HT.out
  obtain ⟨-, j1, -, -⟩ := HT1.out.at i HKL.out s e0 v0 l0 (updO_same _ _ _)
  have z := HS3.out.tb.z
  have z1 := HT1.out.z
  clear k1 k2 k3
  go_wp2_with fail
  go_region
  obtain ⟨v4, S4, F4, hv4⟩ := HS3.out.turn HT2.out HFV.out
  have HS4 := hide (S4.drewN 1)
  have HD4 := hide ((HD3.out.od HS3.out F4).drewN 1)
  have HE4 : Hid (∀ (t' : Nat) es' T' wz, OdEnd w0 (V.drewN 1) B g go m a h k p v4 ws wz t' es' T' → OdEnd w0 w B g go m a h k p v ws wz t' es' T') := fun t' es' T' wz E => HE3.out _ _ _ _ (OdEnd.on F4 hv4 (E.from (below_drewN (Below.refl _ _) 1)))
  clear S4 F4 hv4 k0 j1 z z1 hV hV1
  go_wp2_with fail
  refine (cap_any i 255 _ HS4.out HKL.out (by omega) HES.out ⟨s, true, K.t + 1, K.es⟩ (by rw [updO_same]; exact HO.out)).mono ?_
  rintro e w5 ⟨rfl, E5⟩
  have HD5 := hide (HD4.out.od HS4.out E5.choose_spec.2.1)
  have HE5 := hide (HE4.out _ _ _ _ E5)
  clear E5
  have d0 : w5.cell? ⟨G, 0, none⟩ = some (.int .u64 0) := HD5.out.c0
  have d1 : w5.cell? ⟨G, 1, none⟩ = some (.int .u32 0) := HD5.out.c1
  have d2 : w5.cell? ⟨G, 2, none⟩ = some (.int .u8 0) := HD5.out.c2
  have d3 : w5.cell? ⟨G, 3, none⟩ = some (.int .u64 0) := HD5.out.c3
  have z := HD5.out.z
  simp only [erV, cabF, Cp.val, if_true]
  go_wp2
  refine bodyPost_ret (by simp [results, Tryz.results56, go_sem, d0, d1, d2, d3]; rfl) rfl ?_
  refine ⟨rfl, ?_⟩
  have e : updO T i ⟨s, e0 + 1, v0, l0⟩ = updO T i (revO ⟨s0, e0, v0, l0⟩ s) := rfl
  rw [← e]
  exact HE5.out.cap HD5.out.capB HW.out HG.out (foot4 _ _ _ _ _ _)
theorem revoke_any (c : Cp) (w : World) (x : Od w0 w B g go m a h k p v ws t es T) (hc : c.ok) (hl : es.length < 5000000000000) (he : ∀ j, (T j).e ≤ 9223372036854775806) (R : Cre) (hR : revF ws t es p T c = R) :
    Calls Tryz.prog 56 #[.pointer (some ⟨g, 0, none⟩), c.val] w fun e w' => e = .returned (.tuple #[R.c.val, erN (R.e : Int)]) ∧ OdEnd w0 w B g go m a h k p v ws w' R.t R.es R.T := by
  subst hR
  unfold revF
  obtain ⟨K, hK⟩ : ∃ K, chkF ws t es p T c 255 = K := ⟨_, rfl⟩
  rw [hK]
  by_cases hn : K.e = 0
  · rw [if_pos hn]
    by_cases ht : K.t < ws.length
    · rw [if_pos ht]
      exact revoke_yes c w x hc hl K hK hn ht (he _)
    · rw [if_neg ht]
      exact revoke_end c w x hc hl K hK hn ht
  · rw [if_neg hn]
    exact revoke_no c w x hc hl K hK hn
end
end Go.Proofs.YtlmnnjibggdboaaGreatDoor
namespace Go.Proofs.YtlmnnjibggdboaaGreatDoor
section
open Go.RowKit
variable {w0 w w1 w2 : World} {B g go m a h k p : Nat} {v v1 : Value} {ws : List Nat} {t t1 : Nat} {es es1 : List Ent} {T T1 : Nat → Ob}
def touO (x : Ob) : Ob := ⟨x.s, x.e, x.v, 24⟩
set_option maxHeartbeats 1600000 in
theorem destroy_no (c : Cp) (w : World) (x : Od w0 w B g go m a h k p v ws t es T) (hc : c.ok) (hl : es.length ≤ 5000000000000) (K : Chk) (hK : chkF ws t es p T c 8 = K) (hn : K.e ≠ 0) :
    Calls Tryz.prog 39 #[.pointer (some ⟨g, 0, none⟩), c.val] w fun e w' => e = .returned (.tuple #[.int .i64 0, .int .i64 0, erN (K.e : Int)]) ∧ OdEnd w0 w B g go m a h k p v ws w' K.t K.es (T) := by
  obtain ⟨cp, co, cr, cc⟩ := c
  obtain ⟨Y, hY⟩ : ∃ Y, w.alloc (.cells #[.int .u64 (cp : Int), .int .u32 (co : Int), .int .u8 (cr : Int), .int .u64 (cc : Int)] 40) = Y := ⟨_, rfl⟩
  have bY : Below w.heap.size w Y := hY ▸ below_alloc w _
  have HC : Hid (CBox Y w.heap.size cp co cr cc) := hY ▸ CBox.new w cp co cr cc
  have HK := hide (x.grow bY)
  have HB := hide bY
  have HOK := hide hc
  have HL := hide hl
  have c0 := HC.out.c0
  have c1 := HC.out.c1
  have c2 := HC.out.c2
  have c3 := HC.out.c3
  have HKK := hide hK
  rw [erN_not (by omega : (K.e : Int) ≠ 0)]
  have HN := hide (erN_not (by omega : (K.e : Int) ≠ 0))
  clear hK hn
  clear x bY hl hc
  simp only [Cp.val]
  go_enter Tryz.func39, Tryz.ntmps39
  go_wp2_with fail
  refine (check_any ⟨cp, co, cr, cc⟩ 8 _ HK.out HOK.out (by omega) HL.out K HKK.out).mono ?_
  rintro e w2 ⟨rfl, E2⟩
  obtain ⟨v2, S2, F2, hv2⟩ := E2
  have HS2 := hide S2
  have HE2 : Hid (∀ (t' : Nat) es' T' wz, OdEnd w0 w2 B g go m a h k p v2 ws wz t' es' T' → OdEnd w0 w B g go m a h k p v ws wz t' es' T') := fun t' es' T' wz E => (OdEnd.on F2 hv2 E).from HB.out
  clear S2 F2 hv2 c0 c1 c2 c3
  rw [HN.out]
  go_wp2
  go_ret3
  exact ⟨rfl, HE2.out _ _ _ _ HS2.out.stay⟩
set_option maxHeartbeats 1600000 in
theorem touch_no (c : Cp) (w : World) (x : Od w0 w B g go m a h k p v ws t es T) (hc : c.ok) (hl : es.length ≤ 5000000000000) (K : Chk) (hK : chkF ws t es p T c 0 = K) (hn : K.e ≠ 0) :
    Calls Tryz.prog 55 #[.pointer (some ⟨g, 0, none⟩), c.val] w fun e w' => e = .returned (erN (K.e : Int)) ∧ OdEnd w0 w B g go m a h k p v ws w' K.t K.es (T) := by
  obtain ⟨cp, co, cr, cc⟩ := c
  obtain ⟨Y, hY⟩ : ∃ Y, w.alloc (.cells #[.int .u64 (cp : Int), .int .u32 (co : Int), .int .u8 (cr : Int), .int .u64 (cc : Int)] 40) = Y := ⟨_, rfl⟩
  have bY : Below w.heap.size w Y := hY ▸ below_alloc w _
  have HC : Hid (CBox Y w.heap.size cp co cr cc) := hY ▸ CBox.new w cp co cr cc
  have HK := hide (x.grow bY)
  have HB := hide bY
  have HOK := hide hc
  have HL := hide hl
  have c0 := HC.out.c0
  have c1 := HC.out.c1
  have c2 := HC.out.c2
  have c3 := HC.out.c3
  have HKK := hide hK
  rw [erN_not (by omega : (K.e : Int) ≠ 0)]
  have HN := hide (erN_not (by omega : (K.e : Int) ≠ 0))
  clear hK hn
  clear x bY hl hc
  simp only [Cp.val]
  go_enter Tryz.func55, Tryz.ntmps55
  go_wp2_with fail
  refine (check_any ⟨cp, co, cr, cc⟩ 0 _ HK.out HOK.out (by omega) HL.out K HKK.out).mono ?_
  rintro e w2 ⟨rfl, E2⟩
  obtain ⟨v2, S2, F2, hv2⟩ := E2
  have HS2 := hide S2
  have HE2 : Hid (∀ (t' : Nat) es' T' wz, OdEnd w0 w2 B g go m a h k p v2 ws wz t' es' T' → OdEnd w0 w B g go m a h k p v ws wz t' es' T') := fun t' es' T' wz E => (OdEnd.on F2 hv2 E).from HB.out
  clear S2 F2 hv2 c0 c1 c2 c3
  rw [HN.out]
  go_wp2
  go_ret
  exact ⟨rfl, HE2.out _ _ _ _ HS2.out.stay⟩
set_option maxHeartbeats 1600000 in
theorem info_no (c : Cp) (w : World) (x : Od w0 w B g go m a h k p v ws t es T) (hc : c.ok) (hl : es.length ≤ 5000000000000) (K : Chk) (hK : chkF ws t es p T c 0 = K) (hn : K.e ≠ 0) :
    Calls Tryz.prog 71 #[.pointer (some ⟨g, 0, none⟩), c.val] w fun e w' => e = .returned (.tuple #[.int .i64 0, .int .i64 0, erN (K.e : Int)]) ∧ OdEnd w0 w B g go m a h k p v ws w' K.t K.es (T) := by
  obtain ⟨cp, co, cr, cc⟩ := c
  obtain ⟨Y, hY⟩ : ∃ Y, w.alloc (.cells #[.int .u64 (cp : Int), .int .u32 (co : Int), .int .u8 (cr : Int), .int .u64 (cc : Int)] 40) = Y := ⟨_, rfl⟩
  have bY : Below w.heap.size w Y := hY ▸ below_alloc w _
  have HC : Hid (CBox Y w.heap.size cp co cr cc) := hY ▸ CBox.new w cp co cr cc
  have HK := hide (x.grow bY)
  have HB := hide bY
  have HOK := hide hc
  have HL := hide hl
  have c0 := HC.out.c0
  have c1 := HC.out.c1
  have c2 := HC.out.c2
  have c3 := HC.out.c3
  have HKK := hide hK
  rw [erN_not (by omega : (K.e : Int) ≠ 0)]
  have HN := hide (erN_not (by omega : (K.e : Int) ≠ 0))
  clear hK hn
  clear x bY hl hc
  simp only [Cp.val]
  go_enter Tryz.func71, Tryz.ntmps71
  go_wp2_with fail
  refine (check_any ⟨cp, co, cr, cc⟩ 0 _ HK.out HOK.out (by omega) HL.out K HKK.out).mono ?_
  rintro e w2 ⟨rfl, E2⟩
  obtain ⟨v2, S2, F2, hv2⟩ := E2
  have HS2 := hide S2
  have HE2 : Hid (∀ (t' : Nat) es' T' wz, OdEnd w0 w2 B g go m a h k p v2 ws wz t' es' T' → OdEnd w0 w B g go m a h k p v ws wz t' es' T') := fun t' es' T' wz E => (OdEnd.on F2 hv2 E).from HB.out
  clear S2 F2 hv2 c0 c1 c2 c3
  rw [HN.out]
  go_wp2
  go_ret3
  exact ⟨rfl, HE2.out _ _ _ _ HS2.out.stay⟩
set_option maxHeartbeats 1600000 in
theorem destroy_yes (c : Cp) (w : World) (x : Od w0 w B g go m a h k p v ws t es T) (hc : c.ok) (hl : es.length ≤ 5000000000000) (K : Chk) (hK : chkF ws t es p T c 8 = K) (hn : K.e = 0) :
    Calls Tryz.prog 39 #[.pointer (some ⟨g, 0, none⟩), c.val] w fun e w' => e = .returned (.tuple #[.int .i64 (K.k : Int), .int .i64 (T K.k).v, .nilIface]) ∧ OdEnd w0 w B g go m a h k p v ws w' K.t K.es (updO T K.k Ob.zero) := by
  obtain ⟨cp, co, cr, cc⟩ := c
  obtain ⟨Y, hY⟩ : ∃ Y, w.alloc (.cells #[.int .u64 (cp : Int), .int .u32 (co : Int), .int .u8 (cr : Int), .int .u64 (cc : Int)] 40) = Y := ⟨_, rfl⟩
  have bY : Below w.heap.size w Y := hY ▸ below_alloc w _
  have HC : Hid (CBox Y w.heap.size cp co cr cc) := hY ▸ CBox.new w cp co cr cc
  have HK := hide (x.grow bY)
  have HB := hide bY
  have HOK := hide hc
  have HL := hide hl
  have c0 := HC.out.c0
  have c1 := HC.out.c1
  have c2 := HC.out.c2
  have c3 := HC.out.c3
  have HKK := hide hK
  have HKL : Hid (K.k < 64) := by rw [← hK]; exact chk_lt (by rw [hK]; exact hn)
  have HN := hide (show erN (K.e : Int) = .nilIface by rw [hn]; rfl)
  obtain ⟨vl, hT⟩ : ∃ vl, (T K.k).v = vl := ⟨_, rfl⟩
  rw [hT]
  have HT := hide hT
  clear hK hn
  clear x bY hl hc
  simp only [Cp.val]
  go_enter Tryz.func39, Tryz.ntmps39
  go_wp2_with fail
  refine (check_any ⟨cp, co, cr, cc⟩ 8 _ HK.out HOK.out (by omega) HL.out K HKK.out).mono ?_
  rintro e w2 ⟨rfl, E2⟩
  obtain ⟨v2, S2, F2, hv2⟩ := E2
  have HS2 := hide S2
  have HE2 : Hid (∀ (t' : Nat) es' T' wz, OdEnd w0 w2 B g go m a h k p v2 ws wz t' es' T' → OdEnd w0 w B g go m a h k p v ws wz t' es' T') := fun t' es' T' wz E => (OdEnd.on F2 hv2 E).from HB.out
  clear S2 F2 hv2 c0 c1 c2 c3
  rw [HN.out]
  go_wp2_with fail
  refine (end_any K.k _ HS2.out.tb HKL.out).mono ?_; rintro e w3 ⟨rfl, T3, F3⟩
  rw [HT.out]
  have HE3 := hide (HE2.out _ _ _ _ (HS2.out.turn T3 F3))
  clear T3 F3
  go_wp2
  go_ret3
  exact ⟨rfl, HE3.out⟩
set_option maxHeartbeats 1600000 in
theorem touch_yes (c : Cp) (w : World) (x : Od w0 w B g go m a h k p v ws t es T) (hc : c.ok) (hl : es.length ≤ 5000000000000) (K : Chk) (hK : chkF ws t es p T c 0 = K) (hn : K.e = 0) :
    Calls Tryz.prog 55 #[.pointer (some ⟨g, 0, none⟩), c.val] w fun e w' => e = .returned (.nilIface) ∧ OdEnd w0 w B g go m a h k p v ws w' K.t K.es (updO T K.k (touO (T K.k))) := by
  obtain ⟨cp, co, cr, cc⟩ := c
  obtain ⟨Y, hY⟩ : ∃ Y, w.alloc (.cells #[.int .u64 (cp : Int), .int .u32 (co : Int), .int .u8 (cr : Int), .int .u64 (cc : Int)] 40) = Y := ⟨_, rfl⟩
  have bY : Below w.heap.size w Y := hY ▸ below_alloc w _
  have HC : Hid (CBox Y w.heap.size cp co cr cc) := hY ▸ CBox.new w cp co cr cc
  have HK := hide (x.grow bY)
  have HB := hide bY
  have HOK := hide hc
  have HL := hide hl
  have c0 := HC.out.c0
  have c1 := HC.out.c1
  have c2 := HC.out.c2
  have c3 := HC.out.c3
  have HKK := hide hK
  have HKL : Hid (K.k < 64) := by rw [← hK]; exact chk_lt (by rw [hK]; exact hn)
  have HN := hide (show erN (K.e : Int) = .nilIface by rw [hn]; rfl)
  rcases hT : T K.k with ⟨s0, e0, v0, l0⟩
  have HT := hide hT
  have HSB : Hid (s0 ≤ 281474976710655) := by have := (x.tb.ok K.k).1; rw [hT] at this; exact this
  obtain ⟨i, hi⟩ : ∃ i, K.k = i := ⟨_, rfl⟩
  rw [hi] at HT HKL ⊢
  have HI := hide hi
  have hi0 : (0 : Int) ≤ (i : Int) := by omega
  have hi1 : (i : Int) < 64 := by have := HKL.out; omega
  clear hK hn hT hi
  clear x bY hl hc
  simp only [Cp.val]
  go_enter Tryz.func55, Tryz.ntmps55
  go_wp2_with fail
  refine (check_any ⟨cp, co, cr, cc⟩ 0 _ HK.out HOK.out (by omega) HL.out K HKK.out).mono ?_
  rintro e w2 ⟨rfl, E2⟩
  obtain ⟨v2, S2, F2, hv2⟩ := E2
  have HS2 := hide S2
  have HE2 : Hid (∀ (t' : Nat) es' T' wz, OdEnd w0 w2 B g go m a h k p v2 ws wz t' es' T' → OdEnd w0 w B g go m a h k p v ws wz t' es' T') := fun t' es' T' wz E => (OdEnd.on F2 hv2 E).from HB.out
  clear S2 F2 hv2 c0 c1 c2 c3
  rw [HN.out]
  rw [HI.out]
  obtain ⟨V, hV⟩ : ∃ V, w2.setCell ⟨g, 2 + i * 4 + 3, none⟩ (.int .i64 24) = V := ⟨_, rfl⟩
  have HTV : Hid (Tb V g p go (updO T i ⟨s0, e0, v0, 24⟩)) := hV ▸ HS2.out.tb.set i 3 HKL.out (by omega) _ ⟨s0, e0, v0, 24⟩ ⟨HSB.out, by show 24 ≤ 24; omega⟩ (fun f hf => by rw [HT.out]; match f, hf with | 0, _ | 1, _ | 2, _ | 3, _ => rfl)
  have HFV : Hid (Foot (fun j => j = g) w2 V) := hV ▸ foot_set w2 ⟨g, 2 + i * 4 + 3, none⟩ _
  obtain ⟨k0, k1, k2, k3⟩ := HS2.out.tb.at i HKL.out s0 e0 v0 l0 HT.out
  have z := HS2.out.tb.z
  clear k0 k1 k2
  go_wp2
  go_ret
  exact ⟨rfl, HE2.out _ _ _ _ (HS2.out.turn HTV.out HFV.out)⟩
set_option maxHeartbeats 1600000 in
theorem info_yes (c : Cp) (w : World) (x : Od w0 w B g go m a h k p v ws t es T) (hc : c.ok) (hl : es.length ≤ 5000000000000) (K : Chk) (hK : chkF ws t es p T c 0 = K) (hn : K.e = 0) :
    Calls Tryz.prog 71 #[.pointer (some ⟨g, 0, none⟩), c.val] w fun e w' => e = .returned (.tuple #[.int .i64 ((T K.k).e : Int), .int .i64 ((T K.k).l : Int), .nilIface]) ∧ OdEnd w0 w B g go m a h k p v ws w' K.t K.es (T) := by
  obtain ⟨cp, co, cr, cc⟩ := c
  obtain ⟨Y, hY⟩ : ∃ Y, w.alloc (.cells #[.int .u64 (cp : Int), .int .u32 (co : Int), .int .u8 (cr : Int), .int .u64 (cc : Int)] 40) = Y := ⟨_, rfl⟩
  have bY : Below w.heap.size w Y := hY ▸ below_alloc w _
  have HC : Hid (CBox Y w.heap.size cp co cr cc) := hY ▸ CBox.new w cp co cr cc
  have HK := hide (x.grow bY)
  have HB := hide bY
  have HOK := hide hc
  have HL := hide hl
  have c0 := HC.out.c0
  have c1 := HC.out.c1
  have c2 := HC.out.c2
  have c3 := HC.out.c3
  have HKK := hide hK
  have HKL : Hid (K.k < 64) := by rw [← hK]; exact chk_lt (by rw [hK]; exact hn)
  have HN := hide (show erN (K.e : Int) = .nilIface by rw [hn]; rfl)
  rcases hT : T K.k with ⟨s0, e0, v0, l0⟩
  have HT := hide hT
  obtain ⟨i, hi⟩ : ∃ i, K.k = i := ⟨_, rfl⟩
  rw [hi] at HT HKL
  have HI := hide hi
  have hi0 : (0 : Int) ≤ (i : Int) := by omega
  have hi1 : (i : Int) < 64 := by have := HKL.out; omega
  clear hK hn hT hi
  clear x bY hl hc
  simp only [Cp.val]
  go_enter Tryz.func71, Tryz.ntmps71
  go_wp2_with fail
  refine (check_any ⟨cp, co, cr, cc⟩ 0 _ HK.out HOK.out (by omega) HL.out K HKK.out).mono ?_
  rintro e w2 ⟨rfl, E2⟩
  obtain ⟨v2, S2, F2, hv2⟩ := E2
  have HS2 := hide S2
  have HE2 : Hid (∀ (t' : Nat) es' T' wz, OdEnd w0 w2 B g go m a h k p v2 ws wz t' es' T' → OdEnd w0 w B g go m a h k p v ws wz t' es' T') := fun t' es' T' wz E => (OdEnd.on F2 hv2 E).from HB.out
  clear S2 F2 hv2 c0 c1 c2 c3
  rw [HN.out]
  rw [HI.out]
  obtain ⟨k0, k1, k2, k3⟩ := HS2.out.tb.at i HKL.out s0 e0 v0 l0 HT.out
  clear k0 k2
  go_wp2_with fail
  go_region
  go_wp2
  go_ret3
  exact ⟨rfl, HE2.out _ _ _ _ (HS2.out.stay.to (below_drewN (Below.refl _ _) 1))⟩
end
end Go.Proofs.YtlmnnjibggdboaaGreatDoor
namespace Go.Proofs.YtlmnnjibggdboaaGreatDoor
section
open Go.RowKit
def Lies (sz : Nat) (w : World) (ao : Option Addr) (n cap : Nat) (cs : List Value) : Prop :=
  cs.length = n * sz ∧ n ≤ cap ∧ cap ≤ maxLen ∧ (ao = none → cap = 0) ∧ ∀ ad, ao = some ad → ∀ j u, cs[j]? = some u → w.cell? (ad.add j) = some u
theorem Lies.carry {sz : Nat} {w w' : World} {ao : Option Addr} {n cap : Nat} {cs : List Value} (h : Lies sz w ao n cap cs) {B : Nat} (b : Below B w w') (hB : w.heap.size ≤ B) : Lies sz w' ao n cap cs :=
  ⟨h.1, h.2.1, h.2.2.1, h.2.2.2.1, fun ad e j u hu => by
    have := h.2.2.2.2 ad e j u hu
    rw [b.cell (Nat.lt_of_lt_of_le (lt_of_cell this) hB), this]⟩
theorem Lies.drewN {sz : Nat} {w : World} {ao : Option Addr} {n cap : Nat} {cs : List Value} (h : Lies sz w ao n cap cs) (q : Nat) : Lies sz (w.drewN q) ao n cap cs := h
theorem lies_nil (sz : Nat) (w : World) : Lies sz w none 0 0 [] := ⟨by simp, Nat.le_refl _, by decide, fun _ => rfl, fun _ e => by cases e⟩
theorem owns_lies {w : World} {base sz : Nat} {e : TypeId} {v : Value} {n : Nat} {xs : List Value} (h : w.ownsRow base e sz v n xs) : ∃ ao cap, v = .slice ao n cap ∧ Lies sz w ao n cap xs := by
  have hl := h.1
  rcases h.2 with ⟨rfl, rfl⟩ | ⟨g, cap, cur, rfl, h1, h2, h3, h4, h5, h6⟩
  · obtain rfl : xs = [] := List.eq_nil_of_length_eq_zero (by simpa using hl)
    exact ⟨none, 0, rfl, lies_nil _ _⟩
  · refine ⟨some ⟨g, 0, none⟩, cap, rfl, hl, h3, h4, (fun e => by cases e), fun ad e j u hu => ?_⟩
    obtain rfl := Option.some.inj e
    exact h.cells (g := g) rfl j u hu
theorem owns_nil (w : World) (base : Nat) (e : TypeId) (sz : Nat) : w.ownsRow base e sz (.slice none 0 0) 0 [] := ⟨by simp, .inl ⟨rfl, rfl⟩⟩
theorem addS (a : Addr) (j : Nat) : a.add (j + 1) = { block := a.block, off := a.off + (j + 1) } := by unfold Addr.add; rw [if_neg (by omega)]
theorem addZ (a : Addr) : a.add 0 = a := by unfold Addr.add; simp
theorem add_add (ad : Addr) (j k : Nat) : (ad.add j).add k = ad.add (j + k) := by
  unfold Addr.add
  by_cases h1 : j = 0
  · subst h1; simp
  · by_cases h2 : k = 0
    · subst h2; simp
    · simp [h1, h2]; omega
/- what an own row that grew leaves below -/
theorem below_grown {B : Nat} {a w w' : World} {e : TypeId} {sz n : Nat} {v : Value} {xs : List Value} (b : Below B a w) (hB : B ≤ w.heap.size) (hown : w.ownsRow B e sz v n xs) (hgr : w.grownBy w' v.ownBlock) : Below B a w' := by
  refine b.grown hgr hB (fun k e => ?_)
  rcases hown.2 with ⟨h, _⟩ | ⟨g, c, cur, h, hbg, _⟩
  · rw [h] at e; simp [Value.ownBlock] at e
  · rw [h] at e
    have : g = k := by simpa [Value.ownBlock] using e
    omega
/- append(nil, make([]T, m)...) -/
theorem zeros_nil {P : Program} (w : World) {t ti ty e : TypeId} {i : TypeInfo} {z : Value} (sl : P.underlying t = some (.slice e)) (nu : P.underlying ti = some (.int .i64)) (inf : P.info? e = some i) (zero : i.zero = some z) (hs : 0 < i.size) (m : Nat) (h0 : 0 < m) (hb : m * i.bytes ≤ 140737488355328) (hm : m ≤ 140737488355328) :
    (Builtin.append_ #[t, ti] ty #[.slice none 0 0, .int .i64 (m : Int)]).run P w =
      .ok (.slice (some ⟨w.heap.size, 0, none⟩) m (grownCap w m 0 e)) (w.drew.alloc (.cells (Builtin.zeroCells z.cells m ++ Builtin.zeroCells z.cells (grownCap w m 0 e - m)) e)) := by
  have big : ¬ (9223372036854775807 < (m : Int)) := by omega
  have wrap : IntKind.i64.wrap (m : Int) = (m : Int) := by rw [IntKind.wrap_i64]; omega
  have nonneg : ¬ ((m : Int) < 0) := by omega
  have fits : ¬ (281474976710656 < (m : Int) * (i.bytes : Int)) := by rw [← Int.natCast_mul]; omega
  have room : ¬ (281474976710656 < Builtin.nextslicecap m 0 * i.bytes) := by rw [nextslicecap_zero h0]; omega
  have nz : m * i.size ≠ 0 := Nat.mul_ne_zero (by omega) (by omega)
  simp [Builtin.append_, run_underlying sl, run_underlying nu, sizeOf, typeInfo, zeroValue, inf, zero, asInt, asIntOf, wrap, nonneg, fits, Nat.ne_of_gt h0, big, room, Question.forced, run_firstCells_none, newRow, grownCap]
  intro h; exact absurd h nz
/- append(s, nil...) -/
theorem app_none {P : Program} (w : World) {t ty e : TypeId} {i : TypeInfo} (sl : P.underlying t = some (.slice e)) (inf : P.info? e = some i) (ao : Option Addr) (n c : Nat) (hn : n ≤ c) (hz : ao = none → c = 0) : (Builtin.append_ #[t, t] ty #[.slice ao n c, .slice none 0 0]).run P w = .ok (.slice ao n c) w := by
  cases ao with
  | none =>
    obtain rfl := hz rfl
    obtain rfl : n = 0 := by omega
    simp [Builtin.append_, run_underlying sl, sizeOf, typeInfo, inf, Builtin.lenOf, Builtin.firstCells]
  | some a =>
    simp [Builtin.append_, run_underlying sl, sizeOf, typeInfo, inf, Builtin.lenOf, Builtin.firstCells, hn, storeCells]
/- an append whose run is known, in a region that doesn't draw -/
theorem wpList_append_run {P : Program} {w : World} {ops : Array Oper} {rest : List Oper} {o : Oper} {a : Act} {Q : Exit → Act → World → Prop} (hgd : o.guard = none) (s x : Operand) (ts : Array TypeId)
    (ho : o.op = .call { callee := .builtin .append, args := #[s, x], argTypes := ts }) (v u v' : Value) (w' : World) (hs : a.eval s = v) (hx : a.eval x = u) (hr : (Builtin.append_ ts o.type #[v, u]).run P w = .ok v' w') (h : wpList P ops Q rest (a.put o.dst v') w') :
    wpList P ops Q (o :: rest) a w := by
  refine wpList_plain hgd fun K hK => ?_
  unfold Oper.wp execOp
  simp only [ho, resolve, invoke, builtin, Sem.run_bind, Sem.run_pure, Result.andThen_ok, List.map_toArray, List.map_cons, List.map_nil, hs, hx, hr]
  exact hK _ _ h
/- the same, of an append behind '&&' whose guard says yes -/
theorem wpList_append_want {P : Program} {w : World} {ops : Array Oper} {rest : List Oper} {o : Oper} {a : Act} {Q : Exit → Act → World → Prop} (hw : Region.wanted o (yielded ops a.tmps) = true) (s x : Operand) (ts : Array TypeId)
    (ho : o.op = .call { callee := .builtin .append, args := #[s, x], argTypes := ts }) (v u v' : Value) (w' : World) (hs : a.eval s = v) (hx : a.eval x = u) (hr : (Builtin.append_ ts o.type #[v, u]).run P w = .ok v' w') (h : wpList P ops Q rest (a.put o.dst v') w') :
    wpList P ops Q (o :: rest) a w := by
  refine BigFrame.wpList_want hw fun K hK => ?_
  unfold Oper.wp execOp
  simp only [ho, resolve, invoke, builtin, Sem.run_bind, Sem.run_pure, Result.andThen_ok, List.map_toArray, List.map_cons, List.map_nil, hs, hx, hr]
  exact hK _ _ h
theorem below_d (w : World) (q : Nat) : Below w.heap.size w (w.drewN q) := below_drewN (Below.refl _ _) q
theorem below_d1 (w : World) (q : Nat) (o : Obj) : Below w.heap.size w ((w.drewN q).alloc o) := below_one (below_d w q) (below_alloc _ _)
theorem below_d2 (w : World) (q : Nat) (o o' : Obj) : Below w.heap.size w (((w.drewN q).alloc o).alloc o') := below_one (below_d1 w q o) (below_alloc _ _)
theorem below_dd (w : World) (q : Nat) : Below w.heap.size w (w.drewN q).drew := below_drewN (below_d w q) 1
end
end Go.Proofs.YtlmnnjibggdboaaGreatDoor
namespace Go.Proofs.YtlmnnjibggdboaaGreatDoor
section
open Go.RowKit
variable {w0 w w1 w2 w' : World} {B g go m a h k p : Nat} {v v1 : Value} {ws : List Nat} {t t1 t' : Nat} {es es1 es' : List Ent} {T T1 T' : Nat → Ob}
def Sd (w0 w : World) (g p : Nat) (ws : List Nat) (t : Nat) (es : List Ent) (T : Nat → Ob) : Prop := ∃ B go m a h k v, Od w0 w B g go m a h k p v ws t es T
/- a type that tables and oracles have nothing of -/
def Odd (ty : TypeId) : Prop := ty ≠ 79 ∧ ty ≠ 83 ∧ ty ≠ 179 ∧ ty ≠ 88
structure Kp (w w' : World) : Prop where
  os : w'.os = w.os
  tape : w'.tape = w.tape
  output : w'.output = w.output
  size : w.heap.size ≤ w'.heap.size
  block : ∀ (b : Nat) (cs : Array Value) (ty : TypeId), w.heap[b]? = some (.cells cs ty (0, 0)) → Odd ty → w'.heap[b]? = w.heap[b]?
def Chg (w w' : World) (b : Nat) : Prop := w'.heap[b]? ≠ w.heap[b]?
theorem Kp.foot (x : Kp w w') : Foot (Chg w w') w w' := ⟨x.os, x.tape, x.output, x.size, fun _ _ hn => Classical.byContradiction hn⟩
theorem Kp.same (x : Kp w w') {b : Nat} {cs : Array Value} {ty : TypeId} (hb : w.heap[b]? = some (.cells cs ty (0, 0))) (ht : Odd ty) : ¬ Chg w w' b := fun e => e (x.block b cs ty hb ht)
theorem Kp.refl (w : World) : Kp w w := ⟨rfl, rfl, rfl, Nat.le_refl _, fun _ _ _ _ _ => rfl⟩
theorem Kp.trans (x : Kp w w1) (y : Kp w1 w2) : Kp w w2 := ⟨y.os.trans x.os, y.tape.trans x.tape, y.output.trans x.output, Nat.le_trans x.size y.size, fun b cs ty hb ht => (y.block b cs ty ((x.block b cs ty hb ht).trans hb) ht).trans (x.block b cs ty hb ht)⟩
theorem below_kp (b : Below w.heap.size w w') : Kp w w' := ⟨b.os, b.tape, b.output, b.size, fun i _ _ hb _ => b.block i (lt_of_heap hb)⟩
theorem cap_odd : Odd 40 := ⟨by decide, by decide, by decide, by decide⟩
theorem CBox.kp {b p o r c : Nat} (x : CBox w b p o r c) (f : Kp w w') : CBox w' b p o r c := x.foot f.foot (f.same x cap_odd)
theorem owns_kp {base : Nat} {e : TypeId} {size : Nat} {n : Nat} {xs : List Value} (x : w.ownsRow base e size v n xs) (f : Kp w w') (ht : Odd e) : w'.ownsRow base e size v n xs := by
  refine owns_foot x f.foot fun r hr => ?_
  obtain ⟨cur, h1, _⟩ := owns_block x hr
  exact f.same h1 ht
/- a deed's end -/
theorem Od.ends (x : Od w0 w B g go m a h k p v ws t es T) (E : OdEnd w0 w B g go m a h k p v ws w' t' es' T') : Sd w0 w' g p ws t' es' T' ∧ Kp w w' := by
  obtain ⟨v', S, F, _⟩ := E
  refine ⟨⟨_, _, _, _, _, _, _, S⟩, ⟨F.os, F.tape, F.output, F.size, fun b cs ty hb ht => F.block b (lt_of_heap hb) fun e => ?_⟩⟩
  rcases e with e | e
  · exact x.tk.noAsk hb ht.1 ht.2.1 ht.2.2.1 e
  · obtain ⟨C, hC⟩ := x.tb.blk
    rw [e, hC] at hb; cases hb; exact ht.2.2.2 rfl
theorem Sd.grow (x : Sd w0 w g p ws t es T) (b : Below w.heap.size w w') : Sd w0 w' g p ws t es T := by
  obtain ⟨B, go, m, a, h, k, v, x⟩ := x
  exact ⟨_, _, _, _, _, _, _, x.grow b⟩
theorem Sd.drewN (x : Sd w0 w g p ws t es T) (q : Nat) : Sd w0 (w.drewN q) g p ws t es T := by
  obtain ⟨B, go, m, a, h, k, v, x⟩ := x
  exact ⟨_, _, _, _, _, _, _, x.drewN q⟩
theorem Sd.bel (x : Sd w0 w g p ws t es T) : Below w0.heap.size w0 w := by
  obtain ⟨B, go, m, a, h, k, v, x⟩ := x
  exact x.tk.new.bel
theorem Sd.glob (x : Sd w0 w g p ws t es T) (hg : Glob w0) : Glob w := hg.carry x.bel
theorem Sd.tb (x : Sd w0 w g p ws t es T) : ∃ go, Tb w g p go T := by
  obtain ⟨B, go, m, a, h, k, v, x⟩ := x
  exact ⟨go, x.tb⟩
theorem Sd.word (x : Sd w0 w g p ws t es T) (j : Nat) : ws.getD j 0 ≤ 281474976710655 := by
  obtain ⟨B, go, m, a, h, k, v, x⟩ := x
  exact x.tk.tape.word j
/- other memory turns -/
def Fre (w : World) (b : Nat) : Prop := w.heap.size ≤ b ∨ ∃ (cs : Array Value) (ty : TypeId), w.heap[b]? = some (.cells cs ty (0, 0)) ∧ Odd ty ∧ ty ≠ 32
theorem Sd.off (x : Sd w0 w g p ws t es T) {S : Nat → Prop} (f : Foot S w w') (hS : ∀ b, S b → w0.heap.size ≤ b ∧ Fre w b) : Sd w0 w' g p ws t es T := by
  obtain ⟨B, go, m, a, h, k, v, x⟩ := x
  have no : ∀ b, S b → b ≠ go ∧ b ≠ m ∧ b ≠ a ∧ b ≠ h ∧ v.ownBlock ≠ some b ∧ b ≠ g := by
    intro b hb
    rcases (hS b hb).2 with e | ⟨cs, ty, e, o, u⟩
    · obtain ⟨C, hC⟩ := x.tb.blk
      obtain ⟨y, z, hm⟩ := x.tk.orc.map.isMap
      have h1 := lt_of_heap x.tk.orc.box
      have h2 := lt_of_heap hm
      have h3 := lt_of_heap x.tk.tape.box
      have h4 : h < w.heap.size := x.tk.tape.row.lt
      have h5 := lt_of_heap hC
      refine ⟨by omega, by omega, by omega, by omega, fun er => ?_, by omega⟩
      obtain ⟨cur, hx, _⟩ := owns_block x.tk.orc.row er
      have := lt_of_heap hx
      omega
    · obtain ⟨n1, n2, n3, n4, n5⟩ := x.tk.noBlk e o.1 o.2.1 o.2.2.1 u
      refine ⟨n1, n2, n3, n4, n5, fun eg => ?_⟩
      obtain ⟨C, hC⟩ := x.tb.blk
      rw [eg, hC] at e; cases e; exact o.2.2.2 rfl
  exact ⟨_, _, _, _, _, _, _, ⟨⟨x.tk.orc.foot f (fun e => (no _ e).1 rfl) (fun e => (no _ e).2.1 rfl) (fun r hr e => (no _ e).2.2.2.2.1 hr), x.tk.tape.foot f (fun e => (no _ e).2.2.1 rfl) (fun e => (no _ e).2.2.2.1 rfl), ⟨x.tk.new.b0, x.tk.new.a0, x.tk.new.h0, x.tk.new.bel.trans (f.below x.tk.new.bel.size fun j e => (hS j e).1), Nat.le_trans x.tk.new.bs f.size⟩⟩, x.tb.foot f (fun e => (no _ e).2.2.2.2.2 rfl), x.new⟩⟩
theorem Sd.cap (x : Sd w0 w g p ws t es T) {b : Nat} (C : CapB w b) (hb : w0.heap.size ≤ b) (f : Foot (fun j => j = b) w w') : Sd w0 w' g p ws t es T := by
  obtain ⟨cs, hc⟩ := C
  refine x.off f fun j e => ?_
  subst e
  exact ⟨hb, .inr ⟨cs, _, hc, cap_odd, by decide⟩⟩
theorem sd_create (vl : Int) (w : World) (x : Sd w0 w g p ws t es T) (hl : es.length ≤ 5000000000000) (R : Cre) (hR : creF ws t es p T vl = R) :
    Calls Tryz.prog 13 #[.pointer (some ⟨g, 0, none⟩), .int .i64 vl] w fun e w' => e = .returned (.tuple #[R.c.val, erN (R.e : Int)]) ∧ Sd w0 w' g p ws R.t R.es R.T ∧ Kp w w' := by
  obtain ⟨B, go, m, a, h, k, v, x⟩ := x
  refine (create_any vl w x hl R hR).mono ?_
  rintro e w1 ⟨rfl, E⟩
  exact ⟨rfl, x.ends E⟩
theorem sd_check (c : Cp) (need : Nat) (w : World) (x : Sd w0 w g p ws t es T) (hc : c.ok) (hn : need ≤ 255) (hl : es.length ≤ 5000000000000) (K : Chk) (hK : chkF ws t es p T c need = K) :
    Calls Tryz.prog 34 #[.pointer (some ⟨g, 0, none⟩), c.val, .int .u8 (need : Int)] w fun e w' => e = .returned (.tuple #[.int .i64 (K.k : Int), erN (K.e : Int)]) ∧ Sd w0 w' g p ws K.t K.es T ∧ Kp w w' := by
  obtain ⟨B, go, m, a, h, k, v, x⟩ := x
  refine (check_any c need w x hc hn hl K hK).mono ?_
  rintro e w1 ⟨rfl, E⟩
  exact ⟨rfl, x.ends E⟩
theorem sd_restrict (c : Cp) (mask : Nat) (w : World) (x : Sd w0 w g p ws t es T) (hc : c.ok) (hm : mask ≤ 255) (hl : es.length < 5000000000000) (R : Cre) (hR : resF ws t es p T c mask = R) :
    Calls Tryz.prog 15 #[.pointer (some ⟨g, 0, none⟩), c.val, .int .u8 (mask : Int)] w fun e w' => e = .returned (.tuple #[R.c.val, erN (R.e : Int)]) ∧ Sd w0 w' g p ws R.t R.es R.T ∧ Kp w w' := by
  obtain ⟨B, go, m, a, h, k, v, x⟩ := x
  refine (restrict_any c mask w x hc hm hl R hR).mono ?_
  rintro e w1 ⟨rfl, E⟩
  exact ⟨rfl, x.ends E⟩
theorem sd_revoke (c : Cp) (w : World) (x : Sd w0 w g p ws t es T) (hc : c.ok) (hl : es.length < 5000000000000) (he : ∀ j, (T j).e ≤ 9223372036854775806) (R : Cre) (hR : revF ws t es p T c = R) :
    Calls Tryz.prog 56 #[.pointer (some ⟨g, 0, none⟩), c.val] w fun e w' => e = .returned (.tuple #[R.c.val, erN (R.e : Int)]) ∧ Sd w0 w' g p ws R.t R.es R.T ∧ Kp w w' := by
  obtain ⟨B, go, m, a, h, k, v, x⟩ := x
  refine (revoke_any c w x hc hl he R hR).mono ?_
  rintro e w1 ⟨rfl, E⟩
  exact ⟨rfl, x.ends E⟩
theorem sd_destroy (c : Cp) (w : World) (x : Sd w0 w g p ws t es T) (hc : c.ok) (hl : es.length ≤ 5000000000000) (K : Chk) (hK : chkF ws t es p T c 8 = K) (hn : K.e = 0) :
    Calls Tryz.prog 39 #[.pointer (some ⟨g, 0, none⟩), c.val] w fun e w' => e = .returned (.tuple #[.int .i64 (K.k : Int), .int .i64 (T K.k).v, .nilIface]) ∧ Sd w0 w' g p ws K.t K.es (updO T K.k Ob.zero) ∧ Kp w w' := by
  obtain ⟨B, go, m, a, h, k, v, x⟩ := x
  refine (destroy_yes c w x hc hl K hK hn).mono ?_
  rintro e w1 ⟨rfl, E⟩
  exact ⟨rfl, x.ends E⟩
theorem sd_info (c : Cp) (w : World) (x : Sd w0 w g p ws t es T) (hc : c.ok) (hl : es.length ≤ 5000000000000) (K : Chk) (hK : chkF ws t es p T c 0 = K) (hn : K.e = 0) :
    Calls Tryz.prog 71 #[.pointer (some ⟨g, 0, none⟩), c.val] w fun e w' => e = .returned (.tuple #[.int .i64 ((T K.k).e : Int), .int .i64 ((T K.k).l : Int), .nilIface]) ∧ Sd w0 w' g p ws K.t K.es T ∧ Kp w w' := by
  obtain ⟨B, go, m, a, h, k, v, x⟩ := x
  refine (info_yes c w x hc hl K hK hn).mono ?_
  rintro e w1 ⟨rfl, E⟩
  exact ⟨rfl, x.ends E⟩
/- an empty table -/
def zeroT : List Value := [.int .u64 0, .pointer none] ++ (List.replicate 64 Ob.zero).flatMap Ob.cells
theorem Tryz.zeroTable (w : World) : (zeroValue 88).run Tryz.prog w = .ok (.agg zeroT.toArray) w := by kernel_rfl
def newT (p go : Nat) : List Value := [.int .u64 (p : Int), .pointer (some ⟨go, 0, none⟩)] ++ (List.replicate 64 Ob.zero).flatMap Ob.cells
theorem zero_at (n j f : Nat) (hj : j < n) (hf : f < 4) : ((List.replicate n Ob.zero).flatMap Ob.cells)[j * 4 + f]? = Ob.zero.cells[f]? := by
  induction n generalizing j with
  | zero => omega
  | succ n ih =>
    rw [List.replicate_succ, List.flatMap_cons]
    cases j with
    | zero => rw [List.getElem?_append_left (by show _ < 4; omega)]; simp
    | succ j =>
      rw [List.getElem?_append_right (by show 4 ≤ _; omega)]
      show ((List.replicate n Ob.zero).flatMap Ob.cells)[(j + 1) * 4 + f - 4]? = _
      rw [show (j + 1) * 4 + f - 4 = j * 4 + f by omega]
      exact ih j (by omega)
set_option maxRecDepth 20000 in
theorem newT_ok (p go : Nat) : TbC (newT p go).toArray p go noneO := by
  refine ⟨by simp [newT, Ob.cells], rfl, rfl, fun j f hj hf => ?_⟩
  rw [List.getElem?_toArray]
  show (_ ++ _)[_]? = _
  rw [List.getElem?_append_right (by show 2 ≤ _; omega)]
  show ((List.replicate 64 Ob.zero).flatMap Ob.cells)[2 + j * 4 + f - 2]? = _
  rw [show 2 + j * 4 + f - 2 = j * 4 + f by omega]
  exact zero_at 64 j f hj hf
theorem new_tb (w : World) (p go : Nat) : Tb (w.alloc (.cells (newT p go).toArray 88)) w.heap.size p go noneO :=
  ⟨⟨_, heap_alloc_new _ _, newT_ok p go⟩, fun _ => ⟨by show 0 ≤ _; omega, by show 0 ≤ _; omega⟩⟩
set_option maxRecDepth 20000 in
set_option maxHeartbeats 800000 in
theorem tof_new (p : Nat) (w : World) :
    Calls Tryz.prog 11 #[.int .u64 (p : Int), .pointer (some ⟨go, 0, none⟩)] w fun e w' => e = .returned (.pointer (some ⟨w.heap.size, 0, none⟩)) ∧ Tb w' w.heap.size p go noneO ∧ Below w.heap.size w w' := by
  have hz := Tryz.zeroTable
  have HT := hide (new_tb w p go)
  have HB := hide (below_alloc w (.cells (newT p go).toArray 88))
  go_enter Tryz.func11, Tryz.ntmps11
  go_wp2
  go_ret
  exact ⟨rfl, HT.out, HB.out⟩
theorem number_any (k : Int) (w : World) (hg : Glob w) : Calls Tryz.prog 14 #[erN k] w fun e w' => e = .returned (.int .i64 k) ∧ Below w.heap.size w w' := by
  by_cases h : k = 0
  · subst h; rw [erN_zero]; exact number_nil w
  · rw [erN_not h]; exact number_errno k w hg
/- one element is appended to a row of one's own -/
def Moved (w : World) (v v' : Value) : Prop := ∀ k, v'.ownBlock = some k → v.ownBlock = some k ∨ w.heap.size ≤ k
theorem app_elem {s e ty : TypeId} {z : Value} {sz by' B n : Nat} {v : Value} {xs : List Value} (cs : Array Value) (hu : Tryz.prog.underlying s = some (.slice e)) (hi : (Tryz.prog.info? e).map (fun i => (i.zero, i.size, i.bytes)) = some (some z, sz, by')) (hz : z.cells.size = sz) (h0 : 0 < sz)
    (hc : cs.size = sz) (h1 : ∀ u ∈ cs.toList, u.oneCell' = true) (hm : (n + 1) * by' ≤ 140737488355328) (hb0 : n + 1 ≤ maxLen) (h : w.ownsRow B e sz v n xs) (hB : B ≤ w.heap.size) :
    ∃ v' w', (Builtin.append_ #[s, s] ty #[v, .slice (some ⟨w.heap.size, 0, none⟩) 1 1]).run Tryz.prog (w.alloc (.cells cs e)) = .ok v' w' ∧ w'.ownsRow B e sz v' (n + 1) (xs ++ cs.toList) ∧ Foot (fun k => v.ownBlock = some k) w w' ∧ Moved w v v' := by
  obtain ⟨i0, hi0, hz0, hz1, hz2⟩ := info_parts hi
  obtain ⟨v', w', hr, ho, hg, _, hm⟩ := run_append_own_at (P := Tryz.prog) (w.alloc (.cells cs e)) B s ty e i0 z sz by' hu hi0 hz0 hz1 hz2 hz h0 v n _ (h.alloc _) ⟨w.heap.size, 0, none⟩ 1 1 cs.toList (by simp [hc]) (fun j u hu => World.news_of_block (heap_alloc_new w _) j u (by simpa using hu)) h1 hb0 hm (Nat.le_trans hB (below_alloc w _).size)
  refine ⟨v', w', hr, ho, (foot_alloc _ w _).trans (foot_grown hg) (fun _ e => .inl e), fun k e => ?_⟩
  rcases hm with hm | hm
  · exact .inl (by rw [← hm]; exact e)
  · rw [hm] at e; cases e; exact .inr (below_alloc w _).size
end
end Go.Proofs.YtlmnnjibggdboaaGreatDoor
namespace Go.Proofs.YtlmnnjibggdboaaGreatDoor
section
open Go.RowKit
variable {w0 w w1 w2 w' : World} {B g go m a h k p : Nat} {v v1 : Value} {ws : List Nat} {t t1 t' : Nat} {es es1 es' : List Ent} {T T1 T' : Nat → Ob}
theorem eqGuard40 : Tryz.prog.eqGuardType Tryz.prog.depth 40 = false := by kernel_rfl
theorem eql_cap (p o r c p' o' r' c' : Int) (w : World) : (binOp .eql 40 (.agg #[.int .u64 p, .int .u32 o, .int .u8 r, .int .u64 c]) (.agg #[.int .u64 p', .int .u32 o', .int .u8 r', .int .u64 c'])).run Tryz.prog w = .ok (.bool (decide (p = p' ∧ o = o' ∧ r = r' ∧ c = c'))) w := by
  have hS : Tryz.prog.underlying 40 = some (.struct (Tryz.prog.fieldsOf 40)) := by kernel_rfl
  have hp : Tryz.prog.stoodInHeld 40 = false := by kernel_rfl
  rw [run_eql_struct, show (10000 : Nat) = 9999 + 1 from rfl, run_equalIn_agg w 9999 40 _ _ hS hp]
  simp only [Program.fieldsOf, Tryz.underlying40]
  have u1 := Tryz.underlying32
  have u2 := Tryz.underlying38
  have u3 := Tryz.underlying5
  go_simp
  by_cases h1 : p = p' <;> by_cases h2 : o = o' <;> by_cases h3 : r = r' <;> by_cases h4 : c = c' <;> simp [h1, h2, h3, h4]
theorem Sd.made (S : Tk w0 w B go m a h k v ws 0 []) (tb : Tb w' w.heap.size p go noneO) (b : Below w.heap.size w w') : Sd w0 w' w.heap.size p ws 0 [] noneO := ⟨_, _, _, _, _, _, _, ⟨S.grow b, tb, S.new.bel.size⟩⟩
theorem cutN_58 : cutN [5, 8] = [5, 8] := by decide
theorem row_58 (w : World) : RowN (w.alloc (.cells #[.int .u64 5, .int .u64 8] 32)) .u64 32 w.heap.size [5, 8] := heap_alloc_new _ _
theorem u64s_58 (w : World) : U64s (w.alloc (.cells #[.int .u64 5, .int .u64 8] 32)) (some ⟨w.heap.size, 0, none⟩) 2 2 [5, 8] :=
  (row_58 w).u64s (by decide) (fun j => by
    rcases j with _ | _ | j <;> simp)
end
end Go.Proofs.YtlmnnjibggdboaaGreatDoor
namespace Go.Proofs.YtlmnnjibggdboaaGreatDoor
section
open Go.RowKit
def sprE (j : Nat) : Nat := 65536 * (j + 1) + 23040
def sprL (n : Nat) : List Nat := (List.range n).map sprE
theorem sprL_len (n : Nat) : (sprL n).length = n := by simp [sprL]
theorem sprL_succ (n : Nat) : sprL (n + 1) = sprL n ++ [sprE n] := by simp [sprL, List.range_succ]
theorem sprL_get {n j : Nat} (h : j < n) : (sprL n).getD j 0 = sprE j := by
  unfold sprL
  rw [List.getD_eq_getElem?_getD, List.getElem?_map, List.getElem?_range h]; rfl
theorem sprL_word (n j : Nat) (h : n ≤ 1000) : (sprL n).getD j 0 ≤ 281474976710655 := by
  by_cases e : j < n
  · rw [sprL_get e]; unfold sprE; omega
  · rw [List.getD_eq_getElem?_getD, List.getElem?_eq_none (by rw [sprL_len]; omega)]; simp
theorem sprL_cut (n : Nat) (h : n ≤ 1000) : cutN (sprL n) = sprL n := by
  unfold cutN sprL
  rw [List.map_map]
  refine List.map_congr_left fun j hj => ?_
  have := List.mem_range.1 hj
  show sprE j % _ = sprE j
  unfold sprE; omega
def cellsN (l : List Nat) : List Value := l.map fun x : Nat => Value.int .u64 (x : Int)
theorem owns_u64s {w : World} {B n : Nat} {v : Value} {l : List Nat} (h : w.ownsRow B 32 1 v n (cellsN l)) (hb : ∀ j, l.getD j 0 ≤ 18446744073709551615) : ∃ ao cap, v = .slice ao n cap ∧ U64s w ao n cap l := by
  obtain ⟨ao, cap, rfl, h1, h2, h3, h4, h5⟩ := owns_lies h
  refine ⟨ao, cap, rfl, by simpa [cellsN] using h1.symm, h2, h3, h4, fun ad e j hj => h5 ad e j _ ?_, hb⟩
  unfold cellsN
  rw [List.getElem?_map, List.getD_eq_getElem?_getD, List.getElem?_eq_getElem hj]; rfl
theorem spr_or (j : Nat) (h : j < 1000) : bits .or .u64 (((j + 1 : Nat) : Int) * 65536) 23040 = ((sprE j : Nat) : Int) := by
  have e1 : ((j + 1 : Nat) : Int) * 65536 = (((j + 1) * 65536 : Nat) : Int) := by omega
  rw [e1, u64_or _ _ (by omega) (by omega) (by omega) (by omega)]
  show ((((j + 1) * 65536) ||| 23040 : Nat) : Int) = _
  rw [show (j + 1) * 65536 = 2 ^ 16 * (j + 1) by omega, ← Nat.two_pow_add_eq_or_of_lt (by omega : 23040 < 2 ^ 16)]
  unfold sprE
  omega
theorem below_foot_own {B n : Nat} {w0 w w' : World} {e : TypeId} {v : Value} {xs : List Value} {sz : Nat} (b : Below B w0 w) (h : w.ownsRow B e sz v n xs) (f : Foot (fun k => v.ownBlock = some k) w w') (hB : B ≤ w.heap.size) : Below B w0 w' :=
  b.trans (f.below hB fun _ e => (owns_block h e).choose_spec.2)
def SprRel (w : World) (n gk : Nat) (vo vk : Value) (wr : World) : Prop := ∃ i q : Nat, i + gk = n ∧ i + 1 = q ∧ vk = .int .i64 (q : Int) ∧ wr.ownsRow w.heap.size 32 1 vo i (cellsN (sprL i)) ∧ Below w.heap.size w wr
end
end Go.Proofs.YtlmnnjibggdboaaGreatDoor
namespace Go.Proofs.YtlmnnjibggdboaaGreatDoor
section
variable {ws : List Nat} {t t1 p : Nat} {es : List Ent} {T : Nat → Ob} {s r x : Nat}
def HasA (es : List Ent) (s r x : Nat) : Prop := if r = 255 then x = s % 281474976710656 else ∃ j, findE es 1 ((s % 281474976710656) ^^^ r) = some j ∧ (es.getD j Ent.zero).o = x
theorem has_of (h : HasA es s r x) : ofF ws t es s r = ⟨x, true, t, es⟩ := by
  unfold HasA at h
  unfold ofF
  by_cases e : r = 255
  · rw [if_pos e] at h ⊢; rw [h]
  · rw [if_neg e] at h ⊢
    obtain ⟨j, h1, h2⟩ := h
    unfold ansF
    rw [h1]
    simp only [h2]
theorem find_app {es : List Ent} {f : Int} {i j : Nat} (h : findE es f i = some j) (more : List Ent) : findE (es ++ more) f i = some j ∧ ((es ++ more).getD j Ent.zero) = es.getD j Ent.zero := by
  refine ⟨?_, ?_⟩
  · unfold findE at h ⊢
    rw [List.findIdx?_append, h]; rfl
  · have := (findE_some h).1
    rw [List.getD_eq_getElem?_getD, List.getD_eq_getElem?_getD, List.getElem?_append_left this]
theorem HasA.ext (h : HasA es s r x) (more : List Ent) : HasA (es ++ more) s r x := by
  unfold HasA at h ⊢
  by_cases e : r = 255
  · rw [if_pos e] at h ⊢; exact h
  · rw [if_neg e] at h ⊢
    obtain ⟨j, h1, h2⟩ := h
    obtain ⟨h3, h4⟩ := find_app h1 more
    exact ⟨j, h3, by rw [h4]; exact h2⟩
/- what an answer leaves -/
theorem of_cases (ws : List Nat) (t : Nat) (es : List Ent) (s r : Nat) :
    (∃ x, HasA es s r x ∧ ofF ws t es s r = ⟨x, true, t, es⟩) ∨
    (r ≠ 255 ∧ findE es 1 ((s % 281474976710656) ^^^ r) = none ∧ t < ws.length ∧ ofF ws t es s r = ⟨ws.getD t 0, true, t + 1, es ++ [⟨1, (s % 281474976710656) ^^^ r, ws.getD t 0⟩]⟩) ∨
    (ws.length ≤ t ∧ ofF ws t es s r = ⟨0, false, t, es⟩) := by
  by_cases e : r = 255
  · have h : HasA es s r (s % 281474976710656) := by unfold HasA; rw [if_pos e]
    exact .inl ⟨_, h, has_of h⟩
  · cases hf : findE es 1 ((s % 281474976710656) ^^^ r) with
    | some j =>
      have h : HasA es s r (es.getD j Ent.zero).o := by unfold HasA; rw [if_neg e]; exact ⟨j, hf, rfl⟩
      exact .inl ⟨_, h, has_of h⟩
    | none =>
      by_cases ht : t < ws.length
      · refine .inr (.inl ⟨e, rfl, ht, ?_⟩)
        unfold ofF ansF; rw [if_neg e, hf]; simp only; rw [if_pos ht]
      · refine .inr (.inr ⟨by omega, ?_⟩)
        unfold ofF ansF; rw [if_neg e, hf]; simp only; rw [if_neg ht]
theorem of_ext (ws : List Nat) (t : Nat) (es : List Ent) (s r : Nat) : ∃ more, (ofF ws t es s r).es = es ++ more := by
  rcases of_cases ws t es s r with ⟨x, _, e⟩ | ⟨_, _, _, e⟩ | ⟨_, e⟩ <;> rw [e]
  · exact ⟨[], by simp⟩
  · exact ⟨_, rfl⟩
  · exact ⟨[], by simp⟩
theorem of_t (ws : List Nat) (t : Nat) (es : List Ent) (s r : Nat) : t ≤ (ofF ws t es s r).t ∧ (ofF ws t es s r).t ≤ t + 1 := by
  rcases of_cases ws t es s r with ⟨x, _, e⟩ | ⟨_, _, _, e⟩ | ⟨_, e⟩ <;> rw [e] <;> simp
theorem of_ok (h : t < ws.length) (es : List Ent) (s r : Nat) : (ofF ws t es s r).ok = true := by
  rcases of_cases ws t es s r with ⟨x, _, e⟩ | ⟨_, _, _, e⟩ | ⟨h2, e⟩
  · rw [e]
  · rw [e]
  · omega
theorem of_has (h : (ofF ws t es s r).ok = true) : HasA (ofF ws t es s r).es s r (ofF ws t es s r).x := by
  rcases of_cases ws t es s r with ⟨x, hx, e⟩ | ⟨e0, hf, _, e⟩ | ⟨_, e⟩
  · rw [e]; exact hx
  · rw [e]
    unfold HasA
    rw [if_neg e0]
    refine ⟨es.length, ?_, by simp only; rw [getD_snoc_end]⟩
    simp only
    rw [findE_snoc, hf]; simp
  · rw [e] at h; cases h
theorem has_owner (hs : s ≤ 281474976710655) : HasA es s 255 s := by
  unfold HasA; rw [if_pos rfl, Nat.mod_eq_of_lt (by omega)]
/- a capability that is good, and one that is not -/
theorem chk_good {c : Cp} {need : Nat} (hp : c.p = p) (hh : hasO T c.o = true) (hx : HasA es (T c.o).s c.r c.c) : chkF ws t es p T c need = if c.r &&& need = need then ⟨c.o, 0, t, es⟩ else ⟨0, 2, t, es⟩ := by
  unfold chkF
  rw [if_neg (fun e => by rcases e with e | e; exact e hp; rw [hh] at e; cases e), has_of hx]
  simp only
  rw [if_neg (by simp), if_neg (by simp)]
  by_cases h : c.r &&& need = need
  · rw [if_pos h, if_neg (fun e => e h)]
  · rw [if_neg h, if_pos h]
theorem chk_bad {c : Cp} {need : Nat} (hp : c.p = p) (hh : hasO T c.o = true) (ho : (ofF ws t es (T c.o).s c.r).ok = true) (hx : c.c ≠ (ofF ws t es (T c.o).s c.r).x) : chkF ws t es p T c need = ⟨0, 1, (ofF ws t es (T c.o).s c.r).t, (ofF ws t es (T c.o).s c.r).es⟩ := by
  unfold chkF
  rw [if_neg (fun e => by rcases e with e | e; exact e hp; rw [hh] at e; cases e), if_neg (by rw [ho]; simp), if_pos hx]
theorem chk_none {c : Cp} {need : Nat} (hh : c.p ≠ p ∨ hasO T c.o = false) : chkF ws t es p T c need = ⟨0, 1, t, es⟩ := by
  unfold chkF; rw [if_pos hh]
/- draws that are unlike; answers that are such -/
def Unlike (ws : List Nat) : Prop := ∀ i j, i < ws.length → j < ws.length → ws.getD i 0 = ws.getD j 0 → i = j
structure Outs (ws : List Nat) (t : Nat) (es : List Ent) : Prop where
  le : t ≤ ws.length
  drawn : ∀ j, j < es.length → ∃ i, i < t ∧ (es.getD j Ent.zero).o = ws.getD i 0
  apart : ∀ i j, i < es.length → j < es.length → (es.getD i Ent.zero).o = (es.getD j Ent.zero).o → i = j
theorem Outs.more (h : Outs ws t es) (ht : t < ws.length) : Outs ws (t + 1) es :=
  ⟨by omega, fun j hj => by obtain ⟨i, h1, h2⟩ := h.drawn j hj; exact ⟨i, by omega, h2⟩, h.apart⟩
theorem Outs.snoc (h : Outs ws t es) (hu : Unlike ws) (ht : t < ws.length) (f : Int) (i : Nat) : Outs ws (t + 1) (es ++ [⟨f, i, ws.getD t 0⟩]) := by
  have get : ∀ j, j < (es ++ [Ent.mk f i (ws.getD t 0)]).length → (j < es.length ∧ (es ++ [Ent.mk f i (ws.getD t 0)]).getD j Ent.zero = es.getD j Ent.zero) ∨ (j = es.length ∧ (es ++ [Ent.mk f i (ws.getD t 0)]).getD j Ent.zero = ⟨f, i, ws.getD t 0⟩) := by
    intro j hj
    rw [List.length_append] at hj
    simp only [List.length_cons, List.length_nil] at hj
    by_cases e : j < es.length
    · exact .inl ⟨e, getD_snoc_lt es _ j e⟩
    · obtain rfl : j = es.length := by omega
      exact .inr ⟨rfl, getD_snoc_end es _⟩
  have no : ∀ j, j < es.length → (es.getD j Ent.zero).o ≠ ws.getD t 0 := by
    intro j hj e
    obtain ⟨k, h1, h2⟩ := h.drawn j hj
    rw [h2] at e
    have := hu k t (by omega) ht e
    omega
  refine ⟨by omega, fun j hj => ?_, fun a b ha hb e => ?_⟩
  · rcases get j hj with ⟨h1, h2⟩ | ⟨_, h2⟩
    · obtain ⟨k, h3, h4⟩ := h.drawn j h1
      exact ⟨k, by omega, by rw [h2]; exact h4⟩
    · exact ⟨t, by omega, by rw [h2]⟩
  · rcases get a ha with ⟨h1, h2⟩ | ⟨h1, h2⟩ <;> rcases get b hb with ⟨h3, h4⟩ | ⟨h3, h4⟩ <;> rw [h2, h4] at e
    · exact h.apart a b h1 h3 e
    · exact absurd e (no a h1)
    · exact absurd e.symm (no b h3)
    · omega
theorem Outs.of (h : Outs ws t es) (hu : Unlike ws) (s r : Nat) : Outs ws (ofF ws t es s r).t (ofF ws t es s r).es := by
  rcases of_cases ws t es s r with ⟨x, _, e⟩ | ⟨_, _, ht, e⟩ | ⟨_, e⟩ <;> rw [e]
  · exact h
  · exact h.snoc hu ht _ _
  · exact h
theorem outs_nil (ws : List Nat) {t : Nat} (h : t ≤ ws.length) : Outs ws t [] := ⟨h, fun j hj => by simp at hj, fun i j hi _ _ => by simp at hi⟩
theorem xor_inj {a b r : Nat} (h : a ^^^ r = b ^^^ r) : a = b := by
  have := congrArg (· ^^^ r) h
  simpa [Nat.xor_assoc] using this
/- what was told of one draw's secret is not the check of another's -/
theorem unlike_of {a b : Nat} (h : Outs ws t es) (hu : Unlike ws) (hw : ∀ j, ws.getD j 0 ≤ 281474976710655) (ha : a < t) (hb : b < t) (hab : a ≠ b) (hx : HasA es (ws.getD a 0) r x) (ho : (ofF ws t es (ws.getD b 0) r).ok = true) : x ≠ (ofF ws t es (ws.getD b 0) r).x := by
  have hne : ws.getD a 0 ≠ ws.getD b 0 := fun e => hab (hu a b (by have := h.le; omega) (by have := h.le; omega) e)
  have ma : ws.getD a 0 % 281474976710656 = ws.getD a 0 := Nat.mod_eq_of_lt (by have := hw a; omega)
  have mb : ws.getD b 0 % 281474976710656 = ws.getD b 0 := Nat.mod_eq_of_lt (by have := hw b; omega)
  have hx0 := hx
  unfold HasA at hx
  by_cases e : r = 255
  · rw [if_pos e, ma] at hx
    subst e
    rw [of_owner, mb, hx]
    exact hne
  · rw [if_neg e, ma] at hx
    obtain ⟨j, h1, h2⟩ := hx
    have f1 := findE_some h1
    rcases of_cases ws t es (ws.getD b 0) r with ⟨y, hy, e1⟩ | ⟨_, _, ht, e1⟩ | ⟨_, e1⟩
    · rw [e1]
      unfold HasA at hy
      rw [if_neg e, mb] at hy
      obtain ⟨k, h3, h4⟩ := hy
      have f2 := findE_some h3
      intro exy
      simp only at exy
      have := h.apart j k f1.1 f2.1 (by rw [h2, h4]; exact exy)
      subst this
      exact hne (xor_inj (f1.2.2.symm.trans f2.2.2))
    · rw [e1]
      intro exy
      simp only at exy
      obtain ⟨i, h3, h4⟩ := h.drawn j f1.1
      rw [h2, exy] at h4
      have := hu t i ht (by omega) h4
      omega
    · rw [e1] at ho; cases ho
theorem spr_unlike (n : Nat) : Unlike (sprL n) := by
  intro i j hi hj e
  rw [sprL_len] at hi hj
  rw [sprL_get hi, sprL_get hj] at e
  unfold sprE at e
  omega
end
end Go.Proofs.YtlmnnjibggdboaaGreatDoor
namespace Go.Proofs.YtlmnnjibggdboaaGreatDoor
section
open Go.RowKit
variable {ws : List Nat} {t t1 p : Nat} {es : List Ent} {T : Nat → Ob} {s r x : Nat}
theorem of_word (h : Outs ws t es) (hw : ∀ j, ws.getD j 0 ≤ 281474976710655) (s r : Nat) : (ofF ws t es s r).x ≤ 281474976710655 := by
  rcases of_cases ws t es s r with ⟨x, hx, e⟩ | ⟨_, _, ht, e⟩ | ⟨_, e⟩ <;> rw [e]
  · unfold HasA at hx
    split at hx
    · show x ≤ _; omega
    · obtain ⟨j, h1, h2⟩ := hx
      obtain ⟨i, _, h3⟩ := h.drawn j (findE_some h1).1
      show x ≤ _
      rw [← h2, h3]; exact hw i
  · exact hw t
  · exact Nat.zero_le _
theorem cp_ok {p o r c : Nat} (hp : p ≤ 18446744073709551615) (ho : o ≤ 4294967295) (hr : r ≤ 255) (hc : c ≤ 281474976710655) : (Cp.mk p o r c).ok := ⟨hp, ho, hr, (Nat.le_trans hc (by decide) : c ≤ 18446744073709551615)⟩
theorem and_owner {m : Nat} (h : m ≤ 255) : 255 &&& m = m := by
  rw [Nat.and_comm, show (255 : Nat) = 2 ^ 8 - 1 from rfl, Nat.and_two_pow_sub_one_eq_mod]; omega
theorem and_le {a b : Nat} (h : a ≤ 255) : a &&& b ≤ 255 := Nat.le_trans Nat.and_le_left h
theorem and_none (a : Nat) : a &&& 0 = 0 := Nat.and_zero a
theorem cre_at {k : Nat} (v : Int) (hk : freeO T = k) (h : k < 64) (ht : t < ws.length) : creF ws t es p T v = ⟨⟨p, k, 255, ws.getD t 0⟩, 0, t + 1, es, updO T k ⟨ws.getD t 0, 0, v, 24⟩⟩ := by
  unfold creF; rw [hk, if_pos h, if_pos ht]
theorem res_good {c : Cp} {mask : Nat} (hp : c.p = p) (hh : hasO T c.o = true) (hx : HasA es (T c.o).s c.r c.c) (ho : (ofF ws t es (T c.o).s (c.r &&& mask)).ok = true) :
    resF ws t es p T c mask = ⟨⟨p, c.o, c.r &&& mask, (ofF ws t es (T c.o).s (c.r &&& mask)).x⟩, 0, (ofF ws t es (T c.o).s (c.r &&& mask)).t, (ofF ws t es (T c.o).s (c.r &&& mask)).es, T⟩ := by
  have e : chkF ws t es p T c 0 = ⟨c.o, 0, t, es⟩ := by rw [chk_good hp hh hx, if_pos (and_none _)]
  unfold resF
  rw [e]
  simp only [if_true, ho]
  unfold cabF
  rw [ho]; rfl
theorem rev_good {c : Cp} (hp : c.p = p) (hr : c.r = 255) (hh : hasO T c.o = true) (hx : HasA es (T c.o).s c.r c.c) (ht : t < ws.length) :
    revF ws t es p T c = ⟨⟨p, c.o, 255, ws.getD t 0⟩, 0, t + 1, es, updO T c.o (revO (T c.o) (ws.getD t 0))⟩ := by
  have e : chkF ws t es p T c 255 = ⟨c.o, 0, t, es⟩ := by rw [chk_good hp hh hx, if_pos (by rw [hr]; rfl)]
  unfold revF
  rw [e]
  simp only [if_true]
  rw [if_pos ht]
theorem free_none : freeO noneO = 0 := freeO_eq (by omega) rfl (fun j hj => by omega)
theorem has_upd {k : Nat} {y : Ob} (hk : k < 64) (hl : 0 < y.l) : hasO (updO T k y) k = true := hasO_of hk (by rw [updO_same]; exact hl)
variable {w0 w w1 w2 : World} {g : Nat}
end
end Go.Proofs.YtlmnnjibggdboaaGreatDoor
namespace Go.Proofs.YtlmnnjibggdboaaGreatDoor
section
open Go.RowKit
variable {w0 w w1 w2 w' : World} {g p : Nat} {ws : List Nat} {t : Nat} {es : List Ent} {T : Nat → Ob}
def Cp.cells (c : Cp) : List Value := [.int .u64 (c.p : Int), .int .u32 (c.o : Int), .int .u8 (c.r : Int), .int .u64 (c.c : Int)]
def cellsC (L : List Cp) : List Value := L.flatMap Cp.cells
theorem cellsC_snoc (L : List Cp) (c : Cp) : cellsC (L ++ [c]) = cellsC L ++ c.cells := by simp [cellsC]
theorem cellsC_get (L : List Cp) (k f : Nat) (h : k < L.length) (hf : f < 4) : (cellsC L)[k * 4 + f]? = (L.getD k Cp.zero).cells[f]? := by
  induction L generalizing k with
  | nil => simp at h
  | cons x r ih =>
    simp only [cellsC, List.flatMap_cons] at ih ⊢
    cases k with
    | zero => rw [List.getElem?_append_left (by show _ < 4; omega)]; simp
    | succ k =>
      rw [List.getElem?_append_right (by show 4 ≤ _; omega)]
      show (List.flatMap Cp.cells r)[(k + 1) * 4 + f - 4]? = _
      rw [show (k + 1) * 4 + f - 4 = k * 4 + f from by omega, ih k (by simpa using h)]
      rfl
/- an element, where it lies -/
theorem owns_cap {B n : Nat} {v : Value} {L : List Cp} (h : w.ownsRow B 40 4 v n (cellsC L)) (hn : n = L.length) (k : Nat) (hk : k < n) (p o r c : Nat) (hc : L.getD k Cp.zero = ⟨p, o, r, c⟩) :
    ∃ b cap, v = .slice (some ⟨b, 0, none⟩) n cap ∧ n ≤ cap ∧ cap ≤ maxLen ∧ w.cell? ⟨b, k * 4, none⟩ = some (.int .u64 (p : Int)) ∧ w.cell? ⟨b, k * 4 + 1, none⟩ = some (.int .u32 (o : Int)) ∧ w.cell? ⟨b, k * 4 + 2, none⟩ = some (.int .u8 (r : Int)) ∧ w.cell? ⟨b, k * 4 + 3, none⟩ = some (.int .u64 (c : Int)) := by
  have get := fun f hf => cellsC_get L k f (by omega) hf
  rw [hc] at get
  rcases h.2 with ⟨rfl, rfl⟩ | ⟨b, cap, cur, rfl, h1, h2, h3, h4, h5, h6⟩
  · omega
  · refine ⟨b, cap, rfl, h3, h4, ?_, ?_, ?_, ?_⟩
    · rw [← add0]; exact h.cells (g := b) rfl (k * 4) _ (get 0 (by omega))
    · rw [← add0]; exact h.cells (g := b) rfl (k * 4 + 1) _ (get 1 (by omega))
    · rw [← add0]; exact h.cells (g := b) rfl (k * 4 + 2) _ (get 2 (by omega))
    · rw [← add0]; exact h.cells (g := b) rfl (k * 4 + 3) _ (get 3 (by omega))
theorem owns_form {B n : Nat} {v : Value} {L : List Cp} (h : w.ownsRow B 40 4 v n (cellsC L)) : ∃ ao cap, v = .slice ao n cap ∧ n ≤ cap ∧ cap ≤ maxLen := by
  obtain ⟨ao, cap, e, h1, h2, h3, _⟩ := owns_lies h
  exact ⟨ao, cap, e, h2, h3⟩
theorem Tryz.infoC : (Tryz.prog.info? 40).map (fun i => (i.zero, i.size, i.bytes)) = some (some (.agg #[.int .u64 0, .int .u32 0, .int .u8 0, .int .u64 0]), 4, 24) := by kernel_rfl
theorem app_cap {B n : Nat} {v : Value} {L : List Cp} (p o r c : Nat) (h : w.ownsRow B 40 4 v n (cellsC L)) (hn : n ≤ 5000000000000) (hB : B ≤ w.heap.size) :
    ∃ v' w', (Builtin.append_ #[49, 49] 49 #[v, .slice (some ⟨w.heap.size, 0, none⟩) 1 1]).run Tryz.prog (w.alloc (.cells #[.int .u64 (p : Int), .int .u32 (o : Int), .int .u8 (r : Int), .int .u64 (c : Int)] 40)) = .ok v' w' ∧ w'.ownsRow B 40 4 v' (n + 1) (cellsC (L ++ [⟨p, o, r, c⟩])) ∧ Foot (fun k => v.ownBlock = some k) w w' ∧ Moved w v v' := by
  obtain ⟨v', w', h1, h2, h3, h4⟩ := app_elem (ty := 49) #[.int .u64 (p : Int), .int .u32 (o : Int), .int .u8 (r : Int), .int .u64 (c : Int)] Tryz.underlying49 Tryz.infoC rfl (by omega) rfl (by intro u hu; simp at hu; rcases hu with rfl | rfl | rfl | rfl <;> rfl) (by omega) (by unfold maxLen; omega) h hB
  exact ⟨v', w', h1, by rw [cellsC_snoc]; exact h2, h3, h4⟩
theorem Sd.row (x : Sd w0 w g p ws t es T) {B n : Nat} {v : Value} {xs : List Value} (h : w.ownsRow B 40 4 v n xs) (hB : w0.heap.size ≤ B) (f : Foot (fun k => v.ownBlock = some k) w w') : Sd w0 w' g p ws t es T := by
  refine x.off f fun b e => ?_
  obtain ⟨cur, h1, h2⟩ := owns_block h e
  exact ⟨Nat.le_trans hB h2, .inr ⟨cur, _, h1, cap_odd, by decide⟩⟩
theorem owns_grow {B n : Nat} {v : Value} {e : TypeId} {sz : Nat} {xs : List Value} (h : w.ownsRow B e sz v n xs) (b : Below w.heap.size w w') : w'.ownsRow B e sz v n xs := owns_foot h (below_foot (fun _ => False) b) (fun _ _ e => e)
end
end Go.Proofs.YtlmnnjibggdboaaGreatDoor
