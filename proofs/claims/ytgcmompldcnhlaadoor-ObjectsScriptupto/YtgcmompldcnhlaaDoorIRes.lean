/-
  What objects' Restrict answers, as a contract.
-/
import Derived.Test.YtgcmompldcnhlaaDoorICreate
namespace Go.Proofs.YtgcmompldcnhlaaDoor
open Go.RowKit
variable {w0 w w1 w2 : World} {B g go m a h k p : Nat} {v v1 : Value} {ws : List Nat} {t t1 : Nat} {es es1 : List Ent} {T T1 : Nat → Ob}
set_option maxHeartbeats 1600000 in
theorem restrict_no (c : Cp) (mask : Nat) (w : World) (x : Od w0 w B g go m a h k p v ws t es T) (hc : c.ok) (hl : es.length < 5000000000000) (K : Chk) (hK : chkF ws t es p T c 0 = K) (hn : K.e ≠ 0) :
    Calls Tryd.prog 17 #[.pointer (some ⟨g, 0, none⟩), c.val, .int .u8 (mask : Int)] w fun e w' => e = .returned (.tuple #[Cp.zero.val, erN (K.e : Int)]) ∧ OdEnd w0 w B g go m a h k p v ws w' K.t K.es T := by
  obtain ⟨cp, co, cr, cc⟩ := c
  obtain ⟨Y0, hY0⟩ : ∃ Y, w.alloc (.cells #[.int .u64 (cp : Int), .int .u32 (co : Int), .int .u8 (cr : Int), .int .u64 (cc : Int)] 49) = Y := ⟨_, rfl⟩
  obtain ⟨Y, hY⟩ : ∃ Y, Y0.alloc (.cells #[.int .u64 0, .int .u32 0, .int .u8 0, .int .u64 0] 49) = Y := ⟨_, rfl⟩
  have b0 : Below w.heap.size w Y0 := hY0 ▸ below_alloc w _
  have b1 : Below Y0.heap.size Y0 Y := hY ▸ below_alloc Y0 _
  have bY := below_one b0 b1
  have sY0 : Y0.heap.size = w.heap.size + 1 := hY0 ▸ size_al w _
  obtain ⟨G, hG⟩ : ∃ G, Y0.heap.size = G := ⟨_, rfl⟩
  have HC : Hid (CBox Y w.heap.size cp co cr cc) := (hY0 ▸ CBox.new w cp co cr cc : CBox Y0 w.heap.size cp co cr cc).grow b1
  have HD : Hid (CBox Y G 0 0 0 0) := by
    have := CBox.new Y0 0 0 0 0
    rw [hG] at this
    exact hY ▸ this
  have HK := hide (x.grow bY)
  have HB := hide bY
  have HW := hide x.tk.new.bel.size
  have HG := hide (show w.heap.size ≤ G by omega)
  have hne : ¬ w.heap.size = G := by omega
  have HOK := hide hc
  have HL := hide hl
  have c0 := HC.out.c0
  have c1 := HC.out.c1
  have c2 := HC.out.c2
  have c3 := HC.out.c3
  have HKK := hide hK
  rw [erN_not (by omega : (K.e : Int) ≠ 0)]
  have HN := hide (erN_not (by omega : (K.e : Int) ≠ 0))
  clear hK hn
  clear x b0 b1 bY sY0 hl hc
  simp only [Cp.val]
  go_enter Tryd.func17, Tryd.ntmps17
  go_wp2_with fail
  refine (check_any ⟨cp, co, cr, cc⟩ 0 _ HK.out HOK.out (by omega) (by have := HL.out; omega) K HKK.out).mono ?_
  rintro e w2 ⟨rfl, E2⟩
  obtain ⟨v2, S2, F2, hv2⟩ := E2
  have HS2 := hide S2
  have HC2 := hide (HC.out.od HK.out F2)
  have HD2 := hide (HD.out.od HK.out F2)
  have HE2 : Hid (∀ (t' : Nat) es' T' wz, OdEnd w0 w2 B g go m a h k p v2 ws wz t' es' T' → OdEnd w0 w B g go m a h k p v ws wz t' es' T') := fun t' es' T' wz E => (OdEnd.on F2 hv2 E).from HB.out
  clear S2 F2 hv2 c0 c1 c2 c3
  rw [HN.out]
  have d0 : w2.cell? ⟨G, 0, none⟩ = some (.int .u64 0) := HD2.out.c0
  have d1 : w2.cell? ⟨G, 1, none⟩ = some (.int .u32 0) := HD2.out.c1
  have d2 : w2.cell? ⟨G, 2, none⟩ = some (.int .u8 0) := HD2.out.c2
  have d3 : w2.cell? ⟨G, 3, none⟩ = some (.int .u64 0) := HD2.out.c3
  have z := HD2.out.z
  go_wp2
  refine bodyPost_ret (by simp [results, Tryd.results17, go_sem, d0, d1, d2, d3]; rfl) rfl ?_
  exact ⟨rfl, (HE2.out _ _ _ _ HS2.out.stay).cap HD2.out.capB HW.out HG.out (foot4 _ _ _ _ _ _)⟩
set_option maxHeartbeats 1600000 in
theorem restrict_yes (c : Cp) (mask : Nat) (w : World) (x : Od w0 w B g go m a h k p v ws t es T) (hc : c.ok) (hm : mask ≤ 255) (hl : es.length < 5000000000000) (K : Chk) (hK : chkF ws t es p T c 0 = K) (hn : K.e = 0) (X : Ans) (hX : ofF ws K.t K.es (T K.k).s (c.r &&& mask) = X) :
    Calls Tryd.prog 17 #[.pointer (some ⟨g, 0, none⟩), c.val, .int .u8 (mask : Int)] w fun e w' => e = .returned (.tuple #[(cabF p K.k (c.r &&& mask) X).val, erV X.ok]) ∧ OdEnd w0 w B g go m a h k p v ws w' X.t X.es T := by
  obtain ⟨cp, co, cr, cc⟩ := c
  obtain ⟨Y0, hY0⟩ : ∃ Y, w.alloc (.cells #[.int .u64 (cp : Int), .int .u32 (co : Int), .int .u8 (cr : Int), .int .u64 (cc : Int)] 49) = Y := ⟨_, rfl⟩
  obtain ⟨Y, hY⟩ : ∃ Y, Y0.alloc (.cells #[.int .u64 0, .int .u32 0, .int .u8 0, .int .u64 0] 49) = Y := ⟨_, rfl⟩
  have b0 : Below w.heap.size w Y0 := hY0 ▸ below_alloc w _
  have b1 : Below Y0.heap.size Y0 Y := hY ▸ below_alloc Y0 _
  have bY := below_one b0 b1
  have sY0 : Y0.heap.size = w.heap.size + 1 := hY0 ▸ size_al w _
  obtain ⟨G, hG⟩ : ∃ G, Y0.heap.size = G := ⟨_, rfl⟩
  have HC : Hid (CBox Y w.heap.size cp co cr cc) := (hY0 ▸ CBox.new w cp co cr cc : CBox Y0 w.heap.size cp co cr cc).grow b1
  have HD : Hid (CBox Y G 0 0 0 0) := by
    have := CBox.new Y0 0 0 0 0
    rw [hG] at this
    exact hY ▸ this
  have HK := hide (x.grow bY)
  have HB := hide bY
  have HW := hide x.tk.new.bel.size
  have HG := hide (show w.heap.size ≤ G by omega)
  have hne : ¬ w.heap.size = G := by omega
  have HOK := hide hc
  have HL := hide hl
  have c0 := HC.out.c0
  have c1 := HC.out.c1
  have c2 := HC.out.c2
  have c3 := HC.out.c3
  have HKK := hide hK
  have HKL : Hid (K.k < 64) := by rw [← hK]; exact chk_lt (by rw [hK]; exact hn)
  have HES : Hid (K.es.length ≤ 5000000000000) := by
    have := chk_len ws t es p T ⟨cp, co, cr, cc⟩ 0
    rw [hK] at this
    show _ ≤ _
    omega
  have HX : Hid (ofF ws K.t K.es (T K.k).s (cr &&& mask) = X) := hX
  have HN := hide (show erN (K.e : Int) = .nilIface by rw [hn]; rfl)
  have hand := and_nat cr mask hc.2.2.1 hm
  have HCM : Hid (cr &&& mask ≤ 255) := Nat.le_trans Nat.and_le_left hc.2.2.1
  obtain ⟨cm, hcm⟩ : ∃ cm, cr &&& mask = cm := ⟨_, rfl⟩
  rw [show (Cp.mk cp co cr cc).r &&& mask = cm from hcm]
  rw [hcm] at hand HX HCM
  rcases hcb : cabF p K.k cm X with ⟨q, o, r, y⟩
  have HCB := hide hcb
  clear hK hn hX hm hcm hcb
  clear x b0 b1 bY sY0 hl hc
  simp only [Cp.val]
  go_enter Tryd.func17, Tryd.ntmps17
  go_wp2_with fail
  refine (check_any ⟨cp, co, cr, cc⟩ 0 _ HK.out HOK.out (by omega) (by have := HL.out; omega) K HKK.out).mono ?_
  rintro e w2 ⟨rfl, E2⟩
  obtain ⟨v2, S2, F2, hv2⟩ := E2
  have HS2 := hide S2
  have HC2 := hide (HC.out.od HK.out F2)
  have HD2 := hide (HD.out.od HK.out F2)
  have HE2 : Hid (∀ (t' : Nat) es' T' wz, OdEnd w0 w2 B g go m a h k p v2 ws wz t' es' T' → OdEnd w0 w B g go m a h k p v ws wz t' es' T') := fun t' es' T' wz E => (OdEnd.on F2 hv2 E).from HB.out
  clear S2 F2 hv2 c0 c1 c2 c3
  rw [HN.out]
  have k2 := HC2.out.c2
  go_wp2_with fail
  refine (cap_any K.k cm _ HS2.out HKL.out HCM.out HES.out X HX.out).mono ?_
  rintro e w4 ⟨rfl, E4⟩
  rw [HCB.out]
  have HD4 := hide (HD2.out.od HS2.out E4.choose_spec.2.1)
  have HE4 := hide (HE2.out _ _ _ _ E4)
  clear E4 k2
  have d0 : w4.cell? ⟨G, 0, none⟩ = some (.int .u64 0) := HD4.out.c0
  have d1 : w4.cell? ⟨G, 1, none⟩ = some (.int .u32 0) := HD4.out.c1
  have d2 : w4.cell? ⟨G, 2, none⟩ = some (.int .u8 0) := HD4.out.c2
  have d3 : w4.cell? ⟨G, 3, none⟩ = some (.int .u64 0) := HD4.out.c3
  have z := HD4.out.z
  simp only [Cp.val]
  go_wp2
  refine bodyPost_ret (by simp [results, Tryd.results17, go_sem, d0, d1, d2, d3]; rfl) rfl ?_
  exact ⟨rfl, HE4.out.cap HD4.out.capB HW.out HG.out (foot4 _ _ _ _ _ _)⟩
theorem restrict_any (c : Cp) (mask : Nat) (w : World) (x : Od w0 w B g go m a h k p v ws t es T) (hc : c.ok) (hm : mask ≤ 255) (hl : es.length < 5000000000000) (R : Cre) (hR : resF ws t es p T c mask = R) :
    Calls Tryd.prog 17 #[.pointer (some ⟨g, 0, none⟩), c.val, .int .u8 (mask : Int)] w fun e w' => e = .returned (.tuple #[R.c.val, erN (R.e : Int)]) ∧ OdEnd w0 w B g go m a h k p v ws w' R.t R.es R.T := by
  subst hR
  unfold resF
  obtain ⟨K, hK⟩ : ∃ K, chkF ws t es p T c 0 = K := ⟨_, rfl⟩
  rw [hK]
  by_cases hn : K.e = 0
  · rw [if_pos hn]
    obtain ⟨X, hX⟩ : ∃ X, ofF ws K.t K.es (T K.k).s (c.r &&& mask) = X := ⟨_, rfl⟩
    rw [hX]
    refine (restrict_yes c mask w x hc hm hl K hK hn X hX).mono ?_
    rintro e w1 ⟨rfl, E⟩
    refine ⟨?_, E⟩
    obtain ⟨y, ok, t', es'⟩ := X
    cases ok <;> rfl
  · rw [if_neg hn]
    exact restrict_no c mask w x hc hl K hK hn
end Go.Proofs.YtgcmompldcnhlaaDoor
