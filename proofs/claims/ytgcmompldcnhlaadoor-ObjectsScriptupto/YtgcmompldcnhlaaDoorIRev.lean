/-
  What objects' Revoke answers, as a contract.
-/
import Derived.Test.YtgcmompldcnhlaaDoorICreate
namespace Go.Proofs.YtgcmompldcnhlaaDoor
open Go.RowKit
variable {w0 w w1 w2 : World} {B g go m a h k p : Nat} {v v1 : Value} {ws : List Nat} {t t1 : Nat} {es es1 : List Ent} {T T1 : Nat → Ob}
set_option maxHeartbeats 1600000 in
theorem revoke_no (c : Cp) (w : World) (x : Od w0 w B g go m a h k p v ws t es T) (hc : c.ok) (hl : es.length < 5000000000000) (K : Chk) (hK : chkF ws t es p T c 255 = K) (hn : K.e ≠ 0) :
    Calls Tryd.prog 18 #[.pointer (some ⟨g, 0, none⟩), c.val] w fun e w' => e = .returned (.tuple #[Cp.zero.val, erN (K.e : Int)]) ∧ OdEnd w0 w B g go m a h k p v ws w' K.t K.es T := by
  obtain ⟨cp, co, cr, cc⟩ := c
  obtain ⟨Y0, hY0⟩ : ∃ Y, w.alloc (.cells #[.int .u64 (cp : Int), .int .u32 (co : Int), .int .u8 (cr : Int), .int .u64 (cc : Int)] 49) = Y := ⟨_, rfl⟩
  obtain ⟨Y, hY⟩ : ∃ Y, Y0.alloc (.cells #[.int .u64 0, .int .u32 0, .int .u8 0, .int .u64 0] 49) = Y := ⟨_, rfl⟩
  have b0 : Below w.heap.size w Y0 := hY0 ▸ below_alloc w _
  have b1 : Below Y0.heap.size Y0 Y := hY ▸ below_alloc Y0 _
  have bY := below_one b0 b1
  have sY0 : Y0.heap.size = w.heap.size + 1 := hY0 ▸ size_al w _
  obtain ⟨G, hG⟩ : ∃ G, Y0.heap.size = G := ⟨_, rfl⟩
  have HC : Hid (CBox Y w.heap.size cp co cr cc) := (hY0 ▸ CBox.new w cp co cr cc : CBox Y0 w.heap.size cp co cr cc).grow b1
  have HD : Hid (CBox Y G 0 0 0 0) := by
    have := CBox.new Y0 0 0 0 0
    rw [hG] at this
    exact hY ▸ this
  have HK := hide (x.grow bY)
  have HB := hide bY
  have HW := hide x.tk.new.bel.size
  have HG := hide (show w.heap.size ≤ G by omega)
  have hne : ¬ w.heap.size = G := by omega
  have HOK := hide hc
  have HL := hide hl
  have c0 := HC.out.c0
  have c1 := HC.out.c1
  have c2 := HC.out.c2
  have c3 := HC.out.c3
  have HKK := hide hK
  rw [erN_not (by omega : (K.e : Int) ≠ 0)]
  have HN := hide (erN_not (by omega : (K.e : Int) ≠ 0))
  clear hK hn
  clear x b0 b1 bY sY0 hl hc
  simp only [Cp.val]
  go_enter Tryd.func18, Tryd.ntmps18
  go_wp2_with fail
  refine (check_any ⟨cp, co, cr, cc⟩ 255 _ HK.out HOK.out (by omega) (by have := HL.out; omega) K HKK.out).mono ?_
  rintro e w2 ⟨rfl, E2⟩
  obtain ⟨v2, S2, F2, hv2⟩ := E2
  have HS2 := hide S2
  have HC2 := hide (HC.out.od HK.out F2)
  have HD2 := hide (HD.out.od HK.out F2)
  have HE2 : Hid (∀ (t' : Nat) es' T' wz, OdEnd w0 w2 B g go m a h k p v2 ws wz t' es' T' → OdEnd w0 w B g go m a h k p v ws wz t' es' T') := fun t' es' T' wz E => (OdEnd.on F2 hv2 E).from HB.out
  clear S2 F2 hv2 c0 c1 c2 c3
  rw [HN.out]
  have d0 : w2.cell? ⟨G, 0, none⟩ = some (.int .u64 0) := HD2.out.c0
  have d1 : w2.cell? ⟨G, 1, none⟩ = some (.int .u32 0) := HD2.out.c1
  have d2 : w2.cell? ⟨G, 2, none⟩ = some (.int .u8 0) := HD2.out.c2
  have d3 : w2.cell? ⟨G, 3, none⟩ = some (.int .u64 0) := HD2.out.c3
  have z := HD2.out.z
  go_wp2
  refine bodyPost_ret (by simp [results, Tryd.results18, go_sem, d0, d1, d2, d3]; rfl) rfl ?_
  exact ⟨rfl, (HE2.out _ _ _ _ HS2.out.stay).cap HD2.out.capB HW.out HG.out (foot4 _ _ _ _ _ _)⟩
set_option maxHeartbeats 1600000 in
theorem revoke_end (c : Cp) (w : World) (x : Od w0 w B g go m a h k p v ws t es T) (hc : c.ok) (hl : es.length < 5000000000000) (K : Chk) (hK : chkF ws t es p T c 255 = K) (hn : K.e = 0) (ht : ¬ K.t < ws.length) :
    Calls Tryd.prog 18 #[.pointer (some ⟨g, 0, none⟩), c.val] w fun e w' => e = .returned (.tuple #[Cp.zero.val, erN 7]) ∧ OdEnd w0 w B g go m a h k p v ws w' K.t K.es T := by
  obtain ⟨cp, co, cr, cc⟩ := c
  obtain ⟨Y0, hY0⟩ : ∃ Y, w.alloc (.cells #[.int .u64 (cp : Int), .int .u32 (co : Int), .int .u8 (cr : Int), .int .u64 (cc : Int)] 49) = Y := ⟨_, rfl⟩
  obtain ⟨Y, hY⟩ : ∃ Y, Y0.alloc (.cells #[.int .u64 0, .int .u32 0, .int .u8 0, .int .u64 0] 49) = Y := ⟨_, rfl⟩
  have b0 : Below w.heap.size w Y0 := hY0 ▸ below_alloc w _
  have b1 : Below Y0.heap.size Y0 Y := hY ▸ below_alloc Y0 _
  have bY := below_one b0 b1
  have sY0 : Y0.heap.size = w.heap.size + 1 := hY0 ▸ size_al w _
  obtain ⟨G, hG⟩ : ∃ G, Y0.heap.size = G := ⟨_, rfl⟩
  have HC : Hid (CBox Y w.heap.size cp co cr cc) := (hY0 ▸ CBox.new w cp co cr cc : CBox Y0 w.heap.size cp co cr cc).grow b1
  have HD : Hid (CBox Y G 0 0 0 0) := by
    have := CBox.new Y0 0 0 0 0
    rw [hG] at this
    exact hY ▸ this
  have HK := hide (x.grow bY)
  have HB := hide bY
  have HW := hide x.tk.new.bel.size
  have HG := hide (show w.heap.size ≤ G by omega)
  have hne : ¬ w.heap.size = G := by omega
  have HOK := hide hc
  have HL := hide hl
  have c0 := HC.out.c0
  have c1 := HC.out.c1
  have c2 := HC.out.c2
  have c3 := HC.out.c3
  have HKK := hide hK
  have HKL : Hid (K.k < 64) := by rw [← hK]; exact chk_lt (by rw [hK]; exact hn)
  have HES : Hid (K.es.length ≤ 5000000000000) := by
    have := chk_len ws t es p T ⟨cp, co, cr, cc⟩ 255
    rw [hK] at this
    show _ ≤ _
    omega
  have HN := hide (show erN (K.e : Int) = .nilIface by rw [hn]; rfl)
  have HX : Hid (drwF ws K.t K.es = ⟨0, false, K.t, K.es⟩) := if_neg ht
  clear ht
  rw [erN_not (by omega : (7 : Int) ≠ 0)]
  clear hK hn
  clear x b0 b1 bY sY0 hl hc
  simp only [Cp.val]
  go_enter Tryd.func18, Tryd.ntmps18
  go_wp2_with fail
  refine (check_any ⟨cp, co, cr, cc⟩ 255 _ HK.out HOK.out (by omega) (by have := HL.out; omega) K HKK.out).mono ?_
  rintro e w2 ⟨rfl, E2⟩
  obtain ⟨v2, S2, F2, hv2⟩ := E2
  have HS2 := hide S2
  have HC2 := hide (HC.out.od HK.out F2)
  have HD2 := hide (HD.out.od HK.out F2)
  have HE2 : Hid (∀ (t' : Nat) es' T' wz, OdEnd w0 w2 B g go m a h k p v2 ws wz t' es' T' → OdEnd w0 w B g go m a h k p v ws wz t' es' T') := fun t' es' T' wz E => (OdEnd.on F2 hv2 E).from HB.out
  clear S2 F2 hv2 c0 c1 c2 c3
  rw [HN.out]
  go_wp2_with fail
  refine (oracle_any _ HS2.out.tb).mono ?_; rintro e wx ⟨rfl, rfl⟩
  go_wp2_with fail
  refine (draw_ans _ HS2.out.tk).mono ?_
  rw [HX.out]
  rintro e w3 ⟨rfl, L⟩
  have HD3 := hide (HD2.out.ask HS2.out.tk L.choose_spec.2.1)
  obtain ⟨v3, S3, F3, hv3⟩ := HS2.out.asked L
  have HS3 := hide S3
  have HE3 : Hid (∀ (t' : Nat) es' T' wz, OdEnd w0 w3 B g go m a h k p v3 ws wz t' es' T' → OdEnd w0 w B g go m a h k p v ws wz t' es' T') := fun t' es' T' wz E => HE2.out _ _ _ _ (OdEnd.on F3 hv3 E)
  clear L S3 F3 hv3
  simp only [erV]
  have d0 : w3.cell? ⟨G, 0, none⟩ = some (.int .u64 0) := HD3.out.c0
  have d1 : w3.cell? ⟨G, 1, none⟩ = some (.int .u32 0) := HD3.out.c1
  have d2 : w3.cell? ⟨G, 2, none⟩ = some (.int .u8 0) := HD3.out.c2
  have d3 : w3.cell? ⟨G, 3, none⟩ = some (.int .u64 0) := HD3.out.c3
  have z := HD3.out.z
  go_wp2
  refine bodyPost_ret (by simp [results, Tryd.results18, go_sem, d0, d1, d2, d3]; rfl) rfl ?_
  exact ⟨rfl, (HE3.out _ _ _ _ HS3.out.stay).cap HD3.out.capB HW.out HG.out (foot4 _ _ _ _ _ _)⟩
set_option maxHeartbeats 3200000 in
theorem revoke_yes (c : Cp) (w : World) (x : Od w0 w B g go m a h k p v ws t es T) (hc : c.ok) (hl : es.length < 5000000000000) (K : Chk) (hK : chkF ws t es p T c 255 = K) (hn : K.e = 0) (ht : K.t < ws.length) (he : (T K.k).e ≤ 9223372036854775806) :
    Calls Tryd.prog 18 #[.pointer (some ⟨g, 0, none⟩), c.val] w fun e w' => e = .returned (.tuple #[(Cp.mk p K.k 255 (ws.getD K.t 0)).val, .nilIface]) ∧ OdEnd w0 w B g go m a h k p v ws w' (K.t + 1) K.es (updO T K.k (revO (T K.k) (ws.getD K.t 0))) := by
  obtain ⟨cp, co, cr, cc⟩ := c
  obtain ⟨Y0, hY0⟩ : ∃ Y, w.alloc (.cells #[.int .u64 (cp : Int), .int .u32 (co : Int), .int .u8 (cr : Int), .int .u64 (cc : Int)] 49) = Y := ⟨_, rfl⟩
  obtain ⟨Y, hY⟩ : ∃ Y, Y0.alloc (.cells #[.int .u64 0, .int .u32 0, .int .u8 0, .int .u64 0] 49) = Y := ⟨_, rfl⟩
  have b0 : Below w.heap.size w Y0 := hY0 ▸ below_alloc w _
  have b1 : Below Y0.heap.size Y0 Y := hY ▸ below_alloc Y0 _
  have bY := below_one b0 b1
  have sY0 : Y0.heap.size = w.heap.size + 1 := hY0 ▸ size_al w _
  obtain ⟨G, hG⟩ : ∃ G, Y0.heap.size = G := ⟨_, rfl⟩
  have HC : Hid (CBox Y w.heap.size cp co cr cc) := (hY0 ▸ CBox.new w cp co cr cc : CBox Y0 w.heap.size cp co cr cc).grow b1
  have HD : Hid (CBox Y G 0 0 0 0) := by
    have := CBox.new Y0 0 0 0 0
    rw [hG] at this
    exact hY ▸ this
  have HK := hide (x.grow bY)
  have HB := hide bY
  have HW := hide x.tk.new.bel.size
  have HG := hide (show w.heap.size ≤ G by omega)
  have hne : ¬ w.heap.size = G := by omega
  have HOK := hide hc
  have HL := hide hl
  have c0 := HC.out.c0
  have c1 := HC.out.c1
  have c2 := HC.out.c2
  have c3 := HC.out.c3
  have HKK := hide hK
  have HKL : Hid (K.k < 64) := by rw [← hK]; exact chk_lt (by rw [hK]; exact hn)
  have HES : Hid (K.es.length ≤ 5000000000000) := by
    have := chk_len ws t es p T ⟨cp, co, cr, cc⟩ 255
    rw [hK] at this
    show _ ≤ _
    omega
  have HN := hide (show erN (K.e : Int) = .nilIface by rw [hn]; rfl)
  obtain ⟨s, hs⟩ : ∃ s, ws.getD K.t 0 = s := ⟨_, rfl⟩
  have hword := x.tk.tape.word K.t
  have HX : Hid (drwF ws K.t K.es = ⟨s, true, K.t + 1, K.es⟩) := by rw [← hs]; exact if_pos ht
  rw [hs] at hword ⊢
  have HO : Hid (ofF ws (K.t + 1) K.es s 255 = ⟨s, true, K.t + 1, K.es⟩) := by
    show _ = _
    rw [of_owner, Nat.mod_eq_of_lt (by omega)]
  have HWD := hide hword
  rcases hT : T K.k with ⟨s0, e0, v0, l0⟩
  have hl0 : l0 ≤ 24 := by have := (x.tb.ok K.k).2; rw [hT] at this; exact this
  have HL0 := hide hl0
  rw [hT] at he
  have he2 : (e0 : Int) ≤ 9223372036854775806 := by have : e0 ≤ 9223372036854775806 := he; omega
  have he3 : (0 : Int) ≤ (e0 : Int) := by omega
  have HT := hide hT
  obtain ⟨i, hi⟩ : ∃ i, K.k = i := ⟨_, rfl⟩
  rw [hi] at HT HKL ⊢
  have HI := hide hi
  have hi0 : (0 : Int) ≤ (i : Int) := by omega
  have hi1 : (i : Int) < 64 := by have := HKL.out; omega
  have hwr : IntKind.i64.wrap ((e0 : Int) + 1) = (e0 : Int) + 1 := by
    exact IntWalk.i64_in _ (by omega)
  clear ht hs hword hT hi he hl0
  clear hK hn
  clear x b0 b1 bY sY0 hl hc
  simp only [Cp.val]
  go_enter Tryd.func18, Tryd.ntmps18
  go_wp2_with fail
  refine (check_any ⟨cp, co, cr, cc⟩ 255 _ HK.out HOK.out (by omega) (by have := HL.out; omega) K HKK.out).mono ?_
  rintro e w2 ⟨rfl, E2⟩
  obtain ⟨v2, S2, F2, hv2⟩ := E2
  have HS2 := hide S2
  have HC2 := hide (HC.out.od HK.out F2)
  have HD2 := hide (HD.out.od HK.out F2)
  have HE2 : Hid (∀ (t' : Nat) es' T' wz, OdEnd w0 w2 B g go m a h k p v2 ws wz t' es' T' → OdEnd w0 w B g go m a h k p v ws wz t' es' T') := fun t' es' T' wz E => (OdEnd.on F2 hv2 E).from HB.out
  clear S2 F2 hv2 c0 c1 c2 c3
  rw [HN.out]
  go_wp2_with fail
  refine (oracle_any _ HS2.out.tb).mono ?_; rintro e wx ⟨rfl, rfl⟩
  go_wp2_with fail
  refine (draw_ans _ HS2.out.tk).mono ?_
  rw [HX.out]
  rintro e w3 ⟨rfl, L⟩
  have HD3 := hide (HD2.out.ask HS2.out.tk L.choose_spec.2.1)
  obtain ⟨v3, S3, F3, hv3⟩ := HS2.out.asked L
  have HS3 := hide S3
  have HE3 : Hid (∀ (t' : Nat) es' T' wz, OdEnd w0 w3 B g go m a h k p v3 ws wz t' es' T' → OdEnd w0 w B g go m a h k p v ws wz t' es' T') := fun t' es' T' wz E => HE2.out _ _ _ _ (OdEnd.on F3 hv3 E)
  clear L S3 F3 hv3
  simp only [erV]
  rw [HI.out]
  obtain ⟨V1, hV1⟩ : ∃ V, w3.setCell ⟨g, 2 + i * 4, none⟩ (.int .u64 (s : Int)) = V := ⟨_, rfl⟩
  obtain ⟨V, hV⟩ : ∃ V, V1.setCell ⟨g, 2 + i * 4 + 1, none⟩ (.int .i64 ((e0 : Int) + 1)) = V := ⟨_, rfl⟩
  have HT1 : Hid (Tb V1 g p go (updO T i ⟨s, e0, v0, l0⟩)) := hV1 ▸ HS3.out.tb.set i 0 HKL.out (by omega) _ ⟨s, e0, v0, l0⟩ ⟨HWD.out, HL0.out⟩ (fun f hf => by rw [HT.out]; match f, hf with | 0, _ | 1, _ | 2, _ | 3, _ => rfl)
  have HT2 : Hid (Tb V g p go (updO T i ⟨s, e0 + 1, v0, l0⟩)) := by
    have := HT1.out.set i 1 HKL.out (by omega) (.int .i64 ((e0 : Int) + 1)) ⟨s, e0 + 1, v0, l0⟩ ⟨HWD.out, HL0.out⟩ (fun f hf => by rw [updO_same]; match f, hf with | 0, _ | 1, _ | 2, _ | 3, _ => rfl)
    rw [updO_updO] at this
    exact hV ▸ this
  have HFV : Hid (Foot (fun j => j = g) w3 V) := by
    have f1 : Foot (fun j => j = g) w3 V1 := hV1 ▸ foot_set w3 ⟨g, 2 + i * 4, none⟩ _
    exact hV ▸ f1.trans (foot_set V1 ⟨g, 2 + i * 4 + 1, none⟩ _) (fun _ e => .inl e)
  obtain ⟨k0, k1, k2, k3⟩ := HS3.out.tb.at i HKL.out s0 e0 v0 l0 HT.out
  obtain ⟨-, j1, -, -⟩ := HT1.out.at i HKL.out s e0 v0 l0 (updO_same _ _ _)
  have z := HS3.out.tb.z
  have z1 := HT1.out.z
  clear k1 k2 k3
  go_wp2_with fail
  go_region
  obtain ⟨v4, S4, F4, hv4⟩ := HS3.out.turn HT2.out HFV.out
  have HS4 := hide (S4.drewN 1)
  have HD4 := hide ((HD3.out.od HS3.out F4).drewN 1)
  have HE4 : Hid (∀ (t' : Nat) es' T' wz, OdEnd w0 (V.drewN 1) B g go m a h k p v4 ws wz t' es' T' → OdEnd w0 w B g go m a h k p v ws wz t' es' T') := fun t' es' T' wz E => HE3.out _ _ _ _ (OdEnd.on F4 hv4 (E.from (below_drewN (Below.refl _ _) 1)))
  clear S4 F4 hv4 k0 j1 z z1 hV hV1
  go_wp2_with fail
  refine (cap_any i 255 _ HS4.out HKL.out (by omega) HES.out ⟨s, true, K.t + 1, K.es⟩ (by rw [updO_same]; exact HO.out)).mono ?_
  rintro e w5 ⟨rfl, E5⟩
  have HD5 := hide (HD4.out.od HS4.out E5.choose_spec.2.1)
  have HE5 := hide (HE4.out _ _ _ _ E5)
  clear E5
  have d0 : w5.cell? ⟨G, 0, none⟩ = some (.int .u64 0) := HD5.out.c0
  have d1 : w5.cell? ⟨G, 1, none⟩ = some (.int .u32 0) := HD5.out.c1
  have d2 : w5.cell? ⟨G, 2, none⟩ = some (.int .u8 0) := HD5.out.c2
  have d3 : w5.cell? ⟨G, 3, none⟩ = some (.int .u64 0) := HD5.out.c3
  have z := HD5.out.z
  simp only [erV, cabF, Cp.val, if_true]
  go_wp2
  refine bodyPost_ret (by simp [results, Tryd.results18, go_sem, d0, d1, d2, d3]; rfl) rfl ?_
  refine ⟨rfl, ?_⟩
  have e : updO T i ⟨s, e0 + 1, v0, l0⟩ = updO T i (revO ⟨s0, e0, v0, l0⟩ s) := rfl
  rw [← e]
  exact HE5.out.cap HD5.out.capB HW.out HG.out (foot4 _ _ _ _ _ _)
theorem revoke_any (c : Cp) (w : World) (x : Od w0 w B g go m a h k p v ws t es T) (hc : c.ok) (hl : es.length < 5000000000000) (he : ∀ j, (T j).e ≤ 9223372036854775806) (R : Cre) (hR : revF ws t es p T c = R) :
    Calls Tryd.prog 18 #[.pointer (some ⟨g, 0, none⟩), c.val] w fun e w' => e = .returned (.tuple #[R.c.val, erN (R.e : Int)]) ∧ OdEnd w0 w B g go m a h k p v ws w' R.t R.es R.T := by
  subst hR
  unfold revF
  obtain ⟨K, hK⟩ : ∃ K, chkF ws t es p T c 255 = K := ⟨_, rfl⟩
  rw [hK]
  by_cases hn : K.e = 0
  · rw [if_pos hn]
    by_cases ht : K.t < ws.length
    · rw [if_pos ht]
      exact revoke_yes c w x hc hl K hK hn ht (he _)
    · rw [if_neg ht]
      exact revoke_end c w x hc hl K hK hn ht
  · rw [if_neg hn]
    exact revoke_no c w x hc hl K hK hn
end Go.Proofs.YtgcmompldcnhlaaDoor
