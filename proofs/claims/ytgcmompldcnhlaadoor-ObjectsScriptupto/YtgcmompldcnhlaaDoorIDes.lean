/-
  What objects' Destroy, Touch and Info answer, as contracts.
-/
import Derived.Test.YtgcmompldcnhlaaDoorICreate
namespace Go.Proofs.YtgcmompldcnhlaaDoor
open Go.RowKit
variable {w0 w w1 w2 : World} {B g go m a h k p : Nat} {v v1 : Value} {ws : List Nat} {t t1 : Nat} {es es1 : List Ent} {T T1 : Nat → Ob}
def touO (x : Ob) : Ob := ⟨x.s, x.e, x.v, 24⟩
set_option maxHeartbeats 1600000 in
theorem destroy_no (c : Cp) (w : World) (x : Od w0 w B g go m a h k p v ws t es T) (hc : c.ok) (hl : es.length ≤ 5000000000000) (K : Chk) (hK : chkF ws t es p T c 8 = K) (hn : K.e ≠ 0) :
    Calls Tryd.prog 24 #[.pointer (some ⟨g, 0, none⟩), c.val] w fun e w' => e = .returned (.tuple #[.int .i64 0, .int .i64 0, erN (K.e : Int)]) ∧ OdEnd w0 w B g go m a h k p v ws w' K.t K.es (T) := by
  obtain ⟨cp, co, cr, cc⟩ := c
  obtain ⟨Y, hY⟩ : ∃ Y, w.alloc (.cells #[.int .u64 (cp : Int), .int .u32 (co : Int), .int .u8 (cr : Int), .int .u64 (cc : Int)] 49) = Y := ⟨_, rfl⟩
  have bY : Below w.heap.size w Y := hY ▸ below_alloc w _
  have HC : Hid (CBox Y w.heap.size cp co cr cc) := hY ▸ CBox.new w cp co cr cc
  have HK := hide (x.grow bY)
  have HB := hide bY
  have HOK := hide hc
  have HL := hide hl
  have c0 := HC.out.c0
  have c1 := HC.out.c1
  have c2 := HC.out.c2
  have c3 := HC.out.c3
  have HKK := hide hK
  rw [erN_not (by omega : (K.e : Int) ≠ 0)]
  have HN := hide (erN_not (by omega : (K.e : Int) ≠ 0))
  clear hK hn
  clear x bY hl hc
  simp only [Cp.val]
  go_enter Tryd.func24, Tryd.ntmps24
  go_wp2_with fail
  refine (check_any ⟨cp, co, cr, cc⟩ 8 _ HK.out HOK.out (by omega) HL.out K HKK.out).mono ?_
  rintro e w2 ⟨rfl, E2⟩
  obtain ⟨v2, S2, F2, hv2⟩ := E2
  have HS2 := hide S2
  have HE2 : Hid (∀ (t' : Nat) es' T' wz, OdEnd w0 w2 B g go m a h k p v2 ws wz t' es' T' → OdEnd w0 w B g go m a h k p v ws wz t' es' T') := fun t' es' T' wz E => (OdEnd.on F2 hv2 E).from HB.out
  clear S2 F2 hv2 c0 c1 c2 c3
  rw [HN.out]
  go_wp2
  go_ret3
  exact ⟨rfl, HE2.out _ _ _ _ HS2.out.stay⟩
set_option maxHeartbeats 1600000 in
theorem touch_no (c : Cp) (w : World) (x : Od w0 w B g go m a h k p v ws t es T) (hc : c.ok) (hl : es.length ≤ 5000000000000) (K : Chk) (hK : chkF ws t es p T c 0 = K) (hn : K.e ≠ 0) :
    Calls Tryd.prog 31 #[.pointer (some ⟨g, 0, none⟩), c.val] w fun e w' => e = .returned (erN (K.e : Int)) ∧ OdEnd w0 w B g go m a h k p v ws w' K.t K.es (T) := by
  obtain ⟨cp, co, cr, cc⟩ := c
  obtain ⟨Y, hY⟩ : ∃ Y, w.alloc (.cells #[.int .u64 (cp : Int), .int .u32 (co : Int), .int .u8 (cr : Int), .int .u64 (cc : Int)] 49) = Y := ⟨_, rfl⟩
  have bY : Below w.heap.size w Y := hY ▸ below_alloc w _
  have HC : Hid (CBox Y w.heap.size cp co cr cc) := hY ▸ CBox.new w cp co cr cc
  have HK := hide (x.grow bY)
  have HB := hide bY
  have HOK := hide hc
  have HL := hide hl
  have c0 := HC.out.c0
  have c1 := HC.out.c1
  have c2 := HC.out.c2
  have c3 := HC.out.c3
  have HKK := hide hK
  rw [erN_not (by omega : (K.e : Int) ≠ 0)]
  have HN := hide (erN_not (by omega : (K.e : Int) ≠ 0))
  clear hK hn
  clear x bY hl hc
  simp only [Cp.val]
  go_enter Tryd.func31, Tryd.ntmps31
  go_wp2_with fail
  refine (check_any ⟨cp, co, cr, cc⟩ 0 _ HK.out HOK.out (by omega) HL.out K HKK.out).mono ?_
  rintro e w2 ⟨rfl, E2⟩
  obtain ⟨v2, S2, F2, hv2⟩ := E2
  have HS2 := hide S2
  have HE2 : Hid (∀ (t' : Nat) es' T' wz, OdEnd w0 w2 B g go m a h k p v2 ws wz t' es' T' → OdEnd w0 w B g go m a h k p v ws wz t' es' T') := fun t' es' T' wz E => (OdEnd.on F2 hv2 E).from HB.out
  clear S2 F2 hv2 c0 c1 c2 c3
  rw [HN.out]
  go_wp2
  go_ret
  exact ⟨rfl, HE2.out _ _ _ _ HS2.out.stay⟩
set_option maxHeartbeats 1600000 in
theorem info_no (c : Cp) (w : World) (x : Od w0 w B g go m a h k p v ws t es T) (hc : c.ok) (hl : es.length ≤ 5000000000000) (K : Chk) (hK : chkF ws t es p T c 0 = K) (hn : K.e ≠ 0) :
    Calls Tryd.prog 23 #[.pointer (some ⟨g, 0, none⟩), c.val] w fun e w' => e = .returned (.tuple #[.int .i64 0, .int .i64 0, erN (K.e : Int)]) ∧ OdEnd w0 w B g go m a h k p v ws w' K.t K.es (T) := by
  obtain ⟨cp, co, cr, cc⟩ := c
  obtain ⟨Y, hY⟩ : ∃ Y, w.alloc (.cells #[.int .u64 (cp : Int), .int .u32 (co : Int), .int .u8 (cr : Int), .int .u64 (cc : Int)] 49) = Y := ⟨_, rfl⟩
  have bY : Below w.heap.size w Y := hY ▸ below_alloc w _
  have HC : Hid (CBox Y w.heap.size cp co cr cc) := hY ▸ CBox.new w cp co cr cc
  have HK := hide (x.grow bY)
  have HB := hide bY
  have HOK := hide hc
  have HL := hide hl
  have c0 := HC.out.c0
  have c1 := HC.out.c1
  have c2 := HC.out.c2
  have c3 := HC.out.c3
  have HKK := hide hK
  rw [erN_not (by omega : (K.e : Int) ≠ 0)]
  have HN := hide (erN_not (by omega : (K.e : Int) ≠ 0))
  clear hK hn
  clear x bY hl hc
  simp only [Cp.val]
  go_enter Tryd.func23, Tryd.ntmps23
  go_wp2_with fail
  refine (check_any ⟨cp, co, cr, cc⟩ 0 _ HK.out HOK.out (by omega) HL.out K HKK.out).mono ?_
  rintro e w2 ⟨rfl, E2⟩
  obtain ⟨v2, S2, F2, hv2⟩ := E2
  have HS2 := hide S2
  have HE2 : Hid (∀ (t' : Nat) es' T' wz, OdEnd w0 w2 B g go m a h k p v2 ws wz t' es' T' → OdEnd w0 w B g go m a h k p v ws wz t' es' T') := fun t' es' T' wz E => (OdEnd.on F2 hv2 E).from HB.out
  clear S2 F2 hv2 c0 c1 c2 c3
  rw [HN.out]
  go_wp2
  go_ret3
  exact ⟨rfl, HE2.out _ _ _ _ HS2.out.stay⟩
set_option maxHeartbeats 1600000 in
theorem destroy_yes (c : Cp) (w : World) (x : Od w0 w B g go m a h k p v ws t es T) (hc : c.ok) (hl : es.length ≤ 5000000000000) (K : Chk) (hK : chkF ws t es p T c 8 = K) (hn : K.e = 0) :
    Calls Tryd.prog 24 #[.pointer (some ⟨g, 0, none⟩), c.val] w fun e w' => e = .returned (.tuple #[.int .i64 (K.k : Int), .int .i64 (T K.k).v, .nilIface]) ∧ OdEnd w0 w B g go m a h k p v ws w' K.t K.es (updO T K.k Ob.zero) := by
  obtain ⟨cp, co, cr, cc⟩ := c
  obtain ⟨Y, hY⟩ : ∃ Y, w.alloc (.cells #[.int .u64 (cp : Int), .int .u32 (co : Int), .int .u8 (cr : Int), .int .u64 (cc : Int)] 49) = Y := ⟨_, rfl⟩
  have bY : Below w.heap.size w Y := hY ▸ below_alloc w _
  have HC : Hid (CBox Y w.heap.size cp co cr cc) := hY ▸ CBox.new w cp co cr cc
  have HK := hide (x.grow bY)
  have HB := hide bY
  have HOK := hide hc
  have HL := hide hl
  have c0 := HC.out.c0
  have c1 := HC.out.c1
  have c2 := HC.out.c2
  have c3 := HC.out.c3
  have HKK := hide hK
  have HKL : Hid (K.k < 64) := by rw [← hK]; exact chk_lt (by rw [hK]; exact hn)
  have HN := hide (show erN (K.e : Int) = .nilIface by rw [hn]; rfl)
  obtain ⟨vl, hT⟩ : ∃ vl, (T K.k).v = vl := ⟨_, rfl⟩
  rw [hT]
  have HT := hide hT
  clear hK hn
  clear x bY hl hc
  simp only [Cp.val]
  go_enter Tryd.func24, Tryd.ntmps24
  go_wp2_with fail
  refine (check_any ⟨cp, co, cr, cc⟩ 8 _ HK.out HOK.out (by omega) HL.out K HKK.out).mono ?_
  rintro e w2 ⟨rfl, E2⟩
  obtain ⟨v2, S2, F2, hv2⟩ := E2
  have HS2 := hide S2
  have HE2 : Hid (∀ (t' : Nat) es' T' wz, OdEnd w0 w2 B g go m a h k p v2 ws wz t' es' T' → OdEnd w0 w B g go m a h k p v ws wz t' es' T') := fun t' es' T' wz E => (OdEnd.on F2 hv2 E).from HB.out
  clear S2 F2 hv2 c0 c1 c2 c3
  rw [HN.out]
  go_wp2_with fail
  refine (end_any K.k _ HS2.out.tb HKL.out).mono ?_; rintro e w3 ⟨rfl, T3, F3⟩
  rw [HT.out]
  have HE3 := hide (HE2.out _ _ _ _ (HS2.out.turn T3 F3))
  clear T3 F3
  go_wp2
  go_ret3
  exact ⟨rfl, HE3.out⟩
set_option maxHeartbeats 1600000 in
theorem touch_yes (c : Cp) (w : World) (x : Od w0 w B g go m a h k p v ws t es T) (hc : c.ok) (hl : es.length ≤ 5000000000000) (K : Chk) (hK : chkF ws t es p T c 0 = K) (hn : K.e = 0) :
    Calls Tryd.prog 31 #[.pointer (some ⟨g, 0, none⟩), c.val] w fun e w' => e = .returned (.nilIface) ∧ OdEnd w0 w B g go m a h k p v ws w' K.t K.es (updO T K.k (touO (T K.k))) := by
  obtain ⟨cp, co, cr, cc⟩ := c
  obtain ⟨Y, hY⟩ : ∃ Y, w.alloc (.cells #[.int .u64 (cp : Int), .int .u32 (co : Int), .int .u8 (cr : Int), .int .u64 (cc : Int)] 49) = Y := ⟨_, rfl⟩
  have bY : Below w.heap.size w Y := hY ▸ below_alloc w _
  have HC : Hid (CBox Y w.heap.size cp co cr cc) := hY ▸ CBox.new w cp co cr cc
  have HK := hide (x.grow bY)
  have HB := hide bY
  have HOK := hide hc
  have HL := hide hl
  have c0 := HC.out.c0
  have c1 := HC.out.c1
  have c2 := HC.out.c2
  have c3 := HC.out.c3
  have HKK := hide hK
  have HKL : Hid (K.k < 64) := by rw [← hK]; exact chk_lt (by rw [hK]; exact hn)
  have HN := hide (show erN (K.e : Int) = .nilIface by rw [hn]; rfl)
  rcases hT : T K.k with ⟨s0, e0, v0, l0⟩
  have HT := hide hT
  have HSB : Hid (s0 ≤ 281474976710655) := by have := (x.tb.ok K.k).1; rw [hT] at this; exact this
  obtain ⟨i, hi⟩ : ∃ i, K.k = i := ⟨_, rfl⟩
  rw [hi] at HT HKL ⊢
  have HI := hide hi
  have hi0 : (0 : Int) ≤ (i : Int) := by omega
  have hi1 : (i : Int) < 64 := by have := HKL.out; omega
  clear hK hn hT hi
  clear x bY hl hc
  simp only [Cp.val]
  go_enter Tryd.func31, Tryd.ntmps31
  go_wp2_with fail
  refine (check_any ⟨cp, co, cr, cc⟩ 0 _ HK.out HOK.out (by omega) HL.out K HKK.out).mono ?_
  rintro e w2 ⟨rfl, E2⟩
  obtain ⟨v2, S2, F2, hv2⟩ := E2
  have HS2 := hide S2
  have HE2 : Hid (∀ (t' : Nat) es' T' wz, OdEnd w0 w2 B g go m a h k p v2 ws wz t' es' T' → OdEnd w0 w B g go m a h k p v ws wz t' es' T') := fun t' es' T' wz E => (OdEnd.on F2 hv2 E).from HB.out
  clear S2 F2 hv2 c0 c1 c2 c3
  rw [HN.out]
  rw [HI.out]
  obtain ⟨V, hV⟩ : ∃ V, w2.setCell ⟨g, 2 + i * 4 + 3, none⟩ (.int .i64 24) = V := ⟨_, rfl⟩
  have HTV : Hid (Tb V g p go (updO T i ⟨s0, e0, v0, 24⟩)) := hV ▸ HS2.out.tb.set i 3 HKL.out (by omega) _ ⟨s0, e0, v0, 24⟩ ⟨HSB.out, by show 24 ≤ 24; omega⟩ (fun f hf => by rw [HT.out]; match f, hf with | 0, _ | 1, _ | 2, _ | 3, _ => rfl)
  have HFV : Hid (Foot (fun j => j = g) w2 V) := hV ▸ foot_set w2 ⟨g, 2 + i * 4 + 3, none⟩ _
  obtain ⟨k0, k1, k2, k3⟩ := HS2.out.tb.at i HKL.out s0 e0 v0 l0 HT.out
  have z := HS2.out.tb.z
  clear k0 k1 k2
  go_wp2
  go_ret
  exact ⟨rfl, HE2.out _ _ _ _ (HS2.out.turn HTV.out HFV.out)⟩
set_option maxHeartbeats 1600000 in
theorem info_yes (c : Cp) (w : World) (x : Od w0 w B g go m a h k p v ws t es T) (hc : c.ok) (hl : es.length ≤ 5000000000000) (K : Chk) (hK : chkF ws t es p T c 0 = K) (hn : K.e = 0) :
    Calls Tryd.prog 23 #[.pointer (some ⟨g, 0, none⟩), c.val] w fun e w' => e = .returned (.tuple #[.int .i64 ((T K.k).e : Int), .int .i64 ((T K.k).l : Int), .nilIface]) ∧ OdEnd w0 w B g go m a h k p v ws w' K.t K.es (T) := by
  obtain ⟨cp, co, cr, cc⟩ := c
  obtain ⟨Y, hY⟩ : ∃ Y, w.alloc (.cells #[.int .u64 (cp : Int), .int .u32 (co : Int), .int .u8 (cr : Int), .int .u64 (cc : Int)] 49) = Y := ⟨_, rfl⟩
  have bY : Below w.heap.size w Y := hY ▸ below_alloc w _
  have HC : Hid (CBox Y w.heap.size cp co cr cc) := hY ▸ CBox.new w cp co cr cc
  have HK := hide (x.grow bY)
  have HB := hide bY
  have HOK := hide hc
  have HL := hide hl
  have c0 := HC.out.c0
  have c1 := HC.out.c1
  have c2 := HC.out.c2
  have c3 := HC.out.c3
  have HKK := hide hK
  have HKL : Hid (K.k < 64) := by rw [← hK]; exact chk_lt (by rw [hK]; exact hn)
  have HN := hide (show erN (K.e : Int) = .nilIface by rw [hn]; rfl)
  rcases hT : T K.k with ⟨s0, e0, v0, l0⟩
  have HT := hide hT
  obtain ⟨i, hi⟩ : ∃ i, K.k = i := ⟨_, rfl⟩
  rw [hi] at HT HKL
  have HI := hide hi
  have hi0 : (0 : Int) ≤ (i : Int) := by omega
  have hi1 : (i : Int) < 64 := by have := HKL.out; omega
  clear hK hn hT hi
  clear x bY hl hc
  simp only [Cp.val]
  go_enter Tryd.func23, Tryd.ntmps23
  go_wp2_with fail
  refine (check_any ⟨cp, co, cr, cc⟩ 0 _ HK.out HOK.out (by omega) HL.out K HKK.out).mono ?_
  rintro e w2 ⟨rfl, E2⟩
  obtain ⟨v2, S2, F2, hv2⟩ := E2
  have HS2 := hide S2
  have HE2 : Hid (∀ (t' : Nat) es' T' wz, OdEnd w0 w2 B g go m a h k p v2 ws wz t' es' T' → OdEnd w0 w B g go m a h k p v ws wz t' es' T') := fun t' es' T' wz E => (OdEnd.on F2 hv2 E).from HB.out
  clear S2 F2 hv2 c0 c1 c2 c3
  rw [HN.out]
  rw [HI.out]
  obtain ⟨k0, k1, k2, k3⟩ := HS2.out.tb.at i HKL.out s0 e0 v0 l0 HT.out
  clear k0 k2
  go_wp2_with fail
  go_region
  go_wp2
  go_ret3
  exact ⟨rfl, HE2.out _ _ _ _ (HS2.out.stay.to (below_drewN (Below.refl _ _) 1))⟩
end Go.Proofs.YtgcmompldcnhlaaDoor
