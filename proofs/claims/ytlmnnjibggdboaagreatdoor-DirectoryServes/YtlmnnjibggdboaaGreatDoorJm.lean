/-
  What directory.Of and skeleton.Of answer, as contracts: a half that is made, with its server.
  A request that the statements make: a name at its data's beginning, and bytes behind it: a contract.
  What is known of a half behind so many deeds: plain facts.
  One request to a server of names, as a contract.
  The statements' own first step, as a contract.
  The statements' own first step, as a contract.
-/
import Derived.Test.YtlmnnjibggdboaaGreatDoorJl
import Derived.Deep.RegionHeldLaw
import Derived.Deep.CutRange
namespace Go.Proofs.YtlmnnjibggdboaaGreatDoor
section
open Go.RowKit
variable {w0 w w1 w2 w' : World} {A A' : Ad} {p : Nat} {ws : List Nat} {s s' s1 : Hs} {r g : Nat} {sb : Nat × Bool}
def L0 : Int → List Rw := fun _ => []
def Sa (w : World) (r g : Nat) (q : Nat) : Prop := w.heap[r]? = some (.cells #[.pointer (some ⟨g, 0, none⟩), .iface 60 (.pointer (some ⟨q, 0, none⟩))] 121 (0, 0))
set_option maxHeartbeats 800000 in
theorem srv_of (g q : Nat) (w : World) :
    Calls Tryz.prog 27 #[.pointer (some ⟨g, 0, none⟩), .iface 60 (.pointer (some ⟨q, 0, none⟩))] w fun e w' => e = .returned (.pointer (some ⟨w.heap.size, 0, none⟩)) ∧ Sa w' w.heap.size g q ∧ Below w.heap.size w w' := by
  have hs : Sa (w.alloc (.cells #[.pointer (some ⟨g, 0, none⟩), .iface 60 (.pointer (some ⟨q, 0, none⟩))] 121)) w.heap.size g q := heap_alloc_new _ _
  have HS := hide hs
  have HB := hide (below_alloc w (.cells #[.pointer (some ⟨g, 0, none⟩), .iface 60 (.pointer (some ⟨q, 0, none⟩))] 121))
  clear hs
  go_enter Tryz.func27, Tryz.ntmps27
  go_wp2
  go_ret
  exact ⟨rfl, HS.out, HB.out⟩
/- what directory.Of leaves, where the table could make its root -/
def MadeEnd (w0 w : World) (g go m a h p : Nat) (v : Value) (ws : List Nat) (R : Cre) (w' : World) (r : Nat) : Prop :=
  ∃ A : Ad, A.g = g ∧ A.go = go ∧ A.m = m ∧ A.a = a ∧ A.h = h ∧ Moved w v A.v ∧ w.heap.size ≤ A.sb.1 ∧ w.heap.size ≤ A.N ∧ w.heap.size ≤ r ∧ A.dv = none ∧ A.nv = (fun _ => nilV) ∧ Sv w0 w' A p ws ⟨R.t, R.es, R.T, 0, 0, L0⟩ ∧ Sr w' r A.g A.sb ∧ Foot (OdS g go m a v) w w'
set_option maxRecDepth 20000 in
set_option maxHeartbeats 3200000 in
theorem dir_no {B g go m a h k p : Nat} {v : Value} {t : Nat} {es : List Ent} {T : Nat → Ob} (w : World) (x : Od w0 w B g go m a h k p v ws t es T) (hl : es.length ≤ 5000000000000) (R : Cre) (hR : creF ws t es p T 0 = R) (h0 : R.e ≠ 0) :
    Calls Tryz.prog 12 #[.pointer (some ⟨g, 0, none⟩), .pointer (some ⟨go, 0, none⟩)] w fun e w' => e = .returned (.tuple #[.pointer none, Cp.zero.val, erN (R.e : Int)]) ∧ OdEnd w0 w B g go m a h k p v ws w' R.t R.es R.T := by
  obtain ⟨W, hW⟩ : ∃ W, w.alloc (.cells #[.int .u64 0, .int .u32 0, .int .u8 0, .int .u64 0] 40) = W := ⟨_, rfl⟩
  have bW : Below w.heap.size w W := hW ▸ below_alloc w _
  have HC : Hid (CBox W w.heap.size 0 0 0 0) := hW ▸ CBox.new w 0 0 0 0
  have HX := hide (x.grow bW)
  have HBW := hide bW
  have HL := hide hl
  have HR := hide hR
  have HW0 : Hid (w0.heap.size ≤ w.heap.size) := x.tk.new.bel.size
  obtain ⟨er, her⟩ : ∃ er, erN (R.e : Int) = er := ⟨_, rfl⟩
  obtain ⟨tE, hE⟩ : ∃ v, er = .iface 47 v := ⟨_, by rw [← her]; exact erN_not (by omega)⟩
  rw [her]
  have HER := hide her
  obtain ⟨⟨qp, qo, qr, qc⟩, hq⟩ : ∃ q, R.c = q := ⟨_, rfl⟩
  have HQ := hide hq
  clear x bW hl hR h0 her hq
  subst hE
  go_enter Tryz.func12, Tryz.ntmps12
  go_wp2_with fail
  refine (create_any 0 _ HX.out HL.out R HR.out).mono ?_; rw [HER.out, HQ.out]; rintro e w1 ⟨rfl, E⟩
  simp only [Cp.val]
  obtain ⟨w2, hw2⟩ : ∃ w2, w1.alloc (.cells #[.int .u64 (qp : Int), .int .u32 (qo : Int), .int .u8 (qr : Int), .int .u64 (qc : Int)] 40) = w2 := ⟨_, rfl⟩
  have b2 : Below w1.heap.size w1 w2 := hw2 ▸ below_alloc _ _
  have HC2 : Hid (CBox w2 w.heap.size 0 0 0 0) := by
    obtain ⟨v1, S1, F1, _⟩ := E
    exact (CBox.od HC.out HX.out F1).grow b2
  have HC3 := hide (put_box HC2.out 0 0 0 0)
  have f3 := foot4 w2 w.heap.size (.int .u64 ((0 : Nat) : Int)) (.int .u32 ((0 : Nat) : Int)) (.int .u8 ((0 : Nat) : Int)) (.int .u64 ((0 : Nat) : Int))
  have d0 := HC2.out.c0
  have d1 := HC2.out.c1
  have d2 := HC2.out.c2
  have d3 := HC2.out.c3
  have x0 := HC2.out.z
  have HE : Hid (OdEnd w0 w B g go m a h k p v ws ((((w2.setCell ⟨w.heap.size, 0, none⟩ (.int .u64 ((0 : Nat) : Int))).setCell ⟨w.heap.size, 1, none⟩ (.int .u32 ((0 : Nat) : Int))).setCell ⟨w.heap.size, 2, none⟩ (.int .u8 ((0 : Nat) : Int))).setCell ⟨w.heap.size, 3, none⟩ (.int .u64 ((0 : Nat) : Int))) R.t R.es R.T) := by
    obtain ⟨v1, S1, F1, M1⟩ := E
    refine ⟨v1, (S1.grow b2).foot f3 (fun j e => ?_), ?_, fun j hj => (M1 j hj).imp id (fun z => Nat.le_trans HBW.out.size z)⟩
    · have e : j = w.heap.size := e
      subst e
      refine ⟨HW0.out, ?_, ?_⟩
      · rintro (h | h)
        · exact (S1.grow b2).tk.noAsk HC2.out (by decide) (by decide) (by decide) h
        · obtain ⟨C, hC⟩ := (S1.grow b2).tb.blk
          rw [← h, show w2.heap[w.heap.size]? = _ from HC2.out] at hC; cases hC
      · intro h
        have hr : w2.heap[_]? = some _ := (S1.grow b2).tk.tape.row
        rw [← h, show w2.heap[w.heap.size]? = _ from HC2.out] at hr
        exact absurd (Obj.cells.inj (Option.some.inj hr)).2.1 (by decide)
    · exact (((below_foot _ HBW.out).trans F1 (fun _ e => .inl e)).trans (below_foot (fun _ => False) b2) (fun _ e => e.elim)).trans f3 (fun j (e : j = _) => .inr (by omega))
  clear E b2 f3
  obtain ⟨wz, hwz⟩ : ∃ wz, (((w2.setCell ⟨w.heap.size, 0, none⟩ (.int .u64 ((0 : Nat) : Int))).setCell ⟨w.heap.size, 1, none⟩ (.int .u32 ((0 : Nat) : Int))).setCell ⟨w.heap.size, 2, none⟩ (.int .u8 ((0 : Nat) : Int))).setCell ⟨w.heap.size, 3, none⟩ (.int .u64 ((0 : Nat) : Int)) = wz := ⟨_, rfl⟩
  rw [hwz] at HC3 HE
  simp only [show (((0 : Nat)) : Int) = 0 from rfl] at hwz d0 d1 d2 d3
  have v0 := HC3.out.c0
  have v1 := HC3.out.c1
  have v2 := HC3.out.c2
  have v3 := HC3.out.c3
  simp only [show (((0 : Nat)) : Int) = 0 from rfl] at v0 v1 v2 v3
  go_wp2
  refine bodyPost_ret (by simp [results, Tryz.results12, go_sem, v0, v1, v2, v3]; rfl) rfl ?_
  exact ⟨rfl, HE.out⟩
set_option maxRecDepth 20000 in
set_option maxHeartbeats 6400000 in
theorem dir_yes {B g go m a h k p : Nat} {v : Value} {t : Nat} {es : List Ent} {T : Nat → Ob} (w : World) (x : Od w0 w B g go m a h k p v ws t es T) (hl : es.length ≤ 5000000000000) (R : Cre) (hR : creF ws t es p T 0 = R) (h0 : R.e = 0) :
    Calls Tryz.prog 12 #[.pointer (some ⟨g, 0, none⟩), .pointer (some ⟨go, 0, none⟩)] w fun e w' => ∃ r, e = .returned (.tuple #[.pointer (some ⟨r, 0, none⟩), R.c.val, .nilIface]) ∧ MadeEnd w0 w g go m a h p v ws R w' r := by
  obtain ⟨W, hW⟩ : ∃ W, w.alloc (.cells #[.int .u64 0, .int .u32 0, .int .u8 0, .int .u64 0] 40) = W := ⟨_, rfl⟩
  have bW : Below w.heap.size w W := hW ▸ below_alloc w _
  have HC : Hid (CBox W w.heap.size 0 0 0 0) := hW ▸ CBox.new w 0 0 0 0
  have HX := hide (x.grow bW)
  have HBW := hide bW
  have HL := hide hl
  have HR := hide hR
  have HW0 : Hid (w0.heap.size ≤ w.heap.size) := x.tk.new.bel.size
  have HER : Hid (erN (R.e : Int) = .nilIface) := by show _ = _; rw [h0]; rfl
  obtain ⟨⟨qp, qo, qr, qc⟩, hq⟩ : ∃ q, R.c = q := ⟨_, rfl⟩
  have HQ := hide hq
  rw [hq]
  clear x bW hl hR h0 hq
  simp only [Cp.val]
  go_enter Tryz.func12, Tryz.ntmps12
  go_wp2_with fail
  refine (create_any 0 _ HX.out HL.out R HR.out).mono ?_; rw [HER.out, HQ.out]; rintro e w1 ⟨rfl, E⟩
  simp only [Cp.val]
  obtain ⟨w2, hw2⟩ : ∃ w2, w1.alloc (.cells #[.int .u64 (qp : Int), .int .u32 (qo : Int), .int .u8 (qr : Int), .int .u64 (qc : Int)] 40) = w2 := ⟨_, rfl⟩
  have b2 : Below w1.heap.size w1 w2 := hw2 ▸ below_alloc _ _
  have HQ2 : Hid (CBox w2 w1.heap.size qp qo qr qc) := hw2 ▸ CBox.new w1 qp qo qr qc
  obtain ⟨v1, S1, F1, M1⟩ := E
  have HC2 := hide ((CBox.od HC.out HX.out F1).grow b2)
  have HX2 := hide (S1.grow b2)
  have HF2 : Hid (Foot (OdS g go m a v) w w2) := ((below_foot _ HBW.out).trans F1 (fun _ e => .inl e)).trans (below_foot (fun _ => False) b2) (fun _ e => e.elim)
  have HM2 : Hid (Moved w v v1) := fun j hj => (M1 j hj).imp id (fun z => Nat.le_trans HBW.out.size z)
  have HG2 : Hid (w.heap.size < w1.heap.size) := Nat.lt_of_lt_of_le (lt_of_heap HC.out) F1.size
  clear S1 F1 M1 b2
  obtain ⟨w3, hw3⟩ : ∃ w3, (w2.alloc (.cells #[.pointer (some ⟨g, 0, none⟩), .pointer (some ⟨go, 0, none⟩), .map none, .int .i64 0] 63)) = w3 := ⟨_, rfl⟩
  have b3 : Below w2.heap.size w2 w3 := hw3 ▸ below_alloc _ _
  have HD3 : Hid (w3.heap[w2.heap.size]? = some (.cells #[.pointer (some ⟨g, 0, none⟩), .pointer (some ⟨go, 0, none⟩), .map none, .int .i64 0] 63 (0, 0))) := hw3 ▸ heap_alloc_new _ _
  have HB3 := hide b3
  have HC3 := hide (HC2.out.grow b3)
  have HQ3 := hide (HQ2.out.grow b3)
  have HSZ : Hid (w3.heap.size = w2.heap.size + 1) := by show _ = _; rw [← hw3]; simp
  have HQa : Hid (CBox w2.drew w1.heap.size qp qo qr qc) := HQ2.out
  have HQb : Hid (CBox w3.drew w1.heap.size qp qo qr qc) := HQ3.out
  clear b3
  go_wp2_with fail
  go_region_held (fun U => U.cell? ⟨w1.heap.size, 0, none⟩ = some (.int .u64 (qp : Int)) ∧ U.cell? ⟨w1.heap.size, 1, none⟩ = some (.int .u32 (qo : Int)) ∧ U.cell? ⟨w1.heap.size, 2, none⟩ = some (.int .u8 (qr : Int)) ∧ U.cell? ⟨w1.heap.size, 3, none⟩ = some (.int .u64 (qc : Int)))
    (first | with_reducible exact ⟨HQa.out.c0, HQa.out.c1, HQa.out.c2, HQa.out.c3⟩ | with_reducible exact ⟨HQb.out.c0, HQb.out.c1, HQb.out.c2, HQb.out.c3⟩ | with_reducible exact ⟨HQ5.out.c0, HQ5.out.c1, HQ5.out.c2, HQ5.out.c3⟩ | with_reducible exact ⟨HQ6.out.c0, HQ6.out.c1, HQ6.out.c2, HQ6.out.c3⟩)
    (first
      | (go_at_call 27; refine (srv_of g _ _).mono ?_; rintro e w4 ⟨rfl, S4, b4⟩
         have b4 := below_one (below_d w3 1) b4
         have HSA : Hid (Sa w4 w3.heap.size g w2.heap.size) := S4
         have HQ5 := hide (HQ3.out.grow b4)
         have HC5 := hide (HC3.out.grow b4)
         have HQ6 := hide (HQ5.out.foot (foot4 w4 w.heap.size (.int .u64 (qp : Int)) (.int .u32 (qo : Int)) (.int .u8 (qr : Int)) (.int .u64 (qc : Int))) (fun (e : w1.heap.size = w.heap.size) => by have := HG2.out; omega))
         have HB4 := hide b4
         have d0 := HC5.out.c0
         have d1 := HC5.out.c1
         have d2 := HC5.out.c2
         have d3 := HC5.out.c3
         have x0 := HC5.out.z
         clear S4 b4))
  have f6 := foot4 w4 w.heap.size (.int .u64 (qp : Int)) (.int .u32 (qo : Int)) (.int .u8 (qr : Int)) (.int .u64 (qc : Int))
  have HCZ := hide (put_box HC5.out qp qo qr qc)
  obtain ⟨A, hA⟩ : ∃ A : Ad, A = ⟨B, g, go, m, a, h, k, v1, (w2.heap.size, false), w2.heap.size, none, fun _ => nilV⟩ := ⟨_, rfl⟩
  have hs2 : w.heap.size ≤ w2.heap.size := HF2.out.size
  have hs3 : w2.heap.size ≤ w3.heap.size := HB3.out.size
  have hs4 : w3.heap.size ≤ w4.heap.size := HB4.out.size
  have SV : Sv w0 w4 A p ws ⟨R.t, R.es, R.T, 0, 0, L0⟩ := by
    subst hA
    exact ⟨(HX2.out.grow HB3.out).grow HB4.out, rws_new _ _ _, Nat.le_trans HW0.out hs2, Nat.le_trans hs3 hs4, Nat.le_trans HW0.out hs2, (HB4.out.block _ (lt_of_heap HD3.out)).trans HD3.out, (fun e => by cases e), fun _ => good_nil⟩
  have SVZ : Sv w0 _ A p ws ⟨R.t, R.es, R.T, 0, 0, L0⟩ := SV.off f6 (fun j e => ⟨by have e : j = w.heap.size := e; have := HW0.out; omega, .inr ⟨_, _, e ▸ HC5.out, cap_odd3⟩⟩)
  have SRZ : Sr _ w3.heap.size g (w2.heap.size, false) := Sr.var ⟨HSA.out, rfl⟩ f6 HC5.out (by decide) (by decide)
  have FZ : Foot (OdS g go m a v) w _ := ((HF2.out.trans (below_foot (fun _ => False) HB3.out) (fun _ e => e.elim)).trans (below_foot (fun _ => False) HB4.out) (fun _ e => e.elim)).trans f6 (fun j (e : j = w.heap.size) => .inr (by omega))
  have HE : Hid (MadeEnd w0 w g go m a h p v ws R _ w3.heap.size) := ⟨A, by rw [hA], by rw [hA], by rw [hA], by rw [hA], by rw [hA], by rw [hA]; exact HM2.out, by rw [hA]; exact hs2, by rw [hA]; exact hs2, by omega, by rw [hA], by rw [hA], SVZ, by rw [hA]; exact SRZ, FZ⟩
  clear f6 SV SVZ SRZ FZ
  obtain ⟨wz, hwz⟩ : ∃ wz, (((w4.setCell ⟨w.heap.size, 0, none⟩ (.int .u64 (qp : Int))).setCell ⟨w.heap.size, 1, none⟩ (.int .u32 (qo : Int))).setCell ⟨w.heap.size, 2, none⟩ (.int .u8 (qr : Int))).setCell ⟨w.heap.size, 3, none⟩ (.int .u64 (qc : Int)) = wz := ⟨_, rfl⟩
  rw [hwz] at HCZ HE
  rw [hwz]
  have v0 := HCZ.out.c0
  have v1' := HCZ.out.c1
  have v2 := HCZ.out.c2
  have v3 := HCZ.out.c3
  go_wp2
  refine bodyPost_ret (by simp [results, Tryz.results12, go_sem, v0, v1', v2, v3]; rfl) rfl ?_
  exact ⟨_, rfl, HE.out⟩
end
end Go.Proofs.YtlmnnjibggdboaaGreatDoor
namespace Go.Proofs.YtlmnnjibggdboaaGreatDoor
section
open Go.RowKit
variable {w0 w w1 w2 w' : World}
set_option maxRecDepth 20000 in
set_option maxHeartbeats 800000 in
theorem putBytes_row (so : Addr) (sn scap : Nat) (s : List UInt8) (w : World) (hs : Bts w (some so) sn scap s) (h64 : sn ≤ 65535) :
    Calls Tryz.prog 24 #[.slice none 0 0, .slice (some so) sn scap] w fun e w' => ∃ v, e = .returned (.tuple #[v, .bool true]) ∧ w'.ownsRow w.heap.size 5 1 v (2 + sn) (cellsB (putF sn 2 ++ s)) ∧ Below w.heap.size w w' := by
  have HS : Hid (Bts w (some so) sn scap s) := hs
  clear hs
  obtain ⟨i0, hi, hz0, hz1, hz2⟩ := info_parts Tryz.info5
  have hcm : scap ≤ 9223372036854775807 := HS.out.2.2.1
  go_enter Tryz.func24, Tryz.ntmps24
  go_wp2_with fail
  refine (put_yes none 0 0 sn 2 [] _ (bts_nil _) (by omega) (by omega) (by omega) (by omega)).mono ?_; rintro e w1 ⟨rfl, hown, bel1⟩
  have HO : Hid _ := hown
  clear hown
  go_wp2_with (at_builtin; refine wpList_append_own _ rfl _ _ 23 rfl w.heap.size 5 i0 (.int .u8 0) 1 1 Tryz.underlying23 hi hz0 hz1 hz2 rfl (by decide) _ (0 + 2) _ rfl HO.out so sn scap (cellsB s) rfl (by rw [cellsB_len]; have := HS.out.1; omega) ?c1 (cellsB_one s) (by unfold maxLen; omega) (by omega) bel1.size ?_)
  case c1 => exact (HS.out.carry bel1).news so rfl
  intro v' w2 hown2 hgrow2 _
  rw [← cellsB_append] at hown2
  have bel2 : Below w.heap.size w w2 := bel1.grown hgrow2 bel1.size (fun k e => by cases e; exact Nat.le_refl _)
  have HB2 := hide hown2
  clear hown2 hgrow2
  go_wp2
  go_ret2
  exact ⟨v', rfl, HB2.out, bel2⟩
/- bytes behind a row of one's own -/
theorem app_tail8 {B n : Nat} {v : Value} {l b : List UInt8} {bo : Option Addr} {bn bc : Nat} (h : w.ownsRow B 5 1 v n (cellsB l)) (hb : Bts w bo bn bc b) (hn : n + bn ≤ 100000000000000) (hB : B ≤ w.heap.size) :
    ∃ v' w', (Builtin.append_ #[23, 23] 23 #[v, .slice bo bn bc]).run Tryz.prog w = .ok v' w' ∧ w'.ownsRow B 5 1 v' (n + bn) (cellsB (l ++ b)) ∧ Foot (fun k => v.ownBlock = some k) w w' := by
  obtain ⟨i0, hi, hz0, hz1, hz2⟩ := info_parts Tryz.info5
  cases bo with
  | none =>
    obtain ⟨rfl, rfl⟩ := hb.none rfl
    obtain rfl : b = [] := List.eq_nil_of_length_eq_zero hb.1.symm
    exact ⟨v, w, run_append_owned_none (P := Tryz.prog) w B 23 23 5 i0 1 Tryz.underlying23 hi v n _ h, by rw [List.append_nil]; exact h, Foot.refl _ _⟩
  | some ad =>
    obtain ⟨v', w', hr, h2, h3, _, _⟩ := run_append_own_at (P := Tryz.prog) w B 23 23 5 i0 _ 1 1 Tryz.underlying23 hi hz0 hz1 hz2 rfl (by omega) v n _ h ad bn bc (cellsB b) (by rw [cellsB_len]; have := hb.1; omega) (hb.news ad rfl) (cellsB_one b) (by unfold maxLen; omega) (by omega) hB
    exact ⟨v', w', hr, by rw [cellsB_append]; exact h2, foot_grown h3⟩
theorem req_vars (w : World) (c : Cp) : ∃ X, (w.alloc (.cells #[.int .u64 (c.p : Int), .int .u32 (c.o : Int), .int .u8 (c.r : Int), .int .u64 (c.c : Int)] 40)).alloc (.cells #[.int .u64 0, .int .u64 0, .int .u32 0, .int .u16 0, .int .u16 0, .int .u64 0, .int .u32 0, .int .u8 0, .int .u64 0, .int .u64 0, .slice none 0 0] 55) = X ∧ CBox X w.heap.size c.p c.o c.r c.c ∧ MB X (w.heap.size + 1) Msg.zero (.slice none 0 0) ∧ Below w.heap.size w X := by
  have b1 := below_alloc w (.cells #[.int .u64 (c.p : Int), .int .u32 (c.o : Int), .int .u8 (c.r : Int), .int .u64 (c.c : Int)] 40)
  have b2 := below_alloc (w.alloc (.cells #[.int .u64 (c.p : Int), .int .u32 (c.o : Int), .int .u8 (c.r : Int), .int .u64 (c.c : Int)] 40)) (.cells #[.int .u64 0, .int .u64 0, .int .u32 0, .int .u16 0, .int .u16 0, .int .u64 0, .int .u32 0, .int .u8 0, .int .u64 0, .int .u64 0, .slice none 0 0] 55)
  refine ⟨_, rfl, (CBox.new w _ _ _ _).grow b2, ?_, below_one b1 b2⟩
  have h := heap_alloc_new (w.alloc (.cells #[.int .u64 (c.p : Int), .int .u32 (c.o : Int), .int .u8 (c.r : Int), .int .u64 (c.c : Int)] 40)) (.cells #[.int .u64 0, .int .u64 0, .int .u32 0, .int .u16 0, .int .u16 0, .int .u64 0, .int .u32 0, .int .u8 0, .int .u64 0, .int .u64 0, .slice none 0 0] 55)
  rw [sz1] at h
  exact h
set_option maxRecDepth 20000 in
set_option maxHeartbeats 3200000 in
theorem req_any (op : Nat) (c : Cp) (ar : Nat) (nm : List UInt8) (bo : Option Addr) (bn bc : Nat) (b : List UInt8) (w : World) (hb : Bts w bo bn bc b) (hn : nm.length ≤ 65535) (hbn : bn ≤ 90000000000000) (m2 : Msg) (hm2 : (⟨0, 0, 0, op, 0, c.p, c.o, c.r, c.c, ar⟩ : Msg) = m2) (oi : Int) (hoi : oi = (op : Int)) :
    Calls Tryz.prog 22 #[.int .u16 oi, .agg #[.int .u64 (c.p : Int), .int .u32 (c.o : Int), .int .u8 (c.r : Int), .int .u64 (c.c : Int)], .int .u64 (ar : Int), .string (str nm), .slice bo bn bc] w fun e w' => ∃ co n cc, e = .returned (.agg #[.int .u64 m2.ta, .int .u64 m2.rp, .int .u32 m2.id, .int .u16 m2.op, .int .u16 m2.st, .int .u64 m2.p, .int .u32 m2.o, .int .u8 m2.r, .int .u64 m2.c, .int .u64 m2.ar, .slice co n cc]) ∧ Bts w' co n cc (putF nm.length 2 ++ nm ++ b) ∧ New w co ∧ Typ8 w' co ∧ n = 2 + nm.length + bn ∧ Below w.heap.size w w' := by
  subst hoi
  obtain ⟨X, hX, cX, mX, bX⟩ := req_vars w c
  have HC := hide cX
  have HM := hide mX
  have HBX := hide bX
  have HB := hide (hb.carry bX)
  have HM2 := hide hm2
  have HLT : Hid (w.heap.size + 1 < X.heap.size) := lt_of_heap mX
  obtain ⟨yc, X2, hcv, B2, b2⟩ := str_bytes nm X (by omega)
  have HB2 := hide B2
  have HBX2 := hide b2
  obtain ⟨ln, hln⟩ : ∃ ln, nm.length = ln := ⟨_, rfl⟩
  have HLN := hide hln
  rw [hln] at hcv hn
  rw [hln]
  rw [hln] at HB2
  obtain ⟨ss, hss⟩ : ∃ ss, str nm = ss := ⟨_, rfl⟩
  rw [hss] at hcv
  rw [hss]
  clear cX mX bX hb hm2 B2 b2 hln hss
  go_enter Tryz.func22, Tryz.ntmps22
  go_wp2_with fail
  refine (putBytes_row _ ln yc nm _ HB2.out hn).mono ?_; rintro e w3 ⟨v, rfl, O3, b3⟩
  have b23 := below_one HBX2.out b3
  have HO3 : Hid (w3.drew.ownsRow X2.heap.size 5 1 v (2 + ln) (cellsB (putF ln 2 ++ nm))) := O3
  have HB3 : Hid (Bts w3.drew bo bn bc b) := HB.out.carry b23.drew
  have HB03 := hide (below_one HBX.out b23)
  have HC3 : Hid (CBox w3.drew w.heap.size c.p c.o c.r c.c) := HC.out.grow b23.drew
  have HM3 : Hid (MB w3.drew (w.heap.size + 1) Msg.zero (.slice none 0 0)) := HM.out.grow b23.drew
  have HX23 : Hid (X.heap.size ≤ X2.heap.size) := HBX2.out.size
  have HX33 : Hid (X2.heap.size ≤ w3.heap.size) := b3.size
  obtain ⟨v4, w4, hr4, O4, F4⟩ := app_tail8 HO3.out HB3.out (by omega) b3.size
  have hown : ∀ j, v.ownBlock = some j → X2.heap.size ≤ j := fun j e => (owns_block HO3.out e).choose_spec.2
  have HB34 : Hid (Below X2.heap.size w3 w4) := ((Foot.refl _ w3).drewN 1 |>.then F4).below b3.size hown
  have HR4 := hide hr4
  obtain ⟨co, cc, rfl, hb4⟩ := owns_bts O4
  rw [List.append_assoc] at hb4
  have HB4 : Hid (Bts w4 co (2 + ln + bn) cc (putF ln 2 ++ nm ++ b)) := by rw [List.append_assoc]; exact hb4
  have HNW : Hid (New X2 co) := owns_new8 O4 (Nat.le_refl _)
  have HT4 : Hid (Typ8 w4 co) := fun ad e => by
    obtain ⟨cur, h1, _⟩ := owns_block O4 (r := ad.block) (by rw [e]; rfl)
    exact ⟨cur, h1⟩
  have far : ∀ j, j < X2.heap.size → w4.heap[j]? = w3.heap[j]? := fun j hj => HB34.out.block j hj
  have HC4 : Hid (CBox w4 w.heap.size c.p c.o c.r c.c) := (far _ (by have := HLT.out; have := HX23.out; omega)).trans HC3.out
  have HM4 : Hid (MB w4 (w.heap.size + 1) Msg.zero (.slice none 0 0)) := (far _ (by have := HLT.out; have := HX23.out; omega)).trans HM3.out
  have HZL := hide (HM4.out.lay (m := m2) (D := .slice co (2 + ln + bn) cc))
  have f5 := foot_lay11 w4 (w.heap.size + 1) m2 (.slice co (2 + ln + bn) cc)
  have HC5 := hide (show CBox _ w.heap.size c.p c.o c.r c.c from (f5.block _ (lt_of_heap HC4.out) (fun (e : w.heap.size = w.heap.size + 1) => by omega)).trans HC4.out)
  have HB5 := hide (Bts.foot HB4.out f5 (fun ad e _ (h : ad.block = w.heap.size + 1) => by have := HNW.out ad e; have := HLT.out; have := HX23.out; omega))
  have HT5 := hide (HT4.out.foot f5 (fun ad e (h : ad.block = w.heap.size + 1) => by have := HNW.out ad e; have := HLT.out; have := HX23.out; omega))
  have HBL5 := hide ((below_one HB03.out (Below.refl _ _)).trans ((HB34.out.mono (by have := HBX.out.size; have := HX23.out; omega)).trans (f5.below (by have := HB34.out.size; have := HX33.out; have := HX23.out; have := HBX.out.size; omega) (fun k (e : k = _) => by omega))))
  obtain ⟨w5, hw5⟩ : ∃ w5, lay11 w4 (w.heap.size + 1) m2 (.slice co (2 + ln + bn) cc) = w5 := ⟨_, rfl⟩
  rw [hw5] at HZL HC5 HB5 HT5 HBL5
  unfold lay11 at hw5
  rw [← HM2.out] at hw5
  simp only [show (((0 : Nat)) : Int) = 0 from rfl] at hw5
  obtain ⟨n5, hn5⟩ : ∃ q, 2 + ln + bn = q := ⟨_, rfl⟩
  rw [hn5] at HB5 HR4 hw5 HZL
  have HN5 := hide hn5
  have HSa : Hid (w3.drew.cell? ⟨w.heap.size, 0, none⟩ = some (.int .u64 (c.p : Int)) ∧ w3.drew.cell? ⟨w.heap.size, 1, none⟩ = some (.int .u32 (c.o : Int)) ∧ w3.drew.cell? ⟨w.heap.size, 2, none⟩ = some (.int .u8 (c.r : Int)) ∧ w3.drew.cell? ⟨w.heap.size, 3, none⟩ = some (.int .u64 (c.c : Int))) := ⟨HC3.out.c0, HC3.out.c1, HC3.out.c2, HC3.out.c3⟩
  obtain ⟨z0, z1, z2, z3, z4, z5, z6, z7, z8, z9, z10⟩ := HM4.out.all
  have x0 := HM4.out.z 0
  have x1 := HM4.out.z 1
  have x2 := HM4.out.z 2
  have x3 := HM4.out.z 3
  have x4 := HM4.out.z 4
  have x5 := HM4.out.z 5
  have x6 := HM4.out.z 6
  have x7 := HM4.out.z 7
  have x8 := HM4.out.z 8
  have x9 := HM4.out.z 9
  have x10 := HM4.out.z 10
  clear O3 b3 b23 hr4 O4 F4 hown hb4 far f5 hn5 hcv hn hbn
  go_wp2_with fail
  go_region_held_law (fun U => U.cell? ⟨w.heap.size, 0, none⟩ = some (.int .u64 (c.p : Int)) ∧ U.cell? ⟨w.heap.size, 1, none⟩ = some (.int .u32 (c.o : Int)) ∧ U.cell? ⟨w.heap.size, 2, none⟩ = some (.int .u8 (c.r : Int)) ∧ U.cell? ⟨w.heap.size, 3, none⟩ = some (.int .u64 (c.c : Int)))
    (first | with_reducible exact HSa.out | with_reducible exact ⟨HC4.out.c0, HC4.out.c1, HC4.out.c2, HC4.out.c3⟩ | with_reducible exact ⟨HC5.out.c0, HC5.out.c1, HC5.out.c2, HC5.out.c3⟩)
    (refine step_append_run (by rfl) _ _ _ (by rfl) _ _ _ _ (by rfl) (by rfl) HR4.out ?_)
  obtain ⟨v0, v1, v2, v3, v4, v5, v6, v7, v8, v9, v10⟩ := HZL.out.all
  go_wp2
  refine bodyPost_ret (by simp [results, Tryz.results22, go_sem, v0, v1, v2, v3, v4, v5, v6, v7, v8, v9, v10]; rfl) rfl ?_
  exact ⟨co, n5, cc, rfl, HB5.out, HNW.out.le (by have := HBX.out.size; have := HX23.out; omega), HT5.out, HN5.out.symm, HBL5.out⟩
end
end Go.Proofs.YtlmnnjibggdboaaGreatDoor
namespace Go.Proofs.YtlmnnjibggdboaaGreatDoor
section
open Go.RowKit
theorem cre_es (ws : List Nat) (t : Nat) (es : List Ent) (p : Nat) (T : Nat → Ob) (vl : Int) : (creF ws t es p T vl).es = es := by
  unfold creF
  repeat' split
  all_goals rfl
variable {ws : List Nat} {p : Nat} {s : Hs} {N : Nat}
structure Fit (N : Nat) (s : Hs) : Prop where
  el : s.es.length ≤ 2 * N
  q : s.q ≤ 1000 * N
  n : s.n ≤ N
  vl : ∀ k, 0 ≤ (s.T k).v ∧ (s.T k).v ≤ (s.n : Int)
  top : ∀ z : Int, (s.n : Int) < z → s.L z = []
theorem Fit.lim (h : Fit N s) (hN : N ≤ 1000000000000) : Lim s :=
  ⟨by have := h.el; omega, by have := h.q; omega, by have := h.n; omega, fun k => by have := h.vl k; have := h.n; unfold I64; exact ⟨by omega, by omega⟩⟩
theorem Fit.le (h : Fit N s) {M : Nat} (hM : N ≤ M) : Fit M s := ⟨by have := h.el; omega, by have := h.q; omega, by have := h.n; omega, h.vl, h.top⟩
theorem fit_bad {e : Nat} (h : Fit N s) : Fit N (badF s e).s := h
theorem Fit.tab (h : Fit N s) (t : Nat) (es : List Ent) (he : es.length ≤ 2 * N) : Fit N (s.tab t es s.T) := ⟨he, h.q, h.n, h.vl, h.top⟩
theorem updL_top {L : Int → List Rw} {n : Nat} (h : ∀ z : Int, (n : Int) < z → L z = []) {z : Int} (hz : z ≤ (n : Int)) (l : List Rw) : ∀ y : Int, (n : Int) < y → updL L z l y = [] := fun y hy => by
  rw [updL_other _ _ (by omega)]; exact h y hy
theorem updL_nil {L : Int → List Rw} {n : Nat} (h : ∀ z : Int, (n : Int) < z → L z = []) (z : Int) : ∀ y : Int, (n : Int) < y → updL L z [] y = [] := fun y hy => by
  by_cases e : y = z
  · subst e; exact updL_same _ _ _
  · rw [updL_other _ _ e]; exact h y hy
theorem Fit.row (h : Fit N s) {z : Int} (hz : z ≤ (s.n : Int)) (l : List Rw) (he : s.es.length ≤ 2 * (N + 1)) : Fit (N + 1) (s.row z l) :=
  ⟨he, by have := h.q; show s.q + 1 ≤ 1000 * (N + 1); omega, by have := h.n; show s.n ≤ _; omega, h.vl, updL_top h.top hz l⟩
theorem des_vl {T : Nat → Ob} {n : Nat} (h : ∀ k, 0 ≤ (T k).v ∧ (T k).v ≤ (n : Int)) (K : Chk) : ∀ k, 0 ≤ (desT T K k).v ∧ (desT T K k).v ≤ (n : Int) := fun k => by
  unfold desT
  split
  · unfold updO
    split
    · exact ⟨Int.le_refl _, by show (0 : Int) ≤ _; omega⟩
    · exact h k
  · exact h k
theorem fit_look (h : Fit N s) (y : Rw) (he : s.es.length ≤ 2 * N + 1) : Fit (N + 1) (lookF ws s y).s := by
  have hl := of_len ws s.t s.es y.c.c y.m
  unfold lookF
  split
  · exact h.le (by omega)
  split
  · split
    · exact (h.le (Nat.le_succ N)).tab _ _ (by omega)
    · exact (h.le (Nat.le_succ N)).tab _ _ (by omega)
  · exact h.le (by omega)
theorem cre_vl {T : Nat → Ob} {n t : Nat} {es : List Ent} (h : ∀ k, 0 ≤ (T k).v ∧ (T k).v ≤ (n : Int)) : ∀ k, 0 ≤ ((creF ws t es p T ((n + 1 : Nat) : Int)).T k).v ∧ ((creF ws t es p T ((n + 1 : Nat) : Int)).T k).v ≤ ((n + 1 : Nat) : Int) := fun k => by
  have hk := h k
  have hk2 : 0 ≤ (T k).v ∧ (T k).v ≤ ((n + 1 : Nat) : Int) := ⟨hk.1, by have := hk.2; omega⟩
  unfold creF
  split
  · split
    · show 0 ≤ (updO T _ _ k).v ∧ (updO T _ _ k).v ≤ _
      unfold updO
      split
      · exact ⟨by show (0 : Int) ≤ ((n + 1 : Nat) : Int); omega, Int.le_refl _⟩
      · exact hk2
    · exact hk2
  · exact hk2
theorem cre_same {T : Nat → Ob} {t : Nat} {es : List Ent} {v : Int} (h : (creF ws t es p T v).e ≠ 0) : (creF ws t es p T v).T = T := by
  revert h
  unfold creF
  split
  · split
    · intro h; exact absurd rfl h
    · intro _; rfl
  · intro _; rfl
/- one request more -/
theorem fit_do (h0 : Fit N s) (es' : List Ent) (t' : Nat) (he : es'.length ≤ s.es.length + 1) (op : Nat) (z : Int) (hz : z ≤ (s.n : Int)) (ar : Nat) (l : List UInt8) : Fit (N + 1) (doF ws p (s.tab t' es' s.T) op z ar l).s := by
  have hel := h0.el
  have h1 : Fit (N + 1) (s.tab t' es' s.T) := ⟨by show es'.length ≤ _; omega, by have := h0.q; show s.q ≤ 1000 * (N + 1); omega, by have := h0.n; show s.n ≤ _; omega, h0.vl, h0.top⟩
  have hrow : ∀ l', Fit (N + 1) ((s.tab t' es' s.T).row z l') := fun l' => ⟨by show es'.length ≤ _; omega, by have := h0.q; show s.q + 1 ≤ 1000 * (N + 1); omega, by have := h0.n; show s.n ≤ _; omega, h0.vl, updL_top h0.top hz l'⟩
  unfold doF
  split
  · unfold mkF
    have ce := cre_es ws t' es' p s.T ((s.n + 1 : Nat) : Int)
    have hv := cre_vl (ws := ws) (t := t') (es := es') (p := p) h0.vl
    split
    · refine ⟨by show (creF ws t' es' p s.T ((s.n + 1 : Nat) : Int)).es.length ≤ _; rw [ce]; omega, by have := h0.q; show s.q ≤ 1000 * (N + 1); omega, by have := h0.n; show s.n + 1 ≤ _; omega, hv, ?_⟩
      exact updL_nil (n := s.n + 1) (fun y hy => h0.top y (by have hy' : ((s.n + 1 : Nat) : Int) < y := hy; omega)) _
    · rename_i hne
      refine ⟨by show (creF ws t' es' p s.T ((s.n + 1 : Nat) : Int)).es.length ≤ _; rw [ce]; omega, by have := h0.q; show s.q ≤ 1000 * (N + 1); omega, by have := h0.n; show s.n ≤ _; omega, fun k => ?_, h0.top⟩
      have hT : (creF ws t' es' p s.T ((s.n + 1 : Nat) : Int)).T = s.T := cre_same hne
      show 0 ≤ ((creF ws t' es' p s.T ((s.n + 1 : Nat) : Int)).T k).v ∧ ((creF ws t' es' p s.T ((s.n + 1 : Nat) : Int)).T k).v ≤ (s.n : Int)
      rw [hT]; exact h0.vl k
  split
  · exact h1
  unfold nameF
  split
  · exact h1
  split
  · exact h1
  split
  · exact h1
  split
  · have hl := fun y : Rw => of_len ws t' es' y.c.c y.m
    unfold lookF
    split
    · exact h1
    split
    · split
      · exact ⟨by refine Nat.le_trans (hl _) ?_; omega, h1.q, h1.n, h1.vl, h1.top⟩
      · exact ⟨by refine Nat.le_trans (hl _) ?_; omega, h1.q, h1.n, h1.vl, h1.top⟩
    · exact h1
  split
  · exact hrow _
  split
  · exact h1
  unfold entF
  split
  · exact hrow _
  split
  · exact h1
  · exact hrow _
theorem fit_out (h : Fit N s) (op : Nat) (c : Cp) (ar : Nat) (l : List UInt8) : Fit (N + 1) (outF ws p s op c ar l).s := by
  have h1 := h.le (Nat.le_succ N)
  have hel := h.el
  unfold outF
  split
  · exact h1
  split
  · have hk := chk_len ws s.t s.es p s.T c 8
    unfold dstF
    split
    · exact h1.tab _ _ (by omega)
    split
    · exact ⟨by show (chkF ws s.t s.es p s.T c 8).es.length ≤ _; omega, h1.q, h1.n, des_vl h.vl _, updL_nil h.top _⟩
    · exact h1.tab _ _ (by omega)
  split
  · exact h1
  · have hk := chk_len ws s.t s.es p s.T c (needN op)
    unfold ownF
    split
    · exact fit_do h _ _ hk op _ (h.vl _).2 ar l
    · exact h1.tab _ _ (by omega)
theorem fit_new {R : Cre} {t : Nat} {es : List Ent} {T : Nat → Ob} (hR : creF ws t es p T 0 = R) (he : es.length ≤ 2 * N) (hT : ∀ k, (T k).v = 0) : Fit N ⟨R.t, R.es, R.T, 0, 0, L0⟩ := by
  have ce := cre_es ws t es p T 0
  rw [hR] at ce
  refine ⟨by show R.es.length ≤ _; rw [ce]; exact he, Nat.zero_le _, Nat.zero_le _, fun k => ?_, fun _ _ => rfl⟩
  have : (R.T k).v = 0 := by
    rw [← hR]; unfold creF
    split
    · split
      · simp only; unfold updO
        split
        · rfl
        · exact hT k
      · exact hT k
    · exact hT k
  show 0 ≤ (R.T k).v ∧ (R.T k).v ≤ ((0 : Nat) : Int)
  rw [this]; exact ⟨Int.le_refl _, Int.le_refl _⟩
end
end Go.Proofs.YtlmnnjibggdboaaGreatDoor
namespace Go.Proofs.YtlmnnjibggdboaaGreatDoor
section
open Go.RowKit
variable {w0 w w1 w2 w' : World} {A A' : Ad} {p : Nat} {ws : List Nat} {s s' s1 : Hs} {r g : Nat} {sb : Nat × Bool} {N : Nat}
theorem Kh.trans' {a b c : World} (x : Kh a b) (y : Kh b c) : Kh a c := x.trans y
/- what a request leaves: the reply, and what is there behind it -/
def AskE (w0 w : World) (A : Ad) (p : Nat) (ws : List Nat) (r : Nat) (R : Ro) (m : Msg) (l : List UInt8) (e : Ending) (w' : World) : Prop :=
  ∃ (m3 : Msg) (co : Option Addr) (n cc : Nat) (A2 : Ad), e = .returned (.agg #[.int .u64 m3.ta, .int .u64 m3.rp, .int .u32 m3.id, .int .u16 m3.op, .int .u16 m3.st, .int .u64 m3.p, .int .u32 m3.o, .int .u8 m3.r, .int .u64 m3.c, .int .u64 m3.ar, .slice co n cc]) ∧ m3 = rplF m R ∧ Bts w' co n cc (datF R l) ∧ (datF R l = [] ∨ Typ8 w' co) ∧ Sr w' r A2.g A2.sb ∧ Sv w0 w' A2 p ws R.s ∧ Kh w w' ∧ Foot (SvS A) w w'
theorem ask_srv (m : Msg) (so : Option Addr) (sn sc : Nat) (l : List UInt8) (w : World) (h : Sr w r A.g A.sb) (x : Sv w0 w A p ws s) (hb : Bts w so sn sc l) (q : Okm w0 w m so sn) (ho : m.op = 0 ∨ 5 ≤ m.op) (f : Fit N s) (hN : N ≤ 1000000000000) (hg : Glob w0) (R : Ro) (hR : outF ws p s m.op ⟨m.p, m.o, m.r, m.c⟩ m.ar l = R) :
    Calls Tryz.prog 17 #[.pointer (some ⟨r, 0, none⟩), .agg #[.int .u64 m.ta, .int .u64 m.rp, .int .u32 m.id, .int .u16 m.op, .int .u16 m.st, .int .u64 m.p, .int .u32 m.o, .int .u8 m.r, .int .u64 m.c, .int .u64 m.ar, .slice so sn sc]] w (AskE w0 w A p ws r R m l) := by
  refine (serve_any m so sn sc l w h x hb q ho (f.lim hN) hg R hR).mono ?_
  rintro e w' ⟨m2, co, n, cc, hm, rfl, B, T, E⟩
  have k := x.kh E
  have hs := h.kh k
  obtain ⟨v, dv, nv, S, F, -⟩ := E
  exact ⟨m2, co, n, cc, A.upd v dv nv, rfl, hm, B, T.imp id (fun h => h.2), hs, S, k, F⟩
/- a reply's parts -/
theorem rpl_st (m : Msg) (R : Ro) : (rplF m R).st = R.e := by
  unfold rplF
  split
  · rename_i h; exact h.symm
  · rfl
theorem rpl_cap (m : Msg) (R : Ro) (h : R.e = 0) : (rplF m R).p = R.c.p ∧ (rplF m R).o = R.c.o ∧ (rplF m R).r = R.c.r ∧ (rplF m R).c = R.c.c := by
  unfold rplF; rw [if_pos h]; exact ⟨rfl, rfl, rfl, rfl⟩
theorem rpl_bad (m : Msg) (R : Ro) (h : R.e ≠ 0) : (rplF m R).p = 0 ∧ (rplF m R).o = 0 ∧ (rplF m R).r = 0 ∧ (rplF m R).c = 0 := by
  unfold rplF; rw [if_neg h]; exact ⟨rfl, rfl, rfl, rfl⟩
/- a reply in a variable, and what is there behind it -/
structure Got (w0 w : World) (A : Ad) (p : Nat) (ws : List Nat) (r : Nat) (R : Ro) (m : Msg) (l : List UInt8) (g : Nat) (co : Option Addr) (n cc : Nat) (A2 : Ad) (w' : World) : Prop where
  mb : MB w' g (rplF m R) (.slice co n cc)
  lt : w.heap.size ≤ g
  da : Bts w' co n cc (datF R l)
  ty : datF R l = [] ∨ Typ8 w' co
  sr : Sr w' r A2.g A2.sb
  sv : Sv w0 w' A2 p ws R.s
  kh : Kh w w'
/- the variable was made behind the calls -/
theorem Got.new {m3 : Msg} {co : Option Addr} {n cc : Nat} {A2 : Ad} {R : Ro} {m : Msg} {l : List UInt8} (hm : m3 = rplF m R) (hb : Bts w2 co n cc (datF R l)) (ht : datF R l = [] ∨ Typ8 w2 co) (hs : Sr w2 r A2.g A2.sb) (hx : Sv w0 w2 A2 p ws R.s) (k : Kh w w2) : Got w0 w A p ws r R m l w2.heap.size co n cc A2 (w2.alloc (.cells #[.int .u64 m3.ta, .int .u64 m3.rp, .int .u32 m3.id, .int .u16 m3.op, .int .u16 m3.st, .int .u64 m3.p, .int .u32 m3.o, .int .u8 m3.r, .int .u64 m3.c, .int .u64 m3.ar, .slice co n cc] 55)) := by
  have b := below_alloc w2 (.cells #[.int .u64 m3.ta, .int .u64 m3.rp, .int .u32 m3.id, .int .u16 m3.op, .int .u16 m3.st, .int .u64 m3.p, .int .u32 m3.o, .int .u8 m3.r, .int .u64 m3.c, .int .u64 m3.ar, .slice co n cc] 55)
  exact ⟨hm ▸ mb_new w2 m3 (.slice co n cc), k.size, hb.carry b, ht.imp id (fun h => h.grow b), hs.grow b, hx.grow b, k.trans (below_kh b)⟩
/- the variable was made ahead of them -/
theorem Got.old {m3 x : Msg} {X : Value} {co : Option Addr} {n cc g : Nat} {A2 : Ad} {R : Ro} {m : Msg} {l : List UInt8} (hm : m3 = rplF m R) (hb : Bts w2 co n cc (datF R l)) (ht : datF R l = [] ∨ Typ8 w2 co) (hs : Sr w2 r A2.g A2.sb) (hx : Sv w0 w2 A2 p ws R.s) (k : Kh w w2) (hv : MB w2 g x X) (hg : w.heap.size ≤ g) (h0 : w0.heap.size ≤ w.heap.size) : Got w0 w A p ws r R m l g co n cc A2 (lay11 w2 g m3 (.slice co n cc)) := by
  have f := foot_lay11 w2 g m3 (.slice co n cc)
  have kf : ∀ b cs ty z, w.heap[b]? = some (.cells cs ty z) → ¬ b = g := fun b cs ty z h e => by have := lt_of_heap h; omega
  have off : ∀ ad, co = some ad → Typ8 w2 co → ¬ ad.block = g := fun ad e h h2 => by
    obtain ⟨cs, h3⟩ := h ad e
    rw [h2, show w2.heap[g]? = _ from hv] at h3
    exact absurd (Obj.cells.inj (Option.some.inj h3)).2.1 (by decide)
  refine ⟨hm ▸ hv.lay, hg, ?_, ?_, hs.var f hv (by decide) (by decide), hx.mine hv (Nat.le_trans h0 hg) f, ⟨f.os.trans k.os, f.tape.trans k.tape, f.output.trans k.output, Nat.le_trans k.size f.size, fun b cs ty h ho => (f.block b (Nat.lt_of_lt_of_le (lt_of_heap h) k.size) (kf b _ _ _ h)).trans (k.block b cs ty h ho), fun b cs ty z h hz => (f.block b (Nat.lt_of_lt_of_le (lt_of_heap h) k.size) (kf b _ _ _ h)).trans (k.froz b cs ty z h hz)⟩⟩
  · rcases ht with h | h
    · rw [h] at hb ⊢; exact bts_none hb
    · exact Bts.foot hb f (fun ad e _ => off ad e h)
  · exact ht.imp id (fun h => h.foot f (fun ad e => off ad e h))
theorem Got.grow {R : Ro} {m : Msg} {l : List UInt8} {co : Option Addr} {n cc : Nat} {A2 : Ad} (x : Got w0 w A p ws r R m l g co n cc A2 w1) (b : Below w1.heap.size w1 w2) : Got w0 w A p ws r R m l g co n cc A2 w2 :=
  ⟨x.mb.grow b, x.lt, x.da.carry b, x.ty.imp id (fun h => h.grow b), x.sr.grow b, x.sv.grow b, x.kh.trans (below_kh b)⟩
/- a capability's bytes -/
theorem enc_any (c : Cp) (hc : c.p ≤ 281474976710655 ∧ c.o ≤ 16777215 ∧ c.r ≤ 255 ∧ c.c ≤ 281474976710655) (w : World) :
    Calls Tryz.prog 23 #[.agg #[.int .u64 (c.p : Int), .int .u32 (c.o : Int), .int .u8 (c.r : Int), .int .u64 (c.c : Int)]] w fun e w' => ∃ g, e = .returned (.slice (some ⟨g, 0, none⟩) 16 16) ∧ Bts w' (some ⟨g, 0, none⟩) 16 16 (capF c.p c.o c.r c.c) ∧ Below w.heap.size w w' := by
  refine (encode_yes c.p c.o c.r c.c w hc.1 hc.2.1 hc.2.2.1 hc.2.2.2).mono ?_
  rintro e w' ⟨g, rfl, _, h, b⟩
  obtain ⟨co, cc, hv, hb⟩ := owns_bts h
  obtain ⟨rfl, _, rfl⟩ := Value.slice.inj hv
  exact ⟨g, rfl, hb, b⟩
end
end Go.Proofs.YtlmnnjibggdboaaGreatDoor
namespace Go.Proofs.YtlmnnjibggdboaaGreatDoor
section
open Go.RowKit
variable {w0 w w1 w2 w' : World} {A A' : Ad} {p : Nat} {ws : List Nat} {s s' s1 : Hs} {r g : Nat} {sb : Nat × Bool} {N : Nat}
theorem Od.make {w3 : World} {B go m a h k : Nat} (S : Tk w0 w B go m a h k (.slice none 0 0) ws 0 []) (tb : Tb w3 w.heap.size p go noneO) (b : Below w.heap.size w w3) : Od w0 w3 B w.heap.size go m a h k p (.slice none 0 0) ws 0 [] noneO :=
  ⟨S.grow b, tb, S.new.bel.size⟩
def awW : List Nat := [5, 6, 7]
theorem cut_awW : cutN awW = awW := by decide
theorem row_aw (w : World) : RowN (w.alloc (.cells #[.int .u64 5, .int .u64 6, .int .u64 7] 32)) .u64 32 w.heap.size awW := heap_alloc_new _ _
theorem u64s_aw (w : World) : U64s (w.alloc (.cells #[.int .u64 5, .int .u64 6, .int .u64 7] 32)) (some ⟨w.heap.size, 0, none⟩) 3 3 awW :=
  (row_aw w).u64s (by decide) (fun j => by
    rcases j with _ | _ | _ | j <;> simp [awW])
/- a capability in a variable, by whatever numbers -/
def CBI (w : World) (b : Nat) (p o r c : Int) : Prop := w.heap[b]? = some (.cells #[.int .u64 p, .int .u32 o, .int .u8 r, .int .u64 c] 40 (0, 0))
section
variable {b : Nat} {q1 q2 q3 q4 : Int}
theorem CBI.c0 (h : CBI w b q1 q2 q3 q4) : w.cell? ⟨b, 0, none⟩ = some (.int .u64 q1) := by rw [cell_of_row w b _ _ _ _ h]; rfl
theorem CBI.c1 (h : CBI w b q1 q2 q3 q4) : w.cell? ⟨b, 1, none⟩ = some (.int .u32 q2) := by rw [cell_of_row w b _ _ _ _ h]; rfl
theorem CBI.c2 (h : CBI w b q1 q2 q3 q4) : w.cell? ⟨b, 2, none⟩ = some (.int .u8 q3) := by rw [cell_of_row w b _ _ _ _ h]; rfl
theorem CBI.c3 (h : CBI w b q1 q2 q3 q4) : w.cell? ⟨b, 3, none⟩ = some (.int .u64 q4) := by rw [cell_of_row w b _ _ _ _ h]; rfl
theorem CBI.dr (h : CBI w b q1 q2 q3 q4) : CBI w.drew b q1 q2 q3 q4 := h
theorem CBI.grow (h : CBI w b q1 q2 q3 q4) (k : Below w.heap.size w w') : CBI w' b q1 q2 q3 q4 := (k.block b (lt_of_heap h)).trans h
theorem CBI.kh (h : CBI w b q1 q2 q3 q4) (k : Kh w w') : CBI w' b q1 q2 q3 q4 := (k.block _ _ _ h cap_odd3).trans h
theorem CBI.new (w : World) (q1 q2 q3 q4 : Int) : CBI (w.alloc (.cells #[.int .u64 q1, .int .u32 q2, .int .u8 q3, .int .u64 q4] 40)) w.heap.size q1 q2 q3 q4 := heap_alloc_new _ _
end
theorem mbz_new (w : World) : MB (w.alloc (.cells #[.int .u64 0, .int .u64 0, .int .u32 0, .int .u16 0, .int .u16 0, .int .u64 0, .int .u32 0, .int .u8 0, .int .u64 0, .int .u64 0, .slice none 0 0] 55)) w.heap.size Msg.zero (.slice none 0 0) := heap_alloc_new _ _
theorem MB.dr {m : Msg} {D : Value} (h : MB w g m D) : MB w.drew g m D := h
theorem eight {b1 b2 : Nat} {p1 o1 r1 c1 p2 o2 r2 c2 : Int} (h : CBI w b1 p1 o1 r1 c1) (k : CBI w b2 p2 o2 r2 c2) : w.cell? ⟨b1, 0, none⟩ = some (.int .u64 p1) ∧ w.cell? ⟨b1, 1, none⟩ = some (.int .u32 o1) ∧ w.cell? ⟨b1, 2, none⟩ = some (.int .u8 r1) ∧ w.cell? ⟨b1, 3, none⟩ = some (.int .u64 c1) ∧ w.cell? ⟨b2, 0, none⟩ = some (.int .u64 p2) ∧ w.cell? ⟨b2, 1, none⟩ = some (.int .u32 o2) ∧ w.cell? ⟨b2, 2, none⟩ = some (.int .u8 r2) ∧ w.cell? ⟨b2, 3, none⟩ = some (.int .u64 c2) := ⟨h.c0, h.c1, h.c2, h.c3, k.c0, k.c1, k.c2, k.c3⟩
theorem eight_lay {b1 b2 : Nat} {p1 o1 r1 c1 p2 o2 r2 c2 : Int} {x : Msg} {X : Value} (hv : MB w g x X) (m : Msg) (D : Value) (h : CBI w b1 p1 o1 r1 c1) (k : CBI w b2 p2 o2 r2 c2) : (lay11 w g m D).cell? ⟨b1, 0, none⟩ = some (.int .u64 p1) ∧ (lay11 w g m D).cell? ⟨b1, 1, none⟩ = some (.int .u32 o1) ∧ (lay11 w g m D).cell? ⟨b1, 2, none⟩ = some (.int .u8 r1) ∧ (lay11 w g m D).cell? ⟨b1, 3, none⟩ = some (.int .u64 c1) ∧ (lay11 w g m D).cell? ⟨b2, 0, none⟩ = some (.int .u64 p2) ∧ (lay11 w g m D).cell? ⟨b2, 1, none⟩ = some (.int .u32 o2) ∧ (lay11 w g m D).cell? ⟨b2, 2, none⟩ = some (.int .u8 r2) ∧ (lay11 w g m D).cell? ⟨b2, 3, none⟩ = some (.int .u64 c2) := by
  have f := foot_lay11 w g m D
  have ne : ∀ b q1 q2 q3 q4, CBI w b q1 q2 q3 q4 → ¬ b = g := fun b q1 q2 q3 q4 h e => by
    subst e
    have hv2 : w.heap[b]? = _ := hv
    rw [show w.heap[b]? = _ from h] at hv2
    exact absurd (Obj.cells.inj (Option.some.inj hv2)).2.1 (by decide)
  exact eight ((f.block _ (lt_of_heap h) (ne _ _ _ _ _ h)).trans h) ((f.block _ (lt_of_heap k) (ne _ _ _ _ _ k)).trans k)
theorem dat_typ {N n : Nat} {co : Option Addr} (h : Typ8 w co) : Dat N w n co := fun _ ad e => by
  obtain ⟨cs, h⟩ := h ad e
  exact .inr ⟨cs, _, h⟩
def aw0 : Cre := creF awW 0 [] 1 noneO 0
def awS : Hs := ⟨aw0.t, aw0.es, aw0.T, 0, 0, L0⟩
def awX : Cp := ⟨9, 0, 255, 8⟩
def awM1 : Msg := ⟨0, 0, 0, 102, 0, 1, 0, 255, 5, 1⟩
def awM2 : Msg := ⟨0, 0, 0, 101, 0, 1, 0, 255, 5, 0⟩
def awL1 : List UInt8 := putF 1 2 ++ [97] ++ capF 9 0 255 8
def awL2 : List UInt8 := putF 1 2 ++ [97] ++ []
def aw1 : Ro := outF awW 1 awS 102 ⟨1, 0, 255, 5⟩ 1 awL1
def aw2 : Ro := outF awW 1 aw1.s 101 ⟨1, 0, 255, 5⟩ 0 awL2
def aw3 : Ro := outF awW 1 aw2.s 102 ⟨1, 0, 255, 5⟩ 1 awL1
theorem aw0_e : aw0.e = 0 := by kernel_rfl
theorem aw0_c : aw0.c = ⟨1, 0, 255, 5⟩ := by kernel_rfl
theorem aw1_e : aw1.e = 0 := by kernel_rfl
theorem aw2_e : aw2.e = 0 := by kernel_rfl
theorem aw2_c : aw2.c = ⟨9, 0, 1, 6⟩ := by kernel_rfl
theorem aw3_e : aw3.e = 11 := by kernel_rfl
theorem fit_aw0 : Fit 0 awS := fit_new (R := aw0) rfl (by decide) (fun _ => rfl)
theorem fit_aw1 : Fit 1 aw1.s := fit_out fit_aw0 _ _ _ _
theorem fit_aw2 : Fit 2 aw2.s := fit_out fit_aw1 _ _ _ _
def awXB : List UInt8 := capF 9 0 255 8
theorem awEnc (W : World) : Calls Tryz.prog 23 #[.agg #[.int .u64 9, .int .u32 0, .int .u8 255, .int .u64 8]] W fun e w' => ∃ g, e = .returned (.slice (some ⟨g, 0, none⟩) 16 16) ∧ Bts w' (some ⟨g, 0, none⟩) 16 16 awXB ∧ Below W.heap.size W w' := enc_any awX ⟨by decide, by decide, by decide, by decide⟩ W
theorem awReq1 (W : World) (bo : Option Addr) (hb : Bts W bo 16 16 awXB) : Calls Tryz.prog 22 #[.int .u16 102, .agg #[.int .u64 1, .int .u32 0, .int .u8 255, .int .u64 5], .int .u64 1, .string { data := #[97] }, .slice bo 16 16] W fun e w' => ∃ co n cc, e = .returned (.agg #[.int .u64 awM1.ta, .int .u64 awM1.rp, .int .u32 awM1.id, .int .u16 awM1.op, .int .u16 awM1.st, .int .u64 awM1.p, .int .u32 awM1.o, .int .u8 awM1.r, .int .u64 awM1.c, .int .u64 awM1.ar, .slice co n cc]) ∧ Bts w' co n cc awL1 ∧ Typ8 w' co ∧ n ≤ 200000 ∧ Below W.heap.size W w' := by
  refine (req_any 102 ⟨1, 0, 255, 5⟩ 1 [97] bo 16 16 awXB W hb (by decide) (by omega) awM1 rfl 102 rfl).mono ?_
  rintro e w' ⟨co, n, cc, rfl, B, _, T, hn, b⟩
  exact ⟨co, n, cc, rfl, B, T, by simp at hn; omega, b⟩
theorem awReq2 (W : World) : Calls Tryz.prog 22 #[.int .u16 101, .agg #[.int .u64 1, .int .u32 0, .int .u8 255, .int .u64 5], .int .u64 0, .string { data := #[97] }, .slice none 0 0] W fun e w' => ∃ co n cc, e = .returned (.agg #[.int .u64 awM2.ta, .int .u64 awM2.rp, .int .u32 awM2.id, .int .u16 awM2.op, .int .u16 awM2.st, .int .u64 awM2.p, .int .u32 awM2.o, .int .u8 awM2.r, .int .u64 awM2.c, .int .u64 awM2.ar, .slice co n cc]) ∧ Bts w' co n cc awL2 ∧ Typ8 w' co ∧ n ≤ 200000 ∧ Below W.heap.size W w' := by
  refine (req_any 101 ⟨1, 0, 255, 5⟩ 0 [97] none 0 0 [] W (bts_nil _) (by decide) (by omega) awM2 rfl 101 rfl).mono ?_
  rintro e w' ⟨co, n, cc, rfl, B, _, T, hn, b⟩
  exact ⟨co, n, cc, rfl, B, T, by simp at hn; omega, b⟩
theorem okm_typ {m : Msg} {co : Option Addr} {n : Nat} (hc : (Cp.mk m.p m.o m.r m.c).ok) (ho : m.op ≤ 65535) (ha : m.ar ≤ 18446744073709551615) (hn : n ≤ 200000) (T : Typ8 w co) : Okm w0 w m co n := ⟨hc, ho, ha, by omega, dat_typ T⟩
theorem awSrv (m : Msg) (l : List UInt8) (R : Ro) (s : Hs) (N : Nat) (w0 : World) (hg : Glob w0) (hc : (Cp.mk m.p m.o m.r m.c).ok) (ho : 5 ≤ m.op ∧ m.op ≤ 65535) (ha : m.ar ≤ 18446744073709551615) (p : Nat) (ws : List Nat) (hR : outF ws p s m.op ⟨m.p, m.o, m.r, m.c⟩ m.ar l = R) (f : Fit N s) (hN : N ≤ 1000000000000) (rr : Nat) (A : Ad) (W : World) (qo : Option Addr) (qn qc : Nat) (S : Sr W rr A.g A.sb) (X : Sv w0 W A p ws s) (B : Bts W qo qn qc l) (hn : qn ≤ 200000) (T : Typ8 W qo) :
    Calls Tryz.prog 17 #[.pointer (some ⟨rr, 0, none⟩), .agg #[.int .u64 m.ta, .int .u64 m.rp, .int .u32 m.id, .int .u16 m.op, .int .u16 m.st, .int .u64 m.p, .int .u32 m.o, .int .u8 m.r, .int .u64 m.c, .int .u64 m.ar, .slice qo qn qc]] W (AskE w0 W A p ws rr R m l) :=
  ask_srv m qo qn qc l W S X B (okm_typ hc ho.2 ha hn T) (.inr ho.1) f hN hg R hR
end
end Go.Proofs.YtlmnnjibggdboaaGreatDoor
namespace Go.Proofs.YtlmnnjibggdboaaGreatDoor
section
open Go.RowKit
variable {w0 w w1 w2 w' : World} {A A' : Ad} {p : Nat} {ws : List Nat} {s s' s1 : Hs} {r g : Nat} {sb : Nat × Bool} {N : Nat}
set_option maxRecDepth 20000 in
set_option maxHeartbeats 6400000 in
theorem awake_any (w : World) (hg : Glob w) :
    Calls Tryz.prog 8 #[] w fun e w' => e = .returned (.bool true) ∧ Below w.heap.size w w' := by
  have HENC := hide awEnc
  have HREQ1 := hide awReq1
  have HREQ2 := hide awReq2
  have HSRV1 := hide (awSrv awM1 awL1 aw1 awS 0 w hg ⟨by decide, by decide, by decide, by decide⟩ ⟨by decide, by decide⟩ (by decide) 1 awW rfl fit_aw0 (by omega))
  have HSRV2 := hide (awSrv awM2 awL2 aw2 aw1.s 1 w hg ⟨by decide, by decide, by decide, by decide⟩ ⟨by decide, by decide⟩ (by decide) 1 awW rfl fit_aw1 (by omega))
  have HSRV3 := hide (awSrv awM1 awL1 aw3 aw2.s 2 w hg ⟨by decide, by decide, by decide, by decide⟩ ⟨by decide, by decide⟩ (by decide) 1 awW rfl fit_aw2 (by omega))
  have HG := hide hg
  clear hg
  go_enter Tryz.func8, Tryz.ntmps8
  go_wp2_with fail
  refine (of_any _ _ _ awW _ (u64s_aw w) (by omega)).mono ?_; rintro e x1 ⟨ta, th, tk, rfl, TA, _, ha, hh2, bel⟩
  rw [cut_awW] at TA
  have HT := hide TA
  have HTA := hide ha
  have HTH := hide hh2
  have HBE := hide bel
  clear TA bel ha hh2
  go_wp2_with fail
  refine (oof_any _ ⟨_, rfl⟩ _).mono ?_; rintro e x2 ⟨go, gm, rfl, O2, bel2⟩
  have HS3 := hide (Tk.made (below_alloc w _) HT.out HTA.out HTH.out HBE.out O2 bel2)
  clear O2 bel2 HT HBE HTA HTH
  go_wp2_with fail
  refine (tof_new 1 _).mono ?_; rintro e x3 ⟨rfl, T4, b4⟩
  have HO4 := hide (Od.make HS3.out T4 b4)
  obtain ⟨gt, hgg⟩ : ∃ g, x2.heap.size = g := ⟨_, rfl⟩
  rw [hgg] at HO4 ⊢
  clear T4 b4 HS3 hgg
  go_wp2_with fail
  refine (dir_yes _ HO4.out (by show 0 ≤ _; omega) aw0 rfl aw0_e).mono ?_; rintro e x4 ⟨rr, rfl, A, hA, -, -, -, hAh, -, -, hAN, -, -, -, X4, S4, F4⟩
  rw [aw0_c]
  simp only [Cp.val]
  have HS4 := hide S4
  have HX4 : Hid (Sv w x4 A 1 awW awS) := X4
  clear F4 X4 S4 HO4 hA hAh hAN
  obtain ⟨V1, hV1⟩ : ∃ V1, x4.alloc (.cells #[.int .u64 1, .int .u32 0, .int .u8 255, .int .u64 5] 40) = V1 := ⟨_, rfl⟩
  have b1 : Below x4.heap.size x4 V1 := hV1 ▸ below_alloc _ _
  have Q1 : CBI V1 x4.heap.size 1 0 255 5 := hV1 ▸ CBI.new x4 1 0 255 5
  obtain ⟨V2, hV2⟩ : ∃ V2, V1.alloc (.cells #[.int .u64 9, .int .u32 0, .int .u8 255, .int .u64 8] 40) = V2 := ⟨_, rfl⟩
  have b2 : Below V1.heap.size V1 V2 := hV2 ▸ below_alloc _ _
  have HXC : Hid (CBI V2 V1.heap.size 9 0 255 8) := hV2 ▸ CBI.new V1 9 0 255 8
  have HR := hide (Q1.grow b2)
  have HS := hide (HS4.out.grow (below_one b1 b2))
  have HX := hide (HX4.out.grow (below_one b1 b2))
  clear b1 Q1 HS4 HX4 b2
  go_upto_region 6 with fail
  go_cut [6] from 26 to 32 (fun vv wx => ∃ g co n cc A2, vv = .pointer (some ⟨g, 0, none⟩) ∧ Got w V2 A 1 awW rr aw1 awM1 awL1 g co n cc A2 wx)
  case first =>
    have bb : Below V2.heap.size V2 V2.drew := (Below.refl _ _).drew
    have HRd := hide (CBI.dr HR.out)
    have HXd := hide (CBI.dr HXC.out)
    have Ed := hide (eight HRd.out HXd.out)
    have Eda := hide (eight (CBI.dr (HR.out.grow (below_alloc V2 (.cells #[.int .u64 0, .int .u64 0, .int .u32 0, .int .u16 0, .int .u16 0, .int .u64 0, .int .u32 0, .int .u8 0, .int .u64 0, .int .u64 0, .slice none 0 0] 55)))) (CBI.dr (HXC.out.grow (below_alloc V2 (.cells #[.int .u64 0, .int .u64 0, .int .u32 0, .int .u16 0, .int .u16 0, .int .u64 0, .int .u32 0, .int .u8 0, .int .u64 0, .int .u64 0, .slice none 0 0] 55)))))
    go_region_held (fun U => U.cell? ⟨x4.heap.size, 0, none⟩ = some (.int .u64 1) ∧ U.cell? ⟨x4.heap.size, 1, none⟩ = some (.int .u32 0) ∧ U.cell? ⟨x4.heap.size, 2, none⟩ = some (.int .u8 255) ∧ U.cell? ⟨x4.heap.size, 3, none⟩ = some (.int .u64 5) ∧ U.cell? ⟨V1.heap.size, 0, none⟩ = some (.int .u64 9) ∧ U.cell? ⟨V1.heap.size, 1, none⟩ = some (.int .u32 0) ∧ U.cell? ⟨V1.heap.size, 2, none⟩ = some (.int .u8 255) ∧ U.cell? ⟨V1.heap.size, 3, none⟩ = some (.int .u64 8))
      (first | with_reducible exact Ed.out | with_reducible exact Eda.out | with_reducible exact E1.out | with_reducible exact E1a.out | with_reducible exact E3.out | with_reducible exact E3a.out | with_reducible exact E5.out | with_reducible exact E5a.out | with_reducible exact E5b.out | with_reducible exact HE6.out)
      (first
        | (go_at_call 23; refine (HENC.out _).mono ?_; rintro e W1 ⟨ge, rfl, BE, be⟩
           have bb1 : Below V2.heap.size V2 W1 := below_one (by go_grown) be
           have hs1 := bb1.size
           have HBE := hide BE
           have HR1 := hide (HR.out.grow bb1)
           have HX1 := hide (HXC.out.grow bb1)
           have E1 := hide (eight HR1.out HX1.out)
           have E1a := hide (eight (HR1.out.grow (below_alloc W1 (.cells #[.int .u64 0, .int .u64 0, .int .u32 0, .int .u16 0, .int .u16 0, .int .u64 0, .int .u32 0, .int .u8 0, .int .u64 0, .int .u64 0, .slice none 0 0] 55))) (HX1.out.grow (below_alloc W1 (.cells #[.int .u64 0, .int .u64 0, .int .u32 0, .int .u16 0, .int .u16 0, .int .u64 0, .int .u32 0, .int .u8 0, .int .u64 0, .int .u64 0, .slice none 0 0] 55)))))
        | (go_at_call 22; refine (HREQ1.out _ _ (HBE.out.carry (by go_grown))).mono ?_; rintro e W3 ⟨qo, qn, qc, rfl, B3, T3, hn3, be3⟩
           have bb3 : Below V2.heap.size V2 W3 := below_one (by go_grown) be3
           have hs3 := bb3.size
           have HB3 := hide B3
           have HT3 := hide T3
           have HN3 := hide hn3
           have HR3 := hide (HR.out.grow bb3)
           have HX3 := hide (HXC.out.grow bb3)
           have E3 := hide (eight HR3.out HX3.out)
           have E3a := hide (eight (HR3.out.grow (below_alloc W3 (.cells #[.int .u64 0, .int .u64 0, .int .u32 0, .int .u16 0, .int .u16 0, .int .u64 0, .int .u32 0, .int .u8 0, .int .u64 0, .int .u64 0, .slice none 0 0] 55))) (HX3.out.grow (below_alloc W3 (.cells #[.int .u64 0, .int .u64 0, .int .u32 0, .int .u16 0, .int .u16 0, .int .u64 0, .int .u32 0, .int .u8 0, .int .u64 0, .int .u64 0, .slice none 0 0] 55))))
           clear B3 T3 hn3)
        | (go_at_call 17; refine (HSRV1.out _ _ _ qo qn qc (HS.out.grow (by go_grown)) (HX.out.grow (by go_grown)) (HB3.out.carry (by go_grown)) HN3.out (HT3.out.grow (by go_grown))).mono ?_; rintro e W5 ⟨m3, co, n, cc, A2, rfl, hm3, B5, T5, S5, X5, K5, F5⟩
           have KV : Kh V2 W5 := (below_kh (by go_grown)).trans K5
           have HKV := hide KV
           have HM3 := hide hm3
           have HB5 := hide B5
           have HT5 := hide T5
           have HS5 := hide S5
           have HX5' := hide X5
           have HR5 := hide (HR.out.kh KV)
           have HX5 := hide (HXC.out.kh KV)
           have E5 := hide (eight HR5.out HX5.out)
           have E5a := hide (eight (HR5.out.grow (below_alloc W5 (.cells #[.int .u64 0, .int .u64 0, .int .u32 0, .int .u16 0, .int .u16 0, .int .u64 0, .int .u32 0, .int .u8 0, .int .u64 0, .int .u64 0, .slice none 0 0] 55))) (HX5.out.grow (below_alloc W5 (.cells #[.int .u64 0, .int .u64 0, .int .u32 0, .int .u16 0, .int .u16 0, .int .u64 0, .int .u32 0, .int .u8 0, .int .u64 0, .int .u64 0, .slice none 0 0] 55))))
           have E5b := hide (eight (HR5.out.grow (below_alloc W5 (.cells #[.int .u64 m3.ta, .int .u64 m3.rp, .int .u32 m3.id, .int .u16 m3.op, .int .u16 m3.st, .int .u64 m3.p, .int .u32 m3.o, .int .u8 m3.r, .int .u64 m3.c, .int .u64 m3.ar, .slice co n cc] 55))) (HX5.out.grow (below_alloc W5 (.cells #[.int .u64 m3.ta, .int .u64 m3.rp, .int .u32 m3.id, .int .u16 m3.op, .int .u16 m3.st, .int .u64 m3.p, .int .u32 m3.o, .int .u8 m3.r, .int .u64 m3.c, .int .u64 m3.ar, .slice co n cc] 55))))
           (first
            | (have M0 : MB W5 V2.heap.size Msg.zero (.slice none 0 0) := by with_reducible exact MB.kh (MB.grow (MB.grow (MB.dr (mbz_new V2)) be) be3) K5
               have hge : V2.heap.size ≤ V2.heap.size := Nat.le_refl _
               have HV := hide M0
               have HGE := hide hge
               obtain ⟨z0, z1, z2, z3, z4, z5, z6, z7, z8, z9, z10⟩ := M0.all
               have x0 := M0.z 0
               have x1 := M0.z 1
               have x2 := M0.z 2
               have x3 := M0.z 3
               have x4 := M0.z 4
               have x5 := M0.z 5
               have x6 := M0.z 6
               have x7 := M0.z 7
               have x8 := M0.z 8
               have x9 := M0.z 9
               have x10 := M0.z 10
               have HE6 := hide (eight_lay M0 m3 (.slice co n cc) HR5.out HX5.out)
               unfold lay11 at HE6
               clear M0)
            | (have M0 : MB W5 W1.heap.size Msg.zero (.slice none 0 0) := by with_reducible exact MB.kh (MB.grow (mbz_new W1) be3) K5
               have hge : V2.heap.size ≤ W1.heap.size := bb1.size
               have HV := hide M0
               have HGE := hide hge
               obtain ⟨z0, z1, z2, z3, z4, z5, z6, z7, z8, z9, z10⟩ := M0.all
               have x0 := M0.z 0
               have x1 := M0.z 1
               have x2 := M0.z 2
               have x3 := M0.z 3
               have x4 := M0.z 4
               have x5 := M0.z 5
               have x6 := M0.z 6
               have x7 := M0.z 7
               have x8 := M0.z 8
               have x9 := M0.z 9
               have x10 := M0.z 10
               have HE6 := hide (eight_lay M0 m3 (.slice co n cc) HR5.out HX5.out)
               unfold lay11 at HE6
               clear M0)
            | (have M0 : MB W5 W3.heap.size Msg.zero (.slice none 0 0) := by with_reducible exact MB.kh (mbz_new W3) K5
               have hge : V2.heap.size ≤ W3.heap.size := bb3.size
               have HV := hide M0
               have HGE := hide hge
               obtain ⟨z0, z1, z2, z3, z4, z5, z6, z7, z8, z9, z10⟩ := M0.all
               have x0 := M0.z 0
               have x1 := M0.z 1
               have x2 := M0.z 2
               have x3 := M0.z 3
               have x4 := M0.z 4
               have x5 := M0.z 5
               have x6 := M0.z 6
               have x7 := M0.z 7
               have x8 := M0.z 8
               have x9 := M0.z 9
               have x10 := M0.z 10
               have HE6 := hide (eight_lay M0 m3 (.slice co n cc) HR5.out HX5.out)
               unfold lay11 at HE6
               clear M0)
            | skip)
           clear hm3 B5 T5 S5 X5 K5 F5 KV))
    all_goals go_wp2_with fail
    all_goals go_meet
    all_goals first
      | with_reducible exact ⟨_, _, _, _, _, rfl, Got.new HM3.out HB5.out HT5.out HS5.out HX5'.out HKV.out⟩
      | (have G := Got.old (A := A) (w := V2) HM3.out HB5.out HT5.out HS5.out HX5'.out HKV.out HV.out HGE.out (HX.out.bel.size)
         unfold lay11 at G
         with_reducible exact ⟨_, _, _, _, _, rfl, G⟩)
  case rest =>
    obtain ⟨ga, coa, na, cca, A2, rfl, Ga⟩ := hcut
    have HGA := hide Ga
    have HR2 := hide (HR.out.kh Ga.kh)
    have HXC2 := hide (HXC.out.kh Ga.kh)
    have HS2 := hide Ga.sr
    have HX2 := hide Ga.sv
    clear Ga
    have r0 := HR2.out.c0
    have r1 := HR2.out.c1
    have r2 := HR2.out.c2
    have r3 := HR2.out.c3
    go_wp2_with fail
    refine (HREQ2.out _).mono ?_; rintro e W3 ⟨qo, qn, qc, rfl, B3, T3, hn3, b3⟩
    have HS3 := hide (HS2.out.grow b3)
    have HX3 := hide (HX2.out.grow b3)
    have HB3 := hide B3
    have HT3 := hide T3
    have HN3 := hide hn3
    have HK3 := hide (below_kh b3)
    clear B3 T3 hn3 b3 r0 r1 r2 r3
    go_wp2_with fail
    refine (HSRV2.out _ _ _ qo qn qc HS3.out HX3.out HB3.out HN3.out HT3.out).mono ?_; rintro e W5 ⟨mb, cob, nb, ccb, A3, rfl, hmb, B5, T5, S5, X5, K5, F5⟩
    have HMB := hide hmb
    have HKB := hide (HK3.out.trans K5)
    obtain ⟨V7, hV7⟩ : ∃ V, W5.alloc (.cells #[.int .u64 mb.ta, .int .u64 mb.rp, .int .u32 mb.id, .int .u16 mb.op, .int .u16 mb.st, .int .u64 mb.p, .int .u32 mb.o, .int .u8 mb.r, .int .u64 mb.c, .int .u64 mb.ar, .slice cob nb ccb] 55) = V := ⟨_, rfl⟩
    have b7 : Below W5.heap.size W5 V7 := hV7 ▸ below_alloc _ _
    have HVB : Hid (MB V7 W5.heap.size mb (.slice cob nb ccb)) := hV7 ▸ mb_new _ _ _
    have HK7 := hide (HKB.out.trans (below_kh b7))
    have HS7 := hide (S5.grow b7)
    have HX7 := hide (X5.grow b7)
    have HR7 := hide (HR2.out.kh HK7.out)
    have HXC7 := hide (HXC2.out.kh HK7.out)
    have HMA7 := hide (HGA.out.mb.kh HK7.out)
    clear hmb B5 T5 S5 X5 K5 F5 b7
    go_upto_region 8 with fail
    go_cut [8] from 37 to 42 (fun vv wx => ∃ g co n cc A2, vv = .pointer (some ⟨g, 0, none⟩) ∧ Got w V7 A3 1 awW rr aw3 awM1 awL1 g co n cc A2 wx)
    case first =>
      have bb : Below V7.heap.size V7 V7.drew := (Below.refl _ _).drew
      have HRd := hide (CBI.dr HR7.out)
      have HXd := hide (CBI.dr HXC7.out)
      have Ed := hide (eight HRd.out HXd.out)
      have Eda := hide (eight (CBI.dr (HR7.out.grow (below_alloc V7 (.cells #[.int .u64 0, .int .u64 0, .int .u32 0, .int .u16 0, .int .u16 0, .int .u64 0, .int .u32 0, .int .u8 0, .int .u64 0, .int .u64 0, .slice none 0 0] 55)))) (CBI.dr (HXC7.out.grow (below_alloc V7 (.cells #[.int .u64 0, .int .u64 0, .int .u32 0, .int .u16 0, .int .u16 0, .int .u64 0, .int .u32 0, .int .u8 0, .int .u64 0, .int .u64 0, .slice none 0 0] 55)))))
      go_region_held (fun U => U.cell? ⟨x4.heap.size, 0, none⟩ = some (.int .u64 1) ∧ U.cell? ⟨x4.heap.size, 1, none⟩ = some (.int .u32 0) ∧ U.cell? ⟨x4.heap.size, 2, none⟩ = some (.int .u8 255) ∧ U.cell? ⟨x4.heap.size, 3, none⟩ = some (.int .u64 5) ∧ U.cell? ⟨V1.heap.size, 0, none⟩ = some (.int .u64 9) ∧ U.cell? ⟨V1.heap.size, 1, none⟩ = some (.int .u32 0) ∧ U.cell? ⟨V1.heap.size, 2, none⟩ = some (.int .u8 255) ∧ U.cell? ⟨V1.heap.size, 3, none⟩ = some (.int .u64 8))
        (first | with_reducible exact Ed.out | with_reducible exact Eda.out | with_reducible exact E1.out | with_reducible exact E1a.out | with_reducible exact E3.out | with_reducible exact E3a.out | with_reducible exact E5.out | with_reducible exact E5a.out | with_reducible exact E5b.out | with_reducible exact HE6.out)
        (first
          | (go_at_call 23; refine (HENC.out _).mono ?_; rintro e W1 ⟨ge, rfl, BE, be⟩
             have bb1 : Below V7.heap.size V7 W1 := below_one (by go_grown) be
             have hs1 := bb1.size
             have HBE := hide BE
             have HR1 := hide (HR7.out.grow bb1)
             have HX1 := hide (HXC7.out.grow bb1)
             have E1 := hide (eight HR1.out HX1.out)
             have E1a := hide (eight (HR1.out.grow (below_alloc W1 (.cells #[.int .u64 0, .int .u64 0, .int .u32 0, .int .u16 0, .int .u16 0, .int .u64 0, .int .u32 0, .int .u8 0, .int .u64 0, .int .u64 0, .slice none 0 0] 55))) (HX1.out.grow (below_alloc W1 (.cells #[.int .u64 0, .int .u64 0, .int .u32 0, .int .u16 0, .int .u16 0, .int .u64 0, .int .u32 0, .int .u8 0, .int .u64 0, .int .u64 0, .slice none 0 0] 55)))))
          | (go_at_call 22; refine (HREQ1.out _ _ (HBE.out.carry (by go_grown))).mono ?_; rintro e W3 ⟨qo, qn, qc, rfl, B3, T3, hn3, be3⟩
             have bb3 : Below V7.heap.size V7 W3 := below_one (by go_grown) be3
             have hs3 := bb3.size
             have HB3 := hide B3
             have HT3 := hide T3
             have HN3 := hide hn3
             have HR3 := hide (HR7.out.grow bb3)
             have HX3 := hide (HXC7.out.grow bb3)
             have E3 := hide (eight HR3.out HX3.out)
             have E3a := hide (eight (HR3.out.grow (below_alloc W3 (.cells #[.int .u64 0, .int .u64 0, .int .u32 0, .int .u16 0, .int .u16 0, .int .u64 0, .int .u32 0, .int .u8 0, .int .u64 0, .int .u64 0, .slice none 0 0] 55))) (HX3.out.grow (below_alloc W3 (.cells #[.int .u64 0, .int .u64 0, .int .u32 0, .int .u16 0, .int .u16 0, .int .u64 0, .int .u32 0, .int .u8 0, .int .u64 0, .int .u64 0, .slice none 0 0] 55))))
             clear B3 T3 hn3)
          | (go_at_call 17; refine (HSRV3.out _ _ _ qo qn qc (HS7.out.grow (by go_grown)) (HX7.out.grow (by go_grown)) (HB3.out.carry (by go_grown)) HN3.out (HT3.out.grow (by go_grown))).mono ?_; rintro e W5 ⟨m3, co, n, cc, A2, rfl, hm3, B5, T5, S5, X5, K5, F5⟩
             have KV : Kh V7 W5 := (below_kh (by go_grown)).trans K5
             have HKV := hide KV
             have HM3 := hide hm3
             have HB5 := hide B5
             have HT5 := hide T5
             have HS5 := hide S5
             have HX5' := hide X5
             have HR5 := hide (HR7.out.kh KV)
             have HX5 := hide (HXC7.out.kh KV)
             have E5 := hide (eight HR5.out HX5.out)
             have E5a := hide (eight (HR5.out.grow (below_alloc W5 (.cells #[.int .u64 0, .int .u64 0, .int .u32 0, .int .u16 0, .int .u16 0, .int .u64 0, .int .u32 0, .int .u8 0, .int .u64 0, .int .u64 0, .slice none 0 0] 55))) (HX5.out.grow (below_alloc W5 (.cells #[.int .u64 0, .int .u64 0, .int .u32 0, .int .u16 0, .int .u16 0, .int .u64 0, .int .u32 0, .int .u8 0, .int .u64 0, .int .u64 0, .slice none 0 0] 55))))
             have E5b := hide (eight (HR5.out.grow (below_alloc W5 (.cells #[.int .u64 m3.ta, .int .u64 m3.rp, .int .u32 m3.id, .int .u16 m3.op, .int .u16 m3.st, .int .u64 m3.p, .int .u32 m3.o, .int .u8 m3.r, .int .u64 m3.c, .int .u64 m3.ar, .slice co n cc] 55))) (HX5.out.grow (below_alloc W5 (.cells #[.int .u64 m3.ta, .int .u64 m3.rp, .int .u32 m3.id, .int .u16 m3.op, .int .u16 m3.st, .int .u64 m3.p, .int .u32 m3.o, .int .u8 m3.r, .int .u64 m3.c, .int .u64 m3.ar, .slice co n cc] 55))))
             (first
              | (have M0 : MB W5 V7.heap.size Msg.zero (.slice none 0 0) := by with_reducible exact MB.kh (MB.grow (MB.grow (MB.dr (mbz_new V7)) be) be3) K5
                 have hge : V7.heap.size ≤ V7.heap.size := Nat.le_refl _
                 have HV := hide M0
                 have HGE := hide hge
                 obtain ⟨z0, z1, z2, z3, z4, z5, z6, z7, z8, z9, z10⟩ := M0.all
                 have x0 := M0.z 0
                 have x1 := M0.z 1
                 have x2 := M0.z 2
                 have x3 := M0.z 3
                 have x4 := M0.z 4
                 have x5 := M0.z 5
                 have x6 := M0.z 6
                 have x7 := M0.z 7
                 have x8 := M0.z 8
                 have x9 := M0.z 9
                 have x10 := M0.z 10
                 have HE6 := hide (eight_lay M0 m3 (.slice co n cc) HR5.out HX5.out)
                 unfold lay11 at HE6
                 clear M0)
              | (have M0 : MB W5 W1.heap.size Msg.zero (.slice none 0 0) := by with_reducible exact MB.kh (MB.grow (mbz_new W1) be3) K5
                 have hge : V7.heap.size ≤ W1.heap.size := bb1.size
                 have HV := hide M0
                 have HGE := hide hge
                 obtain ⟨z0, z1, z2, z3, z4, z5, z6, z7, z8, z9, z10⟩ := M0.all
                 have x0 := M0.z 0
                 have x1 := M0.z 1
                 have x2 := M0.z 2
                 have x3 := M0.z 3
                 have x4 := M0.z 4
                 have x5 := M0.z 5
                 have x6 := M0.z 6
                 have x7 := M0.z 7
                 have x8 := M0.z 8
                 have x9 := M0.z 9
                 have x10 := M0.z 10
                 have HE6 := hide (eight_lay M0 m3 (.slice co n cc) HR5.out HX5.out)
                 unfold lay11 at HE6
                 clear M0)
              | (have M0 : MB W5 W3.heap.size Msg.zero (.slice none 0 0) := by with_reducible exact MB.kh (mbz_new W3) K5
                 have hge : V7.heap.size ≤ W3.heap.size := bb3.size
                 have HV := hide M0
                 have HGE := hide hge
                 obtain ⟨z0, z1, z2, z3, z4, z5, z6, z7, z8, z9, z10⟩ := M0.all
                 have x0 := M0.z 0
                 have x1 := M0.z 1
                 have x2 := M0.z 2
                 have x3 := M0.z 3
                 have x4 := M0.z 4
                 have x5 := M0.z 5
                 have x6 := M0.z 6
                 have x7 := M0.z 7
                 have x8 := M0.z 8
                 have x9 := M0.z 9
                 have x10 := M0.z 10
                 have HE6 := hide (eight_lay M0 m3 (.slice co n cc) HR5.out HX5.out)
                 unfold lay11 at HE6
                 clear M0)
              | skip)
             clear hm3 B5 T5 S5 X5 K5 F5 KV))
      all_goals go_wp2_with fail
      all_goals go_meet
      all_goals first
        | with_reducible exact ⟨_, _, _, _, _, rfl, Got.new HM3.out HB5.out HT5.out HS5.out HX5'.out HKV.out⟩
        | (have G := Got.old (A := A3) (w := V7) HM3.out HB5.out HT5.out HS5.out HX5'.out HKV.out HV.out HGE.out (HX7.out.bel.size)
           unfold lay11 at G
           with_reducible exact ⟨_, _, _, _, _, rfl, G⟩)
    case rest =>
      obtain ⟨gc, coc, nc, ccc, A4, rfl, Gc⟩ := hcut
      have ma := (HMA7.out.kh Gc.kh).all
      have mb := (HVB.out.kh Gc.kh).all
      have mc := Gc.mb.all
      have HBL := hide Gc.sv.bel
      have e1 : wc.cell? ⟨ga, 4, none⟩ = some (.int .u16 0) := by rw [ma.2.2.2.2.1, rpl_st, aw1_e]; rfl
      have e2 : wc.cell? ⟨W5.heap.size, 4, none⟩ = some (.int .u16 0) := by rw [mb.2.2.2.2.1, HMB.out, rpl_st, aw2_e]; rfl
      have e3 : wc.cell? ⟨gc, 4, none⟩ = some (.int .u16 11) := by rw [mc.2.2.2.2.1, rpl_st, aw3_e]; rfl
      have hcp := rpl_cap awM2 aw2 aw2_e
      rw [aw2_c] at hcp
      have p0 : wc.cell? ⟨W5.heap.size, 5, none⟩ = some (.int .u64 9) := by rw [mb.2.2.2.2.2.1, HMB.out, hcp.1]; rfl
      have p1 : wc.cell? ⟨W5.heap.size, 6, none⟩ = some (.int .u32 0) := by rw [mb.2.2.2.2.2.2.1, HMB.out, hcp.2.1]; rfl
      have p2 : wc.cell? ⟨W5.heap.size, 7, none⟩ = some (.int .u8 1) := by rw [mb.2.2.2.2.2.2.2.1, HMB.out, hcp.2.2.1]; rfl
      have p3 : wc.cell? ⟨W5.heap.size, 8, none⟩ = some (.int .u64 6) := by rw [mb.2.2.2.2.2.2.2.2.1, HMB.out, hcp.2.2.2]; rfl
      have hql := fun W => eql_cap 9 0 1 6 9 0 1 6 W
      clear ma mb mc Gc hcp
      go_wp2
      go_ret
      exact ⟨rfl, HBL.out⟩
end
end Go.Proofs.YtlmnnjibggdboaaGreatDoor
