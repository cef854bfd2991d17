/-
  What segment.Of, skeleton.Of and memory.Of answer, as contracts: a half that is made, with its server.
  One request to a server of segments, as a contract.
  The statements' own first step, as a contract.
-/
import Derived.Test.YtpbkjmkdciiccaaGreatDoorJk
namespace Go.Proofs.YtpbkjmkdciiccaaGreatDoor
section
open Go.RowKit
variable {w0 w w1 w2 w' : World} {A A' : Ad} {p : Nat} {ws : List Nat} {s s' s1 : Hs} {r g : Nat} {sb : Nat × Nat}
def L0 : Nat → Option (List UInt8) := fun _ => none
set_option maxRecDepth 20000 in
set_option maxHeartbeats 1600000 in
theorem sto_of (z : Int) (w : World) (n : Nat) (hn : clampF z = n) (hz : -9223372036854775808 ≤ z ∧ z ≤ 9223372036854775807) :
    Calls Tryz.prog 14 #[.int .i64 z] w fun e w' => ∃ st m a b d sg, e = .returned (.pointer (some ⟨st, 0, none⟩)) ∧ Sto w' w.heap.size st m a b n d sg L0 ∧ w.heap.size ≤ m ∧ Below w.heap.size w w' := by
  have HN := hide hn
  clear hn
  go_enter Tryz.func14, Tryz.ntmps14
  go_wp2_with fail
  refine (pof_any z w n HN.out hz).mono ?_; rintro e w1 ⟨m, a, b, rfl, N1⟩
  have H1 := hide N1
  clear N1
  go_wp2
  go_ret
  refine ⟨_, m, a, b, (_, _), fun _ => none, rfl, ⟨⟨?_, H1.out.mem.grow (below_alloc _ _), fun _ _ e => ?_, fun _ _ _ _ e => ?_, fun _ _ _ _ _ e => ?_, H1.out.bel.size, H1.out.ha, H1.out.hb, good_new n⟩, fun _ => rfl⟩, H1.out.hm, below_one H1.out.bel (below_alloc _ _)⟩
  · rw [heap_alloc_new, new_box]
  · cases e
  · cases e
  · cases e
def Sa (w : World) (r g : Nat) (q : Nat) : Prop := w.heap[r]? = some (.cells #[.pointer (some ⟨g, 0, none⟩), .iface 59 (.pointer (some ⟨q, 0, none⟩))] 123 (0, 0))
set_option maxHeartbeats 800000 in
theorem srv_of (g q : Nat) (w : World) :
    Calls Tryz.prog 25 #[.pointer (some ⟨g, 0, none⟩), .iface 59 (.pointer (some ⟨q, 0, none⟩))] w fun e w' => e = .returned (.pointer (some ⟨w.heap.size, 0, none⟩)) ∧ Sa w' w.heap.size g q ∧ Below w.heap.size w w' := by
  have hs : Sa (w.alloc (.cells #[.pointer (some ⟨g, 0, none⟩), .iface 59 (.pointer (some ⟨q, 0, none⟩))] 123)) w.heap.size g q := heap_alloc_new _ _
  have HS := hide hs
  have HB := hide (below_alloc w (.cells #[.pointer (some ⟨g, 0, none⟩), .iface 59 (.pointer (some ⟨q, 0, none⟩))] 123))
  clear hs
  go_enter Tryz.func25, Tryz.ntmps25
  go_wp2
  go_ret
  exact ⟨rfl, HS.out, HB.out⟩
/- what memory.Of leaves, where the table could make its root -/
def MadeEnd (w0 w : World) (g go m a h p : Nat) (v : Value) (ws : List Nat) (n : Nat) (R : Cre) (w' : World) (r : Nat) : Prop :=
  ∃ A : Ad, A.g = g ∧ A.go = go ∧ A.m = m ∧ A.a = a ∧ A.h = h ∧ Moved w v A.v ∧ w.heap.size ≤ A.sm ∧ w.heap.size ≤ A.N ∧ w.heap.size ≤ r ∧ w.heap.size ≤ A.sb.1 ∧ Sv w0 w' A p ws ⟨R.t, R.es, R.T, n, L0⟩ ∧ Sr w' r A.g A.sb ∧ Foot (OdS g go m a v) w w'
set_option maxRecDepth 20000 in
set_option maxHeartbeats 3200000 in
theorem mem_no {B g go m a h k p : Nat} {v : Value} {t : Nat} {es : List Ent} {T : Nat → Ob} (z : Int) (w : World) (x : Od w0 w B g go m a h k p v ws t es T) (hl : es.length ≤ 5000000000000) (R : Cre) (hR : creF ws t es p T (-1) = R) (h0 : R.e ≠ 0) :
    Calls Tryz.prog 11 #[.pointer (some ⟨g, 0, none⟩), .int .i64 z] w fun e w' => e = .returned (.tuple #[.pointer none, Cp.zero.val, erN (R.e : Int)]) ∧ OdEnd w0 w B g go m a h k p v ws w' R.t R.es R.T := by
  obtain ⟨W, hW⟩ : ∃ W, w.alloc (.cells #[.int .u64 0, .int .u32 0, .int .u8 0, .int .u64 0] 36) = W := ⟨_, rfl⟩
  have bW : Below w.heap.size w W := hW ▸ below_alloc w _
  have HC : Hid (CBox W w.heap.size 0 0 0 0) := hW ▸ CBox.new w 0 0 0 0
  have HX := hide (x.grow bW)
  have HBW := hide bW
  have HL := hide hl
  have HR := hide hR
  have HW0 : Hid (w0.heap.size ≤ w.heap.size) := x.tk.new.bel.size
  obtain ⟨er, her⟩ : ∃ er, erN (R.e : Int) = er := ⟨_, rfl⟩
  obtain ⟨tE, hE⟩ : ∃ v, er = .iface 43 v := ⟨_, by rw [← her]; exact erN_not (by omega)⟩
  rw [her]
  have HER := hide her
  obtain ⟨⟨qp, qo, qr, qc⟩, hq⟩ : ∃ q, R.c = q := ⟨_, rfl⟩
  have HQ := hide hq
  clear x bW hl hR h0 her hq
  subst hE
  go_enter Tryz.func11, Tryz.ntmps11
  go_wp2_with fail
  refine (create_any (-1) _ HX.out HL.out R HR.out).mono ?_; rw [HER.out, HQ.out]; rintro e w1 ⟨rfl, E⟩
  simp only [Cp.val]
  obtain ⟨w2, hw2⟩ : ∃ w2, w1.alloc (.cells #[.int .u64 (qp : Int), .int .u32 (qo : Int), .int .u8 (qr : Int), .int .u64 (qc : Int)] 36) = w2 := ⟨_, rfl⟩
  have b2 : Below w1.heap.size w1 w2 := hw2 ▸ below_alloc _ _
  have HC2 : Hid (CBox w2 w.heap.size 0 0 0 0) := by
    obtain ⟨v1, S1, F1, _⟩ := E
    exact (CBox.od HC.out HX.out F1).grow b2
  have HC3 := hide (put_box HC2.out 0 0 0 0)
  have f3 := foot4 w2 w.heap.size (.int .u64 ((0 : Nat) : Int)) (.int .u32 ((0 : Nat) : Int)) (.int .u8 ((0 : Nat) : Int)) (.int .u64 ((0 : Nat) : Int))
  have d0 := HC2.out.c0
  have d1 := HC2.out.c1
  have d2 := HC2.out.c2
  have d3 := HC2.out.c3
  have x0 := HC2.out.z
  have HE : Hid (OdEnd w0 w B g go m a h k p v ws ((((w2.setCell ⟨w.heap.size, 0, none⟩ (.int .u64 ((0 : Nat) : Int))).setCell ⟨w.heap.size, 1, none⟩ (.int .u32 ((0 : Nat) : Int))).setCell ⟨w.heap.size, 2, none⟩ (.int .u8 ((0 : Nat) : Int))).setCell ⟨w.heap.size, 3, none⟩ (.int .u64 ((0 : Nat) : Int))) R.t R.es R.T) := by
    obtain ⟨v1, S1, F1, M1⟩ := E
    refine ⟨v1, (S1.grow b2).foot f3 (fun j e => ?_), ?_, fun j hj => (M1 j hj).imp id (fun z => Nat.le_trans HBW.out.size z)⟩
    · have e : j = w.heap.size := e
      subst e
      refine ⟨HW0.out, ?_, ?_⟩
      · rintro (h | h)
        · exact (S1.grow b2).tk.noAsk HC2.out (by decide) (by decide) (by decide) h
        · obtain ⟨C, hC⟩ := (S1.grow b2).tb.blk
          rw [← h, show w2.heap[w.heap.size]? = _ from HC2.out] at hC; cases hC
      · intro h
        have hr : w2.heap[_]? = some _ := (S1.grow b2).tk.tape.row
        rw [← h, show w2.heap[w.heap.size]? = _ from HC2.out] at hr
        exact absurd (Obj.cells.inj (Option.some.inj hr)).2.1 (by decide)
    · exact (((below_foot _ HBW.out).trans F1 (fun _ e => .inl e)).trans (below_foot (fun _ => False) b2) (fun _ e => e.elim)).trans f3 (fun j (e : j = _) => .inr (by omega))
  clear E b2 f3
  obtain ⟨wz, hwz⟩ : ∃ wz, (((w2.setCell ⟨w.heap.size, 0, none⟩ (.int .u64 ((0 : Nat) : Int))).setCell ⟨w.heap.size, 1, none⟩ (.int .u32 ((0 : Nat) : Int))).setCell ⟨w.heap.size, 2, none⟩ (.int .u8 ((0 : Nat) : Int))).setCell ⟨w.heap.size, 3, none⟩ (.int .u64 ((0 : Nat) : Int)) = wz := ⟨_, rfl⟩
  rw [hwz] at HC3 HE
  simp only [show (((0 : Nat)) : Int) = 0 from rfl] at hwz d0 d1 d2 d3
  have v0 := HC3.out.c0
  have v1 := HC3.out.c1
  have v2 := HC3.out.c2
  have v3 := HC3.out.c3
  simp only [show (((0 : Nat)) : Int) = 0 from rfl] at v0 v1 v2 v3
  go_wp2
  refine bodyPost_ret (by simp [results, Tryz.results11, go_sem, v0, v1, v2, v3]; rfl) rfl ?_
  exact ⟨rfl, HE.out⟩
set_option maxRecDepth 20000 in
set_option maxHeartbeats 6400000 in
theorem mem_yes {B g go m a h k p : Nat} {v : Value} {t : Nat} {es : List Ent} {T : Nat → Ob} (z : Int) (n : Nat) (hn : clampF z = n) (hz : -9223372036854775808 ≤ z ∧ z ≤ 9223372036854775807) (w : World) (x : Od w0 w B g go m a h k p v ws t es T) (hl : es.length ≤ 5000000000000) (R : Cre) (hR : creF ws t es p T (-1) = R) (h0 : R.e = 0) :
    Calls Tryz.prog 11 #[.pointer (some ⟨g, 0, none⟩), .int .i64 z] w fun e w' => ∃ r, e = .returned (.tuple #[.pointer (some ⟨r, 0, none⟩), R.c.val, .nilIface]) ∧ MadeEnd w0 w g go m a h p v ws n R w' r := by
  obtain ⟨W, hW⟩ : ∃ W, w.alloc (.cells #[.int .u64 0, .int .u32 0, .int .u8 0, .int .u64 0] 36) = W := ⟨_, rfl⟩
  have bW : Below w.heap.size w W := hW ▸ below_alloc w _
  have HC : Hid (CBox W w.heap.size 0 0 0 0) := hW ▸ CBox.new w 0 0 0 0
  have HX := hide (x.grow bW)
  have HBW := hide bW
  have HL := hide hl
  have HR := hide hR
  have HN := hide hn
  have HZ := hide hz
  have HW0 : Hid (w0.heap.size ≤ w.heap.size) := x.tk.new.bel.size
  have HER : Hid (erN (R.e : Int) = .nilIface) := by show _ = _; rw [h0]; rfl
  obtain ⟨⟨qp, qo, qr, qc⟩, hq⟩ : ∃ q, R.c = q := ⟨_, rfl⟩
  have HQ := hide hq
  rw [hq]
  clear x bW hl hR h0 hq hn hz
  simp only [Cp.val]
  go_enter Tryz.func11, Tryz.ntmps11
  go_wp2_with fail
  refine (create_any (-1) _ HX.out HL.out R HR.out).mono ?_; rw [HER.out, HQ.out]; rintro e w1 ⟨rfl, E⟩
  simp only [Cp.val]
  obtain ⟨w2, hw2⟩ : ∃ w2, w1.alloc (.cells #[.int .u64 (qp : Int), .int .u32 (qo : Int), .int .u8 (qr : Int), .int .u64 (qc : Int)] 36) = w2 := ⟨_, rfl⟩
  have b2 : Below w1.heap.size w1 w2 := hw2 ▸ below_alloc _ _
  have HQ2 : Hid (CBox w2 w1.heap.size qp qo qr qc) := hw2 ▸ CBox.new w1 qp qo qr qc
  obtain ⟨v1, S1, F1, M1⟩ := E
  have HC2 := hide ((CBox.od HC.out HX.out F1).grow b2)
  have HX2 := hide (S1.grow b2)
  have HF2 : Hid (Foot (OdS g go m a v) w w2) := ((below_foot _ HBW.out).trans F1 (fun _ e => .inl e)).trans (below_foot (fun _ => False) b2) (fun _ e => e.elim)
  have HM2 : Hid (Moved w v v1) := fun j hj => (M1 j hj).imp id (fun z => Nat.le_trans HBW.out.size z)
  have HG2 : Hid (w.heap.size < w1.heap.size) := Nat.lt_of_lt_of_le (lt_of_heap HC.out) F1.size
  have t0 := HQ2.out.c0
  have t1 := HQ2.out.c1
  have t2 := HQ2.out.c2
  have t3 := HQ2.out.c3
  clear S1 F1 M1 b2
  go_wp2_with fail
  clear t0 t1 t2 t3
  go_region_held (fun U => U.cell? ⟨w1.heap.size, 0, none⟩ = some (.int .u64 (qp : Int)) ∧ U.cell? ⟨w1.heap.size, 1, none⟩ = some (.int .u32 (qo : Int)) ∧ U.cell? ⟨w1.heap.size, 2, none⟩ = some (.int .u8 (qr : Int)) ∧ U.cell? ⟨w1.heap.size, 3, none⟩ = some (.int .u64 (qc : Int)))
    (first | exact ⟨HQ2.out.c0, HQ2.out.c1, HQ2.out.c2, HQ2.out.c3⟩ | exact ⟨HQ3.out.c0, HQ3.out.c1, HQ3.out.c2, HQ3.out.c3⟩ | exact ⟨HQ4.out.c0, HQ4.out.c1, HQ4.out.c2, HQ4.out.c3⟩ | exact ⟨HQ5.out.c0, HQ5.out.c1, HQ5.out.c2, HQ5.out.c3⟩ | exact ⟨HQ6.out.c0, HQ6.out.c1, HQ6.out.c2, HQ6.out.c3⟩)
    (first
      | (go_at_call 14; refine (sto_of z _ n HN.out HZ.out).mono ?_; rintro e w3 ⟨st, sm, sa, sq, dv, nv, rfl, x3, hm3, b3⟩; have b3 := below_one (below_d w2 1) b3; have HST := hide x3; have HSM := hide hm3; have HQ3 := hide (HQ2.out.grow b3); have HQ4 := hide (HQ3.out.grow (below_alloc w3 (.cells #[.pointer (some ⟨g, 0, none⟩), .pointer (some ⟨st, 0, none⟩)] 61))); have HC3 := hide (HC2.out.grow b3); have HB3 := hide b3; clear x3 hm3 b3)
      | (go_at_call 25; refine (srv_of g _ _).mono ?_; rintro e w4 ⟨rfl, S4, b4⟩; have HMB : Hid (Mb w4 g (w3.heap.size, st)) := Mb.grow (show Mb (w3.alloc (.cells #[.pointer (some ⟨g, 0, none⟩), .pointer (some ⟨st, 0, none⟩)] 61)) g (w3.heap.size, st) from heap_alloc_new _ _) b4; have b4 := below_one (below_alloc w3 (.cells #[.pointer (some ⟨g, 0, none⟩), .pointer (some ⟨st, 0, none⟩)] 61)) b4; have HSA : Hid (Sa w4 (w3.heap.size + 1) g w3.heap.size) := (by have h := S4; rw [sz1] at h; exact h); have HQ5 := hide (HQ3.out.grow b4); have HC5 := hide (HC3.out.grow b4); have HQ6 := hide (HQ5.out.foot (foot4 w4 w.heap.size (.int .u64 (qp : Int)) (.int .u32 (qo : Int)) (.int .u8 (qr : Int)) (.int .u64 (qc : Int))) (fun (e : w1.heap.size = w.heap.size) => by have := HG2.out; omega)); have HB4 := hide b4; have d0 := HC5.out.c0; have d1 := HC5.out.c1; have d2 := HC5.out.c2; have d3 := HC5.out.c3; have x0 := HC5.out.z; clear S4 b4))
  have f6 := foot4 w4 w.heap.size (.int .u64 (qp : Int)) (.int .u32 (qo : Int)) (.int .u8 (qr : Int)) (.int .u64 (qc : Int))
  have HCZ := hide (put_box HC5.out qp qo qr qc)
  obtain ⟨A, hA⟩ : ∃ A : Ad, A = ⟨B, g, go, m, a, h, k, v1, (w3.heap.size, st), sm, sa, sq, w2.drew.heap.size, dv, nv⟩ := ⟨_, rfl⟩
  have hs2 : w.heap.size ≤ w2.heap.size := HF2.out.size
  have hs3 : w2.heap.size ≤ w3.heap.size := HB3.out.size
  have hs4 : w3.heap.size ≤ w4.heap.size := HB4.out.size
  have SV : Sv w0 w4 A p ws ⟨R.t, R.es, R.T, n, L0⟩ := by
    subst hA
    exact ⟨(HX2.out.grow HB3.out).grow HB4.out, HST.out.grow HB4.out, Nat.le_trans HW0.out hs2, Nat.le_trans hs3 hs4, Nat.le_trans HW0.out (Nat.le_trans hs2 HSM.out)⟩
  have SVZ : Sv w0 _ A p ws ⟨R.t, R.es, R.T, n, L0⟩ := SV.off f6 (fun j e => ⟨by have e : j = w.heap.size := e; have := HW0.out; omega, .inr ⟨_, _, e ▸ HC5.out, cap_odd3⟩⟩)
  have SRZ : Sr _ (w3.heap.size + 1) g (w3.heap.size, st) := Sr.var ⟨HSA.out, HMB.out⟩ f6 HC5.out (by decide) (by decide)
  have FZ : Foot (OdS g go m a v) w _ := ((HF2.out.trans (below_foot (fun _ => False) HB3.out) (fun _ e => e.elim)).trans (below_foot (fun _ => False) HB4.out) (fun _ e => e.elim)).trans f6 (fun j (e : j = w.heap.size) => .inr (by omega))
  have HE : Hid (MadeEnd w0 w g go m a h p v ws n R _ (w3.heap.size + 1)) := ⟨A, by rw [hA], by rw [hA], by rw [hA], by rw [hA], by rw [hA], by rw [hA]; exact HM2.out, by rw [hA]; exact Nat.le_trans hs2 HSM.out, by rw [hA]; exact hs2, by omega, by rw [hA]; exact Nat.le_trans hs2 hs3, SVZ, by rw [hA]; exact SRZ, FZ⟩
  clear f6 SV SVZ SRZ FZ
  obtain ⟨wz, hwz⟩ : ∃ wz, (((w4.setCell ⟨w.heap.size, 0, none⟩ (.int .u64 (qp : Int))).setCell ⟨w.heap.size, 1, none⟩ (.int .u32 (qo : Int))).setCell ⟨w.heap.size, 2, none⟩ (.int .u8 (qr : Int))).setCell ⟨w.heap.size, 3, none⟩ (.int .u64 (qc : Int)) = wz := ⟨_, rfl⟩
  rw [hwz] at HCZ HE
  rw [hwz]
  have v0 := HCZ.out.c0
  have v1' := HCZ.out.c1
  have v2 := HCZ.out.c2
  have v3 := HCZ.out.c3
  go_wp2
  refine bodyPost_ret (by simp [results, Tryz.results11, go_sem, v0, v1', v2, v3]; rfl) rfl ?_
  exact ⟨_, rfl, HE.out⟩
end
end Go.Proofs.YtpbkjmkdciiccaaGreatDoor
namespace Go.Proofs.YtpbkjmkdciiccaaGreatDoor
section
open Go.RowKit
variable {w0 w w1 w2 w' : World} {A A' : Ad} {p : Nat} {ws : List Nat} {s s' s1 : Hs} {r g : Nat} {sb : Nat × Nat}
/- the reply, and what is there behind it -/
def AskEnd (w0 w : World) (A : Ad) (p : Nat) (ws : List Nat) (r : Nat) (R : Ro) (op ar : Nat) (q : Cp) (e : Ending) (w' : World) : Prop :=
  ∃ (m2 : Msg) (co : Option Addr) (n cc : Nat) (A2 : Ad), e = .returned (.agg #[.int .u64 m2.ta, .int .u64 m2.rp, .int .u32 m2.id, .int .u16 m2.op, .int .u16 m2.st, .int .u64 m2.p, .int .u32 m2.o, .int .u8 m2.r, .int .u64 m2.c, .int .u64 m2.ar, .slice co n cc]) ∧ m2 = rplF ⟨0, 0, 0, op, 0, q.p, q.o, q.r, q.c, ar⟩ R ∧ Bts w' co n cc (datF R []) ∧ (datF R [] = [] ∨ Typ8 w' co) ∧ Sr w' r A2.g A2.sb ∧ A2.g = A.g ∧ Sv w0 w' A2 p ws R.s ∧ Kh w w' ∧ Foot (SvS A) w w'
theorem ask_any (op ar : Nat) (q : Cp) (so : Option Addr) (sn sc : Nat) (l : List UInt8) (w : World) (h : Sr w r A.g A.sb) (x : Sv w0 w A p ws s) (hb : Bts w so sn sc l) (hq : q.ok) (hn : sn ≤ 140737488355328) (hd : Dat w0.heap.size w sn so) (ho : 5 ≤ op ∧ op ≤ 65535) (ha : ar ≤ 18446744073709551615) (hl : s.es.length < 5000000000000) (hg : Glob w0)
    (R : Ro) (hR : outF ws p s op q ar l = R) (oi ai pi oo ri ci : Int) (h1 : oi = (op : Int)) (h2 : ai = (ar : Int)) (h3 : pi = (q.p : Int)) (h4 : oo = (q.o : Int)) (h5 : ri = (q.r : Int)) (h6 : ci = (q.c : Int)) :
    Calls Tryz.prog 17 #[.pointer (some ⟨r, 0, none⟩), .agg #[.int .u64 0, .int .u64 0, .int .u32 0, .int .u16 oi, .int .u16 0, .int .u64 pi, .int .u32 oo, .int .u8 ri, .int .u64 ci, .int .u64 ai, .slice so sn sc]] w (AskEnd w0 w A p ws r R op ar q) := by
  subst h1 h2 h3 h4 h5 h6
  refine (serve_any ⟨0, 0, 0, op, 0, q.p, q.o, q.r, q.c, ar⟩ so sn sc l w h x hb ⟨hq, ho.2, ha, hn, hd⟩ (.inr ho.1) ⟨hl⟩ hg R hR).mono ?_
  rintro e w' ⟨m2, co, n, cc, hm, rfl, B, T, E⟩
  have k := x.kh E
  have hs := h.kh k
  obtain ⟨v, dv, nv, S, F, -⟩ := E
  exact ⟨m2, co, n, cc, A.upd v dv nv, rfl, hm, B, T.imp id (fun h => h.2), hs, rfl, S, k, F⟩
/- a reply's parts -/
theorem rpl_st (m : Msg) (R : Ro) : (rplF m R).st = R.e := by
  unfold rplF
  split
  · rename_i h; exact h.symm
  · rfl
theorem rpl_cap (m : Msg) (R : Ro) (h : R.e = 0) : (rplF m R).p = R.c.p ∧ (rplF m R).o = R.c.o ∧ (rplF m R).r = R.c.r ∧ (rplF m R).c = R.c.c := by
  unfold rplF; rw [if_pos h]; exact ⟨rfl, rfl, rfl, rfl⟩
end
end Go.Proofs.YtpbkjmkdciiccaaGreatDoor
namespace Go.Proofs.YtpbkjmkdciiccaaGreatDoor
section
open Go.RowKit
variable {w0 w w1 w2 w' : World} {A A' : Ad} {p : Nat} {ws : List Nat} {s s' s1 : Hs} {r g : Nat} {sb : Nat × Nat}
theorem Od.make {w3 : World} {B go m a h k : Nat} (S : Tk w0 w B go m a h k (.slice none 0 0) ws 0 []) (tb : Tb w3 w.heap.size p go noneO) (b : Below w.heap.size w w3) : Od w0 w3 B w.heap.size go m a h k p (.slice none 0 0) ws 0 [] noneO :=
  ⟨S.grow b, tb, S.new.bel.size⟩
def awW : List Nat := [5, 6, 7]
theorem cut_awW : cutN awW = awW := by decide
theorem row_aw (w : World) : RowN (w.alloc (.cells #[.int .u64 5, .int .u64 6, .int .u64 7] 28)) .u64 28 w.heap.size awW := heap_alloc_new _ _
theorem u64s_aw (w : World) : U64s (w.alloc (.cells #[.int .u64 5, .int .u64 6, .int .u64 7] 28)) (some ⟨w.heap.size, 0, none⟩) 3 3 awW :=
  (row_aw w).u64s (by decide) (fun j => by
    rcases j with _ | _ | _ | j <;> simp [awW])
def aw0 : Cre := creF awW 0 [] 1 noneO (-1)
def awS : Hs := ⟨aw0.t, aw0.es, aw0.T, 2, L0⟩
def aw1 : Ro := outF awW 1 awS 100 aw0.c 100 []
def aw2 : Ro := outF awW 1 aw1.s 102 aw1.c 99 [97, 98]
def aw3 : Ro := outF awW 1 aw2.s 101 aw1.c 2 []
theorem aw0_e : aw0.e = 0 := by kernel_rfl
theorem aw0_c : aw0.c = ⟨1, 0, 255, 5⟩ := by kernel_rfl
theorem aw1_e : aw1.e = 0 := by kernel_rfl
theorem aw1_c : aw1.c = ⟨1, 1, 255, 6⟩ := by kernel_rfl
theorem aw2_e : aw2.e = 13 := by kernel_rfl
theorem aw3_e : aw3.e = 0 := by kernel_rfl
theorem aw3_d : aw3.d = [0, 0] := by kernel_rfl
theorem awS_l : awS.es.length = 0 := by kernel_rfl
theorem aw1_l : aw1.s.es.length = 0 := by kernel_rfl
theorem aw2_l : aw2.s.es.length = 0 := by kernel_rfl
theorem aw_ok (o c : Nat) (h : o ≤ 100) (h2 : c ≤ 100) : (Cp.mk 1 o 255 c).ok := ⟨by show 1 ≤ _; omega, by show o ≤ _; omega, by show 255 ≤ _; omega, by show c ≤ _; omega⟩
theorem off_ab (w : World) (N : Nat) (C : Array Value) (z : Nat × Nat) : Dat N (w.alloc (.cells C 5 z)) 2 (some ⟨w.heap.size, 0, none⟩) := fun _ ad e => by
  obtain rfl := Option.some.inj e
  exact .inr ⟨C, z, heap_alloc_new _ _⟩
theorem str_eq (l : List UInt8) : str l = ⟨l.toArray⟩ := rfl
set_option maxRecDepth 20000 in
set_option maxHeartbeats 6400000 in
theorem awake_any (w : World) (hg : Glob w) :
    Calls Tryz.prog 7 #[] w fun e w' => e = .returned (.bool true) ∧ Below w.heap.size w w' := by
  have HG := hide hg
  clear hg
  go_enter Tryz.func7, Tryz.ntmps7
  go_wp2_with fail
  refine (of_any _ _ _ awW _ (u64s_aw w) (by omega)).mono ?_; rintro e x1 ⟨ta, th, tk, rfl, TA, _, ha, hh2, bel⟩
  rw [cut_awW] at TA
  have HT := hide TA
  have HTA := hide ha
  have HTH := hide hh2
  have HBE := hide bel
  clear TA bel ha hh2
  go_wp2_with fail
  refine (oof_any _ ⟨_, rfl⟩ _).mono ?_; rintro e x2 ⟨go, gm, rfl, O2, bel2⟩
  have HS3 := hide (Tk.made (below_alloc w _) HT.out HTA.out HTH.out HBE.out O2 bel2)
  clear O2 bel2 HT HBE HTA HTH
  go_wp2_with fail
  refine (tof_new 1 _).mono ?_; rintro e x3 ⟨rfl, T4, b4⟩
  have HO4 := hide (Od.make HS3.out T4 b4)
  obtain ⟨g, hgg⟩ : ∃ g, x2.heap.size = g := ⟨_, rfl⟩
  rw [hgg] at HO4 ⊢
  clear T4 b4 HS3 hgg
  go_wp2_with fail
  refine (mem_yes 2 2 (by decide) (by omega) _ HO4.out (by show 0 ≤ _; omega) aw0 rfl aw0_e).mono ?_; rintro e x4 ⟨rr, rfl, A, hA, -, -, -, hAh, -, -, hAN, -, hAb, X4, S4, F4⟩
  rw [aw0_c]
  simp only [Cp.val]
  have HS4 := hide S4
  have HX4 : Hid (Sv w x4 A 1 awW awS) := X4
  clear F4 X4 S4 HO4 hA hAh hAN hAb
  obtain ⟨V1, hV1⟩ : ∃ V1, x4.alloc (.cells #[.int .u64 1, .int .u32 0, .int .u8 255, .int .u64 5] 36) = V1 := ⟨_, rfl⟩
  have b1 : Below x4.heap.size x4 V1 := hV1 ▸ below_alloc _ _
  have Q1 : CBox V1 x4.heap.size 1 0 255 5 := hV1 ▸ CBox.new x4 1 0 255 5
  have HS := hide (HS4.out.grow b1)
  have HX := hide (HX4.out.grow b1)
  have c0 : V1.cell? ⟨x4.heap.size, 0, none⟩ = some (.int .u64 1) := Q1.c0
  have c1 : V1.cell? ⟨x4.heap.size, 1, none⟩ = some (.int .u32 0) := Q1.c1
  have c2 : V1.cell? ⟨x4.heap.size, 2, none⟩ = some (.int .u8 255) := Q1.c2
  have c3 : V1.cell? ⟨x4.heap.size, 3, none⟩ = some (.int .u64 5) := Q1.c3
  clear b1 Q1 HS4 HX4
  go_wp2_with fail
  refine (ask_any 100 100 aw0.c none 0 0 [] _ HS.out HX.out (bts_nil _) (by rw [aw0_c]; exact aw_ok 0 5 (by omega) (by omega)) (by omega) (fun h => absurd h (by omega)) (by omega) (by omega) (by rw [awS_l]; omega) HG.out aw1 rfl 100 100 1 0 255 5 rfl rfl (by rw [aw0_c]; rfl) (by rw [aw0_c]; rfl) (by rw [aw0_c]; rfl) (by rw [aw0_c]; rfl)).mono ?_; rintro e x5 ⟨m5, co5, n5, cc5, A5, rfl, hm, B, TY, S, hag, X, K, F⟩
  have HM5 := hide hm
  have HST5 : Hid ((m5.st : Int) = 0) := by show _ = _; rw [HM5.out, rpl_st, aw1_e]; rfl
  obtain ⟨V5, hV5⟩ : ∃ V, x5.alloc (.cells #[.int .u64 m5.ta, .int .u64 m5.rp, .int .u32 m5.id, .int .u16 m5.op, .int .u16 m5.st, .int .u64 m5.p, .int .u32 m5.o, .int .u8 m5.r, .int .u64 m5.c, .int .u64 m5.ar, .slice co5 n5 cc5] 53) = V := ⟨_, rfl⟩
  have b5 : Below x5.heap.size x5 V5 := hV5 ▸ below_alloc _ _
  have HV5 : Hid (MB V5 x5.heap.size m5 (.slice co5 n5 cc5)) := hV5 ▸ mb_new _ _ _
  have HS := hide (S.grow b5)
  have HX := hide (X.grow b5)
  have HD5 := hide (B.carry b5)
  have HCP : Hid (m5.p = 1 ∧ m5.o = 1 ∧ m5.r = 255 ∧ m5.c = 6) := by have h := rpl_cap ⟨0, 0, 0, 100, 0, aw0.c.p, aw0.c.o, aw0.c.r, aw0.c.c, 100⟩ aw1 aw1_e; rw [aw1_c] at h; rw [← HM5.out] at h; exact h
  clear hm B TY S X K F hag b5 c0 c1 c2 c3
  obtain ⟨k0, k1, k2, k3, k4, k5, k6, k7, k8, k9, k10⟩ := HV5.out.all
  obtain ⟨C, hC⟩ : ∃ C : Array Value, #[.int .u8 97, .int .u8 98] = C := ⟨_, rfl⟩
  have kc := fun (w : World) => Go.Lib.run_convert_bytes_const (P := Tryz.prog) w 23 5 C 2 2 Tryz.underlying23 Tryz.underlying5
  have HC : Hid ((cellsB [97, 98]).toArray = C) := hC
  go_wp2_with fail
  refine (ask_any 102 99 aw1.c (some ⟨V5.heap.size, 0, none⟩) 2 2 [97, 98] _ (HS.out.grow (below_alloc _ _)) (HX.out.grow (below_alloc _ _)) (bts_cells V5 [97, 98] C _ HC.out (by decide)) (by rw [aw1_c]; exact aw_ok 1 6 (by omega) (by omega)) (by omega) (off_ab V5 _ C _) (by omega) (by omega) (by rw [aw1_l]; omega) HG.out aw2 rfl 102 99 (m5.p : Int) (m5.o : Int) (m5.r : Int) (m5.c : Int) rfl rfl (by rw [HCP.out.1, aw1_c]) (by rw [HCP.out.2.1, aw1_c]) (by rw [HCP.out.2.2.1, aw1_c]) (by rw [HCP.out.2.2.2, aw1_c])).mono ?_; rintro e x6 ⟨m6, co6, n6, cc6, A6, rfl, hm, B, TY, S, hag, X, K, F⟩
  have HV5 := hide ((HV5.out.grow (below_alloc _ _)).kh K)
  have HM6 := hide hm
  have HST6 : Hid ((m6.st : Int) = 13) := by show _ = _; rw [HM6.out, rpl_st, aw2_e]; rfl
  obtain ⟨V6, hV6⟩ : ∃ V, x6.alloc (.cells #[.int .u64 m6.ta, .int .u64 m6.rp, .int .u32 m6.id, .int .u16 m6.op, .int .u16 m6.st, .int .u64 m6.p, .int .u32 m6.o, .int .u8 m6.r, .int .u64 m6.c, .int .u64 m6.ar, .slice co6 n6 cc6] 53) = V := ⟨_, rfl⟩
  have b6 : Below x6.heap.size x6 V6 := hV6 ▸ below_alloc _ _
  have HV6 : Hid (MB V6 x6.heap.size m6 (.slice co6 n6 cc6)) := hV6 ▸ mb_new _ _ _
  have HS := hide (S.grow b6)
  have HX := hide (X.grow b6)
  have HD6 := hide (B.carry b6)
  have HV5 := hide (HV5.out.grow b6)
  clear hm B TY S X K F hag b6 k0 k1 k2 k3 k4 k5 k6 k7 k8 k9 k10 kc
  obtain ⟨k0, k1, k2, k3, k4, k5, k6, k7, k8, k9, k10⟩ := HV5.out.all
  go_wp2_with fail
  refine (ask_any 101 2 aw1.c none 0 0 [] _ HS.out HX.out (bts_nil _) (by rw [aw1_c]; exact aw_ok 1 6 (by omega) (by omega)) (by omega) (fun h => absurd h (by omega)) (by omega) (by omega) (by rw [aw2_l]; omega) HG.out aw3 rfl 101 2 (m5.p : Int) (m5.o : Int) (m5.r : Int) (m5.c : Int) rfl rfl (by rw [HCP.out.1, aw1_c]) (by rw [HCP.out.2.1, aw1_c]) (by rw [HCP.out.2.2.1, aw1_c]) (by rw [HCP.out.2.2.2, aw1_c])).mono ?_; rintro e x7 ⟨m7, co7, n7, cc7, A7, rfl, hm, B, TY, S, hag, X, K, F⟩
  have HV5 := hide (HV5.out.kh K)
  have HV6 := hide (HV6.out.kh K)
  have HM7 := hide hm
  have HST7 : Hid ((m7.st : Int) = 0) := by show _ = _; rw [HM7.out, rpl_st, aw3_e]; rfl
  obtain ⟨V7, hV7⟩ : ∃ V, x7.alloc (.cells #[.int .u64 m7.ta, .int .u64 m7.rp, .int .u32 m7.id, .int .u16 m7.op, .int .u16 m7.st, .int .u64 m7.p, .int .u32 m7.o, .int .u8 m7.r, .int .u64 m7.c, .int .u64 m7.ar, .slice co7 n7 cc7] 53) = V := ⟨_, rfl⟩
  have b7 : Below x7.heap.size x7 V7 := hV7 ▸ below_alloc _ _
  have HV7 : Hid (MB V7 x7.heap.size m7 (.slice co7 n7 cc7)) := hV7 ▸ mb_new _ _ _
  have HS := hide (S.grow b7)
  have HX := hide (X.grow b7)
  have HD7 := hide (B.carry b7)
  have HV5 := hide (HV5.out.grow b7)
  have HV6 := hide (HV6.out.grow b7)
  have HBZ := hide (X.grow b7).bel
  have hd : datF aw3 [] = [0, 0] := by unfold datF; rw [if_pos aw3_e, aw3_d]
  have cv := conv_bts HD7.out
  rw [hd, str_eq] at cv
  clear hm B TY S X K F hag b7 k0 k1 k2 k3 k4 k5 k6 k7 k8 k9 k10 hd
  have e5 : V7.cell? ⟨x5.heap.size, 4, none⟩ = some (.int .u16 0) := by rw [HV5.out.all.2.2.2.2.1, HST5.out]
  have e6 : V7.cell? ⟨x6.heap.size, 4, none⟩ = some (.int .u16 13) := by rw [HV6.out.all.2.2.2.2.1, HST6.out]
  have e7 : V7.cell? ⟨x7.heap.size, 4, none⟩ = some (.int .u16 0) := by rw [HV7.out.all.2.2.2.2.1, HST7.out]
  have e8 : V7.cell? ⟨x7.heap.size, 10, none⟩ = some (.slice co7 n7 cc7) := HV7.out.all.2.2.2.2.2.2.2.2.2.2
  go_wp2
  go_ret
  exact ⟨rfl, HBZ.out⟩
end
end Go.Proofs.YtpbkjmkdciiccaaGreatDoor
