/-
  What objects' Check answers, as a contract.
-/
import Derived.Test.YtgcmompldcnhlaaDoorICap
namespace Go.Proofs.YtgcmompldcnhlaaDoor
open Go.RowKit
variable {w0 w w1 w2 : World} {B g go m a h k p : Nat} {v v1 : Value} {ws : List Nat} {t t1 : Nat} {es es1 : List Ent} {T T1 : Nat → Ob}
set_option maxHeartbeats 1600000 in
theorem check_port (c : Cp) (need : Nat) (w : World) (x : Od w0 w B g go m a h k p v ws t es T) (hc : c.ok) (hn : c.p ≠ p) :
    Calls Tryd.prog 20 #[.pointer (some ⟨g, 0, none⟩), c.val, .int .u8 (need : Int)] w fun e w' => e = .returned (.tuple #[.int .i64 0, erN 1]) ∧ Below w.heap.size w w' := by
  obtain ⟨cp, co, cr, cc⟩ := c
  obtain ⟨Y, hY⟩ : ∃ Y, w.alloc (.cells #[.int .u64 (cp : Int), .int .u32 (co : Int), .int .u8 (cr : Int), .int .u64 (cc : Int)] 49) = Y := ⟨_, rfl⟩
  have bY : Below w.heap.size w Y := hY ▸ below_alloc w _
  have xY := x.grow bY
  have cY : CBox Y w.heap.size cp co cr cc := hY ▸ CBox.new w cp co cr cc
  have k0 := cY.c0
  have k1 := cY.c1
  have p0 := xY.tb.c0
  have HO := hide hc.2.1
  have hne : ¬ (cp : Int) = (p : Int) := by have : cp ≠ p := hn; omega
  have hnb : ((cp : Int) != (p : Int)) = true := by simpa using hne
  have hu : undef = Value.tuple #[] := rfl
  have hco : (co : Int) ≤ 4294967295 := by have : co ≤ 4294967295 := hc.2.1; omega
  have hco0 : (0 : Int) ≤ co := by omega
  have HB := hide bY
  rw [erN_not (by omega : (1 : Int) ≠ 0)]
  clear x xY cY hc hn bY
  simp only [Cp.val]
  go_enter Tryd.func20, Tryd.ntmps20
  go_wp2_with fail
  first | (go_region_with (fail)) | fail
  all_goals (go_wp2; go_ret2; exact ⟨rfl, below_drewN HB.out 1⟩)
set_option maxHeartbeats 1600000 in
theorem check_none (c : Cp) (need : Nat) (w : World) (x : Od w0 w B g go m a h k p v ws t es T) (hc : c.ok) (hp : c.p = p) (hn : hasO T c.o = false) :
    Calls Tryd.prog 20 #[.pointer (some ⟨g, 0, none⟩), c.val, .int .u8 (need : Int)] w fun e w' => e = .returned (.tuple #[.int .i64 0, erN 1]) ∧ Below w.heap.size w w' := by
  obtain ⟨cp, co, cr, cc⟩ := c
  obtain rfl : cp = p := hp
  obtain ⟨Y, hY⟩ : ∃ Y, w.alloc (.cells #[.int .u64 (cp : Int), .int .u32 (co : Int), .int .u8 (cr : Int), .int .u64 (cc : Int)] 49) = Y := ⟨_, rfl⟩
  have bY : Below w.heap.size w Y := hY ▸ below_alloc w _
  have xY := x.grow bY
  have cY : CBox Y w.heap.size cp co cr cc := hY ▸ CBox.new w cp co cr cc
  have k1 := cY.c1
  have HK := hide (xY.drewN 1)
  have HC := hide (cY.drewN 1)
  have HO := hide hc.2.1
  have hco : (co : Int) ≤ 4294967295 := by have : co ≤ 4294967295 := hc.2.1; omega
  have hco0 : (0 : Int) ≤ co := by omega
  have hbool : (decide ((0 : Int) ≤ (co : Int)) && hasO T ((co : Int)).toNat) = false := by rw [Int.toNat_natCast, hn]; simp
  have HN := hide hbool
  have HB := hide bY
  have hu : undef = Value.tuple #[] := rfl
  rw [erN_not (by omega : (1 : Int) ≠ 0)]
  clear x xY cY hc hn bY hbool
  simp only [Cp.val]
  go_enter Tryd.func20, Tryd.ntmps20
  go_wp2_with fail
  go_region_held (fun W => W.cell? ⟨w.heap.size, 0, none⟩ = some (.int .u64 (cp : Int)) ∧ W.cell? ⟨g, 0, none⟩ = some (.int .u64 (cp : Int))) (exact ⟨HC.out.c0, HK.out.tb.c0⟩) (first
    | (go_at_call 34; refine (has_any co _ HK.out.tb (by omega)).mono ?_; rintro e wx ⟨rfl, rfl⟩; rw [HN.out]))
  all_goals (go_wp2; go_ret2; exact ⟨rfl, below_drewN HB.out 1⟩)
theorem and_nat (r n : Nat) (hr : r ≤ 255) (hn : n ≤ 255) : bits .and .u8 (r : Int) (n : Int) = ((r &&& n : Nat) : Int) := by
  have h : ∀ (a b : Fin 256), bits .and .u8 ((a.val : Nat) : Int) ((b.val : Nat) : Int) = ((a.val &&& b.val : Nat) : Int) := by
    intro a b
    have e1 : IntKind.u8.bits = 8 := rfl
    have e2 : IntKind.u8.signed = false := rfl
    have ha := a.isLt
    have hb := b.isLt
    have hab : a.val &&& b.val < 2 ^ 8 := Nat.and_lt_two_pow _ (by omega)
    simp [bits, IntKind.wrap, e1, e2, Nat.mod_eq_of_lt ha, Nat.mod_eq_of_lt hb]
    omega
  exact h ⟨r, by omega⟩ ⟨n, by omega⟩
set_option maxHeartbeats 3200000 in
theorem check_has (c : Cp) (need : Nat) (w : World) (x : Od w0 w B g go m a h k p v ws t es T) (hc : c.ok) (hp : c.p = p) (hn : hasO T c.o = true) (hnd : need ≤ 255) (hl : es.length ≤ 5000000000000) (X : Ans) (hX : ofF ws t es (T c.o).s c.r = X) :
    Calls Tryd.prog 20 #[.pointer (some ⟨g, 0, none⟩), c.val, .int .u8 (need : Int)] w fun e w' => e = .returned (.tuple #[.int .i64 (if X.ok = true ∧ c.c = X.x ∧ c.r &&& need = need then (c.o : Int) else 0), erN (if X.ok = false then 7 else if c.c ≠ X.x then 1 else if c.r &&& need ≠ need then 2 else 0)]) ∧ OdEnd w0 w B g go m a h k p v ws w' X.t X.es T := by
  obtain ⟨cp, co, cr, cc⟩ := c
  obtain rfl : cp = p := hp
  have hX' : ofF ws t es (T co).s cr = X := hX
  rcases hT : T co with ⟨s, ep, vl, l⟩
  rw [hT] at hX'
  have hs : s ≤ 281474976710655 := by have := (x.tb.ok co).1; rw [hT] at this; exact this
  obtain ⟨Y, hY⟩ : ∃ Y, w.alloc (.cells #[.int .u64 (cp : Int), .int .u32 (co : Int), .int .u8 (cr : Int), .int .u64 (cc : Int)] 49) = Y := ⟨_, rfl⟩
  have bY : Below w.heap.size w Y := hY ▸ below_alloc w _
  have xY := x.grow bY
  have cY : CBox Y w.heap.size cp co cr cc := hY ▸ CBox.new w cp co cr cc
  have k1 := cY.c1
  have HK := hide (xY.drewN 1)
  have HK2 := hide (xY.drewN 2)
  have HC := hide (cY.drewN 1)
  have HC2 := hide (cY.drewN 2)
  have HX := hide hX'
  have HS := hide hs
  have HT := hide hT
  have HL := hide hl
  have HR := hide hc.2.2.1
  have HND := hide hnd
  have HI := hide (hasO_yes hn).1
  have hco : (co : Int) ≤ 4294967295 := by have : co ≤ 4294967295 := hc.2.1; omega
  have hco0 : (0 : Int) ≤ co := by omega
  have hco1 : (co : Int) < 64 := by have : co < 64 := (hasO_yes hn).1; omega
  have hbool : (decide ((0 : Int) ≤ (co : Int)) && hasO T ((co : Int)).toNat) = true := by rw [Int.toNat_natCast, hn]; simp
  have HN := hide hbool
  have HB := hide bY
  have hand := and_nat cr need hc.2.2.1 hnd
  have hu : undef = Value.tuple #[] := rfl
  clear x xY cY hc hn bY hbool hX hX' hT hs hl
  simp only [Cp.val]
  obtain ⟨y, ok, t', es'⟩ := X
  obtain ⟨R, hR⟩ : ∃ R : Int, (if ok = true ∧ cc = y ∧ cr &&& need = need then (co : Int) else 0) = R := ⟨_, rfl⟩
  obtain ⟨E, hE⟩ : ∃ E : Value, erN (if ok = false then 7 else if cc ≠ y then 1 else if cr &&& need ≠ need then 2 else 0) = E := ⟨_, rfl⟩
  rw [show (if (Ans.mk y ok t' es').ok = true ∧ cc = (Ans.mk y ok t' es').x ∧ cr &&& need = need then (co : Int) else 0) = R from hR, show erN (if (Ans.mk y ok t' es').ok = false then 7 else if cc ≠ (Ans.mk y ok t' es').x then 1 else if cr &&& need ≠ need then 2 else 0) = E from hE]
  have HRR := hide hR
  have HER := hide hE
  clear hR hE
  go_enter Tryd.func20, Tryd.ntmps20
  go_wp2_with fail
  go_region_held (fun W => W.cell? ⟨w.heap.size, 0, none⟩ = some (.int .u64 (cp : Int)) ∧ W.cell? ⟨g, 0, none⟩ = some (.int .u64 (cp : Int))) (exact ⟨HC.out.c0, HK.out.tb.c0⟩) (first
    | (go_at_call 34; refine (has_any co _ HK.out.tb (by omega)).mono ?_; rintro e wx ⟨rfl, rfl⟩; rw [HN.out]))
  go_wp2_with fail
  go_region_held (fun W => W.cell? ⟨g, 2 + co * 4, none⟩ = some (.int .u64 (s : Int)) ∧ W.cell? ⟨w.heap.size, 0, none⟩ = some (.int .u64 (cp : Int)) ∧ W.cell? ⟨w.heap.size, 1, none⟩ = some (.int .u32 (co : Int)) ∧ W.cell? ⟨w.heap.size, 2, none⟩ = some (.int .u8 (cr : Int)) ∧ W.cell? ⟨w.heap.size, 3, none⟩ = some (.int .u64 (cc : Int))) (exact ⟨(HK2.out.tb.at co HI.out s ep vl l HT.out).1, HC2.out.c0, HC2.out.c1, HC2.out.c2, HC2.out.c3⟩) (first
    | (go_at_call 37; refine (oracle_any _ HK2.out.tb).mono ?_; rintro e wx ⟨rfl, rfl⟩)
    | (go_at_call 39; refine (tgood_any w0 B go m a h k v ws t es s cp co cr cc _ HK2.out.tk (by have := HS.out; omega) HR.out HL.out).mono ?_; rintro e wx ⟨rfl, L⟩; rw [HX.out] at L ⊢; have HE := hide (HK2.out.asked L); have HC2 := hide (HC2.out.ask HK2.out.tk L.choose_spec.2.1); clear L; have HK2 := hide HE.out.choose_spec.1))
  have HEE : Hid (OdEnd w0 w B g go m a h k cp v ws wx t' es' T) := HE.out.from (below_drewN HB.out 2)
  have k2 := HC2.out.c2
  clear HE HK HK2 HC HX HT HN HB
  cases ok with
  | false =>
    have e1 : R = 0 := by rw [← HRR.out]; exact if_neg (fun e => by cases e.1)
    have e2 : E = .iface 60 (.int .i64 7) := by rw [← HER.out]; rfl
    subst e1 e2
    simp only [erV, goodF, Bool.false_and]
    go_wp2
    go_ret2
    exact ⟨rfl, HEE.out⟩
  | true =>
    by_cases hcx : cc = y
    · rw [show goodF ⟨y, true, t', es'⟩ cc = true by simp [goodF, hcx]]
      by_cases hr : cr &&& need = need
      · have e1 : R = (co : Int) := by rw [← HRR.out]; exact if_pos ⟨rfl, hcx, hr⟩
        have e2 : E = .nilIface := by rw [← HER.out, if_neg (by simp), if_neg (fun e => e hcx), if_neg (fun e => e hr)]; rfl
        subst e1 e2
        rw [hr] at hand
        simp only [erV]
        go_wp2
        go_ret2
        exact ⟨rfl, HEE.out⟩
      · have e1 : R = 0 := by rw [← HRR.out]; exact if_neg (fun e => hr e.2.2)
        have e2 : E = .iface 60 (.int .i64 2) := by rw [← HER.out, if_neg (by simp), if_neg (fun e => e hcx), if_pos hr]; rfl
        subst e1 e2
        have hr1 : ¬ ((cr &&& need : Nat) : Int) = (need : Int) := by omega
        simp only [erV]
        go_wp2
        go_ret2
        exact ⟨rfl, HEE.out⟩
    · rw [show goodF ⟨y, true, t', es'⟩ cc = false by simp [goodF, hcx]]
      have e1 : R = 0 := by rw [← HRR.out]; exact if_neg (fun e => hcx e.2.1)
      have e2 : E = .iface 60 (.int .i64 1) := by rw [← HER.out, if_neg (by simp), if_pos hcx]; rfl
      subst e1 e2
      simp only [erV]
      go_wp2
      go_ret2
      exact ⟨rfl, HEE.out⟩
end Go.Proofs.YtgcmompldcnhlaaDoor
