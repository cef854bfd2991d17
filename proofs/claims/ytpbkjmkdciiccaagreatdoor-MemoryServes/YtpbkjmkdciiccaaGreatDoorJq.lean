/-
  What came in gives to the walks: a slice's bytes, where they lie.
  A script's deeds, as they came in: operation, capability, two numbers, a truth, data.
  Two halves in one memory, and what a script has beside them: a server, a row of capabilities.
-/
import Derived.Test.YtpbkjmkdciiccaaGreatDoorJl
import Derived.OpenShut
import Derived.Test.YtpbkjmkdciiccaaGreatDoorJp
import Derived.Deep.Slices
import Derived.ChangeSame
import Derived.ChangeSlices
import Derived.Lib.SmallJoins
import Derived.SizedLaws
import Derived.ChangeArms
import Derived.Test.YtpbkjmkdciiccaaGreatDoorJo
import Derived.Test.YtpbkjmkdciiccaaGreatDoorJe
namespace Go.Proofs.YtpbkjmkdciiccaaGreatDoor
section
open Go.RowKit
theorem RowOf.bytes {w : World} {a : Option Addr} {len cap : Nat} {zs : List Int} (h : RowOf .u8 w a len cap zs) : ∃ l, Bts w a len cap l := by
  rcases h with ⟨rfl, rfl, rfl, rfl⟩ | ⟨x, rfl, h1, h2, h3, h4, h5⟩
  · exact ⟨[], bts_nil w⟩
  · have hlen : ((zs.take len).map fun z => UInt8.ofNat z.toNat).length = len := by simp; omega
    refine ⟨(zs.take len).map fun z => UInt8.ofNat z.toNat, hlen.symm, h1, h2, (fun e => by cases e), fun ad e j hj => ?_⟩
    obtain rfl := Option.some.inj e
    rw [hlen] at hj
    have hjz : j < zs.length := by omega
    rw [h4 j hjz, bt_get _ _ (by rw [hlen]; exact hj)]
    have e1 : zs.getD j 0 = zs[j] := by rw [List.getD_eq_getElem?_getD, List.getElem?_eq_getElem hjz]; rfl
    have e2 := bounds_u8 (h5 zs[j] (List.getElem_mem hjz))
    rw [e1]
    simp only [List.getElem_map, List.getElem_take, ofNat_toNat]
    congr 2
    omega
theorem bytesOf5 : Tryz.prog.bytesOf 5 = 1 := by kernel_rfl
theorem Bts.low {w : World} {ao : Option Addr} {n cap : Nat} {l : List UInt8} (h : Bts w ao n cap l) : 0 < n → ∀ ad, ao = some ad → ad.block < w.heap.size := fun hp ad e => by
  have := lt_of_cell (h.2.2.2.2 ad e 0 (by rw [← h.1]; exact hp))
  rw [add_block] at this; exact this
end
end Go.Proofs.YtpbkjmkdciiccaaGreatDoor
namespace Go.Proofs.YtpbkjmkdciiccaaGreatDoor
section
open Go.RowKit Go.Deep
theorem w16_nat {n : Int} (h : (Lit.int .u16 n).wf = true) : ∃ v : Nat, n = (v : Int) ∧ v ≤ 65535 := by
  have := bounds_u16 h; exact ⟨n.toNat, by omega, by omega⟩
theorem m16 : Tryz.prog.cellsOf 49 = 1 := by kernel_rfl
theorem m8 : Tryz.prog.cellsOf 5 = 1 := by kernel_rfl
theorem m1 : Tryz.prog.cellsOf 4 = 1 := by kernel_rfl
theorem mB : Tryz.prog.cellsOf 23 = 1 := by kernel_rfl
theorem weights_all {H : Type} {P : Program} {e : TypeId} {d : DataW H} {n : Nat} (hn : n ∈ d.weights P e) : ∀ {l : List (DataW H)}, d ∈ l → n ∈ DataW.weightsAll P e l
  | x :: r, h => by
    simp only [DataW.weightsAll, List.mem_append]
    rcases List.mem_cons.1 h with rfl | h
    · exact .inl hn
    · exact .inr (weights_all hn h)
def SizeBy {H : Type} (d : DataW H) (t : TypeId) (k : Nat) : Prop := k = 0 ∨ ∃ n ∈ d.weights Tryz.prog t, k ≤ n
def Ac.zero : Ac := ⟨0, 0, 0, 0, false, none, 0, 0, []⟩
def Ac.at (w : World) (a : Addr) (x : Ac) : Prop := (x.ok ∧ Bts w x.so x.sn x.sc x.l) ∧ w.cell? a = some (.int .u8 (x.o : Int)) ∧ w.cell? (a.add 1) = some (.int .u8 (x.wh : Int)) ∧ w.cell? (a.add 2) = some (.int .u16 (x.a : Int)) ∧ w.cell? (a.add 3) = some (.int .u16 (x.b : Int)) ∧ w.cell? (a.add 4) = some (.bool x.fr) ∧ w.cell? (a.add 5) = some (.slice x.so x.sn x.sc)
theorem Ac.at.carry {w w' : World} {a : Addr} {x : Ac} (h : Ac.at w a x) (b : Below w.heap.size w w') : Ac.at w' a x := by
  obtain ⟨⟨h0, hb⟩, k0, k1, k2, k3, k4, k5⟩ := h
  exact ⟨⟨h0, Bts.carry hb b⟩, by rw [b.cell (lt_of_cell k0), k0], by rw [b.cell (lt_of_cell k1), k1], by rw [b.cell (lt_of_cell k2), k2], by rw [b.cell (lt_of_cell k3), k3], by rw [b.cell (lt_of_cell k4), k4], by rw [b.cell (lt_of_cell k5), k5]⟩
def Acts (w : World) (ao : Option Addr) (n cap : Nat) (xs : List Ac) : Prop :=
  n = xs.length ∧ n ≤ cap ∧ cap ≤ maxLen ∧ (ao = none → cap = 0) ∧ ∀ ad, ao = some ad → ∀ j, j < n → Ac.at w (ad.add (j * 6)) (xs.getD j Ac.zero)
theorem Acts.carry {w w' : World} {ao : Option Addr} {n cap : Nat} {xs : List Ac} (h : Acts w ao n cap xs) (b : Below w.heap.size w w') : Acts w' ao n cap xs :=
  ⟨h.1, h.2.1, h.2.2.1, h.2.2.2.1, fun ad e j hj => (h.2.2.2.2 ad e j hj).carry b⟩
theorem Acts.there {w : World} {ao : Option Addr} {n cap : Nat} {xs : List Ac} (h : Acts w ao n cap xs) {k : Nat} (hk : k < n) : ∃ ad, ao = some ad := by
  cases ao with
  | none => have := h.2.2.2.1 rfl; have := h.2.1; omega
  | some ad => exact ⟨ad, rfl⟩
theorem cells_all {w : World} {a : Addr} {cs : List Value} (h : w.cells? 0 a 6 = some cs) : ∃ c0 c1 c2 c3 c4 c5, cs = [c0, c1, c2, c3, c4, c5] ∧ w.cell? (a.add 0) = some c0 ∧ w.cell? (a.add 1) = some c1 ∧ w.cell? (a.add 2) = some c2 ∧ w.cell? (a.add 3) = some c3 ∧ w.cell? (a.add 4) = some c4 ∧ w.cell? (a.add 5) = some c5 := by
  unfold World.cells? at h
  rw [if_pos (Nat.zero_le _), show List.range 6 = [0, 1, 2, 3, 4, 5] from by decide] at h
  simp only [List.mapM_cons, List.mapM_nil, Option.pure_def, Option.bind_eq_bind, Option.bind_eq_some_iff, Option.some.injEq] at h
  obtain ⟨c0, h0, r1, ⟨c1, h1, r2, ⟨c2, h2, r3, ⟨c3, h3, r4, ⟨c4, h4, r5, ⟨c5, h5, r6, rfl, rfl⟩, rfl⟩, rfl⟩, rfl⟩, rfl⟩, rfl⟩ := h
  exact ⟨c0, c1, c2, c3, c4, c5, rfl, h0, h1, h2, h3, h4, h5⟩
theorem cellsA : Tryz.prog.cellsOf 51 = 6 := by kernel_rfl
theorem bytesA : Tryz.prog.bytesOf 51 = 32 := by kernel_rfl
set_option maxRecDepth 100000 in
theorem act_elem {H : Type} {enc : TypeId × Value → H} {w : World} {n : Nat} {a : Addr} {cs : List Value} {y : DataW H × List MemPlace}
    (hc : w.cells? 0 a 6 = some cs) (h : DataW.trod enc Tryz.prog w 0 (fun _ => true) true n 51 cs = some y) : ∃ x : Ac, Ac.at w a x ∧ SizeBy y.1 51 x.sn := by
  obtain ⟨c0, c1, c2, c3, c4, c5, rfl, k0, k1, k2, k3, k4, k5⟩ := cells_all hc
  obtain ⟨xs, m, _, hx, _, hlen, hfd⟩ := DataW.trod_struct Tryz.underlying51 h
  have hlen6 : xs.length = 6 := hlen
  have at_ : ∀ i, i < 6 → ∃ y, xs[i]? = some y := fun i hi => ⟨xs[i]'(by omega), List.getElem?_eq_getElem (by omega)⟩
  obtain ⟨y0, hy0⟩ := at_ 0 (by omega)
  have f0 : DataW.trod enc Tryz.prog w 0 (fun _ => true) true m 5 [c0] = some y0 := by
    have h := hfd 0 _ rfl
    rw [hy0] at h
    simpa [m16, m8, m1, mB] using h
  obtain ⟨y1, hy1⟩ := at_ 1 (by omega)
  have f1 : DataW.trod enc Tryz.prog w 0 (fun _ => true) true m 5 [c1] = some y1 := by
    have h := hfd 1 _ rfl
    rw [hy1] at h
    simpa [m16, m8, m1, mB] using h
  obtain ⟨y2, hy2⟩ := at_ 2 (by omega)
  have f2 : DataW.trod enc Tryz.prog w 0 (fun _ => true) true m 49 [c2] = some y2 := by
    have h := hfd 2 _ rfl
    rw [hy2] at h
    simpa [m16, m8, m1, mB] using h
  obtain ⟨y3, hy3⟩ := at_ 3 (by omega)
  have f3 : DataW.trod enc Tryz.prog w 0 (fun _ => true) true m 49 [c3] = some y3 := by
    have h := hfd 3 _ rfl
    rw [hy3] at h
    simpa [m16, m8, m1, mB] using h
  obtain ⟨y4, hy4⟩ := at_ 4 (by omega)
  have f4 : DataW.trod enc Tryz.prog w 0 (fun _ => true) true m 4 [c4] = some y4 := by
    have h := hfd 4 _ rfl
    rw [hy4] at h
    simpa [m16, m8, m1, mB] using h
  obtain ⟨y5, hy5⟩ := at_ 5 (by omega)
  have f5 : DataW.trod enc Tryz.prog w 0 (fun _ => true) true m 23 [c5] = some y5 := by
    have h := hfd 5 _ rfl
    rw [hy5] at h
    simpa [m16, m8, m1, mB] using h
  have hmem : ∀ k ∈ y5.1.weights Tryz.prog 23, k ∈ y.1.weights Tryz.prog 51 := fun k hk => by
    rw [hx]
    simp only [DataW.weights, Tryz.underlying51]
    refine DataW.weights_mem_each (j := 5) (t := 23) (d := y5.1) rfl ?_ k hk
    rw [List.getElem?_map, hy5]; rfl
  obtain ⟨n0, e0, _, wf0⟩ := DataW.trod_int Tryz.underlying5 f0
  obtain rfl := (List.cons.inj e0).1
  obtain ⟨p0, rfl, hp0⟩ := u8_nat wf0
  obtain ⟨n1, e1, _, wf1⟩ := DataW.trod_int Tryz.underlying5 f1
  obtain rfl := (List.cons.inj e1).1
  obtain ⟨p1, rfl, hp1⟩ := u8_nat wf1
  obtain ⟨n2, e2, _, wf2⟩ := DataW.trod_int Tryz.underlying49 f2
  obtain rfl := (List.cons.inj e2).1
  obtain ⟨p2, rfl, hp2⟩ := w16_nat wf2
  obtain ⟨n3, e3, _, wf3⟩ := DataW.trod_int Tryz.underlying49 f3
  obtain rfl := (List.cons.inj e3).1
  obtain ⟨p3, rfl, hp3⟩ := w16_nat wf3
  obtain ⟨b4, e4, _⟩ := DataW.trod_bool Tryz.underlying4 f4
  obtain rfl := (List.cons.inj e4).1
  obtain ⟨so, sn, sc, zs, rfl, hr, hbk⟩ : ∃ so sn sc zs, c5 = .slice so sn sc ∧ RowOf .u8 w so sn sc zs ∧ SizeBy y5.1 23 sn := by
    rcases Go.ChangeShapes.open_ints Tryz.underlying23 Tryz.underlying5 (by kernel_rfl) f5 with ⟨hcs, _⟩ | ⟨x, l, c, zs, hcs, _, hl, hm, hz, hx, hcell, hwz⟩
    · simp at hcs
      exact ⟨none, 0, 0, [], hcs, .inl ⟨rfl, rfl, rfl, rfl⟩, .inl rfl⟩
    · simp at hcs
      refine ⟨some x, l, c, zs, hcs, .inr ⟨_, rfl, hl, hm, by simpa using hz, hcell, hwz⟩, .inr ?_⟩
      rw [hx]
      have hz' : zs.length = c := by simpa using hz
      refine ⟨_, by simp only [DataW.weights, Tryz.underlying23]; exact List.mem_cons_self .., ?_⟩
      rw [bytesOf5]
      simp only [Go.ChangeShapes.lits, List.length_map, List.length_take, List.length_drop]
      omega
  obtain ⟨l, hb⟩ := hr.bytes
  rw [addZ] at k0
  exact ⟨⟨p0, p1, p2, p3, b4, so, sn, sc, l⟩, ⟨⟨⟨hp0, hp1, hp2, hp3⟩, hb⟩, k0, k1, k2, k3, k4, k5⟩, hbk.imp id (fun ⟨k, h1, h2⟩ => ⟨k, hmem k h1, h2⟩)⟩
theorem Ac.at.all {w w' : World} {a : Addr} {x : Ac} (h : Ac.at w a x) (b : Below w.heap.size w w') : w'.cell? a = some (.int .u8 (x.o : Int)) ∧ w'.cell? { block := a.block, off := a.off + 1 } = some (.int .u8 (x.wh : Int)) ∧ w'.cell? { block := a.block, off := a.off + 2 } = some (.int .u16 (x.a : Int)) ∧ w'.cell? { block := a.block, off := a.off + 3 } = some (.int .u16 (x.b : Int)) ∧ w'.cell? { block := a.block, off := a.off + 4 } = some (.bool x.fr) ∧ w'.cell? { block := a.block, off := a.off + 5 } = some (.slice x.so x.sn x.sc) := by
  obtain ⟨_, k0, k1, k2, k3, k4, k5⟩ := h.carry b
  rw [addS _ 0] at k1
  rw [addS _ 1] at k2
  rw [addS _ 2] at k3
  rw [addS _ 3] at k4
  rw [addS _ 4] at k5
  exact ⟨k0, k1, k2, k3, k4, k5⟩
theorem open_acts {H : Type} {enc : TypeId × Value → H} {w : World} {a : Option Addr} {len cap fuel : Nat} {x : DataW H × List MemPlace} (hf : DataW.trod enc Tryz.prog w 0 (fun _ => true) true fuel 24 [.slice a len cap] = some x) :
    ∃ xs, Acts w a len cap xs ∧ (∀ y ∈ xs, SizeBy x.1 24 y.sn) ∧ (x.1 = .nil ∧ cap = 0 ∨ ∃ els sp, x.1 = .slice els sp ∧ els.length + sp.length = cap) := by
  rcases open_slice Tryz.underlying24 hf with ⟨hcs, hx⟩ | ⟨ad, l, c, m, n, D, Pl, hcs, _, hl, hm, hmm, hx, hel⟩
  · simp at hcs
    obtain ⟨rfl, rfl, rfl⟩ := hcs
    exact ⟨[], ⟨rfl, Nat.le_refl _, by decide, fun _ => rfl, (fun ad e => by cases e)⟩, (fun y hy => by cases hy), .inl ⟨by rw [hx], rfl⟩⟩
  · simp at hcs
    obtain ⟨rfl, rfl, rfl⟩ := hcs
    simp at hmm
    subst hmm
    have hF : ∀ i, ∃ z : Ac, i < len → Ac.at w (ad.add (i * 6)) z ∧ SizeBy (D i) 51 z.sn := by
      intro i
      by_cases hi : i < len
      · obtain ⟨cs', h1, h2⟩ := hel i (by omega)
        rw [cellsA] at h1
        obtain ⟨z, hz⟩ := act_elem h1 h2
        exact ⟨z, fun _ => hz⟩
      · exact ⟨Ac.zero, fun h => absurd h hi⟩
    have eg : ∀ j, j < len → ((List.range len).map (fun i => Classical.choose (hF i))).getD j Ac.zero = Classical.choose (hF j) := fun j hj => by
      rw [List.getD_eq_getElem?_getD, List.getElem?_map, List.getElem?_range hj]; rfl
    refine ⟨(List.range len).map (fun i => Classical.choose (hF i)), ⟨by simp, hl, hm, (fun e => by cases e), fun ad' e j hj => ?_⟩, fun y hy => ?_, .inr ⟨_, _, by rw [hx], by simp; omega⟩⟩
    · obtain rfl := Option.some.inj e
      rw [eg j hj]
      exact (Classical.choose_spec (hF j) hj).1
    · obtain ⟨i, hi, rfl⟩ := List.mem_map.1 hy
      rcases (Classical.choose_spec (hF i) (List.mem_range.1 hi)).2 with h | ⟨k, h1, h2⟩
      · exact .inl h
      · refine .inr ⟨k, ?_, h2⟩
        rw [hx]
        simp only [DataW.weights, Tryz.underlying24, List.mem_cons, List.mem_append]
        exact .inr (.inl (weights_all h1 (List.mem_map.2 ⟨i, hi, rfl⟩)))
end
end Go.Proofs.YtpbkjmkdciiccaaGreatDoor
namespace Go.Proofs.YtpbkjmkdciiccaaGreatDoor
section
open Go.RowKit
variable {w0 w w1 w2 w' : World} {A A' : Ad} {p N rr : Nat} {ws : List Nat} {s s' s1 : Hs} {v : Value} {L : List Cp} {t : Nat} {es : List Ent} {T : Nat → Ob}
def Wd (ws : List Nat) (es : List Ent) : Prop := (∀ j, ws.getD j 0 ≤ 281474976710655) ∧ ∀ j, j < es.length → (es.getD j Ent.zero).o ≤ 281474976710655
theorem of_wd (h : Wd ws es) (t s r : Nat) : (ofF ws t es s r).x ≤ 281474976710655 ∧ Wd ws (ofF ws t es s r).es := by
  rcases of_cases ws t es s r with ⟨y, hy, e⟩ | ⟨_, _, _, e⟩ | ⟨_, e⟩ <;> rw [e]
  · refine ⟨?_, h⟩
    unfold HasA at hy
    split at hy
    · show y ≤ _; omega
    · obtain ⟨j, h1, h2⟩ := hy
      show y ≤ _
      rw [← h2]
      exact h.2 j (findE_some h1).1
  · refine ⟨h.1 t, h.1, fun j hj => ?_⟩
    simp only [List.length_append, List.length_cons, List.length_nil] at hj
    by_cases e2 : j < es.length
    · rw [show (es ++ [Ent.mk 1 ((s % 281474976710656) ^^^ r) (ws.getD t 0)]).getD j Ent.zero = es.getD j Ent.zero from getD_snoc_lt es _ j e2]; exact h.2 j e2
    · obtain rfl : j = es.length := by omega
      rw [getD_snoc_end]; exact h.1 t
  · exact ⟨Nat.zero_le _, h⟩
theorem chk_wd (h : Wd ws es) (t p : Nat) (T : Nat → Ob) (c : Cp) (need : Nat) : Wd ws (chkF ws t es p T c need).es := by
  have q := (of_wd h t (T c.o).s c.r).2
  unfold chkF
  repeat' split
  all_goals first | exact h | exact q
theorem Sv.wd (x : Sv w0 w A p ws s) : Wd ws s.es := ⟨fun j => x.od.tk.tape.word j, fun j hj => (okAt x.od.tk.orc.ok j hj).2.2.2⟩
/- a capability that may be told -/
def Cp.may (c : Cp) : Prop := c.p ≤ 281474976710655 ∧ c.o ≤ 16777215 ∧ c.r ≤ 255 ∧ c.c ≤ 281474976710655
theorem Cp.may.ok {c : Cp} (h : c.may) : c.ok := ⟨by have := h.1; omega, by have := h.2.1; omega, h.2.2.1, by have := h.2.2.2; omega⟩
theorem Cp.may.C {c : Cp} (h : c.may) : mayC c = true := decide_eq_true ⟨h.1, h.2.1, h.2.2.2⟩
theorem zero_may : Cp.zero.may := ⟨by decide, by decide, by decide, by decide⟩
theorem res_may (h : Wd ws es) {c : Cp} (hc : c.may) (hp : p ≤ 281474976710655) (mask : Nat) : (resF ws t es p T c mask).c.may := by
  unfold resF
  split
  · rename_i h0
    unfold cabF
    split
    · have k := chk_lt h0
      exact ⟨hp, by show (chkF ws t es p T c 0).k ≤ _; omega, by show c.r &&& mask ≤ _; exact and_le hc.2.2.1, (of_wd (chk_wd h t p T c 0) _ _ _).1⟩
    · exact zero_may
  · exact zero_may
theorem cre_may (h : ∀ j, ws.getD j 0 ≤ 281474976710655) (hp : p ≤ 281474976710655) (vl : Int) : (creF ws t es p T vl).c.may := by
  unfold creF
  split
  · split
    · exact ⟨hp, by show freeO T ≤ _; omega, by show 255 ≤ _; omega, h _⟩
    · exact zero_may
  · exact zero_may
theorem cre_es (ws : List Nat) (t : Nat) (es : List Ent) (p : Nat) (T : Nat → Ob) (vl : Int) : (creF ws t es p T vl).es = es := by
  unfold creF
  repeat' split
  all_goals rfl
theorem cre_zero (h : (creF ws t es p T (-1)).e ≠ 0) : (creF ws t es p T (-1)).c = Cp.zero := by
  revert h
  unfold creF
  repeat' split
  · intro h; exact absurd rfl h
  · intro _; rfl
  · intro _; rfl
theorem res_len (ws : List Nat) (t : Nat) (es : List Ent) (p : Nat) (T : Nat → Ob) (c : Cp) (mask : Nat) : (resF ws t es p T c mask).es.length ≤ es.length + 2 := by
  have k0 := chk_len ws t es p T c 0
  unfold resF
  split
  · have := of_len ws (chkF ws t es p T c 0).t (chkF ws t es p T c 0).es (T (chkF ws t es p T c 0).k).s (c.r &&& mask)
    simp only; omega
  · simp only; omega
theorem out_len (ws : List Nat) (p : Nat) (s : Hs) (op : Nat) (c : Cp) (ar : Nat) (l : List UInt8) : (outF ws p s op c ar l).s.es.length ≤ s.es.length + 1 := by
  have k8 := chk_len ws s.t s.es p s.T c 8
  have kn := chk_len ws s.t s.es p s.T c (needN op)
  unfold outF
  split
  · show s.es.length ≤ _; omega
  split
  · unfold dstF
    split
    · exact k8
    · split
      · exact k8
      · exact k8
  split
  · show s.es.length ≤ _; omega
  · unfold ownF
    split
    · refine Nat.le_trans (Nat.le_of_eq ?_) kn
      unfold doF mkF reaF wriF sizF groF
      repeat' split
      all_goals first | rfl | (show (creF _ _ _ _ _ _).es.length = _; rw [cre_es]; rfl)
    · exact kn
theorem outc_may (h : ∀ j, ws.getD j 0 ≤ 281474976710655) (hp : p ≤ 281474976710655) (s : Hs) (op : Nat) (c : Cp) (ar : Nat) (l : List UInt8) : (outF ws p s op c ar l).c.may := by
  unfold outF
  split
  · exact zero_may
  split
  · unfold dstF
    split
    · exact zero_may
    · split
      · exact zero_may
      · exact zero_may
  split
  · exact zero_may
  · unfold ownF
    split
    · unfold doF mkF reaF wriF sizF groF
      repeat' split
      all_goals first | exact zero_may | exact cre_may h hp _
    · exact zero_may
/- what there is beside the two halves -/
structure Bas (w0 w : World) (A A' : Ad) (rr : Nat) (ws : List Nat) (s s' : Hs) (v : Value) (L : List Cp) : Prop where
  du : Du w0 w A A' 5 ws s s'
  sr : Sr w rr A.g A.sb
  row : w.ownsRow w0.heap.size 36 4 v L.length (cellsC L)
  gl : Glob w0
theorem Bas.bel (h : Bas w0 w A A' rr ws s s' v L) : Below w0.heap.size w0 w := h.du.x.bel
theorem Bas.grow (h : Bas w0 w A A' rr ws s s' v L) (b : Below w.heap.size w w') : Bas w0 w' A A' rr ws s s' v L := ⟨h.du.grow b, h.sr.grow b, owns_grow h.row b, h.gl⟩
theorem Bas.drewN (h : Bas w0 w A A' rr ws s s' v L) (q : Nat) : Bas w0 (w.drewN q) A A' rr ws s s' v L := ⟨h.du.drewN q, h.sr, h.row, h.gl⟩
theorem Bas.left (h : Bas w0 w A A' rr ws s s' v L) (E : SvEnd w0 w A 5 ws w' s1) : ∃ va dv nv, Bas w0 w' (A.upd va dv nv) A' rr ws s1 s' v L := by
  obtain ⟨va, dv, nv, d⟩ := h.du.left E
  have k := h.du.x.kh E
  exact ⟨_, _, _, d, h.sr.kh k, owns_kh h.row k cap_odd3, h.gl⟩
theorem Bas.right (h : Bas w0 w A A' rr ws s s' v L) (E : SvEnd w0 w A' 5 ws w' s1) : ∃ va dv nv, Bas w0 w' A (A'.upd va dv nv) rr ws s s1 v L := by
  obtain ⟨va, dv, nv, d⟩ := h.du.symm.left E
  have k := h.du.y.kh E
  exact ⟨_, _, _, d.symm, h.sr.kh k, owns_kh h.row k cap_odd3, h.gl⟩
theorem Bas.app {v' : Value} {L' : List Cp} (h : Bas w0 w A A' rr ws s s' v L) (f : Foot (fun k => v.ownBlock = some k) w w') (hr : w'.ownsRow w0.heap.size 36 4 v' L'.length (cellsC L')) : Bas w0 w' A A' rr ws s s' v' L' := by
  have no : ∀ {b : Nat} {cs : Array Value} {ty : TypeId}, w.heap[b]? = some (.cells cs ty (0, 0)) → ty ≠ 36 → ¬ v.ownBlock = some b := fun hb ht e => by
    obtain ⟨cur, h1, _⟩ := owns_block h.row e
    rw [hb] at h1; cases h1; exact ht rfl
  refine ⟨h.du.off f (fun b e => ?_), h.sr.foot f (no h.sr.1 (by decide)) (no h.sr.2 (by decide)), hr, h.gl⟩
  obtain ⟨cur, h1, h2⟩ := owns_block h.row e
  exact ⟨h2, .inr ⟨cur, _, h1, cap_odd3⟩⟩
theorem MB.app {g : Nat} {m : Msg} {D : Value} {B n : Nat} {xs : List Value} (h : MB w g m D) (hr : w.ownsRow B 36 4 v n xs) (f : Foot (fun k => v.ownBlock = some k) w w') : MB w' g m D :=
  h.foot f (fun e => by
    obtain ⟨cur, h1, _⟩ := owns_block hr e
    rw [show w.heap[g]? = _ from h] at h1
    cases h1)
/- a script, behind so many deeds -/
structure Scr (N : Nat) (w0 w : World) (A A' : Ad) (rr : Nat) (ws : List Nat) (s : Hs) (v : Value) (L : List Cp) : Prop where
  ba : Bas w0 w A A' rr ws s s v L
  cp : ∀ c ∈ L, c.may
  el : s.es.length ≤ N
  ln : L.length ≤ N
theorem cap_in {k : Nat} (hk : k < L.length) : L.getD k Cp.zero ∈ L := by
  rw [List.getD_eq_getElem?_getD, List.getElem?_eq_getElem hk]; exact List.getElem_mem hk
/- two halves that were made -/
theorem Du.of {B2 g2 go2 m2 a2 h2 k2 n c d N2 st2 sm2 sa2 sq2 pg : Nat} {v2 : Value} {dv2 : List Bool × List UInt8} {nv2 : Nat → Option Cel} {L2 : Nat → Option (List UInt8)} (X : Sv w0 w A p ws s) (Y : Od w0 w B2 g2 go2 m2 a2 h2 k2 p v2 ws t es T) (Z : Sto w N2 st2 sm2 sa2 sq2 pg dv2 nv2 L2)
    (hx : ∀ j, SvS A j → j < n ∨ (c ≤ j ∧ j < d)) (hy : n ≤ g2 ∧ n ≤ go2 ∧ n ≤ m2 ∧ n ≤ a2) (hy2 : g2 < c ∧ go2 < c ∧ m2 < c ∧ a2 < c) (hcd : c ≤ d) (hv : ∀ j, v2.ownBlock = some j → d ≤ j) (hN : d ≤ N2) (hm : d ≤ sm2) (h0 : w0.heap.size ≤ d) (hNw : N2 ≤ w.heap.size) :
    Du w0 w A ⟨B2, g2, go2, m2, a2, h2, k2, v2, (0, st2), sm2, sa2, sq2, N2, dv2, nv2⟩ p ws s ⟨t, es, T, pg, L2⟩ := by
  refine ⟨X, ⟨Y, Z, by show w0.heap.size ≤ N2; omega, hNw, by show w0.heap.size ≤ sm2; omega⟩, fun j e f => ?_⟩
  have hj := hx j e
  rcases f with ((f | f | f | f) | f) | f | f
  · have : j = go2 := f; omega
  · have : j = m2 := f; omega
  · have : j = a2 := f; omega
  · have := hv j f; omega
  · have : j = g2 := f; omega
  · have : j = sm2 := f; omega
  · have := (Z.up f).1; omega
/- a table's numbers -/
theorem Od.low {B g go m a h k : Nat} {v : Value} (x : Od w0 w B g go m a h k p v ws t es T) : g < w.heap.size ∧ go < w.heap.size ∧ m < w.heap.size ∧ a < w.heap.size ∧ h < w.heap.size := by
  obtain ⟨C, hC⟩ := x.tb.blk
  exact ⟨lt_of_heap hC, lt_of_heap x.tk.orc.box, x.tk.orc.map.lt, lt_of_heap x.tk.tape.box, lt_of_heap x.tk.tape.row⟩
theorem Od.up {B g go m a h k : Nat} {v : Value} (x : Od w0 w B g go m a h k p v ws t es T) {j : Nat} (e : OdS g go m a v j) : w0.heap.size ≤ j := by
  have b0 := x.tk.new.b0
  have a0 := x.tk.new.a0
  rcases e with (e | e | e | e) | e
  · have := x.tk.orc.bg; omega
  · have := x.tk.orc.bm; omega
  · omega
  · obtain ⟨cur, h1, h2⟩ := owns_block x.tk.orc.row e; omega
  · have := x.new; omega
theorem ods_nil {g go m a n j : Nat} (h : g < n ∧ go < n ∧ m < n ∧ a < n) (e : OdS g go m a (.slice none 0 0) j) : j < n := by
  rcases e with (e | e | e | e) | e
  · omega
  · omega
  · omega
  · cases e
  · omega
/- the one turns, the other stays -/
theorem Od.beside {B g go m a h k B2 g2 go2 m2 a2 h2 k2 n : Nat} (x : Od w0 w1 B g go m a h k p (.slice none 0 0) ws 0 [] noneO) (y : Od w0 w B2 g2 go2 m2 a2 h2 k2 p (.slice none 0 0) ws t es T) (h1 : g < n ∧ go < n ∧ m < n ∧ a < n) (h3 : n ≤ g2 ∧ n ≤ go2 ∧ n ≤ m2 ∧ n ≤ a2 ∧ n ≤ h2) (f : Foot (OdS g go m a (.slice none 0 0)) w w') : Od w0 w' B2 g2 go2 m2 a2 h2 k2 p (.slice none 0 0) ws t es T :=
  y.foot f (fun j e => by
    have h := ods_nil h1 e
    refine ⟨x.up e, fun e2 => ?_, by omega⟩
    rcases e2 with (e2 | e2 | e2 | e2) | e2
    · omega
    · omega
    · omega
    · cases e2
    · omega)
theorem Od.noT {B g go m a h k : Nat} {v : Value} (x : Od w0 w B g go m a h k p v ws t es T) {b : Nat} {cs : Array Value} {ty : TypeId} (hb : w.heap[b]? = some (.cells cs ty (0, 0))) (ht : Odd ty) : ¬ OdS g go m a v b := fun e => by
  rcases e with e | e
  · exact x.tk.noAsk hb ht.1 ht.2.1 ht.2.2.1 e
  · obtain ⟨C, hC⟩ := x.tb.blk
    rw [e, hC] at hb; cases hb; exact ht.2.2.2 rfl
theorem neq_cap (p o r c p' o' r' c' : Int) (w : World) : (binOp .neq 36 (.agg #[.int .u64 p, .int .u32 o, .int .u8 r, .int .u64 c]) (.agg #[.int .u64 p', .int .u32 o', .int .u8 r', .int .u64 c'])).run Tryz.prog w = .ok (.bool (!decide (p = p' ∧ o = o' ∧ r = r' ∧ c = c'))) w := by
  have hS : Tryz.prog.underlying 36 = some (.struct (Tryz.prog.fieldsOf 36)) := by kernel_rfl
  have hp : Tryz.prog.stoodInHeld 36 = false := by kernel_rfl
  rw [run_neq_struct, show (10000 : Nat) = 9999 + 1 from rfl, run_equalIn_agg w 9999 36 _ _ hS hp]
  simp only [Program.fieldsOf, Tryz.underlying36]
  have u1 := Tryz.underlying28
  have u2 := Tryz.underlying34
  have u3 := Tryz.underlying5
  go_simp
  by_cases h1 : p = p' <;> by_cases h2 : o = o' <;> by_cases h3 : r = r' <;> by_cases h4 : c = c' <;> simp [h1, h2, h3, h4]
/- a row of one capability -/
theorem owns_cap1 (w : World) (p o r c : Nat) : (w.alloc (.cells #[.int .u64 (p : Int), .int .u32 (o : Int), .int .u8 (r : Int), .int .u64 (c : Int)] 36)).ownsRow w.heap.size 36 4 (.slice (some ⟨w.heap.size, 0, none⟩) 1 1) 1 (cellsC [⟨p, o, r, c⟩]) :=
  ⟨rfl, .inr ⟨w.heap.size, 1, _, rfl, Nat.le_refl _, heap_alloc_new _ _, Nat.le_refl _, by unfold maxLen; omega, rfl, rfl⟩⟩
theorem owns_from {B B' n sz : Nat} {e : TypeId} {v : Value} {xs : List Value} (h : w.ownsRow B e sz v n xs) (hB : B' ≤ B) : w.ownsRow B' e sz v n xs := by
  refine ⟨h.1, ?_⟩
  rcases h.2 with h0 | ⟨k, cap, cur, h1, h2, h4⟩
  · exact .inl h0
  · exact .inr ⟨k, cap, cur, h1, Nat.le_trans hB h2, h4⟩
end
end Go.Proofs.YtpbkjmkdciiccaaGreatDoor
