/-
  A table with an object that is revoked again and again, beside a row of all that was told: what each deed leaves.
-/
import Derived.Test.YtgcmompldcnhlaaDoorIForM
namespace Go.Proofs.YtgcmompldcnhlaaDoor
open Go.RowKit
variable {w0 w w1 w2 w' : World} {g bo ba : Nat} {ws : List Nat} {t jc i jb so : Nat} {es : List Ent} {v : Value} {L : List Cp}
def TR (ws : List Nat) (jc i : Nat) : Nat → Ob := fun k => if k = 0 then ⟨ws.getD 0 0, 0, 5, 24⟩ else if k = 1 then ⟨ws.getD jc 0, i, 6, 24⟩ else Ob.zero
theorem TR_0 (ws : List Nat) (jc i : Nat) : TR ws jc i 0 = ⟨ws.getD 0 0, 0, 5, 24⟩ := rfl
theorem TR_1 (ws : List Nat) (jc i : Nat) : TR ws jc i 1 = ⟨ws.getD jc 0, i, 6, 24⟩ := rfl
theorem TR_has (ws : List Nat) (jc i : Nat) : hasO (TR ws jc i) 1 = true := hasO_of (by omega) (by show 0 < 24; omega)
theorem TR_has0 (ws : List Nat) (jc i : Nat) : hasO (TR ws jc i) 0 = true := hasO_of (by omega) (by show 0 < 24; omega)
theorem TR_rev (ws : List Nat) (jc i t : Nat) : updO (TR ws jc i) 1 (revO (TR ws jc i 1) (ws.getD t 0)) = TR ws t (i + 1) := by
  funext k
  unfold updO
  by_cases h : k = 1
  · subst h; rw [if_pos rfl]; rfl
  · rw [if_neg h]
    unfold TR
    by_cases h0 : k = 0
    · rw [if_pos h0, if_pos h0]
    · rw [if_neg h0, if_neg h0, if_neg h, if_neg h]
theorem TR_e (ws : List Nat) (jc i j : Nat) (hi : i ≤ 1000) : (TR ws jc i j).e ≤ 9223372036854775806 := by
  unfold TR
  split
  · show 0 ≤ _; omega
  · split
    · show i ≤ _; omega
    · show 0 ≤ _; omega
/- what was told of an elder secret -/
def OldC (ws : List Nat) (es : List Ent) (jb : Nat) (c : Cp) : Prop := c.ok ∧ c.p = 7 ∧ c.o = 1 ∧ ∃ js, js < jb ∧ HasA es (ws.getD js 0) c.r c.c
structure RevS (w0 w : World) (g bo ba : Nat) (ws : List Nat) (t : Nat) (es : List Ent) (jc i jb so : Nat) (v : Value) (L : List Cp) : Prop where
  sd : Sd w0 w g 7 ws t es (TR ws jc i)
  own : CBox w bo 7 1 255 so
  oth : CBox w ba 7 0 255 (ws.getD 0 0)
  row : w.ownsRow w0.heap.size 49 4 v L.length (cellsC L)
  off : v.ownBlock ≠ some bo ∧ v.ownBlock ≠ some ba
  old : ∀ c, c ∈ L → OldC ws es jb c
  outs : Outs ws t es
  el : es.length ≤ t
  jt : jc < t
  jbt : jb ≤ t
  new : w0.heap.size ≤ bo ∧ bo ≠ ba
theorem OldC.ext {c : Cp} (h : OldC ws es jb c) (more : List Ent) : OldC ws (es ++ more) jb c := by
  obtain ⟨h1, h2, h3, js, h4, h5⟩ := h
  exact ⟨h1, h2, h3, js, h4, h5.ext more⟩
theorem OldC.up {c : Cp} {jb' : Nat} (h : OldC ws es jb c) (hb : jb ≤ jb') : OldC ws es jb' c := by
  obtain ⟨h1, h2, h3, js, h4, h5⟩ := h
  exact ⟨h1, h2, h3, js, by omega, h5⟩
theorem RevS.grow (S : RevS w0 w g bo ba ws t es jc i jb so v L) (b : Below w.heap.size w w') : RevS w0 w' g bo ba ws t es jc i jb so v L :=
  ⟨S.sd.grow b, S.own.grow b, S.oth.grow b, owns_grow S.row b, S.off, S.old, S.outs, S.el, S.jt, S.jbt, S.new⟩
theorem of_el (h : es.length ≤ t) (s r : Nat) : (ofF ws t es s r).es.length ≤ (ofF ws t es s r).t := by
  rcases of_cases ws t es s r with ⟨x, _, e⟩ | ⟨_, _, _, e⟩ | ⟨_, e⟩ <;> rw [e]
  · exact h
  · simp; exact h
  · exact h
/- an answer of the oracle beside it -/
theorem RevS.ask (S : RevS w0 w g bo ba ws t es jc i jb so v L) (hu : Unlike ws) (s r : Nat) (x : Sd w0 w' g 7 ws (ofF ws t es s r).t (ofF ws t es s r).es (TR ws jc i)) (k : Kp w w') :
    RevS w0 w' g bo ba ws (ofF ws t es s r).t (ofF ws t es s r).es jc i jb so v L := by
  have ht := of_t ws t es s r
  obtain ⟨more, hm⟩ := of_ext ws t es s r
  exact ⟨x, S.own.kp k, S.oth.kp k, owns_kp S.row k cap_odd, S.off, fun c hc => by rw [hm]; exact (S.old c hc).ext more, S.outs.of hu s r, of_el S.el s r, by have := S.jt; omega, by have := S.jbt; omega, S.new⟩
theorem rs_restrict (m : Nat) (w : World) (S : RevS w0 w g bo ba ws t es jc i jb so v L) (hu : Unlike ws) (hw : ∀ j, ws.getD j 0 ≤ 281474976710655) (hm : m ≤ 255) (ht : t < ws.length) (hl : ws.length ≤ 1000) (hso : so = ws.getD jc 0) :
    Calls Tryd.prog 17 #[.pointer (some ⟨g, 0, none⟩), .agg #[.int .u64 7, .int .u32 1, .int .u8 255, .int .u64 (so : Int)], .int .u8 (m : Int)] w fun e w' =>
      ∃ (x t' : Nat) (es' : List Ent), e = .returned (.tuple #[.agg #[.int .u64 7, .int .u32 1, .int .u8 (m : Int), .int .u64 (x : Int)], .nilIface]) ∧ t' ≤ t + 1 ∧ x ≤ 281474976710655 ∧ HasA es' (ws.getD jc 0) m x ∧ RevS w0 w' g bo ba ws t' es' jc i jb so v L := by
  subst hso
  have ok := of_ok ht es (ws.getD jc 0) m
  have e := res_good (ws := ws) (t := t) (es := es) (p := 7) (T := TR ws jc i) (c := ⟨7, 1, 255, ws.getD jc 0⟩) (mask := m) rfl (TR_has _ _ _) (has_owner (hw jc)) (by show (ofF ws t es (ws.getD jc 0) (255 &&& m)).ok = true; rw [and_owner hm]; exact ok)
  refine (sd_restrict ⟨7, 1, 255, ws.getD jc 0⟩ m w S.sd (cp_ok (by decide) (by decide) (by decide) (hw jc)) hm (by have := S.el; omega) _ e).mono ?_
  rintro e w' ⟨rfl, x, k⟩
  simp only [TR_1, and_owner hm] at x ⊢
  exact ⟨_, _, _, rfl, (of_t ws t es _ m).2, of_word S.outs hw _ _, of_has ok, S.ask hu _ _ x k⟩
theorem rs_check (c : Cp) (w : World) (S : RevS w0 w g bo ba ws t es jc i jc so v L) (hu : Unlike ws) (hw : ∀ j, ws.getD j 0 ≤ 281474976710655) (hc : c ∈ L) (ht : t < ws.length) (hl : ws.length ≤ 1000) :
    Calls Tryd.prog 20 #[.pointer (some ⟨g, 0, none⟩), c.val, .int .u8 0] w fun e w' =>
      ∃ t' es', e = .returned (.tuple #[.int .i64 0, .iface 60 (.int .i64 1)]) ∧ t' ≤ t + 1 ∧ RevS w0 w' g bo ba ws t' es' jc i jc so v L := by
  obtain ⟨h1, h2, h3, js, h4, h5⟩ := S.old c hc
  have ok := of_ok ht es (ws.getD jc 0) c.r
  have hne := unlike_of S.outs hu hw (a := js) (b := jc) (by have := S.jt; omega) S.jt (by omega) h5 ok
  have e := chk_bad (ws := ws) (t := t) (es := es) (p := 7) (T := TR ws jc i) (c := c) (need := 0) h2 (by rw [h3]; exact TR_has _ _ _) (by rw [h3]; exact ok) (by rw [h3]; exact hne)
  refine (sd_check c 0 w S.sd h1 (by decide) (by have := S.el; omega) _ e).mono ?_
  rintro e w' ⟨rfl, x, k⟩
  simp only [h3, TR_1] at x
  exact ⟨_, _, rfl, (of_t ws t es (ws.getD jc 0) c.r).2, S.ask hu _ _ x k⟩
theorem rs_revoke (w : World) (S : RevS w0 w g bo ba ws t es jc i (jc + 1) so v L) (hw : ∀ j, ws.getD j 0 ≤ 281474976710655) (ht : t < ws.length) (hl : ws.length ≤ 1000) (hi : i ≤ 100) (hso : so = ws.getD jc 0) :
    Calls Tryd.prog 18 #[.pointer (some ⟨g, 0, none⟩), .agg #[.int .u64 7, .int .u32 1, .int .u8 255, .int .u64 (so : Int)]] w fun e w' =>
      e = .returned (.tuple #[.agg #[.int .u64 7, .int .u32 1, .int .u8 255, .int .u64 ((ws.getD t 0 : Nat) : Int)], .nilIface]) ∧ RevS w0 w' g bo ba ws (t + 1) es t (i + 1) t so v L := by
  subst hso
  have e := rev_good (ws := ws) (t := t) (es := es) (p := 7) (T := TR ws jc i) (c := ⟨7, 1, 255, ws.getD jc 0⟩) rfl rfl (TR_has _ _ _) (has_owner (hw jc)) ht
  refine (sd_revoke ⟨7, 1, 255, ws.getD jc 0⟩ w S.sd (cp_ok (by decide) (by decide) (by decide) (hw jc)) (by have := S.el; omega) (fun j => TR_e _ _ _ _ (by omega)) _ e).mono ?_
  rintro e w' ⟨rfl, x, k⟩
  simp only [TR_rev] at x
  refine ⟨rfl, x, S.own.kp k, S.oth.kp k, owns_kp S.row k cap_odd, S.off, fun c hc => (S.old c hc).up (by have := S.jt; omega), S.outs.more ht, by have := S.el; omega, by omega, by omega, S.new⟩
theorem rs_info (w : World) (S : RevS w0 w g bo ba ws t es jc i jb so v L) (hw : ∀ j, ws.getD j 0 ≤ 281474976710655) (ht : t ≤ 1000) (hso : so = ws.getD jc 0) :
    Calls Tryd.prog 23 #[.pointer (some ⟨g, 0, none⟩), .agg #[.int .u64 7, .int .u32 1, .int .u8 255, .int .u64 (so : Int)]] w fun e w' =>
      e = .returned (.tuple #[.int .i64 (i : Int), .int .i64 24, .nilIface]) ∧ RevS w0 w' g bo ba ws t es jc i jb so v L := by
  subst hso
  have e : chkF ws t es 7 (TR ws jc i) ⟨7, 1, 255, ws.getD jc 0⟩ 0 = ⟨1, 0, t, es⟩ := by
    have := chk_good (ws := ws) (t := t) (es := es) (p := 7) (T := TR ws jc i) (c := ⟨7, 1, 255, ws.getD jc 0⟩) (need := 0) rfl (TR_has _ _ _) (has_owner (hw jc))
    rw [this]; exact if_pos (show 255 &&& 0 = 0 by decide)
  refine (sd_info ⟨7, 1, 255, ws.getD jc 0⟩ w S.sd (cp_ok (by decide) (by decide) (by decide) (hw jc)) (by have := S.el; omega) _ e rfl).mono ?_
  rintro e w' ⟨rfl, x, k⟩
  exact ⟨rfl, x, S.own.kp k, S.oth.kp k, owns_kp S.row k cap_odd, S.off, S.old, S.outs, S.el, S.jt, S.jbt, S.new⟩
theorem rs_last (w : World) (S : RevS w0 w g bo ba ws t es jc i jb so v L) (hw : ∀ j, ws.getD j 0 ≤ 281474976710655) (ht : t ≤ 1000) :
    Calls Tryd.prog 20 #[.pointer (some ⟨g, 0, none⟩), .agg #[.int .u64 7, .int .u32 0, .int .u8 255, .int .u64 ((ws.getD 0 0 : Nat) : Int)], .int .u8 255] w fun e w' =>
      e = .returned (.tuple #[.int .i64 0, .nilIface]) ∧ Below w0.heap.size w0 w' := by
  have e : chkF ws t es 7 (TR ws jc i) ⟨7, 0, 255, ws.getD 0 0⟩ 255 = ⟨0, 0, t, es⟩ := by
    have := chk_good (ws := ws) (t := t) (es := es) (p := 7) (T := TR ws jc i) (c := ⟨7, 0, 255, ws.getD 0 0⟩) (need := 255) rfl (TR_has0 _ _ _) (has_owner (hw 0))
    rw [this]; exact if_pos (show 255 &&& 255 = 255 by decide)
  refine (sd_check ⟨7, 0, 255, ws.getD 0 0⟩ 255 w S.sd (cp_ok (by decide) (by decide) (by decide) (hw 0)) (by decide) (by have := S.el; omega) _ e).mono ?_
  rintro e w' ⟨rfl, x, _⟩
  exact ⟨rfl, x.bel⟩
/- what is told is kept -/
theorem RevS.app (S : RevS w0 w g bo ba ws t es jc i jb so v L) {v' : Value} {c : Cp} (hc : OldC ws es jb c) (ho : w'.ownsRow w0.heap.size 49 4 v' (L.length + 1) (cellsC (L ++ [c]))) (f : Foot (fun k => v.ownBlock = some k) w w') (m : Moved w v v') :
    RevS w0 w' g bo ba ws t es jc i jb so v' (L ++ [c]) := by
  refine ⟨S.sd.row S.row (Nat.le_refl _) f, S.own.foot f S.off.1, S.oth.foot f S.off.2, by rw [List.length_append]; exact ho, ⟨fun e => ?_, fun e => ?_⟩, fun d hd => ?_, S.outs, S.el, S.jt, S.jbt, S.new⟩
  · rcases m _ e with e | e
    · exact S.off.1 e
    · have := lt_of_heap S.own; omega
  · rcases m _ e with e | e
    · exact S.off.2 e
    · have := lt_of_heap S.oth; omega
  · rcases List.mem_append.1 hd with h | h
    · exact S.old d h
    · rw [List.mem_singleton.1 h]; exact hc
/- the owner's variable is given another capability -/
theorem RevS.put (S : RevS w0 w g bo ba ws t es jc i jb so v L) (s : Nat) :
    RevS w0 ((((w.setCell ⟨bo, 0, none⟩ (.int .u64 7)).setCell ⟨bo, 1, none⟩ (.int .u32 1)).setCell ⟨bo, 2, none⟩ (.int .u8 255)).setCell ⟨bo, 3, none⟩ (.int .u64 (s : Int))) g bo ba ws t es jc i jb s v L := by
  have f := foot4 w bo (.int .u64 7) (.int .u32 1) (.int .u8 255) (.int .u64 (s : Int))
  have h1 := heap_setCell_same w bo 0 _ _ (.int .u64 7) S.own
  have h2 := heap_setCell_same _ bo 1 _ _ (.int .u32 1) h1
  have h3 := heap_setCell_same _ bo 2 _ _ (.int .u8 255) h2
  exact ⟨S.sd.cap S.own.capB S.new.1 f, heap_setCell_same _ bo 3 _ _ (.int .u64 (s : Int)) h3, S.oth.foot f (fun e => S.new.2 e.symm), owns_foot S.row f (fun r hr e => S.off.1 (e ▸ hr)), S.off, S.old, S.outs, S.el, S.jt, S.jbt, S.new⟩
theorem owns_cap2 {B n cap : Nat} {ao : Option Addr} (h : w.ownsRow B 49 4 (.slice ao n cap) L.length (cellsC L)) (k : Nat) (hk : k < L.length) (p o r c : Nat) (hc : L.getD k Cp.zero = ⟨p, o, r, c⟩) :
    ∃ b, ao = some ⟨b, 0, none⟩ ∧ w.cell? ⟨b, k * 4, none⟩ = some (.int .u64 (p : Int)) ∧ w.cell? ⟨b, k * 4 + 1, none⟩ = some (.int .u32 (o : Int)) ∧ w.cell? ⟨b, k * 4 + 2, none⟩ = some (.int .u8 (r : Int)) ∧ w.cell? ⟨b, k * 4 + 3, none⟩ = some (.int .u64 (c : Int)) := by
  obtain ⟨b, cap', e, _, _, k0, k1, k2, k3⟩ := owns_cap h rfl k hk p o r c hc
  have e2 : ao = some ⟨b, 0, none⟩ := by cases e; rfl
  exact ⟨b, e2, k0, k1, k2, k3⟩
theorem getD_mem {k : Nat} (hk : k < L.length) : L.getD k Cp.zero ∈ L := by
  rw [List.getD_eq_getElem?_getD, List.getElem?_eq_getElem hk]; exact List.getElem_mem hk
theorem RevS.up (S : RevS w0 w g bo ba ws t es jc i jb so v L) {jb' : Nat} (h : jb ≤ jb') (h2 : jb' ≤ t) : RevS w0 w g bo ba ws t es jc i jb' so v L :=
  ⟨S.sd, S.own, S.oth, S.row, S.off, fun c hc => (S.old c hc).up h, S.outs, S.el, S.jt, h2, S.new⟩
def tbF : Nat → Nat
  | 0 => 2
  | i + 1 => tbF i + 9 + 9 * (i + 1)
theorem tbF_le {i : Nat} (h : i ≤ 4) : tbF i + 9 + 9 * (i + 1) ≤ 182 := by
  match i, h with
  | 0, _ | 1, _ | 2, _ | 3, _ | 4, _ => decide
/- bytes that came in -/
def U8s (w : World) (ao : Option Addr) (n cap : Nat) : Prop := n ≤ cap ∧ cap ≤ maxLen ∧ ∀ j, j < n → ∃ ad, ao = some ad ∧ ∃ m : Nat, w.cell? (ad.add j) = some (.int .u8 (m : Int)) ∧ m ≤ 255
theorem bytesOf5 : Tryd.prog.bytesOf 5 = 1 := by kernel_rfl
theorem RowOf.u8s {a : Option Addr} {len cap : Nat} {zs : List Int} (h : RowOf .u8 w a len cap zs) : U8s w a len cap := by
  rcases h with ⟨rfl, rfl, rfl, rfl⟩ | ⟨x, rfl, h1, h2, h3, h4, h5⟩
  · exact ⟨Nat.le_refl _, by decide, fun j hj => by omega⟩
  · refine ⟨h1, h2, fun j hj => ⟨x, rfl, ?_⟩⟩
    have hjz : j < zs.length := by omega
    obtain ⟨m, hm, hm2⟩ := u8_nat (h5 zs[j] (List.getElem_mem hjz))
    refine ⟨m, ?_, hm2⟩
    rw [h4 j hjz, List.getD_eq_getElem?_getD, List.getElem?_eq_getElem hjz]
    simp only [Option.getD_some, hm]
theorem U8s.at {ao : Option Addr} {n cap : Nat} (h : U8s w ao n cap) (b : Below w.heap.size w w') {j : Nat} (hj : j < n) : ∃ ad, ao = some ad ∧ ∃ m : Nat, w'.cell? (ad.add j) = some (.int .u8 (m : Int)) ∧ m ≤ 255 := by
  obtain ⟨ad, e, m, h1, h2⟩ := h.2.2 j hj
  exact ⟨ad, e, m, by rw [b.cell (lt_of_cell h1), h1], h2⟩
end Go.Proofs.YtgcmompldcnhlaaDoor
