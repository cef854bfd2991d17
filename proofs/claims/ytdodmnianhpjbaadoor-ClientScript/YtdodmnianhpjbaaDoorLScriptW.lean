/-
  The walk of ClientScript.
-/
import Derived.Test.YtdodmnianhpjbaaDoorLScr
import Derived.Test.YtdodmnianhpjbaaDoorLStartO
import Derived.Test.YtdodmnianhpjbaaDoorKAlike
import Derived.Deep.RegionLaw
import Derived.Deep.CutBlock
import Derived.Deep.MidRow
namespace Go.Proofs.YtdodmnianhpjbaaDoor
open Go.RowKit
def actO (x : Ac) : Obj := .cells #[.int .u8 (x.o : Nat), .int .u64 x.m.ta, .int .u64 x.m.rp, .int .u32 x.m.id, .int .u16 x.m.op, .int .u16 x.m.st, .int .u64 x.m.p, .int .u32 x.m.o, .int .u8 x.m.r, .int .u64 x.m.c, .int .u64 x.m.ar, .slice x.m.so x.m.sn x.m.sc, .int .u8 (x.n : Nat)] 37 (0, 0)
theorem act_all {W : World} {b : Nat} {x : Ac} (h : W.heap[b]? = some (actO x)) : W.cell? ⟨b, 0, none⟩ = some (.int .u8 (x.o : Nat)) ∧ W.cell? ⟨b, 1, none⟩ = some (.int .u64 x.m.ta) ∧ W.cell? ⟨b, 2, none⟩ = some (.int .u64 x.m.rp) ∧ W.cell? ⟨b, 3, none⟩ = some (.int .u32 x.m.id) ∧ W.cell? ⟨b, 4, none⟩ = some (.int .u16 x.m.op) ∧ W.cell? ⟨b, 5, none⟩ = some (.int .u16 x.m.st) ∧ W.cell? ⟨b, 6, none⟩ = some (.int .u64 x.m.p) ∧ W.cell? ⟨b, 7, none⟩ = some (.int .u32 x.m.o) ∧ W.cell? ⟨b, 8, none⟩ = some (.int .u8 x.m.r) ∧ W.cell? ⟨b, 9, none⟩ = some (.int .u64 x.m.c) ∧ W.cell? ⟨b, 10, none⟩ = some (.int .u64 x.m.ar) ∧ W.cell? ⟨b, 11, none⟩ = some (.slice x.m.so x.m.sn x.m.sc) ∧ W.cell? ⟨b, 12, none⟩ = some (.int .u8 (x.n : Nat)) := by
  unfold actO at h
  refine ⟨?_, ?_, ?_, ?_, ?_, ?_, ?_, ?_, ?_, ?_, ?_, ?_, ?_⟩ <;> (rw [cell_of_row W b _ _ _ _ h]; rfl)
def MRel (w : World) (g : Nat) (rp W N : Int) (n gk : Nat) (vv vi : Value) (wq : World) : Prop :=
  ∃ (i : Nat) (L : List Cl) (K : List Mc), i + gk = n ∧ vi = .int .i64 (i : Int) ∧ Sc w wq g rp W N vv L K ∧ Rl w 0 L K
def AnRel (w : World) (g : Nat) (rp W N : Int) (vv : Value) (L : List Cl) (K : List Mc) (hm : Nat) (wx : World) : Prop :=
  ∃ p : Ms, Sc w wx g rp W N vv L K ∧ BoxM wx hm p ∧ p.has w ∧ p.sn ≤ 140737488355328 ∧ 0 ≤ p.id ∧ p.id ≤ 4294967295
def ARel (w : World) (g : Nat) (rp W N : Int) (vv : Value) (L : List Cl) (K : List Mc) (n gk : Nat) (va vi : Value) (wq : World) : Prop :=
  ∃ j : Nat, j + gk = n ∧ vi = .int .i64 (j : Int) ∧ Sd w wq g rp W N vv L (mtT W N K j) va (mtM W N (K.take j))
def ZRel (w : World) (g : Nat) (rp W N : Int) (vv : Value) (L : List Cl) (K : List Mc) (n gk : Nat) (vi : Value) (wq : World) : Prop :=
  ∃ j : Nat, j + gk = n ∧ vi = .int .i64 (j : Int) ∧ Sc w wq g rp W N vv L K
def ZMid (w : World) (g : Nat) (rp W N : Int) (vv : Value) (L : List Cl) (K : List Mc) (kn j : Nat) (v28 v29 v30 : Value) (wx : World) : Prop :=
  ∃ (hb : Nat) (q : Ms) (s er : Int), v28 = .int .i64 s ∧ v29 = .pointer (some ⟨hb, 0, none⟩) ∧ v30 = erN er ∧ BoxM wx hb q ∧ q.has wx ∧ Sc w wx g rp W N vv L K ∧
    ((¬ (1 ≤ j ∧ j ≤ kn) ∧ s = 0 ∧ er = 12) ∨ ((1 ≤ j ∧ j ≤ kn) ∧ (mc K (j - 1)).s = s ∧ q.nm = (mc K (j - 1)).r.nm ∧ ((¬ s = 3 ∧ er = 0) ∨ (s = 3 ∧ er = 10))))
def BRel (V : World) (n gk : Nat) (vi : Value) (wq : World) : Prop := ∃ j : Nat, j + gk = n ∧ vi = .int .i64 (j : Int) ∧ Below V.heap.size V wq
theorem mtT_next {W N : Int} {K : List Mc} {j : Nat} (h : j < K.length) {y y2 : Mc} {b : Bool} (hy : mc K j = y) (ho : mtF W N y = (y2, b)) : mtT W N K (j + 1) = (mtT W N K j).set j y2 ∧ mtM W N (K.take (j + 1)) = mtM W N (K.take j) ++ (if b then [y.q] else []) := by
  subst hy
  refine ⟨by rw [← mtT_set K j h, ho], ?_⟩
  rw [take_mc K j h, mtM_snoc, ho]
theorem mtT_idle {W N : Int} {K : List Mc} {j : Nat} (h : j < K.length) {y : Mc} (hy : mc K j = y) (hs : ¬ y.s = 1) : mtT W N K (j + 1) = mtT W N K j ∧ mtM W N (K.take (j + 1)) = mtM W N (K.take j) := by
  have ho : mtF W N y = (y, false) := by unfold mtF; rw [if_neg hs]
  obtain ⟨h1, h2⟩ := mtT_next h hy ho
  refine ⟨?_, by rw [h2]; simp⟩
  rw [h1]
  have h3 : y = mc (mtT W N K j) j := by rw [mtT_at K j h, hy]
  rw [h3, set_self _ _ (by rw [mtT_len]; exact h)]
theorem mtT_all {W N : Int} (K : List Mc) : mtT W N K K.length = mtL W N K := by
  unfold mtT; rw [List.take_length, List.drop_length, List.append_nil]
theorem setCells_heap : ∀ (cs : List Value) (w : World) (g o : Nat) (C : Array Value) (t : TypeId), w.heap[g]? = some (.cells C t (0, 0)) → (w.setCells g o cs).heap[g]? = some (.cells (setC C o cs) t (0, 0)) := by
  intro cs
  induction cs with
  | nil => intro w g o C t h; exact h
  | cons u r ih =>
    intro w g o C t h
    exact ih _ g (o + 1) _ t (heap_setCell_same w g o _ _ u h)
theorem setCells_foot : ∀ (cs : List Value) (w : World) (g o : Nat), Foot (fun j => j = g) w (w.setCells g o cs) := by
  intro cs
  induction cs with
  | nil => intro w g o; exact Foot.refl _ _
  | cons u r ih => intro w g o; exact (foot_set w ⟨g, o, none⟩ u).then (ih _ g (o + 1))
theorem setCells_new (Z : World) (y : Mc) : ((Z.alloc (.cells #[.int .u64 0, .int .u64 0, .int .u32 0, .int .u16 0, .int .u16 0, .int .u64 0, .int .u32 0, .int .u8 0, .int .u64 0, .int .u64 0, .slice none 0 0, .int .u64 0, .int .u64 0, .int .u32 0, .int .u16 0, .int .u16 0, .int .u64 0, .int .u32 0, .int .u8 0, .int .u64 0, .int .u64 0, .slice none 0 0, .int .i64 0, .int .i64 0, .int .i64 0] 46)).setCells Z.heap.size 0 y.cells.toArray.toList).heap[Z.heap.size]? = some (.cells #[.int .u64 y.q.ta, .int .u64 y.q.rp, .int .u32 y.q.id, .int .u16 y.q.op, .int .u16 y.q.st, .int .u64 y.q.p, .int .u32 y.q.o, .int .u8 y.q.r, .int .u64 y.q.c, .int .u64 y.q.ar, .slice y.q.so y.q.sn y.q.sc, .int .u64 y.r.ta, .int .u64 y.r.rp, .int .u32 y.r.id, .int .u16 y.r.op, .int .u16 y.r.st, .int .u64 y.r.p, .int .u32 y.r.o, .int .u8 y.r.r, .int .u64 y.r.c, .int .u64 y.r.ar, .slice y.r.so y.r.sn y.r.sc, .int .i64 y.s, .int .i64 y.a, .int .i64 y.n] 46 (0, 0)) := by
  rw [setCells_heap _ _ _ 0 _ _ (heap_alloc_new _ _)]
  simp [setC, Mc.cells]
theorem setCells_below (Z : World) (cs : List Value) : Below Z.heap.size Z ((Z.alloc (.cells #[.int .u64 0, .int .u64 0, .int .u32 0, .int .u16 0, .int .u16 0, .int .u64 0, .int .u32 0, .int .u8 0, .int .u64 0, .int .u64 0, .slice none 0 0, .int .u64 0, .int .u64 0, .int .u32 0, .int .u16 0, .int .u16 0, .int .u64 0, .int .u32 0, .int .u8 0, .int .u64 0, .int .u64 0, .slice none 0 0, .int .i64 0, .int .i64 0, .int .i64 0] 46)).setCells Z.heap.size 0 cs) :=
  ((below_foot _ (below_alloc Z _)).then (setCells_foot cs _ Z.heap.size 0)).below (Nat.le_refl _) (fun k e => by omega)
theorem liesM_len5 {w : World} {ao : Option Addr} {n cap : Nat} {L : List Ms} (h : Lies 11 w ao n cap (cellsM L)) : n = L.length := by have := h.1; rw [cellsM_len] at this; omega
theorem ans_out {L : List Cl} {rp : Int} {p : Ms} (h : p.id < 1 ∨ (L.length : Int) < p.id) : ansF L rp p = false := by
  have hz : (findC L p.id).s = 0 := by
    unfold findC
    split
    · rfl
    · rw [cl_ge L _ (by omega)]; rfl
  unfold ansF
  rw [hz]; rfl
theorem ans_in {L : List Cl} {rp : Int} {p : Ms} {k : Nat} (h : p.id = (k : Int) + 1) (hk : k < 64) : ansF L rp p = ((cl L k).s == 1 && p.ta == rp && p.rp == (cl L k).m.ta) := by
  unfold ansF
  rw [h, findC_nat L k hk]
theorem Rl.len {w0 : World} {L : List Cl} {K : List Mc} (h : Rl w0 0 L K) : L.length = K.length := h.1
set_option maxRecDepth 20000 in
set_option maxHeartbeats 25600000 in
theorem walk_script (rp wt tr : Int) (ao : Option Addr) (n cap : Nat) (xs : List Ac) (w : World) (hwt : (Lit.int .i8 wt).wf = true) (htr : (Lit.int .i8 tr).wf = true) (hA : Acts w ao n cap xs) (hs : ∀ y ∈ xs, y.sn ≤ 140737488351232) (hg : Glob w) :
    Calls Tryd.prog 3 #[.int .u64 rp, .int .i8 wt, .int .i8 tr, .slice ao n cap] w fun e w' => e = .returned (.bool true) ∧ Below w.heap.size w w' := by
  have HG := hide hg
  have HA := hide hA
  have HSZ : Hid (∀ y ∈ xs, y.m.sn ≤ 140737488355328) := fun y hy => by have := hs y hy; unfold Ac.sn at this; omega
  have HN := hide hA.1
  have hnc := hA.2.1
  have hcm : cap ≤ 9223372036854775807 := hA.2.2.1
  have hwb := bounds_i8 hwt
  have htb := bounds_i8 htr
  obtain ⟨Wn, hWn⟩ : ∃ Wn, max 1 wt = Wn := ⟨_, rfl⟩
  obtain ⟨Nn, hNn⟩ : ∃ Nn, max 1 tr = Nn := ⟨_, rfl⟩
  have HWP : Hid (pos1 wt = Wn) := by show _ = _; rw [← hWn]; exact Int.max_comm _ _
  have HNP : Hid (pos1 tr = Nn) := by show _ = _; rw [← hNn]; exact Int.max_comm _ _
  have hW1 : 1 ≤ Wn ∧ Wn ≤ 127 := by omega
  have hN1 : 1 ≤ Nn ∧ Nn ≤ 127 := by omega
  clear hg hA hs hwt htr
  go_enter Tryd.func3, Tryd.ntmps3
  go_wp2_with fail
  refine (awake_any _ HG.out).mono ?_; rintro e Wa ⟨rfl, b1⟩
  have HB1 := hide b1
  clear b1
  go_wp2_with fail
  refine (of_any rp wt tr _ (by omega) (by omega)).mono ?_; rintro e X ⟨g, rfl, hgl, s1, b1⟩
  rw [HWP.out, HNP.out] at s1
  have HSC : Hid (Sc w X g rp Wn Nn (.slice none 0 0) [] []) := ⟨s1, owns_nil _ _ _ _, below_one HB1.out b1, Nat.le_trans HB1.out.size hgl⟩
  clear s1 b1 hgl
  go_wp2
  clear hWn hNn hwb htb
  go_loopg [12, 48] n (fun gk vv vi wq => MRel w g rp Wn Nn n gk vv vi wq)
  case atStart => exact ⟨0, [], [], by omega, rfl, HSC.out, ⟨rfl, fun j hj => absurd hj (Nat.not_lt_zero _)⟩⟩
  case round =>
    obtain ⟨i, L, K, hi, rfl, sc, rl⟩ := hrel
    have HI := hide hi
    have HS := hide sc
    have HRL := hide rl
    have HLK := hide rl.1
    clear sc hi HSC rl
    obtain ⟨va, vc, hva, hvl⟩ := owns_lies HS.out.own
    subst hva
    obtain ⟨kn, hkn⟩ : ∃ kn, K.length = kn := ⟨_, rfl⟩
    have HKN := hide hkn
    have hkc := hvl.2.1
    have hkm : vc ≤ 9223372036854775807 := hvl.2.2.1
    have hk64 : kn ≤ 64 := by have := HS.out.st.few; rw [HLK.out, hkn] at this; exact this
    rw [hkn] at hkc HS
    rw [hkn]
    clear hkn hvl
    cases gk with
    | zero =>
      obtain rfl : i = n := by have := HI.out; omega
      have hlt : ¬ ((i : Int) < (i : Int)) := by omega
      as_aux_lemma =>
        go_wp2
        go_loopg [27] 66 (fun gk vi wz => ZRel w g rp Wn Nn (.slice va kn vc) L K 66 gk vi wz)
        case atStart => exact ⟨0, by omega, rfl, HS.out⟩
        case round =>
          rename World => wz
          obtain ⟨j, hj, rfl, sz⟩ := hrel
          have HJ := hide hj
          have HSJ := hide sz
          clear hj sz
          cases gk with
          | zero =>
            obtain rfl : j = 66 := by have := HJ.out; omega
            have HLN : Hid (L.length = kn) := HLK.out.trans HKN.out
            as_aux_lemma =>
              go_wp2_with fail
              refine (len_any HSJ.out.st).mono ?_; rintro e w5 ⟨rfl, b5⟩
              rw [HLN.out]
              have HB5 := hide (below_one HSJ.out.bel b5)
              clear b5
              go_wp2
              go_ret
              exact ⟨rfl, HB5.out⟩
          | succ g2 =>
            have hj66 : j < 66 := by have := HJ.out; omega
            have hltj : (j : Int) < 66 := by omega
            have hwj : IntKind.u32.wrap (j : Int) = (j : Int) := by rw [IntKind.wrap_u32]; omega
            go_upto_region 61 with fail
            go_cut [28, 29, 30] from 274 to 281 (fun v28 v29 v30 wx => ZMid w g rp Wn Nn (.slice va kn vc) L K kn j v28 v29 v30 wx)
            case first =>
              by_cases hin : 1 ≤ j ∧ j ≤ kn
              · obtain ⟨k, hk⟩ : ∃ k, j = k + 1 := ⟨j - 1, by omega⟩
                have hkK : k < K.length := by rw [HKN.out]; omega
                have hrl := HRL.out.at hkK
                have hfc : findC L (j : Int) = cl L k := by rw [hk]; exact findC_nat L k (by omega)
                have HRC := hide hrl
                have HFC := hide hfc
                have HIN := hide hin
                have HK := hide hk
                have HJK : Hid (mc K (j - 1) = mc K k) := by show _ = _; rw [HK.out]; rfl
                clear hrl hfc hin hk hkK
                rcases (show (cl L k).s = 1 ∨ (cl L k).s = 2 ∨ (cl L k).s = 3 from by rcases HRC.out.by_ with h | h | h; exact .inl h.1; exact .inr (.inl h.1); exact .inr (.inr h.1)) with h1 | h1 | h1
                · have H1 := hide h1
                  clear h1
                  go_wp2_with fail
                  refine (get_wait (j : Int) _ HSJ.out.st (by rw [HFC.out]; exact H1.out)).mono ?_; rintro e w5 ⟨rfl, b5⟩
                  have HE : Hid (ZMid w g rp Wn Nn (.slice va kn vc) L K kn j (.int .i64 1) (.pointer (some ⟨w5.heap.size, 0, none⟩)) (erN 0) (w5.alloc (.cells #[.int .u64 0, .int .u64 0, .int .u32 0, .int .u16 0, .int .u16 0, .int .u64 0, .int .u32 0, .int .u8 0, .int .u64 0, .int .u64 0, .slice none 0 0] 35))) := by
                    refine ⟨_, Ms.zero, 1, 0, rfl, rfl, rfl, boxM_new w5 Ms.zero, bts_nil _, (HSJ.out.grow b5).grow (below_alloc _ _), .inr ⟨HIN.out, ?_, ?_, .inl ⟨by decide, rfl⟩⟩⟩
                    · rw [HJK.out, HRC.out.s]; exact H1.out
                    · rcases HRC.out.by_ with h | h | h
                      · rw [HJK.out, h.2.2.2.2]
                      · have := h.1; rw [H1.out] at this; cases this
                      · have := h.1; rw [H1.out] at this; cases this
                  clear b5
                  go_wp2_with fail
                  go_meet
                  exact HE.out
                · have H1 := hide h1
                  clear h1
                  go_wp2_with fail
                  refine (get_ok (j : Int) _ HSJ.out.st (by rw [HFC.out]; exact H1.out)).mono ?_; rintro e w5 ⟨q, rfl, hq, hqh, b5⟩
                  rw [HFC.out] at hq
                  have HE : Hid (ZMid w g rp Wn Nn (.slice va kn vc) L K kn j (.int .i64 2) (.pointer (some ⟨w5.heap.size, 0, none⟩)) .nilIface (w5.alloc (.cells #[.int .u64 q.ta, .int .u64 q.rp, .int .u32 q.id, .int .u16 q.op, .int .u16 q.st, .int .u64 q.p, .int .u32 q.o, .int .u8 q.r, .int .u64 q.c, .int .u64 q.ar, .slice q.so q.sn q.sc] 35))) := by
                    refine ⟨_, q, 2, 0, rfl, rfl, rfl, boxM_new w5 q, Bts.carry hqh (below_alloc _ _), (HSJ.out.grow b5).grow (below_alloc _ _), .inr ⟨HIN.out, ?_, ?_, .inl ⟨by decide, rfl⟩⟩⟩
                    · rw [HJK.out, HRC.out.s]; exact H1.out
                    · rcases HRC.out.by_ with h | h | h
                      · have := h.1; rw [H1.out] at this; cases this
                      · rw [HJK.out, hq]; exact h.2
                      · have := h.1; rw [H1.out] at this; cases this
                  clear b5 hq hqh
                  go_wp2_with fail
                  go_meet
                  exact HE.out
                · have H1 := hide h1
                  clear h1
                  go_wp2_with fail
                  refine (get_fail (j : Int) _ HSJ.out.st (by rw [HFC.out]; exact H1.out)).mono ?_; rintro e w5 ⟨rfl, b5⟩
                  have HE : Hid (ZMid w g rp Wn Nn (.slice va kn vc) L K kn j (.int .i64 3) (.pointer (some ⟨w5.heap.size, 0, none⟩)) (erN 10) (w5.alloc (.cells #[.int .u64 0, .int .u64 0, .int .u32 0, .int .u16 0, .int .u16 0, .int .u64 0, .int .u32 0, .int .u8 0, .int .u64 0, .int .u64 0, .slice none 0 0] 35))) := by
                    refine ⟨_, Ms.zero, 3, 10, rfl, rfl, rfl, boxM_new w5 Ms.zero, bts_nil _, (HSJ.out.grow b5).grow (below_alloc _ _), .inr ⟨HIN.out, ?_, ?_, .inr ⟨rfl, rfl⟩⟩⟩
                    · rw [HJK.out, HRC.out.s]; exact H1.out
                    · rcases HRC.out.by_ with h | h | h
                      · have := h.1; rw [H1.out] at this; cases this
                      · have := h.1; rw [H1.out] at this; cases this
                      · rw [HJK.out, h.2]
                  clear b5
                  go_wp2_with fail
                  go_meet
                  exact HE.out
              · have hz : (findC L (j : Int)).s = 0 := by
                  unfold findC
                  split
                  · rfl
                  · rw [cl_ge L _ (by rw [HLK.out, HKN.out]; omega)]; rfl
                have HZ := hide hz
                have HIN := hide hin
                clear hz hin
                go_wp2_with fail
                refine (get_none (j : Int) _ HSJ.out.st HZ.out).mono ?_; rintro e w5 ⟨rfl, b5⟩
                have HE : Hid (ZMid w g rp Wn Nn (.slice va kn vc) L K kn j (.int .i64 0) (.pointer (some ⟨w5.heap.size, 0, none⟩)) (erN 12) (w5.alloc (.cells #[.int .u64 0, .int .u64 0, .int .u32 0, .int .u16 0, .int .u16 0, .int .u64 0, .int .u32 0, .int .u8 0, .int .u64 0, .int .u64 0, .slice none 0 0] 35))) :=
                  ⟨_, Ms.zero, 0, 12, rfl, rfl, rfl, boxM_new w5 Ms.zero, bts_nil _, (HSJ.out.grow b5).grow (below_alloc _ _), .inl ⟨HIN.out, rfl, rfl⟩⟩
                clear b5
                go_wp2_with fail
                go_meet
                exact HE.out
            case rest =>
              obtain ⟨Z, rfl⟩ : ∃ Z, Z = wc := ⟨wc, rfl⟩
              obtain ⟨hb, q, s, er, rfl, rfl, rfl, bq, hqh, sz, hcase⟩ := hcut
              have HSZ4 := hide sz
              have HBQ := hide bq
              have HQH := hide hqh
              clear bq hqh sz
              rcases hcase with ⟨hin, rfl, rfl⟩ | ⟨hin, hs, hqn, her⟩
              · rw [erN_not (by decide)]
                by_cases hj1 : j < 1
                · have hj1i : (j : Int) < 1 := by omega
                  clear hin
                  as_aux_lemma =>
                    go_wp2_with fail
                    refine (number_errno 12 _ (HG.out.grow HSZ4.out.bel HG.out.lt)).mono ?_; rintro e w7 ⟨rfl, b7⟩
                    have HS7 := hide (HSZ4.out.grow b7)
                    clear b7
                    go_wp2
                    go_roundg g2
                    case measure => have := HJ.out; omega
                    case rel => exact ⟨j + 1, by have := HJ.out; omega, by go_num, HS7.out⟩
                · have hj1i : ¬ ((j : Int) < 1) := by omega
                  have hjki : (kn : Int) < (j : Int) := by omega
                  clear hin
                  as_aux_lemma =>
                    go_wp2_with fail
                    refine (number_errno 12 _ (HG.out.grow HSZ4.out.bel HG.out.lt)).mono ?_; rintro e w7 ⟨rfl, b7⟩
                    have HS7 := hide (HSZ4.out.grow b7)
                    clear b7
                    go_wp2
                    go_roundg g2
                    case measure => have := HJ.out; omega
                    case rel => exact ⟨j + 1, by have := HJ.out; omega, by go_num, HS7.out⟩
              · obtain ⟨k, hk⟩ : ∃ k, j = k + 1 := ⟨j - 1, by omega⟩
                have hj1i : ¬ ((j : Int) < 1) := by omega
                have hjki : ¬ ((kn : Int) < (j : Int)) := by omega
                have hkk : k < kn := by omega
                have hkl : (k : Int) < (kn : Int) := by omega
                have hjb1 : (j : Int) - 1 < (kn : Int) := by omega
                have hjb0 : (0 : Int) ≤ (j : Int) - 1 := by omega
                have hkK : k < K.length := by rw [HKN.out]; exact hkk
                rw [show j - 1 = k by omega] at hs hqn
                obtain ⟨hh, hac, hve, hhB, _, _⟩ := HSZ4.out.own.elem k hkK
                obtain rfl : va = some ⟨hh, 0, none⟩ := by cases hve; rfl
                clear hve
                obtain ⟨⟨yq, yr, ys, ya, yn⟩, hy⟩ : ∃ y, mc K k = y := ⟨_, rfl⟩
                have hrl := HRL.out.at hkK
                rw [hy] at hs hqn hrl
                obtain rfl : s = ys := hs.symm
                have HQN : Hid (q.nm = yr.nm) := hqn
                have HRH : Hid (yr.has w) := hrl.hr
                obtain ⟨cs, hcs⟩ : ∃ cs, (⟨yq, yr, s, ya, yn⟩ : Mc).cells = cs := ⟨_, rfl⟩
                have hcl : cs.length = 25 := by rw [← hcs]; rfl
                have hra : Z.rangeAt hh ((j - 1) * 25) cs := fun f u hu => by
                  rw [show j - 1 = k by omega]
                  have hf : f < 25 := by have := (List.getElem?_eq_some_iff.1 hu).1; omega
                  rw [HSZ4.out.own.cell k f hkK hf, hy, hcs]; exact hu
                have HRA := hide hra
                have hth : (Z.alloc (.cells #[.int .u64 0, .int .u64 0, .int .u32 0, .int .u16 0, .int .u16 0, .int .u64 0, .int .u32 0, .int .u8 0, .int .u64 0, .int .u64 0, .slice none 0 0, .int .u64 0, .int .u64 0, .int .u32 0, .int .u16 0, .int .u16 0, .int .u64 0, .int .u32 0, .int .u8 0, .int .u64 0, .int .u64 0, .slice none 0 0, .int .i64 0, .int .i64 0, .int .i64 0] 46)).there Z.heap.size 0 cs.toArray.size := fun f hf => by
                  rw [List.size_toArray, hcl] at hf
                  refine ⟨?_, frozen_of_row _ _ _ _ _ (heap_alloc_new _ _)⟩
                  rw [cell_of_row _ _ _ _ _ _ (heap_alloc_new _ _)]
                  rw [Nat.zero_add]
                  simp only [Array.getElem?_eq_getElem (show f < (#[.int .u64 0, .int .u64 0, .int .u32 0, .int .u16 0, .int .u16 0, .int .u64 0, .int .u32 0, .int .u8 0, .int .u64 0, .int .u64 0, .slice none 0 0, .int .u64 0, .int .u64 0, .int .u32 0, .int .u16 0, .int .u16 0, .int .u64 0, .int .u32 0, .int .u8 0, .int .u64 0, .int .u64 0, .slice none 0 0, .int .i64 0, .int .i64 0, .int .i64 0] : Array Value).size from hf), Option.isSome_some]
                have HTH := hide hth
                have HIS : Hid ((Tryd.prog.info? 46).map (·.size) = some cs.toArray.size) := by show _ = _; rw [List.size_toArray, hcl]; kernel_rfl
                have HIL : Hid ((Tryd.prog.info? 46).map (·.size) = some cs.length) := by show _ = _; rw [hcl]; kernel_rfl
                have HON : Hid (cs.toArray.all (·.oneCell') = true) := all_oneCell_toArray (fun u hu => cellsR_one [⟨yq, yr, s, ya, yn⟩] u (by rw [← hcs] at hu; simpa [cellsR] using hu))
                obtain ⟨U, hU⟩ : ∃ U, (Z.alloc (.cells #[.int .u64 0, .int .u64 0, .int .u32 0, .int .u16 0, .int .u16 0, .int .u64 0, .int .u32 0, .int .u8 0, .int .u64 0, .int .u64 0, .slice none 0 0, .int .u64 0, .int .u64 0, .int .u32 0, .int .u16 0, .int .u16 0, .int .u64 0, .int .u32 0, .int .u8 0, .int .u64 0, .int .u64 0, .slice none 0 0, .int .i64 0, .int .i64 0, .int .i64 0] 46)).setCells Z.heap.size 0 cs.toArray.toList = U := ⟨_, rfl⟩
                have hbu : U.heap[Z.heap.size]? = some (.cells #[.int .u64 yq.ta, .int .u64 yq.rp, .int .u32 yq.id, .int .u16 yq.op, .int .u16 yq.st, .int .u64 yq.p, .int .u32 yq.o, .int .u8 yq.r, .int .u64 yq.c, .int .u64 yq.ar, .slice yq.so yq.sn yq.sc, .int .u64 yr.ta, .int .u64 yr.rp, .int .u32 yr.id, .int .u16 yr.op, .int .u16 yr.st, .int .u64 yr.p, .int .u32 yr.o, .int .u8 yr.r, .int .u64 yr.c, .int .u64 yr.ar, .slice yr.so yr.sn yr.sc, .int .i64 s, .int .i64 ya, .int .i64 yn] 46 (0, 0)) := by
                  rw [← hU, ← hcs]
                  exact setCells_new Z ⟨yq, yr, s, ya, yn⟩
                have bU : Below Z.heap.size Z U := hU ▸ setCells_below Z cs.toArray.toList
                have u22 : U.cell? ⟨Z.heap.size, 22, none⟩ = some (.int .i64 s) := by rw [cell_of_row U _ _ _ _ _ hbu]; rfl
                have ur0 : U.cell? ⟨Z.heap.size, 11, none⟩ = some (.int .u64 yr.ta) := by rw [cell_of_row U _ _ _ _ _ hbu]; rfl
                have ur1 : U.cell? ⟨Z.heap.size, 12, none⟩ = some (.int .u64 yr.rp) := by rw [cell_of_row U _ _ _ _ _ hbu]; rfl
                have ur2 : U.cell? ⟨Z.heap.size, 13, none⟩ = some (.int .u32 yr.id) := by rw [cell_of_row U _ _ _ _ _ hbu]; rfl
                have ur3 : U.cell? ⟨Z.heap.size, 14, none⟩ = some (.int .u16 yr.op) := by rw [cell_of_row U _ _ _ _ _ hbu]; rfl
                have ur4 : U.cell? ⟨Z.heap.size, 15, none⟩ = some (.int .u16 yr.st) := by rw [cell_of_row U _ _ _ _ _ hbu]; rfl
                have ur5 : U.cell? ⟨Z.heap.size, 16, none⟩ = some (.int .u64 yr.p) := by rw [cell_of_row U _ _ _ _ _ hbu]; rfl
                have ur6 : U.cell? ⟨Z.heap.size, 17, none⟩ = some (.int .u32 yr.o) := by rw [cell_of_row U _ _ _ _ _ hbu]; rfl
                have ur7 : U.cell? ⟨Z.heap.size, 18, none⟩ = some (.int .u8 yr.r) := by rw [cell_of_row U _ _ _ _ _ hbu]; rfl
                have ur8 : U.cell? ⟨Z.heap.size, 19, none⟩ = some (.int .u64 yr.c) := by rw [cell_of_row U _ _ _ _ _ hbu]; rfl
                have ur9 : U.cell? ⟨Z.heap.size, 20, none⟩ = some (.int .u64 yr.ar) := by rw [cell_of_row U _ _ _ _ _ hbu]; rfl
                have ur10 : U.cell? ⟨Z.heap.size, 21, none⟩ = some (.slice yr.so yr.sn yr.sc) := by rw [cell_of_row U _ _ _ _ _ hbu]; rfl
                obtain ⟨p0, p1, p2, p3, p4, p5, p6, p7, p8, p9, p10⟩ := (HBQ.out.grow bU).all
                have HSU := hide (HSZ4.out.grow bU)
                have HQU := hide (Bts.carry HQH.out bU)
                clear hy hrl hbu bU hcs hra hth hcl hqn hkK hk hin
                rcases her with ⟨hs3, rfl⟩ | ⟨rfl, rfl⟩
                · rw [erN_zero]
                  have hs3b : (s != 3) = true := by simpa using hs3
                  go_wp2_with (first | (refine wpList_load_mid rfl 46 _ rfl hh ((j - 1) * 25) rfl cs _ HRA.out Tryd.underlying46 rfl HIL.out ?_) | (refine wpList_store_mid rfl 46 _ _ rfl Z.heap.size 0 cs.toArray rfl rfl HTH.out HIS.out HON.out ?_) | fail)
                  refine (same_yes q yr _ HQU.out (Bts.carry HRH.out HSU.out.bel) HQN.out).mono ?_; rintro e w6 ⟨rfl, b6⟩
                  have HS6 := hide (HSU.out.grow b6)
                  clear b6 ur0 ur1 ur2 ur3 ur4 ur5 ur6 ur7 ur8 ur9 ur10 p0 p1 p2 p3 p4 p5 p6 p7 p8 p9 p10 u22
                  as_aux_lemma =>
                    go_wp2
                    go_roundg g2
                    case measure => have := HJ.out; omega
                    case rel => exact ⟨j + 1, by have := HJ.out; omega, by go_num, HS6.out⟩
                · rw [erN_not (by decide)]
                  go_wp2_with (first | (refine wpList_load_mid rfl 46 _ rfl hh ((j - 1) * 25) rfl cs _ HRA.out Tryd.underlying46 rfl HIL.out ?_) | (refine wpList_store_mid rfl 46 _ _ rfl Z.heap.size 0 cs.toArray rfl rfl HTH.out HIS.out HON.out ?_) | fail)
                  refine (same_yes q yr _ HQU.out (Bts.carry HRH.out HSU.out.bel) HQN.out).mono ?_; rintro e w6 ⟨rfl, b6⟩
                  have HS6 := hide (HSU.out.grow b6)
                  clear b6 ur0 ur1 ur2 ur3 ur4 ur5 ur6 ur7 ur8 ur9 ur10 p0 p1 p2 p3 p4 p5 p6 p7 p8 p9 p10 u22
                  as_aux_lemma =>
                    go_wp2_with fail
                    refine (number_errno 10 _ (HG.out.grow HS6.out.bel HG.out.lt)).mono ?_; rintro e w7 ⟨rfl, b7⟩
                    have HS7 := hide (HS6.out.grow b7)
                    clear b7
                    go_wp2
                    go_roundg g2
                    case measure => have := HJ.out; omega
                    case rel => exact ⟨j + 1, by have := HJ.out; omega, by go_num, HS7.out⟩
    | succ g1 =>
      have hin : i < n := by have := HI.out; omega
      have hlt : (i : Int) < (n : Int) := by omega
      obtain ⟨ad, hao⟩ : ∃ ad, ao = some ad := by
        cases ao with
        | none => have := HA.out.2.2.2.1 rfl; omega
        | some ad => exact ⟨ad, rfl⟩
      subst hao
      have hat := HA.out.2.2.2.2 ad rfl i hin
      obtain ⟨x, hx⟩ : ∃ x, xs.getD i Ac.zero = x := ⟨_, rfl⟩
      rw [hx] at hat
      have hmem : x ∈ xs := by rw [← hx, List.getD_eq_getElem?_getD, List.getElem?_eq_getElem (by rw [← HN.out]; exact hin)]; exact List.getElem_mem _
      have HPX : Hid (x.m.has w ∧ x.m.sn ≤ 140737488355328) := ⟨hat.2.1, HSZ.out x hmem⟩
      obtain ⟨ho, hno, hwf⟩ := hat.1
      have HWF := hide (bounds_u32 hwf)
      obtain ⟨q0, q1, q2, q3, q4, q5, q6, q7, q8, q9, q10, q11, q12⟩ := hat.all HS.out.bel
      obtain ⟨Y, hY⟩ : ∃ Y, wr.alloc (.cells #[.int .u8 (x.o : Nat), .int .u64 x.m.ta, .int .u64 x.m.rp, .int .u32 x.m.id, .int .u16 x.m.op, .int .u16 x.m.st, .int .u64 x.m.p, .int .u32 x.m.o, .int .u8 x.m.r, .int .u64 x.m.c, .int .u64 x.m.ar, .slice x.m.so x.m.sn x.m.sc, .int .u8 (x.n : Nat)] 37) = Y := ⟨_, rfl⟩
      have bY : Below wr.heap.size wr Y := hY ▸ below_alloc wr _
      have hba : Y.heap[wr.heap.size]? = some (actO x) := by rw [← hY]; exact heap_alloc_new _ _
      have HBA := hide hba
      have HSY := hide (HS.out.grow bY)
      have HWL := hide (Nat.le_trans HS.out.bel.size (Nat.le_refl wr.heap.size))
      obtain ⟨d, hd⟩ : ∃ d, x.o % 4 = d := ⟨_, rfl⟩
      have hd1 : (x.o : Int) % 4 = (d : Int) := by omega
      have hd4 : d < 4 := by omega
      obtain ⟨m0, m1, m2, m3, m4, m5, m6, m7, m8, m9, m10, m11, m12⟩ := act_all hba
      clear hat hx hmem bY hba hd hwf
      obtain rfl | rfl | hd2 : d = 0 ∨ d = 1 ∨ 2 ≤ d := by omega
      · by_cases h64 : 64 ≤ kn
        · have h64i : (64 : Int) ≤ (kn : Int) := by omega
          as_aux_lemma =>
            go_wp2_with fail
            refine (start_full x.m _ HSY.out.st (by rw [HLK.out, HKN.out]; exact h64)).mono ?_; rintro e w3 ⟨rfl, b3⟩
            rw [erN_not (by decide)]
            have HS3 : Hid (∀ o, Sc w (w3.alloc o) g rp Wn Nn (.slice va kn vc) L K) := fun o => (HSY.out.grow b3).grow (below_alloc w3 o)
            clear b3 hY m0 m1 m2 m3 m4 m5 m6 m7 m8 m9 m10 m11 m12
            go_wp2_with fail
            refine (number_errno 5 _ (HG.out.grow (HS3.out _).bel HG.out.lt)).mono ?_; rintro e w4 ⟨rfl, b4⟩
            have HS4 := hide ((HS3.out _).grow b4)
            clear b4
            go_wp2
            go_roundg g1
            case measure => have := HI.out; omega
            case rel => exact ⟨i + 1, L, K, by have := HI.out; omega, by go_num, HS4.out, HRL.out⟩
        · have h64i : ¬ ((64 : Int) ≤ (kn : Int)) := by omega
          have hlk : L.length = kn := HLK.out.trans HKN.out
          have hww : IntKind.u32.wrap ((kn : Int) + 1) = (kn : Int) + 1 := by rw [IntKind.wrap_u32]; omega
          have HLN := hide hlk
          clear hlk
          go_wp2_with fail
          refine (start_own x.m _ HSY.out.st (Bts.carry HPX.out.1 HSY.out.bel) (OffG.of HPX.out.1 HSY.out.gl) HPX.out.2 (by rw [HLN.out]; omega)).mono ?_; rintro e w3 ⟨q, rfl, hq, hsn, hqh, hqo, E3⟩
          have s3 := HSY.out.deed E3
          have hb3 : w3.heap[wr.heap.size]? = some (actO x) := by
            obtain ⟨cur, hgt⟩ := HSY.out.st.type
            exact (E3.2.block _ (lt_of_heap HBA.out) (fun e => by have h := HBA.out; rw [e, hgt] at h; cases h)).trans HBA.out
          obtain ⟨Z, hZ⟩ : ∃ Z, w3.alloc (.cells #[.int .u64 q.ta, .int .u64 q.rp, .int .u32 q.id, .int .u16 q.op, .int .u16 q.st, .int .u64 q.p, .int .u32 q.o, .int .u8 q.r, .int .u64 q.c, .int .u64 q.ar, .slice q.so q.sn q.sc] 35) = Z := ⟨_, rfl⟩
          have bZ : Below w3.heap.size w3 Z := hZ ▸ below_alloc w3 _
          have bq : BoxM Z w3.heap.size q := hZ ▸ boxM_new w3 q
          have hbz : Z.heap[wr.heap.size]? = some (actO x) := (bZ.block _ (lt_of_heap hb3)).trans hb3
          clear hY m0 m1 m2 m3 m4 m5 m6 m7 m8 m9 m10 m11 m12 q0 q1 q2 q3 q4 q5 q6 q7 q8 q9 q10 q11 q12
          obtain ⟨m0, m1, m2, m3, m4, m5, m6, m7, m8, m9, m10, m11, m12⟩ := act_all hbz
          obtain ⟨V, hV⟩ : ∃ V, Z.alloc (.cells #[.int .u64 x.m.ta, .int .u64 rp, .int .u32 ((kn : Int) + 1), .int .u16 x.m.op, .int .u16 0, .int .u64 x.m.p, .int .u32 x.m.o, .int .u8 x.m.r, .int .u64 x.m.c, .int .u64 x.m.ar, .slice x.m.so x.m.sn x.m.sc] 35) = V := ⟨_, rfl⟩
          have bV : Below Z.heap.size Z V := hV ▸ below_alloc Z _
          have br : BoxM V Z.heap.size (reqF rp ((kn : Int) + 1) x.m) := hV ▸ boxM_new Z (reqF rp ((kn : Int) + 1) x.m)
          have bqv := bq.grow bV
          have sv := (s3.grow bZ).grow bV
          have hra := br.all
          dsimp only [reqF] at hra
          obtain ⟨r0, r1, r2, r3, r4, r5, r6, r7, r8, r9, r10⟩ := hra
          obtain ⟨ao5, c5, w5, hr5, s5, kp5⟩ := sv.app ⟨reqF rp ((kn : Int) + 1) x.m, Ms.zero, 1, 0, 1⟩ (by rw [HKN.out]; omega)
          rw [HKN.out] at hr5 s5
          dsimp only [reqF, Ms.zero] at hr5
          have HR5 := hide hr5
          have HQN : Hid (q.nm = (reqF rp ((kn : Int) + 1) x.m).nm) := by show _ = _; rw [← HLN.out]; exact hq
          have HQ5 : Hid (q.has w5) := by
            have h8 : OwnD V q := (hqo.grow bZ).grow bV
            have hh : q.has V := Bts.carry (Bts.carry hqh bZ) bV
            refine ⟨hh.1, hh.2.1, hh.2.2.1, hh.2.2.2.1, fun a e j hj => ?_⟩
            obtain ⟨cur, hc⟩ := h8 (by have := hh.1; omega) a e
            have hk := kp5 _ _ _ (by decide) hc
            have hcell := hh.2.2.2.2 a e j hj
            have hbk : (a.add j).block = a.block := add_block a j
            unfold World.cell? at hcell ⊢
            rw [hbk, hc] at hcell
            rw [hbk, hk]
            exact hcell
          have HRS : Hid (Rl w 0 (L ++ [⟨1, (reqF rp ((L.length : Int) + 1) x.m).nm, 1, 0⟩]) (K ++ [⟨reqF rp ((kn : Int) + 1) x.m, Ms.zero, 1, 0, 1⟩])) := by
            refine HRL.out.snoc ⟨rfl, by rw [HKN.out]; rfl, HPX.out.1, bts_nil w, .inl ⟨rfl, ?_, rfl, rfl, rfl⟩⟩
            rw [HLN.out]
          have HS5 := hide s5
          have bq5 := kp5.box bqv
          have br5 := kp5.box br
          have hr5a := br5.all
          dsimp only [reqF] at hr5a
          have HP5 : Hid (x.m.has w5) := Bts.carry HPX.out.1 s5.bel
          clear hr5 s5 kp5 sv s3 E3 hb3 bZ hbz bV br bqv hq hsn hqh hqo bq
          obtain ⟨p0, p1, p2, p3, p4, p5, p6, p7, p8, p9, p10⟩ := bq5.all
          obtain ⟨t0, t1, t2, t3, t4, t5, t6, t7, t8, t9, t10⟩ := hr5a
          clear bq5 br5
          go_wp2_with (first | (at_builtin; refine wpList_append_run rfl _ _ _ rfl _ _ _ _ rfl rfl HR5.out ?_) | fail)
          as_aux_lemma =>
            refine (same_yes q (reqF rp ((kn : Int) + 1) x.m) _ HQ5.out HP5.out HQN.out).mono ?_; rintro e w6 ⟨rfl, b6⟩
            have HS6 := hide (HS5.out.grow b6)
            clear b6 m0 m1 m2 m3 m4 m5 m6 m7 m8 m9 m10 m11 m12 t0 t1 t2 t3 t4 t5 t6 t7 t8 t9 t10 p0 p1 p2 p3 p4 p5 p6 p7 p8 p9 p10 r0 r1 r2 r3 r4 r5 r6 r7 r8 r9 r10
            go_wp2
            go_roundg g1
            case measure => have := HI.out; omega
            case rel => exact ⟨i + 1, _, _, by have := HI.out; omega, by go_num, HS6.out, HRS.out⟩
      · have Hhm : Hid (w.heap.size ≤ Y.heap.size) := HSY.out.bel.size
        obtain ⟨Z, hZ⟩ : ∃ Z, Y.alloc (.cells #[.int .u64 x.m.ta, .int .u64 x.m.rp, .int .u32 x.m.id, .int .u16 x.m.op, .int .u16 x.m.st, .int .u64 x.m.p, .int .u32 x.m.o, .int .u8 x.m.r, .int .u64 x.m.c, .int .u64 x.m.ar, .slice x.m.so x.m.sn x.m.sc] 35) = Z := ⟨_, rfl⟩
        have bZ : Below Y.heap.size Y Z := hZ ▸ below_alloc Y _
        have bm : BoxM Z Y.heap.size x.m := hZ ▸ boxM_new Y x.m
        have HBM := hide bm
        have HSZ2 := hide (HSY.out.grow bZ)
        have mz12 : Z.cell? ⟨wr.heap.size, 12, none⟩ = some (.int .u8 (x.n : Nat)) := by rw [bZ.cell (lt_of_cell m12), m12]
        have hwlt : wr.heap.size < Y.heap.size := lt_of_heap HBA.out
        clear bZ bm
        obtain ⟨nr, hnr⟩ : ∃ nr, x.n % 4 = nr := ⟨_, rfl⟩
        have hnri : (x.n : Int) % 4 = (nr : Int) := by omega
        have hnr4 : nr < 4 := by omega
        obtain ⟨bb, hbb⟩ : ∃ bb, decide (0 < kn ∧ 0 < nr) = bb := ⟨_, rfl⟩
        have HBB := hide hbb
        clear hnr hbb
        go_upto_region 44 with fail
        clear hd1
        go_cut [190] from 182 to 189 (fun v190 wx => v190 = .bool bb ∧ Z = wx)
        case first =>
          as_aux_lemma =>
            by_cases hk0 : 0 < kn
            · have hgi : (0 : Int) < (kn : Int) := by omega
              by_cases hn0 : 0 < nr
              · have hngi : (0 : Int) < (nr : Int) := by omega
                have hbt : bb = true := by rw [← HBB.out]; exact decide_eq_true ⟨hk0, hn0⟩
                subst hbt
                go_wp2_with fail
                go_meet
                exact ⟨rfl, rfl⟩
              · have hngi : ¬ ((0 : Int) < (nr : Int)) := by omega
                have hngb : decide ((0 : Int) < (nr : Int)) = false := decide_eq_false hngi
                have hbt : bb = false := by rw [← HBB.out]; exact decide_eq_false (fun h => hn0 h.2)
                subst hbt
                go_wp2_with fail
                go_meet
                exact ⟨rfl, rfl⟩
            · have hgi : ¬ ((0 : Int) < (kn : Int)) := by omega
              have hgb : decide ((0 : Int) < (kn : Int)) = false := decide_eq_false hgi
              have hbt : bb = false := by rw [← HBB.out]; exact decide_eq_false (fun h => hk0 h.1)
              subst hbt
              go_wp2_with fail
              go_meet
              exact ⟨rfl, rfl⟩
        case rest =>
          obtain ⟨rfl, rfl⟩ := hcut
          go_upto_if 190 with fail
          go_cut [19] from 191 to 218 (fun _ wx => AnRel w g rp Wn Nn (.slice va kn vc) L K Y.heap.size wx)
          case first =>
            cases bb with
            | false =>
              as_aux_lemma =>
                go_wp2_with fail
                go_meet
                exact ⟨x.m, HSZ2.out, HBM.out, HPX.out.1, HPX.out.2, HWF.out.1, HWF.out.2⟩
            | true =>
                have hkn1 := of_decide_eq_true HBB.out
                obtain ⟨j, hj⟩ : ∃ j, (x.n / 4) % kn = j := ⟨_, rfl⟩
                have hjk : j < kn := by rw [← hj]; exact Nat.mod_lt _ hkn1.1
                have hji : ((x.n : Int) / 4) % (kn : Int) = (j : Int) := by rw [← hj]; rfl
                have hji2 : ((x.n : Int).tdiv 4).tmod (kn : Int) = (j : Int) := by rw [Int.tdiv_eq_ediv_of_nonneg (by omega), Int.tmod_eq_emod_of_nonneg (by omega)]; exact hji
                have hji3 : ((x.n : Int) / 4).tmod (kn : Int) = (j : Int) := by rw [Int.tmod_eq_emod_of_nonneg (by omega)]; exact hji
                have hjl : (j : Int) < (kn : Int) := by omega
                have hkn0 : ¬ ((kn : Int) = 0) := by omega
                have hjK : j < K.length := by rw [HKN.out]; exact hjk
                obtain ⟨hh, hac, hve, hhB, _, _⟩ := HSZ2.out.own.elem j hjK
                obtain rfl : va = some ⟨hh, 0, none⟩ := by cases hve; rfl
                clear hve
                obtain ⟨y, hy⟩ : ∃ y, mc K j = y := ⟨_, rfl⟩
                have hrl := HRL.out.at hjK
                rw [hy] at hrl
                have HID : Hid (y.q.id = (j : Int) + 1) := hrl.id
                obtain ⟨cs, hcs⟩ : ∃ cs, y.cells = cs := ⟨_, rfl⟩
                have hcl : cs.length = 25 := by rw [← hcs]; rfl
                have hra : Z.rangeAt hh (j * 25) cs := fun f u hu => by
                  have hf : f < 25 := by have := (List.getElem?_eq_some_iff.1 hu).1; omega
                  rw [HSZ2.out.own.cell j f hjK hf, hy, hcs]; exact hu
                have HRA := hide hra
                have hth : (Z.alloc (.cells #[.int .u64 0, .int .u64 0, .int .u32 0, .int .u16 0, .int .u16 0, .int .u64 0, .int .u32 0, .int .u8 0, .int .u64 0, .int .u64 0, .slice none 0 0, .int .u64 0, .int .u64 0, .int .u32 0, .int .u16 0, .int .u16 0, .int .u64 0, .int .u32 0, .int .u8 0, .int .u64 0, .int .u64 0, .slice none 0 0, .int .i64 0, .int .i64 0, .int .i64 0] 46)).there Z.heap.size 0 cs.toArray.size := fun f hf => by
                  rw [List.size_toArray, hcl] at hf
                  refine ⟨?_, frozen_of_row _ _ _ _ _ (heap_alloc_new _ _)⟩
                  rw [cell_of_row _ _ _ _ _ _ (heap_alloc_new _ _)]
                  rw [Nat.zero_add]
                  simp only [Array.getElem?_eq_getElem (show f < (#[.int .u64 0, .int .u64 0, .int .u32 0, .int .u16 0, .int .u16 0, .int .u64 0, .int .u32 0, .int .u8 0, .int .u64 0, .int .u64 0, .slice none 0 0, .int .u64 0, .int .u64 0, .int .u32 0, .int .u16 0, .int .u16 0, .int .u64 0, .int .u32 0, .int .u8 0, .int .u64 0, .int .u64 0, .slice none 0 0, .int .i64 0, .int .i64 0, .int .i64 0] : Array Value).size from hf), Option.isSome_some]
                have HTH := hide hth
                have HIS : Hid ((Tryd.prog.info? 46).map (·.size) = some cs.toArray.size) := by show _ = _; rw [List.size_toArray, hcl]; kernel_rfl
                have HIL : Hid ((Tryd.prog.info? 46).map (·.size) = some cs.length) := by show _ = _; rw [hcl]; kernel_rfl
                have HON : Hid (cs.toArray.all (·.oneCell') = true) := all_oneCell_toArray (fun u hu => cellsR_one [y] u (by rw [← hcs] at hu; simpa [cellsR] using hu))
                obtain ⟨U, hU⟩ : ∃ U, (Z.alloc (.cells #[.int .u64 0, .int .u64 0, .int .u32 0, .int .u16 0, .int .u16 0, .int .u64 0, .int .u32 0, .int .u8 0, .int .u64 0, .int .u64 0, .slice none 0 0, .int .u64 0, .int .u64 0, .int .u32 0, .int .u16 0, .int .u16 0, .int .u64 0, .int .u32 0, .int .u8 0, .int .u64 0, .int .u64 0, .slice none 0 0, .int .i64 0, .int .i64 0, .int .i64 0] 46)).setCells Z.heap.size 0 cs.toArray.toList = U := ⟨_, rfl⟩
                have hbu : U.heap[Z.heap.size]? = some (.cells #[.int .u64 y.q.ta, .int .u64 y.q.rp, .int .u32 y.q.id, .int .u16 y.q.op, .int .u16 y.q.st, .int .u64 y.q.p, .int .u32 y.q.o, .int .u8 y.q.r, .int .u64 y.q.c, .int .u64 y.q.ar, .slice y.q.so y.q.sn y.q.sc, .int .u64 y.r.ta, .int .u64 y.r.rp, .int .u32 y.r.id, .int .u16 y.r.op, .int .u16 y.r.st, .int .u64 y.r.p, .int .u32 y.r.o, .int .u8 y.r.r, .int .u64 y.r.c, .int .u64 y.r.ar, .slice y.r.so y.r.sn y.r.sc, .int .i64 y.s, .int .i64 y.a, .int .i64 y.n] 46 (0, 0)) := by
                  rw [← hU, ← hcs]
                  exact setCells_new Z y
                have bU : Below Z.heap.size Z U := hU ▸ setCells_below Z cs.toArray.toList
                have u0 : U.cell? ⟨Z.heap.size, 0, none⟩ = some (.int .u64 y.q.ta) := by rw [cell_of_row U _ _ _ _ _ hbu]; rfl
                have u2 : U.cell? ⟨Z.heap.size, 2, none⟩ = some (.int .u32 y.q.id) := by rw [cell_of_row U _ _ _ _ _ hbu]; rfl
                have bmu := HBM.out.grow bU
                obtain ⟨b0, b1, b2, b3, b4, b5, b6, b7, b8, b9, b10⟩ := bmu.all
                have z0 := bmu.z 0
                have z1 := bmu.z 1
                have z2 := bmu.z 2
                have hlt2 : Y.heap.size < Z.heap.size := lt_of_heap HBM.out
                have HREL := hide (fi1 bmu rp y.q.ta y.q.id)
                have HSU := hide (HSZ2.out.grow bU)
                have HBMU := hide bmu
                have mu12 : U.cell? ⟨wr.heap.size, 12, none⟩ = some (.int .u8 (x.n : Nat)) := by rw [bU.cell (lt_of_cell mz12), mz12]
                clear hy hrl hjK hbu bU bmu hj hkn1 hcs hra hth hcl
                go_upto_region 46 with (first | (refine wpList_load_mid rfl 46 _ rfl hh (j * 25) rfl cs _ HRA.out Tryd.underlying46 rfl HIL.out ?_) | (refine wpList_store_mid rfl 46 _ _ rfl Z.heap.size 0 cs.toArray rfl rfl HTH.out HIS.out HON.out ?_) | fail)
                simp only [Act.put]
                go_cut [] from 201 to 210 (fun wx => Fi1 U Y.heap.size (rF x.m rp y.q.ta y.q.id) wx)
                case first =>
                  go_region_with (fail)
                  all_goals (go_wp2_with fail; go_meet; exact HREL.out)
                case rest =>
                  obtain ⟨V, rfl⟩ : ∃ V, V = wc := ⟨wc, rfl⟩
                  obtain ⟨bv, fv⟩ := hcut
                  have HSV := hide (HSU.out.box HBMU.out fv Hhm.out)
                  have mv12 : V.cell? ⟨wr.heap.size, 12, none⟩ = some (.int .u8 (x.n : Nat)) := by rw [fv.cell ⟨wr.heap.size, 12, none⟩ (lt_of_cell mu12) (by show ¬ wr.heap.size = _; omega), mu12]
                  have HBV := hide bv
                  have hva := bv.all
                  dsimp only [rF] at hva
                  clear b0 b1 b2 b3 b4 b5 b6 b7 b8 b9 b10 z0 z1 z2 u0 u2 HREL bv fv mu12
                  obtain ⟨b0, b1, b2, b3, b4, b5, b6, b7, b8, b9, b10⟩ := hva
                  by_cases hn1 : nr = 1
                  · subst hn1
                    as_aux_lemma =>
                      have fz := HBV.out.z 1
                      obtain ⟨zz, hzz⟩ : ∃ zz, IntKind.u64.wrap (y.q.ta + 1) = zz := ⟨_, rfl⟩
                      obtain ⟨T, hT⟩ : ∃ T, V.setCell ⟨Y.heap.size, 1, none⟩ (.int .u64 zz) = T := ⟨_, rfl⟩
                      have bt : BoxM T Y.heap.size (rF x.m rp zz y.q.id) := hT ▸ box_put1 HBV.out _
                      have ft : Foot (fun j => j = Y.heap.size) V T := hT ▸ foot_set V ⟨Y.heap.size, 1, none⟩ _
                      have HST := hide (HSV.out.box HBV.out ft Hhm.out)
                      have HBT := hide bt
                      clear bt ft
                      go_wp2_with fail
                      go_meet
                      exact ⟨rF x.m rp zz y.q.id, HST.out, HBT.out, HPX.out.1, HPX.out.2, by show 0 ≤ y.q.id; rw [HID.out]; omega, by show y.q.id ≤ _; rw [HID.out]; omega⟩
                  · have hn1i : ¬ ((nr : Int) = 1) := by omega
                    as_aux_lemma =>
                      go_wp2_with fail
                      go_meet
                      exact ⟨rF x.m rp y.q.ta y.q.id, HSV.out, HBV.out, HPX.out.1, HPX.out.2, by show 0 ≤ y.q.id; rw [HID.out]; omega, by show y.q.id ≤ _; rw [HID.out]; omega⟩
          case rest =>
            obtain ⟨V, rfl⟩ : ∃ V, V = wc := ⟨wc, rfl⟩
            obtain ⟨p, sv, bp, hph, hps, hp0, hp1⟩ := hcut
            have HPH : Hid (p.has w ∧ p.sn ≤ 140737488355328) := ⟨hph, hps⟩
            have HSV := hide sv
            have HBP := hide bp
            have hcv : IntKind.i64.wrap p.id = p.id := by rw [IntKind.wrap_i64]; omega
            have hcw : wrap64 p.id = p.id := by unfold wrap64; omega
            obtain ⟨p0, p1, p2, p3, p4, p5, p6, p7, p8, p9, p10⟩ := bp.all
            clear hph hps sv bp mz12 m0 m1 m2 m3 m4 m5 m6 m7 m8 m9 m10 m11 m12 hZ hY q0 q1 q2 q3 q4 q5 q6 q7 q8 q9 q10 q11 q12
            by_cases hin1 : 1 ≤ p.id ∧ p.id ≤ (kn : Int)
            · obtain ⟨k, hk⟩ : ∃ k : Nat, p.id = (k : Int) + 1 := ⟨(p.id - 1).toNat, by omega⟩
              obtain ⟨hge, hle⟩ := hin1
              have hkk : k < kn := by omega
              have hkK : k < K.length := by rw [HKN.out]; exact hkk
              have hwi : IntKind.u32.wrap (p.id - 1) = (k : Int) := by rw [IntKind.wrap_u32]; omega
              have hkl : (k : Int) < (kn : Int) := by omega
              have HK := hide hk
              obtain ⟨hh, hac, hve, hhB, _, _⟩ := HSV.out.own.elem k hkK
              obtain rfl : va = some ⟨hh, 0, none⟩ := by cases hve; rfl
              clear hve
              obtain ⟨⟨yq, yr, ys, ya, yn⟩, hy⟩ : ∃ y, mc K k = y := ⟨_, rfl⟩
              have hrl := HRL.out.at hkK
              rw [hy] at hrl
              have HRC := hide hrl
              have HY := hide hy
              have HHK := hide hkK
              have hcl : (cl L k).s = ys := hrl.s.symm
              have HCL := hide hcl
              have hea := HSV.out.own.all k hkK _ hy
              dsimp only at hea
              obtain ⟨e0, e1, e2, e3, e4, e5, e6, e7, e8, e9, e10, e11, e12, e13, e14, e15, e16, e17, e18, e19, e20, e21, e22, e23, e24⟩ := hea
              have HAN := hide (ans_in (L := L) (rp := rp) hk (by omega))
              clear hk hy hrl hkK hcl hp0 hp1
              by_cases hys : ys = 1
              · subst hys
                have hm1 : (cl L k).m.ta = yq.ta := by
                  rcases HRC.out.by_ with h | h | h
                  · rw [h.2.1]; rfl
                  · have := h.1; rw [HCL.out] at this; cases this
                  · have := h.1; rw [HCL.out] at this; cases this
                have HM1 := hide hm1
                clear hm1
                by_cases hta : p.ta = rp
                · by_cases hrp : p.rp = yq.ta
                  · have HTA := hide hta
                    have HRP := hide hrp
                    clear hta hrp
                    have f22 : ∀ q, (V.drewN q).cell? ⟨hh, k * 25 + 22, none⟩ = some (.int .i64 1) := fun q => e22
                    have f0 : ∀ q, (V.drewN q).cell? ⟨hh, k * 25, none⟩ = some (.int .u64 yq.ta) := fun q => e0
                    have g0 : ∀ q, (V.drewN q).cell? ⟨Y.heap.size, 0, none⟩ = some (.int .u64 rp) := fun q => by rw [← HTA.out]; exact p0
                    have g1c : ∀ q, (V.drewN q).cell? ⟨Y.heap.size, 1, none⟩ = some (.int .u64 yq.ta) := fun q => by rw [← HRP.out]; exact p1
                    have HOK : Hid (ansF L rp p = true) := by show _ = _; rw [HAN.out, HCL.out, HM1.out, HTA.out, HRP.out]; simp
                    go_wp2_with fail
                    go_quiet (fail)
                    generalize hX : World.drewN V _ = X
                    have bX : Below V.heap.size V X := hX ▸ below_drewN (Below.refl _ _) _
                    have HSX := hide (HSV.out.grow bX)
                    have HBX := hide (HBP.out.grow bX)
                    clear f22 f0 g0 g1c e0 e1 e2 e3 e4 e5 e6 e7 e8 e9 e10 e11 e12 e13 e14 e15 e16 e17 e18 e19 e20 e21 e22 e23 e24 p0 p1 p2 p3 p4 p5 p6 p7 p8 p9 p10 bX hX
                    obtain ⟨p0, p1, p2, p3, p4, p5, p6, p7, p8, p9, p10⟩ := HBX.out.all
                    have hex := HSX.out.own.all k HHK.out _ HY.out
                    dsimp only at hex
                    obtain ⟨e0, e1, e2, e3, e4, e5, e6, e7, e8, e9, e10, e11, e12, e13, e14, e15, e16, e17, e18, e19, e20, e21, e22, e23, e24⟩ := hex
                    have fz11 := HSX.out.own.z (by have := HHK.out; omega) (k * 25 + 11)
                    have fz12 := HSX.out.own.z (by have := HHK.out; omega) (k * 25 + 12)
                    have fz13 := HSX.out.own.z (by have := HHK.out; omega) (k * 25 + 13)
                    have fz14 := HSX.out.own.z (by have := HHK.out; omega) (k * 25 + 14)
                    have fz15 := HSX.out.own.z (by have := HHK.out; omega) (k * 25 + 15)
                    have fz16 := HSX.out.own.z (by have := HHK.out; omega) (k * 25 + 16)
                    have fz17 := HSX.out.own.z (by have := HHK.out; omega) (k * 25 + 17)
                    have fz18 := HSX.out.own.z (by have := HHK.out; omega) (k * 25 + 18)
                    have fz19 := HSX.out.own.z (by have := HHK.out; omega) (k * 25 + 19)
                    have fz20 := HSX.out.own.z (by have := HHK.out; omega) (k * 25 + 20)
                    have fz21 := HSX.out.own.z (by have := HHK.out; omega) (k * 25 + 21)
                    have fz22 := HSX.out.own.z (by have := HHK.out; omega) (k * 25 + 22)
                    have hdone := OwnR.done k HHK.out HY.out HSX.out.own p
                    obtain ⟨D, hD⟩ : ∃ D, layD X hh k p = D := ⟨_, rfl⟩
                    have fD : Foot (fun j => j = hh) X D := hD ▸ foot_layD X hh k p
                    rw [hD] at hdone
                    obtain ⟨sD, kD⟩ := HSX.out.row fD hdone
                    have HSD := hide sD
                    have bD := kD.box HBX.out
                    have HBD := hide bD
                    simp only [layD] at hD
                    clear hdone fD sD kD bD
                    go_upto_region 54 with fail
                    go_cut [] from 257 to 263 (fun wx => wx = D.drew)
                    case first =>
                      go_region_with (fail)
                      all_goals (go_wp2_with fail; go_meet; rfl)
                    case rest =>
                      obtain ⟨G, hG⟩ : ∃ G, D.drew = G := ⟨_, rfl⟩
                      have hcG : wc = G := hcut.trans hG
                      have bG : Below D.heap.size D G := hG ▸ below_d D 1
                      have HSG := hide (HSD.out.grow bG)
                      have hbg := HBD.out.grow bG
                      clear p0 p1 p2 p3 p4 p5 p6 p7 p8 p9 p10 e0 e1 e2 e3 e4 e5 e6 e7 e8 e9 e10 e11 e12 e13 e14 e15 e16 e17 e18 e19 e20 e21 e22 e23 e24 fz11 fz12 fz13 fz14 fz15 fz16 fz17 fz18 fz19 fz20 fz21 fz22 hcut bG
                      obtain ⟨p0, p1, p2, p3, p4, p5, p6, p7, p8, p9, p10⟩ := hbg.all
                      clear hbg
                      subst hcG
                      as_aux_lemma =>
                        go_wp2_with fail
                        refine (answer_ok p k _ HSG.out.st HK.out (by rw [HLK.out, HKN.out]; exact hkk) HOK.out (Bts.carry HPH.out.1 HSG.out.bel) HPH.out.2).mono ?_; rintro e w5 ⟨rfl, E5⟩
                        have HS5 := hide (HSG.out.deed E5)
                        have HR5 := hide (HRL.out.set (x := ⟨2, p.nm, 0, 0⟩) (y := ⟨yq, p, 2, ya, yn⟩) HHK.out ⟨rfl, HRC.out.id, HRC.out.hq, HPH.out.1, .inr (.inl ⟨rfl, rfl⟩)⟩)
                        clear E5
                        go_wp2
                        go_roundg g1
                        case measure => have := HI.out; omega
                        case rel => exact ⟨i + 1, _, _, by have := HI.out; omega, by go_num, HS5.out, HR5.out⟩
                  · have HTA := hide hta
                    clear hta
                    as_aux_lemma =>
                      have f22 : ∀ q, (V.drewN q).cell? ⟨hh, k * 25 + 22, none⟩ = some (.int .i64 1) := fun q => e22
                      have f0 : ∀ q, (V.drewN q).cell? ⟨hh, k * 25, none⟩ = some (.int .u64 yq.ta) := fun q => e0
                      have g0 : ∀ q, (V.drewN q).cell? ⟨Y.heap.size, 0, none⟩ = some (.int .u64 rp) := fun q => by rw [← HTA.out]; exact p0
                      have g1c : ∀ q, (V.drewN q).cell? ⟨Y.heap.size, 1, none⟩ = some (.int .u64 p.rp) := fun q => by exact p1
                      have hrb : (p.rp == yq.ta) = false := by rw [beq_eq_false_iff_ne]; exact hrp
                      have hrd : decide (p.rp = yq.ta) = false := decide_eq_false hrp
                      have HNO : Hid (ansF L rp p = false) := by show _ = _; rw [HAN.out, HCL.out, HM1.out]; simp [hrp]
                      go_wp2_with fail
                      go_quiet (fail)
                      generalize hX : World.drewN V _ = X
                      have bX : Below V.heap.size V X := hX ▸ below_drewN (Below.refl _ _) _
                      have HSX := hide (HSV.out.grow bX)
                      have HBX := hide (HBP.out.grow bX)
                      clear f22 f0 g0 g1c e0 e1 e2 e3 e4 e5 e6 e7 e8 e9 e10 e11 e12 e13 e14 e15 e16 e17 e18 e19 e20 e21 e22 e23 e24 p0 p1 p2 p3 p4 p5 p6 p7 p8 p9 p10 bX hX
                      obtain ⟨p0, p1, p2, p3, p4, p5, p6, p7, p8, p9, p10⟩ := HBX.out.all
                      as_aux_lemma =>
                        go_wp2_with fail
                        refine (answer_no p _ HSX.out.st HNO.out).mono ?_; rintro e w5 ⟨rfl, b5⟩
                        have HS5 := hide (HSX.out.grow b5)
                        clear b5
                        go_wp2
                        go_roundg g1
                        case measure => have := HI.out; omega
                        case rel => exact ⟨i + 1, L, K, by have := HI.out; omega, by go_num, HS5.out, HRL.out⟩
                · as_aux_lemma =>
                    have f22 : ∀ q, (V.drewN q).cell? ⟨hh, k * 25 + 22, none⟩ = some (.int .i64 1) := fun q => e22
                    have f0 : ∀ q, (V.drewN q).cell? ⟨hh, k * 25, none⟩ = some (.int .u64 yq.ta) := fun q => e0
                    have g0 : ∀ q, (V.drewN q).cell? ⟨Y.heap.size, 0, none⟩ = some (.int .u64 p.ta) := fun q => by exact p0
                    have g1c : ∀ q, (V.drewN q).cell? ⟨Y.heap.size, 1, none⟩ = some (.int .u64 p.rp) := fun q => by exact p1
                    have htb : (p.ta == rp) = false := by rw [beq_eq_false_iff_ne]; exact hta
                    have htd : decide (p.ta = rp) = false := decide_eq_false hta
                    have HNO : Hid (ansF L rp p = false) := by show _ = _; rw [HAN.out, HCL.out]; simp [hta]
                    go_wp2_with fail
                    go_quiet (fail)
                    generalize hX : World.drewN V _ = X
                    have bX : Below V.heap.size V X := hX ▸ below_drewN (Below.refl _ _) _
                    have HSX := hide (HSV.out.grow bX)
                    have HBX := hide (HBP.out.grow bX)
                    clear f22 f0 g0 g1c e0 e1 e2 e3 e4 e5 e6 e7 e8 e9 e10 e11 e12 e13 e14 e15 e16 e17 e18 e19 e20 e21 e22 e23 e24 p0 p1 p2 p3 p4 p5 p6 p7 p8 p9 p10 bX hX
                    obtain ⟨p0, p1, p2, p3, p4, p5, p6, p7, p8, p9, p10⟩ := HBX.out.all
                    as_aux_lemma =>
                      go_wp2_with fail
                      refine (answer_no p _ HSX.out.st HNO.out).mono ?_; rintro e w5 ⟨rfl, b5⟩
                      have HS5 := hide (HSX.out.grow b5)
                      clear b5
                      go_wp2
                      go_roundg g1
                      case measure => have := HI.out; omega
                      case rel => exact ⟨i + 1, L, K, by have := HI.out; omega, by go_num, HS5.out, HRL.out⟩
              · as_aux_lemma =>
                  have f22 : ∀ q, (V.drewN q).cell? ⟨hh, k * 25 + 22, none⟩ = some (.int .i64 ys) := fun q => e22
                  have f0 : ∀ q, (V.drewN q).cell? ⟨hh, k * 25, none⟩ = some (.int .u64 yq.ta) := fun q => e0
                  have g0 : ∀ q, (V.drewN q).cell? ⟨Y.heap.size, 0, none⟩ = some (.int .u64 p.ta) := fun q => by exact p0
                  have g1c : ∀ q, (V.drewN q).cell? ⟨Y.heap.size, 1, none⟩ = some (.int .u64 p.rp) := fun q => by exact p1
                  have hyb : (ys == 1) = false := by rw [beq_eq_false_iff_ne]; exact hys
                  have hyd : decide (ys = 1) = false := decide_eq_false hys
                  have HNO : Hid (ansF L rp p = false) := by show _ = _; rw [HAN.out, HCL.out]; simp [hys]
                  go_wp2_with fail
                  go_quiet (fail)
                  generalize hX : World.drewN V _ = X
                  have bX : Below V.heap.size V X := hX ▸ below_drewN (Below.refl _ _) _
                  have HSX := hide (HSV.out.grow bX)
                  have HBX := hide (HBP.out.grow bX)
                  clear f22 f0 g0 g1c e0 e1 e2 e3 e4 e5 e6 e7 e8 e9 e10 e11 e12 e13 e14 e15 e16 e17 e18 e19 e20 e21 e22 e23 e24 p0 p1 p2 p3 p4 p5 p6 p7 p8 p9 p10 bX hX
                  obtain ⟨p0, p1, p2, p3, p4, p5, p6, p7, p8, p9, p10⟩ := HBX.out.all
                  as_aux_lemma =>
                    go_wp2_with fail
                    refine (answer_no p _ HSX.out.st HNO.out).mono ?_; rintro e w5 ⟨rfl, b5⟩
                    have HS5 := hide (HSX.out.grow b5)
                    clear b5
                    go_wp2
                    go_roundg g1
                    case measure => have := HI.out; omega
                    case rel => exact ⟨i + 1, L, K, by have := HI.out; omega, by go_num, HS5.out, HRL.out⟩
            · have HNO : Hid (ansF L rp p = false) := ans_out (by rw [HLK.out, HKN.out]; omega)
              by_cases h1 : 1 ≤ p.id
              · have h2 : ¬ (p.id ≤ (kn : Int)) := fun h => hin1 ⟨h1, h⟩
                have HSX := HSV
                clear hin1
                as_aux_lemma =>
                  go_wp2_with fail
                  refine (answer_no p _ HSX.out.st HNO.out).mono ?_; rintro e w5 ⟨rfl, b5⟩
                  have HS5 := hide (HSX.out.grow b5)
                  clear b5
                  go_wp2
                  go_roundg g1
                  case measure => have := HI.out; omega
                  case rel => exact ⟨i + 1, L, K, by have := HI.out; omega, by go_num, HS5.out, HRL.out⟩
              · have HSX := HSV
                clear hin1
                as_aux_lemma =>
                  go_wp2_with fail
                  refine (answer_no p _ HSX.out.st HNO.out).mono ?_; rintro e w5 ⟨rfl, b5⟩
                  have HS5 := hide (HSX.out.grow b5)
                  clear b5
                  go_wp2
                  go_roundg g1
                  case measure => have := HI.out; omega
                  case rel => exact ⟨i + 1, L, K, by have := HI.out; omega, by go_num, HS5.out, HRL.out⟩
      · have hdn0 : ¬ ((d : Int) = 0) := by omega
        have hdn1 : ¬ ((d : Int) = 1) := by omega
        have hdb0 : ((d : Int) == 0) = false := by rw [beq_eq_false_iff_ne]; exact hdn0
        have hdb1 : ((d : Int) == 1) = false := by rw [beq_eq_false_iff_ne]; exact hdn1
        go_wp2
        clear m0 m1 m2 m3 m4 m5 m6 m7 m8 m9 m10 m11 m12 q0 q1 q2 q3 q4 q5 q6 q7 q8 q9 q10 q11 q12 hd1 hdn0 hdn1 hdb0 hdb1 hY
        go_loopg [22, 57] kn (fun gk va2 vi wq => ARel w g rp Wn Nn (.slice va kn vc) L K kn gk va2 vi wq)
        case atStart => exact ⟨0, by omega, rfl, ⟨by unfold mtT mtL; rw [List.take_zero, List.drop_zero]; exact HSY.out, owns_nil _ _ _ _⟩⟩
        case round =>
          rename World => wq
          obtain ⟨j, hj, rfl, sd⟩ := hrel
          have HJ := hide hj
          have HSD := hide sd
          clear hj sd
          cases gk with
          | succ g2 =>
            have hjk : j < kn := by have := HJ.out; omega
            have hlt : (j : Int) < (kn : Int) := by omega
            have hjK : j < K.length := by rw [HKN.out]; exact hjk
            have hjT : j < (mtT Wn Nn K j).length := by rw [mtT_len]; exact hjK
            obtain ⟨hh, hac, hve, hhB, _, _⟩ := HSD.out.sc.own.elem j hjT
            obtain rfl : va = some ⟨hh, 0, none⟩ := by cases hve; rfl
            clear hve
            obtain ⟨⟨yq, yr, ys, ya, yn⟩, hy⟩ : ∃ y, mc K j = y := ⟨_, rfl⟩
            have hyT : mc (mtT Wn Nn K j) j = ⟨yq, yr, ys, ya, yn⟩ := by rw [mtT_at K j hjK]; exact hy
            have hrl := HRL.out.at hjK
            rw [hy] at hrl
            have hlk : j < L.length := by rw [HLK.out]; exact hjK
            have hok := HSD.out.sc.st.of.2 _ (cl_mem L j hlk)
            have hea := HSD.out.sc.own.all j hjT _ hyT
            dsimp only at hea
            obtain ⟨e0, e1, e2, e3, e4, e5, e6, e7, e8, e9, e10, e11, e12, e13, e14, e15, e16, e17, e18, e19, e20, e21, e22, e23, e24⟩ := hea
            have hz := fun f => HSD.out.sc.own.z (by omega) f
            have HY := hide hy
            have HYT := hide hyT
            have HJK := hide hjK
            have HJT := hide hjT
            by_cases hys : ys = 1
            · subst hys
              have hab : 0 ≤ ya ∧ ya < Wn ∧ 1 ≤ yn ∧ yn ≤ Nn := by
                have hs1 : (cl L j).s = 1 := hrl.s.symm
                rcases hrl.by_ with h | h | h
                · rcases hok with o | o | o
                  · have h1 : (cl L j).a = ya := h.2.2.1
                    have h2 : (cl L j).n = yn := h.2.2.2.1
                    rw [← h1, ← h2]; exact o.2
                  · rw [hs1] at o; cases o
                  · rw [hs1] at o; cases o
                · have := h.1; rw [hs1] at this; cases this
                · have := h.1; rw [hs1] at this; cases this
              obtain ⟨b, hb⟩ : ∃ b, ya + 1 = b := ⟨_, rfl⟩
              have hwb : wrap64 (ya + 1) = b := by unfold wrap64; omega
              have hwn : wrap64 (yn + 1) = yn + 1 := by unfold wrap64; omega
              clear hab
              have fz23 := hz (j * 25 + 23)
              have HB := hide hb
              obtain ⟨X, hX⟩ : ∃ X, wq.setCell ⟨hh, j * 25 + 23, none⟩ (.int .i64 b) = X := ⟨_, rfl⟩
              have s1 := hX ▸ HSD.out.put j 23 hjT _ hyT ⟨yq, yr, 1, b, yn⟩ (.int .i64 b) (by omega) rfl
              have hy1 : mc ((mtT Wn Nn K j).set j ⟨yq, yr, 1, b, yn⟩) j = ⟨yq, yr, 1, b, yn⟩ := by rw [mc_set _ _ _ _ hjT, if_pos rfl]
              have hx1 := s1.sc.own.all j (by rw [List.length_set]; exact hjT) _ hy1
              dsimp only at hx1
              have hz1 := fun f => s1.sc.own.z (by rw [List.length_set]; omega) f
              have HS1 := hide s1
              have HY1 := hide hy1
              clear hb hrl hok hy hyT hlk hjK hz s1 hy1
              by_cases hbw : b = Wn
              · subst hbw
                by_cases hnn : yn = Nn
                · have HNN := hide hnn
                  as_aux_lemma =>
                    obtain ⟨f0, f1, f2, f3, f4, f5, f6, f7, f8, f9, f10, f11, f12, f13, f14, f15, f16, f17, f18, f19, f20, f21, f22, f23, f24⟩ := hx1
                    have n24 : X.cell? ⟨hh, j * 25 + 24, none⟩ = some (.int .i64 Nn) := by rw [← HNN.out]; exact f24
                    have fz22 := hz1 (j * 25 + 22)
                    obtain ⟨U, hU⟩ : ∃ U, X.setCell ⟨hh, j * 25 + 22, none⟩ (.int .i64 3) = U := ⟨_, rfl⟩
                    have s2 := hU ▸ HS1.out.put j 22 (by rw [List.length_set]; exact hjT) _ HY1.out ⟨yq, yr, 3, b, yn⟩ (.int .i64 3) (by omega) rfl
                    rw [set_set] at s2
                    have hmt : mtF b Nn ⟨yq, yr, 1, ya, yn⟩ = (⟨yq, yr, 3, b, yn⟩, false) := by
                      have h1 := HB.out
                      have h2 := HNN.out
                      unfold mtF
                      dsimp only
                      rw [if_pos rfl, if_pos h1, if_pos h2, h1]
                    obtain ⟨t1, t2⟩ := mtT_next HJK.out HY.out hmt
                    have HS2 : Hid (Sd w U g rp b Nn (.slice (some ⟨hh, 0, none⟩) kn vc) L (mtT b Nn K (j + 1)) u22 (mtM b Nn (K.take (j + 1)))) := by show Sd _ _ _ _ _ _ _ _ _ _ _; rw [t1, t2]; simpa using s2
                    clear s2 hmt t1 t2 f24 e24 hnn hz1 hjT
                    as_aux_lemma =>
                      go_wp2
                      go_roundg g2
                      case measure => have := HJ.out; omega
                      case rel => exact ⟨j + 1, by have := HJ.out; omega, by go_num, HS2.out⟩
                · have hnb : (yn == Nn) = false := by rw [beq_eq_false_iff_ne]; exact hnn
                  obtain ⟨f0, f1, f2, f3, f4, f5, f6, f7, f8, f9, f10, f11, f12, f13, f14, f15, f16, f17, f18, f19, f20, f21, f22, f23, f24⟩ := hx1
                  have gz23 := hz1 (j * 25 + 23)
                  obtain ⟨U, hU⟩ : ∃ U, X.setCell ⟨hh, j * 25 + 23, none⟩ (.int .i64 0) = U := ⟨_, rfl⟩
                  have s2 := hU ▸ HS1.out.put j 23 (by rw [List.length_set]; exact hjT) _ HY1.out ⟨yq, yr, 1, 0, yn⟩ (.int .i64 0) (by omega) rfl
                  rw [set_set] at s2
                  have hy2 : mc ((mtT b Nn K j).set j ⟨yq, yr, 1, 0, yn⟩) j = ⟨yq, yr, 1, 0, yn⟩ := by rw [mc_set _ _ _ _ hjT, if_pos rfl]
                  have u24 : U.cell? ⟨hh, j * 25 + 24, none⟩ = some (.int .i64 yn) := by
                    have := s2.sc.own.cell j 24 (by rw [List.length_set]; exact hjT) (by omega)
                    rw [hy2] at this; exact this
                  have uz24 := s2.sc.own.z (by rw [List.length_set]; omega) (j * 25 + 24)
                  obtain ⟨T, hT⟩ : ∃ T, U.setCell ⟨hh, j * 25 + 24, none⟩ (.int .i64 (yn + 1)) = T := ⟨_, rfl⟩
                  have s3 := hT ▸ s2.put j 24 (by rw [List.length_set]; exact hjT) _ hy2 ⟨yq, yr, 1, 0, yn + 1⟩ (.int .i64 (yn + 1)) (by omega) rfl
                  rw [set_set] at s3
                  have hy3 : mc ((mtT b Nn K j).set j ⟨yq, yr, 1, 0, yn + 1⟩) j = ⟨yq, yr, 1, 0, yn + 1⟩ := by rw [mc_set _ _ _ _ hjT, if_pos rfl]
                  have hx3 := s3.sc.own.all j (by rw [List.length_set]; exact hjT) _ hy3
                  dsimp only at hx3
                  have hrf : (mtM b Nn (K.take j)).length ≤ 64 := by
                    have h1 : (mtM b Nn (K.take j)).length ≤ (K.take j).length := by unfold mtM; rw [List.length_map]; exact List.length_filter_le _ _
                    rw [List.length_take] at h1; omega
                  obtain ⟨va4, w4, hr4, s4⟩ := s3.more yq (by omega)
                  have hmt : mtF b Nn ⟨yq, yr, 1, ya, yn⟩ = (⟨yq, yr, 1, 0, yn + 1⟩, true) := by
                    have h1 := HB.out
                    unfold mtF
                    dsimp only
                    rw [if_pos rfl, if_pos h1, if_neg hnn]
                  obtain ⟨t1, t2⟩ := mtT_next HJK.out HY.out hmt
                  have HS4 : Hid (Sd w w4 g rp b Nn (.slice (some ⟨hh, 0, none⟩) kn vc) L (mtT b Nn K (j + 1)) va4 (mtM b Nn (K.take (j + 1)))) := by rw [t1, t2]; exact s4
                  have HR4 := hide hr4
                  obtain ⟨g0, g1, g2, g3, g4, g5, g6, g7, g8, g9, g10, g11, g12, g13, g14, g15, g16, g17, g18, g19, g20, g21, g22, g23, g24⟩ := hx3
                  clear s2 hy2 s3 hy3 hr4 s4 hmt t1 t2 hz1 hrf hjT
                  go_wp2_with (at_builtin; refine wpList_append_run rfl _ _ _ rfl _ _ _ _ rfl rfl HR4.out ?_)
                  clear e0 e1 e2 e3 e4 e5 e6 e7 e8 e9 e10 e11 e12 e13 e14 e15 e16 e17 e18 e19 e20 e21 e22 e23 e24 f0 f1 f2 f3 f4 f5 f6 f7 f8 f9 f10 f11 f12 f13 f14 f15 f16 f17 f18 f19 f20 f21 f22 f23 f24 g0 g1 g2 g3 g4 g5 g6 g7 g8 g9 g10 g11 g12 g13 g14 g15 g16 g17 g18 g19 g20 g21 g22 g23 g24
                  as_aux_lemma =>
                    go_wp2
                    go_roundg g2
                    case measure => have := HJ.out; omega
                    case rel => exact ⟨j + 1, by have := HJ.out; omega, by go_num, HS4.out⟩
              · have hbb2 : (b == Wn) = false := by rw [beq_eq_false_iff_ne]; exact hbw
                as_aux_lemma =>
                  have hbd2 : decide (b = Wn) = false := decide_eq_false hbw
                  have hmt : mtF Wn Nn ⟨yq, yr, 1, ya, yn⟩ = (⟨yq, yr, 1, b, yn⟩, false) := by
                    have h1 := HB.out
                    unfold mtF
                    dsimp only
                    rw [if_pos rfl, h1, if_neg hbw]
                  obtain ⟨t1, t2⟩ := mtT_next HJK.out HY.out hmt
                  have HS2 : Hid (Sd w X g rp Wn Nn (.slice (some ⟨hh, 0, none⟩) kn vc) L (mtT Wn Nn K (j + 1)) u22 (mtM Wn Nn (K.take (j + 1)))) := by show Sd _ _ _ _ _ _ _ _ _ _ _; rw [t1, t2]; simpa using HS1.out
                  obtain ⟨f0, f1, f2, f3, f4, f5, f6, f7, f8, f9, f10, f11, f12, f13, f14, f15, f16, f17, f18, f19, f20, f21, f22, f23, f24⟩ := hx1
                  clear hmt t1 t2 hz1 hjT
                  as_aux_lemma =>
                    go_wp2
                    go_roundg g2
                    case measure => have := HJ.out; omega
                    case rel => exact ⟨j + 1, by have := HJ.out; omega, by go_num, HS2.out⟩
            · have hyb : (ys == 1) = false := by rw [beq_eq_false_iff_ne]; exact hys
              as_aux_lemma =>
                obtain ⟨t1, t2⟩ := mtT_idle (W := Wn) (N := Nn) hjK hy (show ¬ ys = 1 from hys)
                have HS2 : Hid (Sd w wq g rp Wn Nn (.slice (some ⟨hh, 0, none⟩) kn vc) L (mtT Wn Nn K (j + 1)) u22 (mtM Wn Nn (K.take (j + 1)))) := by rw [t1, t2]; exact HSD.out
                clear hy hyT hrl hlk hok hz hjK hjT t1 t2
                as_aux_lemma =>
                  go_wp2
                  go_roundg g2
                  case measure => have := HJ.out; omega
                  case rel => exact ⟨j + 1, by have := HJ.out; omega, by go_num, HS2.out⟩
          | zero =>
            obtain rfl : j = kn := by have := HJ.out; omega
            have hltn : ¬ ((j : Int) < (j : Int)) := by omega
            have sd := HSD.out
            rw [show K.take j = K from by rw [← HKN.out, List.take_length], show mtT Wn Nn K j = mtL Wn Nn K from by rw [← HKN.out]; exact mtT_all K] at sd
            obtain ⟨R, hR⟩ : ∃ R, mtM Wn Nn K = R := ⟨_, rfl⟩
            rw [hR] at sd
            obtain ⟨rl2, hmm⟩ := Rl.tick L K 0 HRL.out sd.sc.st.of.2
            rw [hR] at hmm
            have hRh : ∀ m ∈ R, m.has w := fun m hm => by
              rw [← hR] at hm
              unfold mtM at hm
              obtain ⟨y, hy, rfl⟩ := List.mem_map.1 hm
              obtain ⟨k, hk, hky⟩ := List.mem_iff_getElem.1 (List.mem_filter.1 hy).1
              have h1 := (HRL.out.at hk).hq
              have h2 : mc K k = y := by unfold mc; rw [List.getD_eq_getElem?_getD, List.getElem?_eq_getElem hk]; exact hky
              rw [h2] at h1; exact h1
            obtain ⟨ra, rc, hru, hrls⟩ := owns_lies sd.ag
            subst hru
            obtain ⟨rn, hrn⟩ : ∃ rn, R.length = rn := ⟨_, rfl⟩
            have hrc := hrls.2.1
            have hrm : rc ≤ 9223372036854775807 := hrls.2.2.1
            have hr64 : rn ≤ 64 := by
              have h1 : R.length ≤ K.length := by rw [← hR]; unfold mtM; rw [List.length_map]; exact List.length_filter_le _ _
              rw [hrn, HKN.out] at h1; omega
            rw [hrn] at sd hrc
            rw [hrn]
            have HSE := hide sd
            have HRN := hide hrn
            have HRH := hide hRh
            have HR2 := hide rl2
            have HMM := hide hmm
            clear sd hR rl2 hmm hRh hrls hrn
            go_wp2_with fail
            refine (tick_any _ HSE.out.sc.st).mono ?_; rintro e w5 ⟨ao5, c5, G, rfl, hM, hnm, E5⟩
            have hGl : G.length = rn := by
              have h1 : (G.map Ms.nm).length = (R.map Ms.nm).length := by rw [hnm, HMM.out]
              rw [List.length_map, List.length_map, HRN.out] at h1; exact h1
            rw [hGl] at hM
            rw [hGl]
            have HS5 := hide (HSE.out.deed E5)
            have HM5 := hide hM
            have HGN : Hid (G.map Ms.nm = R.map Ms.nm) := by show _ = _; rw [hnm, HMM.out]
            have hgc := hM.1.2.1
            have hgm : c5 ≤ 9223372036854775807 := hM.1.2.2.1
            clear E5 hM hnm hGl
            go_wp2
            go_loopg [126] rn (fun gk vi wz => BRel w5 rn gk vi wz)
            case atStart => exact ⟨0, by omega, rfl, Below.refl _ _⟩
            case round =>
              rename World => wz
              obtain ⟨m, hm, rfl, bz⟩ := hrel
              have HMI := hide hm
              have HBZ := hide bz
              have HSZ3 := hide (HS5.out.grow bz)
              clear hm bz
              cases gk with
              | succ g2 =>
                have hmn : m < rn := by have := HMI.out; omega
                have hltm : (m : Int) < (rn : Int) := by omega
                have hla := HM5.out.1.carry HBZ.out (Nat.le_refl _)
                obtain ⟨ae, hae⟩ := hla.there hmn
                subst hae
                have hlb : Lies 11 wz ra rn rc (cellsM R) := by
                  have h1 := HSZ3.out.ag
                  obtain ⟨a2, c2, e2, h2⟩ := owns_lies h1
                  rw [HRN.out] at e2 h2
                  cases e2
                  exact h2
                obtain ⟨be, hbe⟩ := hlb.there hmn
                subst hbe
                obtain ⟨pm, hpm⟩ : ∃ pm, G.getD m Ms.zero = pm := ⟨_, rfl⟩
                obtain ⟨qm, hqm⟩ : ∃ qm, R.getD m Ms.zero = qm := ⟨_, rfl⟩
                obtain ⟨a0, a1, a2, a3, a4, a5, a6, a7, a8, a9, a10⟩ := lies_elem hla m hmn pm hpm _ rfl
                obtain ⟨b0, b1, b2, b3, b4, b5, b6, b7, b8, b9, b10⟩ := lies_elem hlb m hmn qm hqm _ rfl
                have hGlen : G.length = rn := (liesM_len5 HM5.out.1).symm
                have HPM : Hid (pm.has wz) := by
                  have h1 := HM5.out.2 pm (by rw [← hpm]; exact getM_mem G m (by omega))
                  exact Bts.carry h1 HBZ.out
                have HQM : Hid (qm.has wz) := Bts.carry (HRH.out qm (by rw [← hqm]; exact getM_mem R m (by rw [HRN.out]; exact hmn))) HSZ3.out.sc.bel
                have HNQ : Hid (pm.nm = qm.nm) := by
                  show _ = _
                  have h1 : (G.map Ms.nm).getD m Ms.zero = (R.map Ms.nm).getD m Ms.zero := by rw [HGN.out]
                  rw [getM_nm, getM_nm, hpm, hqm] at h1
                  exact h1
                clear hla hlb hpm hqm hGlen
                go_upto_region 29 with fail
                go_cut [138] from 129 to 137 (fun vv wx => vv = .bool false ∧ Below w5.heap.size w5 wx)
                case first =>
                  go_region_with (first | (go_at_call 11; go_must (refine (same_yes pm qm _ (Bts.carry HPM.out (below_d wz 1)) (Bts.carry HQM.out (below_d wz 1)) HNQ.out).mono ?_); rintro e w7 ⟨rfl, b7⟩; have HB7 : Hid (Below w5.heap.size w5 w7) := below_one (below_one HBZ.out (below_d wz 1)) b7; clear b7) | fail)
                  all_goals (go_wp2_with fail; go_meet; exact ⟨rfl, HB7.out⟩)
                case rest =>
                  obtain ⟨rfl, bwc⟩ := hcut
                  have HBW := hide bwc
                  clear bwc a0 a1 a2 a3 a4 a5 a6 a7 a8 a9 a10 b0 b1 b2 b3 b4 b5 b6 b7 b8 b9 b10
                  go_wp2
                  go_roundg g2
                  case measure => have := HMI.out; omega
                  case rel => exact ⟨m + 1, by have := HMI.out; omega, by go_num, HBW.out⟩
              | zero =>
                obtain rfl : m = rn := by have := HMI.out; omega
                have hltm : ¬ ((m : Int) < (m : Int)) := by omega
                as_aux_lemma =>
                  go_wp2
                  go_roundg g1
                  case measure => have := HI.out; omega
                  case rel => exact ⟨i + 1, _, _, by have := HI.out; omega, by go_num, HSZ3.out.sc, HR2.out⟩
end Go.Proofs.YtdodmnianhpjbaaDoor
