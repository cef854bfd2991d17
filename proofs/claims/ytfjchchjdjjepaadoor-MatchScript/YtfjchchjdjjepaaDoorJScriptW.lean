/-
  The walk of MatchScript.
-/
import Derived.Test.YtfjchchjdjjepaaDoorJScr
import Derived.Test.YtfjchchjdjjepaaDoorYTill
import Derived.Test.YtfjchchjdjjepaaDoorKAlike
import Derived.Deep.RegionLaw
import Derived.Deep.CutBlock
namespace Go.Proofs.YtfjchchjdjjepaaDoor
open Go.RowKit
def actO (x : Ac) : Obj := .cells #[.int .u8 (x.o : Nat), .int .u8 (x.p : Nat), .int .u8 (x.t : Nat), .int .u64 x.m.ta, .int .u64 x.m.rp, .int .u32 x.m.id, .int .u16 x.m.op, .int .u16 x.m.st, .int .u64 x.m.p, .int .u32 x.m.o, .int .u8 x.m.r, .int .u64 x.m.c, .int .u64 x.m.ar, .slice x.m.so x.m.sn x.m.sc] 39 (0, 0)
theorem act_all {W : World} {b : Nat} {x : Ac} (h : W.heap[b]? = some (actO x)) : W.cell? ⟨b, 0, none⟩ = some (.int .u8 (x.o : Nat)) ∧ W.cell? ⟨b, 1, none⟩ = some (.int .u8 (x.p : Nat)) ∧ W.cell? ⟨b, 2, none⟩ = some (.int .u8 (x.t : Nat)) ∧ W.cell? ⟨b, 3, none⟩ = some (.int .u64 x.m.ta) ∧ W.cell? ⟨b, 4, none⟩ = some (.int .u64 x.m.rp) ∧ W.cell? ⟨b, 5, none⟩ = some (.int .u32 x.m.id) ∧ W.cell? ⟨b, 6, none⟩ = some (.int .u16 x.m.op) ∧ W.cell? ⟨b, 7, none⟩ = some (.int .u16 x.m.st) ∧ W.cell? ⟨b, 8, none⟩ = some (.int .u64 x.m.p) ∧ W.cell? ⟨b, 9, none⟩ = some (.int .u32 x.m.o) ∧ W.cell? ⟨b, 10, none⟩ = some (.int .u8 x.m.r) ∧ W.cell? ⟨b, 11, none⟩ = some (.int .u64 x.m.c) ∧ W.cell? ⟨b, 12, none⟩ = some (.int .u64 x.m.ar) ∧ W.cell? ⟨b, 13, none⟩ = some (.slice x.m.so x.m.sn x.m.sc) := by
  unfold actO at h
  refine ⟨?_, ?_, ?_, ?_, ?_, ?_, ?_, ?_, ?_, ?_, ?_, ?_, ?_, ?_⟩ <;> (rw [cell_of_row W b _ _ _ _ h]; rfl)
theorem Sc.lw {w0 w : World} {g tn tc : Nat} {ta : Option Addr} {vb : Value} {T U : List Wt} {R L : List Ms} (x : Sc w0 w g (.slice ta tn tc) vb T R U L) (h : T.length = tn) : Lies 2 w ta tn tc (cellsW T) := by
  subst h
  obtain ⟨a, c, e, hl⟩ := owns_lies x.wt
  cases e
  exact hl
theorem Sc.lr {w0 w : World} {g rn rc : Nat} {ra : Option Addr} {va : Value} {T U : List Wt} {R L : List Ms} (x : Sc w0 w g va (.slice ra rn rc) T R U L) (h : R.length = rn) : Lies 11 w ra rn rc (cellsM R) := by
  subst h
  obtain ⟨a, c, e, hl⟩ := owns_lies x.rq
  cases e
  exact hl
/- the same message to another port -/
def Ms.to (x : Ms) (b : Int) : Ms := ⟨b, x.rp, x.id, x.op, x.st, x.p, x.o, x.r, x.c, x.ar, x.so, x.sn, x.sc, x.l⟩
def MRel (w : World) (g n gk : Nat) (va vb vi : Value) (wq : World) : Prop :=
  ∃ (i : Nat) (T : List Wt) (R : List Ms), i + gk = n ∧ vi = .int .i64 (i : Int) ∧ Sc w wq g va vb T R T (R.map Ms.nm) ∧ Inv T
def IsRel (V : World) (T : List Wt) (th : Int) (n gk : Nat) (vs vi : Value) (wq : World) : Prop :=
  ∃ j : Nat, j + gk = n ∧ vi = .int .i64 (j : Int) ∧ vs = .bool ((T.take j).any (isT th)) ∧ Below V.heap.size V wq
theorem any_snoc (T : List Wt) (q : Wt → Bool) (j : Nat) (h : j < T.length) : (T.take (j + 1)).any q = ((T.take j).any q || q (T.getD j Wt.zero)) := by
  rw [takeW_snoc T j h, List.any_append]; simp
/- which is the first, looked at from the back -/
def AtF {α : Type} (q : α → Bool) (z : α) (T : List α) (s : Nat) (a : Int) : Prop :=
  (a = -1 ∧ ∀ j, s ≤ j → j < T.length → q (T.getD j z) = false) ∨ ∃ i : Nat, a = (i : Int) ∧ s ≤ i ∧ i < T.length ∧ q (T.getD i z) = true ∧ ∀ j, s ≤ j → j < i → q (T.getD j z) = false
theorem atF_nil {α : Type} (q : α → Bool) (z : α) (T : List α) : AtF q z T T.length (-1) := .inl ⟨rfl, fun j h1 h2 => by omega⟩
theorem atF_yes {α : Type} {q : α → Bool} {z : α} {T : List α} {s : Nat} (hs : s < T.length) (h : q (T.getD s z) = true) : AtF q z T s (s : Int) := .inr ⟨s, rfl, Nat.le_refl _, hs, h, fun j h1 h2 => by omega⟩
theorem atF_no {α : Type} {q : α → Bool} {z : α} {T : List α} {s : Nat} {a : Int} (h : AtF q z T (s + 1) a) (hq : q (T.getD s z) = false) : AtF q z T s a := by
  have key : ∀ j, s ≤ j → (s + 1 ≤ j → q (T.getD j z) = false) → q (T.getD j z) = false := fun j h1 h2 => by
    by_cases e : j = s
    · rw [e]; exact hq
    · exact h2 (by omega)
  rcases h with ⟨e, h⟩ | ⟨i, e, h1, h2, h3, h4⟩
  · exact .inl ⟨e, fun j h1 h2 => key j h1 (fun h3 => h j h3 h2)⟩
  · exact .inr ⟨i, e, by omega, h2, h3, fun j g1 g2 => key j g1 (fun g3 => h4 j g3 g2)⟩
theorem atF_first {α : Type} {q : α → Bool} {z : α} {T : List α} {a : Int} {i : Nat} (h : AtF q z T 0 a) (k : First q z T i) : a = (i : Int) := by
  rcases h with ⟨_, h⟩ | ⟨j, h1, _, h2, h3, h4⟩
  · have := h i (Nat.zero_le _) k.1; rw [k.2.1] at this; cases this
  · rw [h1, First.eq k ⟨h2, h3, fun j' hj => h4 j' (Nat.zero_le _) hj⟩]
theorem atF_none {q : Wt → Bool} {T : List Wt} {a : Int} (h : AtF q Wt.zero T 0 a) (k : T.any q = false) : a = -1 := by
  rcases h with ⟨e, _⟩ | ⟨j, h1, _, h2, h3, h4⟩
  · exact e
  · rw [any_yes h2 h3] at k; cases k
theorem atM_none {q : Ms → Bool} {T : List Ms} {a : Int} (h : AtF q Ms.zero T 0 a) (k : T.any q = false) : a = -1 := by
  rcases h with ⟨e, _⟩ | ⟨j, h1, _, h2, h3, h4⟩
  · exact e
  · rw [anyM_yes h2 h3] at k; cases k
def BkRel {α : Type} (W : World) (q : α → Bool) (z : α) (T : List α) (gk : Nat) (va vk : Value) (wq : World) : Prop :=
  ∃ (a k : Int), k + 1 = (gk : Int) ∧ va = .int .i64 a ∧ vk = .int .i64 k ∧ gk ≤ T.length ∧ AtF q z T gk a ∧ Below W.heap.size W wq
def StRel (W : World) (T : List Wt) (th : Int) (n gk : Nat) (vs vi : Value) (wq : World) : Prop :=
  ∃ j : Nat, j + gk = n ∧ vi = .int .i64 (j : Int) ∧ wq.ownsRow W.heap.size 41 2 vs (dropT th (T.take j)).length (cellsW (dropT th (T.take j))) ∧ Below W.heap.size W wq
theorem dropT_snoc (T : List Wt) (th : Int) (j : Nat) (h : j < T.length) : dropT th (T.take (j + 1)) = dropT th (T.take j) ++ (if isT th (T.getD j Wt.zero) then [] else [T.getD j Wt.zero]) := by
  rw [takeW_snoc T j h, dropT_append]
  congr 1
  unfold dropT
  by_cases e : isT th (T.getD j Wt.zero) = true
  · rw [if_pos e, List.filter_cons_of_neg (by rw [e]; decide)]; rfl
  · rw [if_neg e, List.filter_cons_of_pos (by simpa using e)]; rfl
theorem firstM_nm {q : Int} {R : List Ms} {i : Nat} (h : First (isTo q) Ms.zero R i) : First (isTo q) Ms.zero (R.map Ms.nm) i := by
  obtain ⟨h1, h2, h3⟩ := h
  refine ⟨by rw [List.length_map]; exact h1, ?_, fun j hj => ?_⟩
  · rw [getM_nm]; exact h2
  · rw [getM_nm]; exact h3 j hj
theorem anyM_nm {q : Int} {R : List Ms} (h : R.any (isTo q) = false) : (R.map Ms.nm).any (isTo q) = false := by
  rw [List.any_map]; exact h
set_option maxRecDepth 20000 in
set_option maxHeartbeats 25600000 in
theorem walk_script (ao : Option Addr) (n cap : Nat) (xs : List Ac) (w : World) (hA : Acts w ao n cap xs) (hs : ∀ y ∈ xs, y.sn ≤ 140737488351232) (hg : Glob w) :
    Calls Tryd.prog 3 #[.slice ao n cap] w fun e w' => e = .returned (.bool true) ∧ Below w.heap.size w w' := by
  have HG := hide hg
  have HA := hide hA
  have HSZ : Hid (∀ y ∈ xs, y.m.sn ≤ 140737488355328) := fun y hy => by have := hs y hy; unfold Ac.sn at this; omega
  have HN := hide hA.1
  have hnc := hA.2.1
  have hcm : cap ≤ 9223372036854775807 := hA.2.2.1
  clear hg hA hs
  go_enter Tryd.func3, Tryd.ntmps3
  go_wp2_with fail
  refine (awake_any _).mono ?_; rintro e W ⟨rfl, b1⟩
  obtain ⟨X, hX⟩ : ∃ X, W.alloc (.cells #[.slice none 0 0, .slice none 0 0] 28) = X := ⟨_, rfl⟩
  obtain ⟨g, hgg⟩ : ∃ g, W.heap.size = g := ⟨_, rfl⟩
  have HSC : Hid (Sc w X g (.slice none 0 0) (.slice none 0 0) [] [] [] []) := by
    refine ⟨?_, owns_nil _ _ _ _, owns_nil _ _ _ _, (fun _ h => by cases h), below_one b1 (hX ▸ below_alloc W _), by rw [← hgg]; exact b1.size⟩
    rw [← hX, ← hgg]; exact st_new W _
  clear b1
  go_wp2
  clear hX hgg
  go_loopg [4, 5, 35] n (fun gk va vb vi wq => MRel w g n gk va vb vi wq)
  case atStart => exact ⟨0, [], [], by omega, rfl, HSC.out, inv_nil⟩
  case round =>
    obtain ⟨i, T, R, hi, rfl, sc, inv⟩ := hrel
    have HI := hide hi
    have HS := hide sc
    have HINV := hide inv
    clear sc hi HSC inv
    cases gk with
    | zero =>
      obtain rfl : i = n := by have := HI.out; omega
      have hlt : ¬ ((i : Int) < (i : Int)) := by omega
      go_wp2
      go_ret
      exact ⟨rfl, HS.out.bel⟩
    | succ g1 =>
      have hin : i < n := by have := HI.out; omega
      have hlt : (i : Int) < (n : Int) := by omega
      obtain ⟨ad, hao⟩ : ∃ ad, ao = some ad := by
        cases ao with
        | none => have := HA.out.2.2.2.1 rfl; omega
        | some ad => exact ⟨ad, rfl⟩
      subst hao
      have hat := HA.out.2.2.2.2 ad rfl i hin
      obtain ⟨x, hx⟩ : ∃ x, xs.getD i Ac.zero = x := ⟨_, rfl⟩
      rw [hx] at hat
      have hmem : x ∈ xs := by rw [← hx, List.getD_eq_getElem?_getD, List.getElem?_eq_getElem (by rw [← HN.out]; exact hin)]; exact List.getElem_mem _
      have HPX : Hid (x.m.has w ∧ x.m.sn ≤ 140737488355328) := ⟨hat.2.1, HSZ.out x hmem⟩
      obtain ⟨ho, hp, ht⟩ := hat.1
      obtain ⟨q0, q1, q2, q3, q4, q5, q6, q7, q8, q9, q10, q11, q12, q13⟩ := hat.all HS.out.bel
      obtain ⟨ta, tc, hva, hlw⟩ := owns_lies HS.out.wt
      subst hva
      obtain ⟨ra, rc, hvb, hlr⟩ := owns_lies HS.out.rq
      subst hvb
      obtain ⟨tn, htn⟩ : ∃ tn, T.length = tn := ⟨_, rfl⟩
      obtain ⟨rn, hrn⟩ : ∃ rn, R.length = rn := ⟨_, rfl⟩
      have HTN := hide htn
      have HRN := hide hrn
      have htc := hlw.2.1
      have htm : tc ≤ 9223372036854775807 := hlw.2.2.1
      have hrc := hlr.2.1
      have hrm : rc ≤ 9223372036854775807 := hlr.2.2.1
      have ht8 : tn ≤ 8 := htn ▸ HINV.out.few
      have hr64 : rn ≤ 64 := by have := HS.out.st.few.2; rw [List.length_map, hrn] at this; exact this
      rw [htn] at htc HS
      rw [hrn] at hrc HS
      rw [htn, hrn]
      have bY := below_alloc wr (.cells #[.int .u8 (x.o : Nat), .int .u8 (x.p : Nat), .int .u8 (x.t : Nat), .int .u64 x.m.ta, .int .u64 x.m.rp, .int .u32 x.m.id, .int .u16 x.m.op, .int .u16 x.m.st, .int .u64 x.m.p, .int .u32 x.m.o, .int .u8 x.m.r, .int .u64 x.m.c, .int .u64 x.m.ar, .slice x.m.so x.m.sn x.m.sc] 39)
      obtain ⟨Y, hY⟩ : ∃ Y, wr.alloc (.cells #[.int .u8 (x.o : Nat), .int .u8 (x.p : Nat), .int .u8 (x.t : Nat), .int .u64 x.m.ta, .int .u64 x.m.rp, .int .u32 x.m.id, .int .u16 x.m.op, .int .u16 x.m.st, .int .u64 x.m.p, .int .u32 x.m.o, .int .u8 x.m.r, .int .u64 x.m.c, .int .u64 x.m.ar, .slice x.m.so x.m.sn x.m.sc] 39) = Y := ⟨_, rfl⟩
      rw [hY] at bY
      have hba : Y.heap[wr.heap.size]? = some (actO x) := by rw [← hY]; exact heap_alloc_new _ _
      have HBA := hide hba
      have HSY := hide (HS.out.grow bY)
      obtain ⟨po, hpo⟩ : ∃ po, x.p % 4 = po := ⟨_, rfl⟩
      have hpo1 : (x.p : Int).tmod 4 = (po : Int) := by rw [Int.tmod_eq_emod_of_nonneg (by omega)]; omega
      have hpo2 : (x.p : Int) % 4 = (po : Int) := by omega
      have hpo4 : po < 4 := by omega
      obtain ⟨th, hth⟩ : ∃ th, x.t % 8 = th := ⟨_, rfl⟩
      have hth1 : (x.t : Int).tmod 8 = (th : Int) := by rw [Int.tmod_eq_emod_of_nonneg (by omega)]; omega
      have hth2 : (x.t : Int) % 8 = (th : Int) := by omega
      have hth8 : th < 8 := by omega
      obtain ⟨d, hd⟩ : ∃ d, x.o % 4 = d := ⟨_, rfl⟩
      have hd1 : (x.o : Int) % 4 = (d : Int) := by omega
      have hd4 : d < 4 := by omega
      have y1 : ∀ q, (Y.drewN q).cell? ⟨wr.heap.size, 1, none⟩ = some (.int .u8 (x.p : Nat)) := fun q => (act_all hba).2.1
      have y2 : ∀ q, (Y.drewN q).cell? ⟨wr.heap.size, 2, none⟩ = some (.int .u8 (x.t : Nat)) := fun q => (act_all hba).2.2.1
      clear hat hx hmem bY hba hpo hth hd htn hrn hlw hlr
      go_wp2_with fail
      go_quiet (fail)
      generalize hV : World.drewN Y _ = V
      have bV : Below Y.heap.size Y V := hV ▸ below_drewN (Below.refl _ _) _
      have HSV := hide (HSY.out.grow bV)
      have HBV : Hid (V.heap[wr.heap.size]? = some (actO x)) := (bV.block _ (lt_of_heap HBA.out)).trans HBA.out
      clear bV hV y1 y2 hY q0 q1 q2 q3 q4 q5 q6 q7 q8 q9 q10 q11 q12 q13
      go_wp2
      go_loopg [10, 49] tn (fun gk vs vi wq => IsRel V T (th : Int) tn gk vs vi wq)
      case atStart => exact ⟨0, by omega, rfl, rfl, Below.refl _ _⟩
      case round =>
        rename World => wq
        obtain ⟨j, hj, rfl, rfl, bj⟩ := hrel
        have HJ := hide hj
        have HBJ := hide bj
        clear hj bj
        cases gk with
        | succ g2 =>
          have hjn : j < tn := by have := HJ.out; omega
          have hlt : (j : Int) < (tn : Int) := by omega
          have hjT : j < T.length := by rw [HTN.out]; exact hjn
          have hl := (HSV.out.grow HBJ.out).lw HTN.out
          obtain ⟨ae, hae⟩ := hl.there hjn
          subst hae
          obtain ⟨y, hy⟩ : ∃ y, T.getD j Wt.zero = y := ⟨_, rfl⟩
          obtain ⟨e0, e1⟩ := liesW_elem hl j hjn y hy _ rfl
          have HSN := hide (any_snoc T (isT (th : Int)) j hjT)
          rw [hy] at HSN
          obtain ⟨s, hs⟩ : ∃ s, (T.take j).any (isT (th : Int)) = s := ⟨_, rfl⟩
          rw [hs] at HSN
          rw [hs]
          obtain ⟨r, hr⟩ : ∃ r, (y.t == (th : Int)) = r := ⟨_, rfl⟩
          rw [show isT (th : Int) y = r from hr] at HSN
          have HB2 := hide (below_one HBJ.out (below_alloc wq (.cells #[.int .u64 y.p, .int .i64 y.t] 41)))
          clear hl hs hy hjT
          cases s with
          | true =>
           as_aux_lemma =>
            go_wp2
            go_roundg g2
            case measure => have := HJ.out; omega
            case rel => exact ⟨j + 1, by have := HJ.out; omega, by go_num, by rw [HSN.out]; rfl, HB2.out⟩
          | false =>
           as_aux_lemma =>
            go_wp2
            go_roundg g2
            case measure => have := HJ.out; omega
            case rel => exact ⟨j + 1, by have := HJ.out; omega, by go_num, by rw [HSN.out, Bool.false_or], HB2.out⟩
        | zero =>
          obtain rfl : j = tn := by have := HJ.out; omega
          have hlt : ¬ ((j : Int) < (j : Int)) := by omega
          rw [show T.take j = T from by rw [← HTN.out, List.take_length]]
          obtain ⟨is, his⟩ : ∃ is, T.any (isT (th : Int)) = is := ⟨_, rfl⟩
          rw [his]
          have HIS : Hid (waitsF T (th : Int) = is) := his
          have HSQ := hide (HSV.out.grow HBJ.out)
          have HBQ : Hid (wq.heap[wr.heap.size]? = some (actO x)) := (HBJ.out.block _ (lt_of_heap HBV.out)).trans HBV.out
          obtain ⟨tn, htn2⟩ : ∃ tn, tn = j := ⟨_, rfl⟩
          subst htn2
          clear his
          go_wp2_with fail
          refine (waits_any (th : Int) _ HSQ.out.st).mono ?_; rintro e w3 ⟨rfl, b3⟩
          rw [HIS.out]
          have HS3 := hide (HSQ.out.grow b3)
          have hb3 : w3.heap[wr.heap.size]? = some (actO x) := (b3.block _ (lt_of_heap HBQ.out)).trans HBQ.out
          have hbb : (is != is) = false := by cases is <;> rfl
          obtain ⟨m0, m1, m2, m3, m4, m5, m6, m7, m8, m9, m10, m11, m12, m13⟩ := act_all hb3
          clear b3 hb3 hpo1 hpo2 hth1 hth2
          obtain hd01 | rfl | rfl : (d = 0 ∨ d = 1) ∨ d = 2 ∨ d = 3 := by omega
          · obtain ⟨qb, hqb⟩ : ∃ qb, ((d : Int) == 0) = qb := ⟨_, rfl⟩
            go_upto_if 90 with fail
            go_cut [90] from 91 to 92 (fun v wx => v = .bool true ∧ w3 = wx)
            case first =>
              cases qb with
              | true =>
                go_wp2_with fail
                go_meet
                exact ⟨rfl, rfl⟩
              | false =>
                have hq1 : ((d : Int) == 1) = true := by
                  rw [beq_iff_eq]
                  have := beq_eq_false_iff_ne.1 hqb
                  omega
                go_wp2_with fail
                go_meet
                exact ⟨rfl, rfl⟩
            case rest =>
              obtain ⟨rfl, rfl⟩ := hcut
              clear hqb hd1
              obtain ⟨Z, hZ⟩ : ∃ Z, w3.alloc (.cells #[.int .u64 (po : Int), .int .u64 x.m.rp, .int .u32 x.m.id, .int .u16 x.m.op, .int .u16 x.m.st, .int .u64 x.m.p, .int .u32 x.m.o, .int .u8 x.m.r, .int .u64 x.m.c, .int .u64 x.m.ar, .slice x.m.so x.m.sn x.m.sc] 37) = Z := ⟨_, rfl⟩
              have bZ : Below w3.heap.size w3 Z := hZ ▸ below_alloc w3 _
              have hbz : BoxM Z w3.heap.size (x.m.to (po : Int)) := hZ ▸ boxM_new w3 (x.m.to (po : Int))
              have HBX := hide hbz
              have HSB := hide (HS3.out.grow bZ)
              obtain ⟨k0, k1, k2, k3, k4, k5, k6, k7, k8, k9, k10⟩ := hbz.all
              simp only [Ms.to] at k0 k1 k2 k3 k4 k5 k6 k7 k8 k9 k10
              clear bZ hbz
              rcases first_or (isP (po : Int)) Wt.zero T with ⟨i0, hf⟩ | hno
              · have HF := hide hf
                obtain ⟨yv, hyv⟩ : ∃ yv, T.getD i0 Wt.zero = yv := ⟨_, rfl⟩
                have HYV := hide hyv
                clear hf hyv
                go_wp2_with fail
                refine (offer_hit (x.m.to (po : Int)) i0 _ HSB.out.st HSB.out.lt HF.out).mono ?_; rintro e w4 ⟨rfl, E4⟩
                rw [HYV.out]
                have HS4 := hide (HSB.out.deed E4)
                clear E4 hZ k0 k1 k2 k3 k4 k5 k6 k7 k8 k9 k10 m0 m1 m2 m3 m4 m5 m6 m7 m8 m9 m10 m11 m12 m13
                go_wp2
                go_loopg [17, 18] tn (fun gk va vk wz => BkRel (w4) (isP (po : Int)) Wt.zero T gk va vk wz)
                case atStart => exact ⟨-1, (tn : Int) - 1, by omega, rfl, rfl, by rw [HTN.out]; exact Nat.le_refl _, by rw [← HTN.out]; exact atF_nil _ _ _, Below.refl _ _⟩
                case round =>
                  rename World => wz
                  obtain ⟨a, k, hk, rfl, rfl, hle, hat, bz⟩ := hrel
                  have HAT := hide hat
                  have HBZ := hide bz
                  have HSL := hide (HS4.out.grow bz)
                  have hl := HSL.out.lw HTN.out
                  rw [HTN.out] at hle
                  have HL := hide hl
                  clear hat bz hl
                  cases gk with
                  | succ g2 =>
                    obtain rfl : k = (g2 : Int) := by omega
                    have hg2 : g2 < tn := by omega
                    have hge : (0 : Int) ≤ (g2 : Int) := by omega
                    have hlt : (g2 : Int) < (tn : Int) := by omega
                    obtain ⟨ae, hae⟩ := HL.out.there hg2
                    subst hae
                    obtain ⟨y, hy⟩ : ∃ y, T.getD g2 Wt.zero = y := ⟨_, rfl⟩
                    obtain ⟨e0, e1⟩ := liesW_elem HL.out g2 hg2 y hy _ rfl
                    obtain ⟨r, hr⟩ : ∃ r, (y.p == (po : Int)) = r := ⟨_, rfl⟩
                    have HQ : Hid (isP (po : Int) (T.getD g2 Wt.zero) = r) := by show _ = _; rw [hy]; exact hr
                    clear hy hk
                    cases r with
                    | true =>
                     as_aux_lemma =>
                      go_wp2
                      go_roundg g2
                      case measure => omega
                      case rel => exact ⟨(g2 : Int), (g2 : Int) - 1, by omega, by go_num, by go_num, by rw [HTN.out]; omega, atF_yes (by rw [HTN.out]; exact hg2) HQ.out, HBZ.out⟩
                    | false =>
                     as_aux_lemma =>
                      go_wp2
                      go_roundg g2
                      case measure => omega
                      case rel => exact ⟨a, (g2 : Int) - 1, by omega, by go_num, by go_num, by rw [HTN.out]; omega, atF_no HAT.out HQ.out, HBZ.out⟩
                  | zero =>
                    obtain rfl : k = -1 := by omega
                    clear hk hle
                    obtain rfl := atF_first HAT.out HF.out
                    have hki : i0 < tn := by rw [← HTN.out]; exact HF.out.1
                    have hge : (0 : Int) ≤ (i0 : Int) := by omega
                    have hlt2 : (i0 : Int) < (tn : Int) := by omega
                    obtain ⟨ae, hae⟩ := HL.out.there hki
                    subst hae
                    obtain ⟨e0, e1⟩ := liesW_elem HL.out i0 hki yv HYV.out _ rfl
                    go_wp2_with fail

                    have HRV := hide (HSL.out.grow (below_d wz 1))
                    obtain ⟨v1, w9a, bo, c9, w9, r1, r2, s9⟩ := HRV.out.cutT (k := i0) hki HTN.out (by omega)
                    have hww : IntKind.i64.wrap ((i0 : Int) + 1) = (i0 : Int) + 1 := by rw [IntKind.wrap_i64]; omega
                    have hc1 := fun W : World => cutG_head Tryd.underlying29 Tryd.sizeOfL W (some ae) tn tc i0 (by omega)
                    have hc2 := fun W : World => cutG_tail Tryd.underlying29 Tryd.sizeOfL W (some ae) tn tc (i0 + 1) (by omega)
                    obtain ⟨ua, hta⟩ : ∃ X, tailG 2 (some ae) (i0 + 1) tc = X := ⟨_, rfl⟩
                    obtain ⟨un, htn⟩ : ∃ X, tn - (i0 + 1) = X := ⟨_, rfl⟩
                    obtain ⟨uc, htc'⟩ : ∃ X, tc - (i0 + 1) = X := ⟨_, rfl⟩
                    rw [hta, htn, htc'] at hc2 r2
                    have hc2' : ∀ W : World, (Instr.slice 29 (.slice (some ae) tn tc) (some (.int .i64 ((i0 : Int) + 1))) none none).run Tryd.prog W = .ok (.slice ua un uc) W := fun W => by rw [← hc2 W]; rfl
                    obtain ⟨d9, hd9⟩ : ∃ d, tn - 1 = d := ⟨_, rfl⟩
                    rw [hd9] at r2 s9
                    have HRN1 := hide r1
                    have HRN2 := hide r2
                    have HSC9 := hide s9
                    have HD9 := hide hd9
                    clear r1 r2 s9 hc2 hta htn htc' hd9 HRV e0 e1
                    refine region_till (fun _ => True) 9 (by kernel_rfl) ?_
                    refine till_take [0, 9] (i := 0) (oi := { dst := some 136, op := Op.move (Operand.tmp 4), type := 29, pos := "law.go:67", after := #[], guard := none }) (v := (.slice (some ae) tn tc)) rfl (by kernel_rfl) (by kernel_rfl) (by kernel_rfl) (by kernel_rfl) (fun _ _ _ h => h) (Or.inl ⟨by kernel_rfl, fun w hC => by go_simp⟩) trivial ?_
                    simp only [Act.put, List.setIfInBounds_toArray, List.set_cons_zero, List.set_cons_succ]
                    refine till_take [1, 9] (i := 1) (oi := { dst := some 137, op := Op.move (Operand.tmp 17), type := 3, pos := "law.go:67", after := #[], guard := none }) (v := (.int .i64 (i0 : Int))) rfl (by kernel_rfl) (by kernel_rfl) (by kernel_rfl) (by kernel_rfl) (fun _ _ _ h => h) (Or.inl ⟨by kernel_rfl, fun w hC => by go_simp⟩) trivial ?_
                    simp only [Act.put, List.setIfInBounds_toArray, List.set_cons_zero, List.set_cons_succ]
                    refine till_take [2, 9] (i := 2) (oi := { dst := some 138, op := Op.slice 29 (Operand.tmp 136) none (some (Operand.tmp 137)) none, type := 29, pos := "law.go:67", after := #[{ on := 0, ground := Ground.data }, { on := 1, ground := Ground.data }], guard := none }) (v := (.slice (some ae) i0 tc)) rfl (by kernel_rfl) (by kernel_rfl) (by kernel_rfl) (by kernel_rfl) (fun _ _ _ h => h) (Or.inl ⟨by kernel_rfl, fun w hC => by go_simp⟩) trivial ?_
                    simp only [Act.put, List.setIfInBounds_toArray, List.set_cons_zero, List.set_cons_succ]
                    refine till_take [4, 9] (i := 4) (oi := { dst := some 140, op := Op.move (Operand.tmp 4), type := 29, pos := "law.go:67", after := #[], guard := none }) (v := (.slice (some ae) tn tc)) rfl (by kernel_rfl) (by kernel_rfl) (by kernel_rfl) (by kernel_rfl) (fun _ _ _ h => h) (Or.inl ⟨by kernel_rfl, fun w hC => by go_simp⟩) trivial ?_
                    simp only [Act.put, List.setIfInBounds_toArray, List.set_cons_zero, List.set_cons_succ]
                    refine till_take [5, 9] (i := 5) (oi := { dst := some 141, op := Op.move (Operand.tmp 17), type := 3, pos := "law.go:67", after := #[], guard := none }) (v := (.int .i64 (i0 : Int))) rfl (by kernel_rfl) (by kernel_rfl) (by kernel_rfl) (by kernel_rfl) (fun _ _ _ h => h) (Or.inl ⟨by kernel_rfl, fun w hC => by go_simp⟩) trivial ?_
                    simp only [Act.put, List.setIfInBounds_toArray, List.set_cons_zero, List.set_cons_succ]
                    refine till_take [6, 9] (i := 6) (oi := { dst := some 142, op := Op.binOp BinOp.add 3 (Operand.tmp 141) (Operand.const (Value.int IntKind.i64 1)) 3, type := 3, pos := "law.go:67", after := #[{ on := 5, ground := Ground.data }], guard := none }) (v := (.int .i64 ((i0 : Int) + 1))) rfl (by kernel_rfl) (by kernel_rfl) (by kernel_rfl) (by kernel_rfl) (fun _ _ _ h => h) (Or.inl ⟨by kernel_rfl, fun w hC => by go_simp⟩) trivial ?_
                    simp only [Act.put, List.setIfInBounds_toArray, List.set_cons_zero, List.set_cons_succ]
                    refine till_take [7, 9] (i := 7) (oi := { dst := some 143, op := Op.slice 29 (Operand.tmp 140) (some (Operand.tmp 142)) none none, type := 29, pos := "law.go:67", after := #[{ on := 4, ground := Ground.data }, { on := 6, ground := Ground.data }], guard := none }) (v := (.slice ua un uc)) rfl (by kernel_rfl) (by kernel_rfl) (by kernel_rfl) (by kernel_rfl) (fun _ _ _ h => h) (Or.inl ⟨by kernel_rfl, fun w hC => by go_simp⟩) trivial ?_
                    simp only [Act.put, List.setIfInBounds_toArray, List.set_cons_zero, List.set_cons_succ]
                    refine till_ready (rs := [3]) (by kernel_rfl) (by simp) ?_
                    refine AllTill.cons (o := { dst := some 139, op := Op.call { callee := Callee.builtin Builtin.append, args := #[Operand.const (Value.slice none 0 0), Operand.tmp 138], argTypes := #[29, 29] }, type := 29, pos := "law.go:67", after := #[{ on := 2, ground := Ground.data }], guard := none }) rfl (fun K hK => ?_) AllTill.nil
                    refine step_run rfl _ _ _ rfl (.slice none 0 0) (.slice (some ae) i0 tc) v1 w9a rfl rfl HRN1.out ?_
                    refine hK.out _ _ (fun _ => trivial) ?_
                    simp only [Act.put, List.setIfInBounds_toArray, List.set_cons_zero, List.set_cons_succ]
                    refine till_ready (rs := [8]) (by kernel_rfl) (by simp) ?_
                    refine AllTill.cons (o := { dst := some 144, op := Op.call { callee := Callee.builtin Builtin.append, args := #[Operand.tmp 139, Operand.tmp 143], argTypes := #[29, 29] }, type := 29, pos := "law.go:67", after := #[{ on := 3, ground := Ground.data }, { on := 7, ground := Ground.data }, { on := 3, ground := Ground.chain }], guard := none }) rfl (fun K hK => ?_) AllTill.nil
                    refine step_run rfl _ _ _ rfl v1 (.slice ua un uc) (.slice bo d9 c9) w9 rfl rfl HRN2.out ?_
                    refine hK.out _ _ (fun _ => trivial) ?_
                    simp only [Act.put, List.setIfInBounds_toArray, List.set_cons_zero, List.set_cons_succ]
                    refine till_ready (rs := [9]) (by kernel_rfl) (by simp) ?_
                    refine AllTill.cons (o := { dst := some 4, op := Op.assign (Operand.tmp 144), type := 29, pos := "law.go:67", after := #[{ on := 8, ground := Ground.data }, { on := 8, ground := Ground.chain }, { on := 0, ground := Ground.phase }, { on := 1, ground := Ground.phase }, { on := 2, ground := Ground.phase }, { on := 3, ground := Ground.phase }, { on := 4, ground := Ground.phase }, { on := 5, ground := Ground.phase }, { on := 6, ground := Ground.phase }, { on := 7, ground := Ground.phase }, { on := 8, ground := Ground.phase }], guard := none }) rfl (fun K hK => ?_) AllTill.nil
                    go_simp
                    refine hK.out _ _ (fun _ => trivial) ?_
                    refine till_done (by kernel_rfl) ?_ _

                    as_aux_lemma =>
                    go_wp2
                    go_roundg g1
                    case measure => have := HI.out; omega
                    case rel => exact ⟨i + 1, T.eraseIdx i0, R, by have := HI.out; omega, by go_num, HSC9.out, HINV.out.erase i0⟩
              · by_cases h64 : 64 ≤ rn
                · as_aux_lemma =>
                    have HNO := hide hno
                    clear hno
                    go_wp2_with fail
                    refine (offer_full (x.m.to (po : Int)) _ HSB.out.st HNO.out (by rw [List.length_map, HRN.out]; exact h64)).mono ?_; rintro e w4 ⟨rfl, b4⟩
                    rw [erN_not (by decide)]
                    have HS4 := hide (HSB.out.grow b4)
                    clear b4 hZ k0 k1 k2 k3 k4 k5 k6 k7 k8 k9 k10 m0 m1 m2 m3 m4 m5 m6 m7 m8 m9 m10 m11 m12 m13
                    go_wp2
                    go_loopg [17, 18] tn (fun gk va vk wz => BkRel (w4) (isP (po : Int)) Wt.zero T gk va vk wz)
                    case atStart => exact ⟨-1, (tn : Int) - 1, by omega, rfl, rfl, by rw [HTN.out]; exact Nat.le_refl _, by rw [← HTN.out]; exact atF_nil _ _ _, Below.refl _ _⟩
                    case round =>
                      rename World => wz
                      obtain ⟨a, k, hk, rfl, rfl, hle, hat, bz⟩ := hrel
                      have HAT := hide hat
                      have HBZ := hide bz
                      have HSL := hide (HS4.out.grow bz)
                      have hl := HSL.out.lw HTN.out
                      rw [HTN.out] at hle
                      have HL := hide hl
                      clear hat bz hl
                      cases gk with
                      | succ g2 =>
                        obtain rfl : k = (g2 : Int) := by omega
                        have hg2 : g2 < tn := by omega
                        have hge : (0 : Int) ≤ (g2 : Int) := by omega
                        have hlt : (g2 : Int) < (tn : Int) := by omega
                        obtain ⟨ae, hae⟩ := HL.out.there hg2
                        subst hae
                        obtain ⟨y, hy⟩ : ∃ y, T.getD g2 Wt.zero = y := ⟨_, rfl⟩
                        obtain ⟨e0, e1⟩ := liesW_elem HL.out g2 hg2 y hy _ rfl
                        obtain ⟨r, hr⟩ : ∃ r, (y.p == (po : Int)) = r := ⟨_, rfl⟩
                        have HQ : Hid (isP (po : Int) (T.getD g2 Wt.zero) = r) := by show _ = _; rw [hy]; exact hr
                        clear hy hk
                        cases r with
                        | true =>
                         as_aux_lemma =>
                          go_wp2
                          go_roundg g2
                          case measure => omega
                          case rel => exact ⟨(g2 : Int), (g2 : Int) - 1, by omega, by go_num, by go_num, by rw [HTN.out]; omega, atF_yes (by rw [HTN.out]; exact hg2) HQ.out, HBZ.out⟩
                        | false =>
                         as_aux_lemma =>
                          go_wp2
                          go_roundg g2
                          case measure => omega
                          case rel => exact ⟨a, (g2 : Int) - 1, by omega, by go_num, by go_num, by rw [HTN.out]; omega, atF_no HAT.out HQ.out, HBZ.out⟩
                      | zero =>
                        obtain rfl : k = -1 := by omega
                        clear hk hle
                        obtain rfl := atF_none HAT.out HNO.out
                        have h64i : (64 : Int) ≤ (rn : Int) := by omega
                        go_wp2_with fail
                        refine (number_errno 5 _ (HG.out.grow HSL.out.bel HG.out.lt)).mono ?_; rintro e w5 ⟨rfl, b5⟩
                        have HS5 := hide (HSL.out.grow b5)
                        clear b5
                        as_aux_lemma =>
                          go_wp2_with fail
                          refine (len_any _ HS5.out.st).mono ?_; rintro e w9 ⟨rfl, b9⟩
                          rw [show (((T).length : Nat) : Int) = ((tn : Nat) : Int) from congrArg Nat.cast (HTN.out), show (((List.map Ms.nm (R)).length : Nat) : Int) = ((rn : Nat) : Int) from congrArg Nat.cast (by rw [List.length_map]; exact HRN.out)]
                          have HS9 := hide (HS5.out.grow b9)
                          clear b9
                          go_wp2
                          go_roundg g1
                          case measure => have := HI.out; omega
                          case rel => exact ⟨i + 1, T, R, by have := HI.out; omega, by go_num, HS9.out, HINV.out⟩
                · have HNO := hide hno
                  clear hno
                  go_wp2_with fail
                  refine (offer_wait (x.m.to (po : Int)) _ HSB.out.st HSB.out.lt (Bts.carry HPX.out.1 HSB.out.bel) HPX.out.2 HNO.out (by rw [List.length_map, HRN.out]; omega)).mono ?_; rintro e w4 ⟨rfl, E4⟩
                  have HS4 := hide (HSB.out.deed E4)
                  have HB4 := hide (HSB.out.boxM HBX.out E4.2)
                  clear E4 hZ k0 k1 k2 k3 k4 k5 k6 k7 k8 k9 k10 m0 m1 m2 m3 m4 m5 m6 m7 m8 m9 m10 m11 m12 m13
                  go_wp2
                  go_loopg [17, 18] tn (fun gk va vk wz => BkRel (w4) (isP (po : Int)) Wt.zero T gk va vk wz)
                  case atStart => exact ⟨-1, (tn : Int) - 1, by omega, rfl, rfl, by rw [HTN.out]; exact Nat.le_refl _, by rw [← HTN.out]; exact atF_nil _ _ _, Below.refl _ _⟩
                  case round =>
                    rename World => wz
                    obtain ⟨a, k, hk, rfl, rfl, hle, hat, bz⟩ := hrel
                    have HAT := hide hat
                    have HBZ := hide bz
                    have HSL := hide (HS4.out.grow bz)
                    have hl := HSL.out.lw HTN.out
                    rw [HTN.out] at hle
                    have HL := hide hl
                    clear hat bz hl
                    cases gk with
                    | succ g2 =>
                      obtain rfl : k = (g2 : Int) := by omega
                      have hg2 : g2 < tn := by omega
                      have hge : (0 : Int) ≤ (g2 : Int) := by omega
                      have hlt : (g2 : Int) < (tn : Int) := by omega
                      obtain ⟨ae, hae⟩ := HL.out.there hg2
                      subst hae
                      obtain ⟨y, hy⟩ : ∃ y, T.getD g2 Wt.zero = y := ⟨_, rfl⟩
                      obtain ⟨e0, e1⟩ := liesW_elem HL.out g2 hg2 y hy _ rfl
                      obtain ⟨r, hr⟩ : ∃ r, (y.p == (po : Int)) = r := ⟨_, rfl⟩
                      have HQ : Hid (isP (po : Int) (T.getD g2 Wt.zero) = r) := by show _ = _; rw [hy]; exact hr
                      clear hy hk
                      cases r with
                      | true =>
                       as_aux_lemma =>
                        go_wp2
                        go_roundg g2
                        case measure => omega
                        case rel => exact ⟨(g2 : Int), (g2 : Int) - 1, by omega, by go_num, by go_num, by rw [HTN.out]; omega, atF_yes (by rw [HTN.out]; exact hg2) HQ.out, HBZ.out⟩
                      | false =>
                       as_aux_lemma =>
                        go_wp2
                        go_roundg g2
                        case measure => omega
                        case rel => exact ⟨a, (g2 : Int) - 1, by omega, by go_num, by go_num, by rw [HTN.out]; omega, atF_no HAT.out HQ.out, HBZ.out⟩
                    | zero =>
                      obtain rfl : k = -1 := by omega
                      clear hk hle
                      obtain rfl := atF_none HAT.out HNO.out
                      have h64i : ¬ ((64 : Int) ≤ (rn : Int)) := by omega
                      have h64j : (rn : Int) < 64 := by omega
                      obtain ⟨k0, k1, k2, k3, k4, k5, k6, k7, k8, k9, k10⟩ := (HB4.out.grow HBZ.out).all
                      simp only [Ms.to] at k0 k1 k2 k3 k4 k5 k6 k7 k8 k9 k10
                      obtain ⟨bo, dd, w5, hr5, s5⟩ := HSL.out.appR (x.m.to (po : Int)) HPX.out (by rw [HRN.out]; omega)
                      rw [HRN.out] at hr5 s5
                      have HR5 := hide hr5
                      have HS5 : Hid (Sc w w5 g (.slice ta tn tc) (.slice bo (rn + 1) dd) T (R ++ [x.m.to (po : Int)]) T ((R ++ [x.m.to (po : Int)]).map Ms.nm)) := by
                        rw [List.map_append]; exact s5
                      clear hr5 s5
                      go_wp2_with (at_builtin; refine wpList_append_run rfl _ _ _ rfl _ _ _ _ rfl rfl HR5.out ?_)
                      clear k0 k1 k2 k3 k4 k5 k6 k7 k8 k9 k10
                      as_aux_lemma =>
                        go_wp2_with fail
                        refine (len_any _ HS5.out.st).mono ?_; rintro e w9 ⟨rfl, b9⟩
                        rw [show (((T).length : Nat) : Int) = ((tn : Nat) : Int) from congrArg Nat.cast (HTN.out), show (((List.map Ms.nm (R ++ [x.m.to (po : Int)])).length : Nat) : Int) = ((rn + 1 : Nat) : Int) from congrArg Nat.cast (by rw [List.length_map, List.length_append, HRN.out]; rfl)]
                        have HS9 := hide (HS5.out.grow b9)
                        clear b9
                        go_wp2
                        go_roundg g1
                        case measure => have := HI.out; omega
                        case rel => exact ⟨i + 1, T, R ++ [x.m.to (po : Int)], by have := HI.out; omega, by go_num, HS9.out, HINV.out⟩
          · cases is with
            | true =>
              as_aux_lemma =>
                have hb : Below w3.heap.size w3 w3 := Below.refl _ _
                go_wp2_with fail
                refine (get_state (po : Int) (th : Int) _ HS3.out.st HIS.out).mono ?_; rintro e w4 ⟨rfl, E4⟩
                rw [erN_not (by decide)]
                have bz := below_alloc w4 (.cells #[.int .u64 0, .int .u64 0, .int .u32 0, .int .u16 0, .int .u16 0, .int .u64 0, .int .u32 0, .int .u8 0, .int .u64 0, .int .u64 0, .slice none 0 0] 37)
                have HS4 := hide ((HS3.out.deed E4).grow bz)
                clear E4 bz hb m0 m1 m2 m3 m4 m5 m6 m7 m8 m9 m10 m11 m12 m13

                go_wp2
                go_loopg [22, 23] rn (fun gk va vk wz => BkRel (w4.alloc (.cells #[.int .u64 0, .int .u64 0, .int .u32 0, .int .u16 0, .int .u16 0, .int .u64 0, .int .u32 0, .int .u8 0, .int .u64 0, .int .u64 0, .slice none 0 0] 37)) (isTo (po : Int)) Ms.zero R gk va vk wz)
                case atStart => exact ⟨-1, (rn : Int) - 1, by omega, rfl, rfl, by rw [HRN.out]; exact Nat.le_refl _, by rw [← HRN.out]; exact atF_nil _ _ _, Below.refl _ _⟩
                case round =>
                  rename World => wz
                  obtain ⟨a, k, hk, rfl, rfl, hle, hat, bz⟩ := hrel
                  have HAT := hide hat
                  have HBZ := hide bz
                  have HSL := hide (HS4.out.grow bz)
                  have hl := HSL.out.lr HRN.out
                  rw [HRN.out] at hle
                  have HL := hide hl
                  clear hat bz hl
                  cases gk with
                  | succ g2 =>
                    obtain rfl : k = (g2 : Int) := by omega
                    have hg2 : g2 < rn := by omega
                    have hge : (0 : Int) ≤ (g2 : Int) := by omega
                    have hlt : (g2 : Int) < (rn : Int) := by omega
                    obtain ⟨ae, hae⟩ := HL.out.there hg2
                    subst hae
                    obtain ⟨y, hy⟩ : ∃ y, R.getD g2 Ms.zero = y := ⟨_, rfl⟩
                    obtain ⟨e0, _⟩ := lies_elem HL.out g2 hg2 y hy _ rfl
                    obtain ⟨r, hr⟩ : ∃ r, (y.ta == (po : Int)) = r := ⟨_, rfl⟩
                    have HQ : Hid (isTo (po : Int) (R.getD g2 Ms.zero) = r) := by show _ = _; rw [hy]; exact hr
                    clear hy hk
                    cases r with
                    | true =>
                     as_aux_lemma =>
                      go_wp2
                      go_roundg g2
                      case measure => omega
                      case rel => exact ⟨(g2 : Int), (g2 : Int) - 1, by omega, by go_num, by go_num, by rw [HRN.out]; omega, atF_yes (by rw [HRN.out]; exact hg2) HQ.out, HBZ.out⟩
                    | false =>
                     as_aux_lemma =>
                      go_wp2
                      go_roundg g2
                      case measure => omega
                      case rel => exact ⟨a, (g2 : Int) - 1, by omega, by go_num, by go_num, by rw [HRN.out]; omega, atF_no HAT.out HQ.out, HBZ.out⟩
                  | zero =>
                    obtain rfl : k = -1 := by omega
                    clear hk hle
                    go_wp2_with fail
                    refine (number_errno 15 _ (HG.out.grow HSL.out.bel HG.out.lt)).mono ?_; rintro e w5 ⟨rfl, b5⟩
                    have HS5 := hide (HSL.out.grow b5)
                    clear b5
                    as_aux_lemma =>
                      go_wp2_with fail
                      refine (len_any _ HS5.out.st).mono ?_; rintro e w9 ⟨rfl, b9⟩
                      rw [show (((T).length : Nat) : Int) = ((tn : Nat) : Int) from congrArg Nat.cast (HTN.out), show (((List.map Ms.nm (R)).length : Nat) : Int) = ((rn : Nat) : Int) from congrArg Nat.cast (by rw [List.length_map]; exact HRN.out)]
                      have HS9 := hide (HS5.out.grow b9)
                      clear b9
                      go_wp2
                      go_roundg g1
                      case measure => have := HI.out; omega
                      case rel => exact ⟨i + 1, T, R, by have := HI.out; omega, by go_num, HS9.out, HINV.out⟩
            | false =>
              rcases first_or (isTo (po : Int)) Ms.zero R with ⟨i0, hf⟩ | hno
              · have HF := hide hf
                clear hf
                go_wp2_with fail
                refine (get_hit (po : Int) (th : Int) i0 _ HS3.out.st HS3.out.lt HIS.out (firstM_nm HF.out)).mono ?_; rintro e w4 ⟨q, rfl, hq, hqh, _, E4⟩
                obtain ⟨Z, hZ⟩ : ∃ Z, w4.alloc (.cells #[.int .u64 q.ta, .int .u64 q.rp, .int .u32 q.id, .int .u16 q.op, .int .u16 q.st, .int .u64 q.p, .int .u32 q.o, .int .u8 q.r, .int .u64 q.c, .int .u64 q.ar, .slice q.so q.sn q.sc] 37) = Z := ⟨_, rfl⟩
                have bZ : Below w4.heap.size w4 Z := hZ ▸ below_alloc w4 _
                have HBX : Hid (BoxM Z w4.heap.size q) := hZ ▸ boxM_new w4 q
                have HS4 := hide ((HS3.out.deed E4).grow bZ)
                have HQZ := hide (Bts.carry hqh bZ)
                have HQE : Hid (q.nm = (R.getD i0 Ms.zero).nm) := by show _ = _; rw [hq, getM_nm]
                clear E4 bZ hq hqh m0 m1 m2 m3 m4 m5 m6 m7 m8 m9 m10 m11 m12 m13

                go_wp2
                go_loopg [22, 23] rn (fun gk va vk wz => BkRel (Z) (isTo (po : Int)) Ms.zero R gk va vk wz)
                case atStart => exact ⟨-1, (rn : Int) - 1, by omega, rfl, rfl, by rw [HRN.out]; exact Nat.le_refl _, by rw [← HRN.out]; exact atF_nil _ _ _, Below.refl _ _⟩
                case round =>
                  rename World => wz
                  obtain ⟨a, k, hk, rfl, rfl, hle, hat, bz⟩ := hrel
                  have HAT := hide hat
                  have HBZ := hide bz
                  have HSL := hide (HS4.out.grow bz)
                  have hl := HSL.out.lr HRN.out
                  rw [HRN.out] at hle
                  have HL := hide hl
                  clear hat bz hl
                  cases gk with
                  | succ g2 =>
                    obtain rfl : k = (g2 : Int) := by omega
                    have hg2 : g2 < rn := by omega
                    have hge : (0 : Int) ≤ (g2 : Int) := by omega
                    have hlt : (g2 : Int) < (rn : Int) := by omega
                    obtain ⟨ae, hae⟩ := HL.out.there hg2
                    subst hae
                    obtain ⟨y, hy⟩ : ∃ y, R.getD g2 Ms.zero = y := ⟨_, rfl⟩
                    obtain ⟨e0, _⟩ := lies_elem HL.out g2 hg2 y hy _ rfl
                    obtain ⟨r, hr⟩ : ∃ r, (y.ta == (po : Int)) = r := ⟨_, rfl⟩
                    have HQ : Hid (isTo (po : Int) (R.getD g2 Ms.zero) = r) := by show _ = _; rw [hy]; exact hr
                    clear hy hk
                    cases r with
                    | true =>
                     as_aux_lemma =>
                      go_wp2
                      go_roundg g2
                      case measure => omega
                      case rel => exact ⟨(g2 : Int), (g2 : Int) - 1, by omega, by go_num, by go_num, by rw [HRN.out]; omega, atF_yes (by rw [HRN.out]; exact hg2) HQ.out, HBZ.out⟩
                    | false =>
                     as_aux_lemma =>
                      go_wp2
                      go_roundg g2
                      case measure => omega
                      case rel => exact ⟨a, (g2 : Int) - 1, by omega, by go_num, by go_num, by rw [HRN.out]; omega, atF_no HAT.out HQ.out, HBZ.out⟩
                  | zero =>
                    obtain rfl : k = -1 := by omega
                    clear hk hle
                    obtain rfl := atF_first HAT.out HF.out
                    have hki : i0 < rn := by rw [← HRN.out]; exact HF.out.1
                    have hge : (0 : Int) ≤ (i0 : Int) := by omega
                    have hlt2 : (i0 : Int) < (rn : Int) := by omega
                    obtain ⟨ar, har⟩ := HL.out.there hki
                    subst har
                    obtain ⟨p, hp⟩ : ∃ p, R.getD i0 Ms.zero = p := ⟨_, rfl⟩
                    obtain ⟨aq, haq⟩ : ∃ aq, ar.add (i0 * 11) = aq := ⟨_, rfl⟩
                    have HPM : Hid (p ∈ R) := hp ▸ getM_mem R i0 HF.out.1
                    have HQN : Hid (q.nm = p.nm) := by show _ = _; rw [HQE.out, hp]
                    have HQH : Hid (q.has wz) := Bts.carry HQZ.out HBZ.out
                    have HAH : Hid (∀ W : World, Below wz.heap.size wz W → (W.cell? aq = some (.int .u64 p.ta) ∧ W.cell? { block := aq.block, off := aq.off + 1 } = some (.int .u64 p.rp) ∧ W.cell? { block := aq.block, off := aq.off + 2 } = some (.int .u32 p.id) ∧ W.cell? { block := aq.block, off := aq.off + 3 } = some (.int .u16 p.op) ∧ W.cell? { block := aq.block, off := aq.off + 4 } = some (.int .u16 p.st) ∧ W.cell? { block := aq.block, off := aq.off + 5 } = some (.int .u64 p.p) ∧ W.cell? { block := aq.block, off := aq.off + 6 } = some (.int .u32 p.o) ∧ W.cell? { block := aq.block, off := aq.off + 7 } = some (.int .u8 p.r) ∧ W.cell? { block := aq.block, off := aq.off + 8 } = some (.int .u64 p.c) ∧ W.cell? { block := aq.block, off := aq.off + 9 } = some (.int .u64 p.ar) ∧ W.cell? { block := aq.block, off := aq.off + 10 } = some (.slice p.so p.sn p.sc)) ∧ W.cell? ⟨w4.heap.size, 0, none⟩ = some (.int .u64 q.ta) ∧ W.cell? ⟨w4.heap.size, 1, none⟩ = some (.int .u64 q.rp) ∧ W.cell? ⟨w4.heap.size, 2, none⟩ = some (.int .u32 q.id) ∧ W.cell? ⟨w4.heap.size, 3, none⟩ = some (.int .u16 q.op) ∧ W.cell? ⟨w4.heap.size, 4, none⟩ = some (.int .u16 q.st) ∧ W.cell? ⟨w4.heap.size, 5, none⟩ = some (.int .u64 q.p) ∧ W.cell? ⟨w4.heap.size, 6, none⟩ = some (.int .u32 q.o) ∧ W.cell? ⟨w4.heap.size, 7, none⟩ = some (.int .u8 q.r) ∧ W.cell? ⟨w4.heap.size, 8, none⟩ = some (.int .u64 q.c) ∧ W.cell? ⟨w4.heap.size, 9, none⟩ = some (.int .u64 q.ar) ∧ W.cell? ⟨w4.heap.size, 10, none⟩ = some (.slice q.so q.sn q.sc)) := fun W bw => ⟨lies_elem (HL.out.carry bw (Nat.le_refl _)) i0 hki p hp aq haq, ((HBX.out.grow HBZ.out).grow bw).all⟩
                    clear hp hZ
                    go_wp2_with fail

                    have hS : Hid ((wz.drew.cell? aq = some (.int .u64 p.ta) ∧ wz.drew.cell? { block := aq.block, off := aq.off + 1 } = some (.int .u64 p.rp) ∧ wz.drew.cell? { block := aq.block, off := aq.off + 2 } = some (.int .u32 p.id) ∧ wz.drew.cell? { block := aq.block, off := aq.off + 3 } = some (.int .u16 p.op) ∧ wz.drew.cell? { block := aq.block, off := aq.off + 4 } = some (.int .u16 p.st) ∧ wz.drew.cell? { block := aq.block, off := aq.off + 5 } = some (.int .u64 p.p) ∧ wz.drew.cell? { block := aq.block, off := aq.off + 6 } = some (.int .u32 p.o) ∧ wz.drew.cell? { block := aq.block, off := aq.off + 7 } = some (.int .u8 p.r) ∧ wz.drew.cell? { block := aq.block, off := aq.off + 8 } = some (.int .u64 p.c) ∧ wz.drew.cell? { block := aq.block, off := aq.off + 9 } = some (.int .u64 p.ar) ∧ wz.drew.cell? { block := aq.block, off := aq.off + 10 } = some (.slice p.so p.sn p.sc)) ∧ wz.drew.cell? ⟨w4.heap.size, 0, none⟩ = some (.int .u64 q.ta) ∧ wz.drew.cell? ⟨w4.heap.size, 1, none⟩ = some (.int .u64 q.rp) ∧ wz.drew.cell? ⟨w4.heap.size, 2, none⟩ = some (.int .u32 q.id) ∧ wz.drew.cell? ⟨w4.heap.size, 3, none⟩ = some (.int .u16 q.op) ∧ wz.drew.cell? ⟨w4.heap.size, 4, none⟩ = some (.int .u16 q.st) ∧ wz.drew.cell? ⟨w4.heap.size, 5, none⟩ = some (.int .u64 q.p) ∧ wz.drew.cell? ⟨w4.heap.size, 6, none⟩ = some (.int .u32 q.o) ∧ wz.drew.cell? ⟨w4.heap.size, 7, none⟩ = some (.int .u8 q.r) ∧ wz.drew.cell? ⟨w4.heap.size, 8, none⟩ = some (.int .u64 q.c) ∧ wz.drew.cell? ⟨w4.heap.size, 9, none⟩ = some (.int .u64 q.ar) ∧ wz.drew.cell? ⟨w4.heap.size, 10, none⟩ = some (.slice q.so q.sn q.sc)) := HAH.out _ (below_d wz 1)
                    have bb : Below wz.heap.size wz wz.drew := below_d wz 1
                    refine wp_region_held_drew (S := fun W => (W.cell? aq = some (.int .u64 p.ta) ∧ W.cell? { block := aq.block, off := aq.off + 1 } = some (.int .u64 p.rp) ∧ W.cell? { block := aq.block, off := aq.off + 2 } = some (.int .u32 p.id) ∧ W.cell? { block := aq.block, off := aq.off + 3 } = some (.int .u16 p.op) ∧ W.cell? { block := aq.block, off := aq.off + 4 } = some (.int .u16 p.st) ∧ W.cell? { block := aq.block, off := aq.off + 5 } = some (.int .u64 p.p) ∧ W.cell? { block := aq.block, off := aq.off + 6 } = some (.int .u32 p.o) ∧ W.cell? { block := aq.block, off := aq.off + 7 } = some (.int .u8 p.r) ∧ W.cell? { block := aq.block, off := aq.off + 8 } = some (.int .u64 p.c) ∧ W.cell? { block := aq.block, off := aq.off + 9 } = some (.int .u64 p.ar) ∧ W.cell? { block := aq.block, off := aq.off + 10 } = some (.slice p.so p.sn p.sc)) ∧ W.cell? ⟨w4.heap.size, 0, none⟩ = some (.int .u64 q.ta) ∧ W.cell? ⟨w4.heap.size, 1, none⟩ = some (.int .u64 q.rp) ∧ W.cell? ⟨w4.heap.size, 2, none⟩ = some (.int .u32 q.id) ∧ W.cell? ⟨w4.heap.size, 3, none⟩ = some (.int .u16 q.op) ∧ W.cell? ⟨w4.heap.size, 4, none⟩ = some (.int .u16 q.st) ∧ W.cell? ⟨w4.heap.size, 5, none⟩ = some (.int .u64 q.p) ∧ W.cell? ⟨w4.heap.size, 6, none⟩ = some (.int .u32 q.o) ∧ W.cell? ⟨w4.heap.size, 7, none⟩ = some (.int .u8 q.r) ∧ W.cell? ⟨w4.heap.size, 8, none⟩ = some (.int .u64 q.c) ∧ W.cell? ⟨w4.heap.size, 9, none⟩ = some (.int .u64 q.ar) ∧ W.cell? ⟨w4.heap.size, 10, none⟩ = some (.slice q.so q.sn q.sc)) (by kernel_rfl) hS.out (fun _ => ?_)
                    refine wpAnyH_take (i := 0) (oi := { dst := some 229, op := Op.move (Operand.tmp 20), type := 4, pos := "law.go:90", after := #[], guard := none }) (v := (.bool true)) rfl (by kernel_rfl) (by kernel_rfl) (by kernel_rfl) (fun _ _ _ h => h) (Or.inl ⟨by kernel_rfl, fun w hC => by go_simp⟩) hS.out ?_
                    simp only [Act.put, List.setIfInBounds_toArray, List.set_cons_zero, List.set_cons_succ]
                    refine wpAnyH_take (i := 1) (oi := { dst := some 230, op := Op.unOp UnOp.not 4 (Operand.tmp 229), type := 4, pos := "law.go:90", after := #[{ on := 0, ground := Ground.data }], guard := none }) (v := (.bool false)) rfl (by kernel_rfl) (by kernel_rfl) (by kernel_rfl) (fun _ _ _ h => h) (Or.inl ⟨by kernel_rfl, fun w hC => by go_simp⟩) hS.out ?_
                    simp only [Act.put, List.setIfInBounds_toArray, List.set_cons_zero, List.set_cons_succ]
                    refine wpAnyH_take (i := 2) (oi := { dst := some 231, op := Op.move (Operand.tmp 230), type := 4, pos := "law.go:90", after := #[{ on := 1, ground := Ground.data }], guard := none }) (v := (.bool false)) rfl (by kernel_rfl) (by kernel_rfl) (by kernel_rfl) (fun _ _ _ h => h) (Or.inl ⟨by kernel_rfl, fun w hC => by go_simp⟩) hS.out ?_
                    simp only [Act.put, List.setIfInBounds_toArray, List.set_cons_zero, List.set_cons_succ]
                    refine wpAnyH_take (i := 3) (oi := { dst := some 232, op := Op.move (Operand.tmp 21), type := 44, pos := "law.go:90", after := #[{ on := 2, ground := Ground.guard }], guard := some (2, false) }) (v := .nilIface) rfl (by kernel_rfl) (by kernel_rfl) (by kernel_rfl) (fun _ _ _ h => h) (Or.inl ⟨by kernel_rfl, fun w hC => by go_simp⟩) hS.out ?_
                    simp only [Act.put, List.setIfInBounds_toArray, List.set_cons_zero, List.set_cons_succ]
                    refine wpAnyH_take (i := 4) (oi := { dst := some 233, op := Op.binOp BinOp.neq 44 (Operand.tmp 232) (Operand.const Value.nilIface) 44, type := 4, pos := "law.go:90", after := #[{ on := 3, ground := Ground.data }, { on := 2, ground := Ground.guard }], guard := some (2, false) }) (v := (.bool false)) rfl (by kernel_rfl) (by kernel_rfl) (by kernel_rfl) (fun _ _ _ h => h) (Or.inl ⟨by kernel_rfl, fun w hC => by go_simp⟩) hS.out ?_
                    simp only [Act.put, List.setIfInBounds_toArray, List.set_cons_zero, List.set_cons_succ]
                    refine wpAnyH_take (i := 5) (oi := { dst := some 234, op := Op.pick (Operand.tmp 231) (Operand.const (Value.bool true)) (Operand.tmp 233), type := 4, pos := "law.go:90", after := #[{ on := 2, ground := Ground.data }, { on := 4, ground := Ground.data }], guard := none }) (v := (.bool false)) rfl (by kernel_rfl) (by kernel_rfl) (by kernel_rfl) (fun _ _ _ h => h) (Or.inl ⟨by kernel_rfl, fun w hC => by go_simp⟩) hS.out ?_
                    simp only [Act.put, List.setIfInBounds_toArray, List.set_cons_zero, List.set_cons_succ]
                    refine wpAnyH_take (i := 6) (oi := { dst := some 235, op := Op.move (Operand.tmp 234), type := 4, pos := "law.go:90", after := #[{ on := 5, ground := Ground.data }, { on := 2, ground := Ground.chain }], guard := none }) (v := (.bool false)) rfl (by kernel_rfl) (by kernel_rfl) (by kernel_rfl) (fun _ _ _ h => h) (Or.inl ⟨by kernel_rfl, fun w hC => by go_simp⟩) hS.out ?_
                    simp only [Act.put, List.setIfInBounds_toArray, List.set_cons_zero, List.set_cons_succ]
                    refine wpAnyH_take (i := 8) (oi := { dst := some 237, op := Op.move (Operand.tmp 5), type := 26, pos := "law.go:90", after := #[{ on := 6, ground := Ground.guard }], guard := some (6, false) }) (v := (.slice (some ar) rn rc)) rfl (by kernel_rfl) (by kernel_rfl) (by kernel_rfl) (fun _ _ _ h => h) (Or.inl ⟨by kernel_rfl, fun w hC => by go_simp⟩) hS.out ?_
                    simp only [Act.put, List.setIfInBounds_toArray, List.set_cons_zero, List.set_cons_succ]
                    refine wpAnyH_take (i := 9) (oi := { dst := some 238, op := Op.move (Operand.tmp 22), type := 3, pos := "law.go:90", after := #[{ on := 6, ground := Ground.guard }], guard := some (6, false) }) (v := (.int .i64 (i0 : Int))) rfl (by kernel_rfl) (by kernel_rfl) (by kernel_rfl) (fun _ _ _ h => h) (Or.inl ⟨by kernel_rfl, fun w hC => by go_simp⟩) hS.out ?_
                    simp only [Act.put, List.setIfInBounds_toArray, List.set_cons_zero, List.set_cons_succ]
                    refine wpAnyH_take (i := 10) (oi := { dst := some 239, op := Op.indexAddr 26 (Operand.tmp 237) (Operand.tmp 238), type := 0, pos := "law.go:90", after := #[{ on := 8, ground := Ground.data }, { on := 9, ground := Ground.data }, { on := 6, ground := Ground.guard }], guard := some (6, false) }) (v := (.pointer (some aq))) rfl (by kernel_rfl) (by kernel_rfl) (by kernel_rfl) (fun _ _ _ h => h) (Or.inl ⟨by kernel_rfl, fun w hC => by go_simp⟩) hS.out ?_
                    simp only [Act.put, List.setIfInBounds_toArray, List.set_cons_zero, List.set_cons_succ]
                    refine wpAnyH_take (i := 11) (oi := { dst := some 240, op := Op.load 37 (Operand.tmp 239), type := 37, pos := "law.go:90", after := #[{ on := 10, ground := Ground.data }, { on := 6, ground := Ground.guard }], guard := some (6, false) }) (v := (.agg #[.int .u64 p.ta, .int .u64 p.rp, .int .u32 p.id, .int .u16 p.op, .int .u16 p.st, .int .u64 p.p, .int .u32 p.o, .int .u8 p.r, .int .u64 p.c, .int .u64 p.ar, .slice p.so p.sn p.sc])) rfl (by kernel_rfl) (by kernel_rfl) (by kernel_rfl) (fun _ _ _ h => h) (Or.inl ⟨by kernel_rfl, fun w hC => by (obtain ⟨⟨p0, p1, p2, p3, p4, p5, p6, p7, p8, p9, p10⟩, r0, r1, r2, r3, r4, r5, r6, r7, r8, r9, r10⟩ := hC; go_simp)⟩) hS.out ?_
                    simp only [Act.put, List.setIfInBounds_toArray, List.set_cons_zero, List.set_cons_succ]
                    refine wpAnyH_take (i := 7) (oi := { dst := some 236, op := Op.load 37 (Operand.tmp 19), type := 37, pos := "law.go:90", after := #[{ on := 6, ground := Ground.guard }], guard := some (6, false) }) (v := (.agg #[.int .u64 q.ta, .int .u64 q.rp, .int .u32 q.id, .int .u16 q.op, .int .u16 q.st, .int .u64 q.p, .int .u32 q.o, .int .u8 q.r, .int .u64 q.c, .int .u64 q.ar, .slice q.so q.sn q.sc])) rfl (by kernel_rfl) (by kernel_rfl) (by kernel_rfl) (fun _ _ _ h => h) (Or.inl ⟨by kernel_rfl, fun w hC => by (obtain ⟨⟨p0, p1, p2, p3, p4, p5, p6, p7, p8, p9, p10⟩, r0, r1, r2, r3, r4, r5, r6, r7, r8, r9, r10⟩ := hC; go_simp)⟩) hS.out ?_
                    simp only [Act.put, List.setIfInBounds_toArray, List.set_cons_zero, List.set_cons_succ]
                    refine wpAnyH_ready (rs := [12]) (by kernel_rfl) (by simp) ?_
                    refine AllReadyH.cons (o := { dst := some 241, op := Op.call { callee := Callee.value (Operand.func 9), args := #[Operand.tmp 236, Operand.tmp 240], argTypes := #[37, 37] }, type := 4, pos := "law.go:90", after := #[{ on := 7, ground := Ground.data }, { on := 11, ground := Ground.data }, { on := 6, ground := Ground.chain }, { on := 6, ground := Ground.guard }], guard := some (6, false) }) rfl (fun K hK => ?_) AllReadyH.nil
                    go_simp
                    refine (same_yes q p _ (Bts.carry HQH.out bb) (Bts.carry (HSL.out.has HPM.out) bb) HQN.out).mono ?_; rintro e w8 ⟨rfl, b8⟩
                    have bb := below_one bb b8
                    have hS := hide (HAH.out _ bb)
                    refine hK.out _ _ hS.out (fun _ => ?_)
                    clear hK b8
                    refine wpAnyH_take (i := 13) (oi := { dst := some 242, op := Op.unOp UnOp.not 4 (Operand.tmp 241), type := 4, pos := "law.go:90", after := #[{ on := 12, ground := Ground.data }, { on := 6, ground := Ground.guard }], guard := some (6, false) }) (v := (.bool false)) rfl (by kernel_rfl) (by kernel_rfl) (by kernel_rfl) (fun _ _ _ h => h) (Or.inl ⟨by kernel_rfl, fun w hC => by go_simp⟩) hS.out ?_
                    simp only [Act.put, List.setIfInBounds_toArray, List.set_cons_zero, List.set_cons_succ]
                    refine wpAnyH_take (i := 14) (oi := { dst := some 243, op := Op.pick (Operand.tmp 235) (Operand.const (Value.bool true)) (Operand.tmp 242), type := 4, pos := "law.go:90", after := #[{ on := 6, ground := Ground.data }, { on := 13, ground := Ground.data }], guard := none }) (v := (.bool false)) rfl (by kernel_rfl) (by kernel_rfl) (by kernel_rfl) (fun _ _ _ h => h) (Or.inl ⟨by kernel_rfl, fun w hC => by go_simp⟩) hS.out ?_
                    simp only [Act.put, List.setIfInBounds_toArray, List.set_cons_zero, List.set_cons_succ]
                    refine wpAnyH_done (by kernel_rfl) ?_ _

                    have HS8 := hide (HSL.out.grow bb)
                    clear hS bb haq
                    go_wp2_with fail

                    have HRV := hide (HS8.out.grow (below_d w8 1))
                    obtain ⟨v1, w9a, bo, c9, w9, r1, r2, s9⟩ := HRV.out.cutR (k := i0) hki HRN.out (by omega)
                    have hww : IntKind.i64.wrap ((i0 : Int) + 1) = (i0 : Int) + 1 := by rw [IntKind.wrap_i64]; omega
                    have hc1 := fun W : World => cutG_head Tryd.underlying26 Tryd.sizeOfM W (some ar) rn rc i0 (by omega)
                    have hc2 := fun W : World => cutG_tail Tryd.underlying26 Tryd.sizeOfM W (some ar) rn rc (i0 + 1) (by omega)
                    obtain ⟨ua, hta⟩ : ∃ X, tailG 11 (some ar) (i0 + 1) rc = X := ⟨_, rfl⟩
                    obtain ⟨un, htn⟩ : ∃ X, rn - (i0 + 1) = X := ⟨_, rfl⟩
                    obtain ⟨uc, htc'⟩ : ∃ X, rc - (i0 + 1) = X := ⟨_, rfl⟩
                    rw [hta, htn, htc'] at hc2 r2
                    have hc2' : ∀ W : World, (Instr.slice 26 (.slice (some ar) rn rc) (some (.int .i64 ((i0 : Int) + 1))) none none).run Tryd.prog W = .ok (.slice ua un uc) W := fun W => by rw [← hc2 W]; rfl
                    obtain ⟨d9, hd9⟩ : ∃ d, rn - 1 = d := ⟨_, rfl⟩
                    rw [hd9] at r2 s9
                    have HRN1 := hide r1
                    have HRN2 := hide r2
                    have HSC9 := hide s9
                    have HD9 := hide hd9
                    clear r1 r2 s9 hc2 hta htn htc' hd9 HRV 
                    refine region_till (fun _ => True) 9 (by kernel_rfl) ?_
                    refine till_take [0, 9] (i := 0) (oi := { dst := some 244, op := Op.move (Operand.tmp 5), type := 26, pos := "law.go:93", after := #[], guard := none }) (v := (.slice (some ar) rn rc)) rfl (by kernel_rfl) (by kernel_rfl) (by kernel_rfl) (by kernel_rfl) (fun _ _ _ h => h) (Or.inl ⟨by kernel_rfl, fun w hC => by go_simp⟩) trivial ?_
                    simp only [Act.put, List.setIfInBounds_toArray, List.set_cons_zero, List.set_cons_succ]
                    refine till_take [1, 9] (i := 1) (oi := { dst := some 245, op := Op.move (Operand.tmp 22), type := 3, pos := "law.go:93", after := #[], guard := none }) (v := (.int .i64 (i0 : Int))) rfl (by kernel_rfl) (by kernel_rfl) (by kernel_rfl) (by kernel_rfl) (fun _ _ _ h => h) (Or.inl ⟨by kernel_rfl, fun w hC => by go_simp⟩) trivial ?_
                    simp only [Act.put, List.setIfInBounds_toArray, List.set_cons_zero, List.set_cons_succ]
                    refine till_take [2, 9] (i := 2) (oi := { dst := some 246, op := Op.slice 26 (Operand.tmp 244) none (some (Operand.tmp 245)) none, type := 26, pos := "law.go:93", after := #[{ on := 0, ground := Ground.data }, { on := 1, ground := Ground.data }], guard := none }) (v := (.slice (some ar) i0 rc)) rfl (by kernel_rfl) (by kernel_rfl) (by kernel_rfl) (by kernel_rfl) (fun _ _ _ h => h) (Or.inl ⟨by kernel_rfl, fun w hC => by go_simp⟩) trivial ?_
                    simp only [Act.put, List.setIfInBounds_toArray, List.set_cons_zero, List.set_cons_succ]
                    refine till_take [4, 9] (i := 4) (oi := { dst := some 248, op := Op.move (Operand.tmp 5), type := 26, pos := "law.go:93", after := #[], guard := none }) (v := (.slice (some ar) rn rc)) rfl (by kernel_rfl) (by kernel_rfl) (by kernel_rfl) (by kernel_rfl) (fun _ _ _ h => h) (Or.inl ⟨by kernel_rfl, fun w hC => by go_simp⟩) trivial ?_
                    simp only [Act.put, List.setIfInBounds_toArray, List.set_cons_zero, List.set_cons_succ]
                    refine till_take [5, 9] (i := 5) (oi := { dst := some 249, op := Op.move (Operand.tmp 22), type := 3, pos := "law.go:93", after := #[], guard := none }) (v := (.int .i64 (i0 : Int))) rfl (by kernel_rfl) (by kernel_rfl) (by kernel_rfl) (by kernel_rfl) (fun _ _ _ h => h) (Or.inl ⟨by kernel_rfl, fun w hC => by go_simp⟩) trivial ?_
                    simp only [Act.put, List.setIfInBounds_toArray, List.set_cons_zero, List.set_cons_succ]
                    refine till_take [6, 9] (i := 6) (oi := { dst := some 250, op := Op.binOp BinOp.add 3 (Operand.tmp 249) (Operand.const (Value.int IntKind.i64 1)) 3, type := 3, pos := "law.go:93", after := #[{ on := 5, ground := Ground.data }], guard := none }) (v := (.int .i64 ((i0 : Int) + 1))) rfl (by kernel_rfl) (by kernel_rfl) (by kernel_rfl) (by kernel_rfl) (fun _ _ _ h => h) (Or.inl ⟨by kernel_rfl, fun w hC => by go_simp⟩) trivial ?_
                    simp only [Act.put, List.setIfInBounds_toArray, List.set_cons_zero, List.set_cons_succ]
                    refine till_take [7, 9] (i := 7) (oi := { dst := some 251, op := Op.slice 26 (Operand.tmp 248) (some (Operand.tmp 250)) none none, type := 26, pos := "law.go:93", after := #[{ on := 4, ground := Ground.data }, { on := 6, ground := Ground.data }], guard := none }) (v := (.slice ua un uc)) rfl (by kernel_rfl) (by kernel_rfl) (by kernel_rfl) (by kernel_rfl) (fun _ _ _ h => h) (Or.inl ⟨by kernel_rfl, fun w hC => by go_simp⟩) trivial ?_
                    simp only [Act.put, List.setIfInBounds_toArray, List.set_cons_zero, List.set_cons_succ]
                    refine till_ready (rs := [3]) (by kernel_rfl) (by simp) ?_
                    refine AllTill.cons (o := { dst := some 247, op := Op.call { callee := Callee.builtin Builtin.append, args := #[Operand.const (Value.slice none 0 0), Operand.tmp 246], argTypes := #[26, 26] }, type := 26, pos := "law.go:93", after := #[{ on := 2, ground := Ground.data }], guard := none }) rfl (fun K hK => ?_) AllTill.nil
                    refine step_run rfl _ _ _ rfl (.slice none 0 0) (.slice (some ar) i0 rc) v1 w9a rfl rfl HRN1.out ?_
                    refine hK.out _ _ (fun _ => trivial) ?_
                    simp only [Act.put, List.setIfInBounds_toArray, List.set_cons_zero, List.set_cons_succ]
                    refine till_ready (rs := [8]) (by kernel_rfl) (by simp) ?_
                    refine AllTill.cons (o := { dst := some 252, op := Op.call { callee := Callee.builtin Builtin.append, args := #[Operand.tmp 247, Operand.tmp 251], argTypes := #[26, 26] }, type := 26, pos := "law.go:93", after := #[{ on := 3, ground := Ground.data }, { on := 7, ground := Ground.data }, { on := 3, ground := Ground.chain }], guard := none }) rfl (fun K hK => ?_) AllTill.nil
                    refine step_run rfl _ _ _ rfl v1 (.slice ua un uc) (.slice bo d9 c9) w9 rfl rfl HRN2.out ?_
                    refine hK.out _ _ (fun _ => trivial) ?_
                    simp only [Act.put, List.setIfInBounds_toArray, List.set_cons_zero, List.set_cons_succ]
                    refine till_ready (rs := [9]) (by kernel_rfl) (by simp) ?_
                    refine AllTill.cons (o := { dst := some 5, op := Op.assign (Operand.tmp 252), type := 26, pos := "law.go:93", after := #[{ on := 8, ground := Ground.data }, { on := 8, ground := Ground.chain }, { on := 0, ground := Ground.phase }, { on := 1, ground := Ground.phase }, { on := 2, ground := Ground.phase }, { on := 3, ground := Ground.phase }, { on := 4, ground := Ground.phase }, { on := 5, ground := Ground.phase }, { on := 6, ground := Ground.phase }, { on := 7, ground := Ground.phase }, { on := 8, ground := Ground.phase }], guard := none }) rfl (fun K hK => ?_) AllTill.nil
                    go_simp
                    refine hK.out _ _ (fun _ => trivial) ?_
                    refine till_done (by kernel_rfl) ?_ _

                    have HSC8 : Hid (Sc w w9 g (.slice ta tn tc) (.slice bo d9 c9) T (R.eraseIdx i0) T ((R.eraseIdx i0).map Ms.nm)) := by
                      rw [map_erase]; exact HSC9.out
                    have HRD : Hid ((List.map Ms.nm (R.eraseIdx i0)).length = d9) := by show _ = _; rw [List.length_map, List.length_eraseIdx, if_pos HF.out.1, HRN.out]; exact HD9.out
                    as_aux_lemma =>
                      go_wp2_with fail
                      refine (len_any _ HSC8.out.st).mono ?_; rintro e w9 ⟨rfl, b9⟩
                      rw [show (((T).length : Nat) : Int) = ((tn : Nat) : Int) from congrArg Nat.cast (HTN.out), show (((List.map Ms.nm (R.eraseIdx i0)).length : Nat) : Int) = ((d9 : Nat) : Int) from congrArg Nat.cast (HRD.out)]
                      have HS9 := hide (HSC8.out.grow b9)
                      clear b9
                      go_wp2
                      go_roundg g1
                      case measure => have := HI.out; omega
                      case rel => exact ⟨i + 1, T, R.eraseIdx i0, by have := HI.out; omega, by go_num, HS9.out, HINV.out⟩
              · have HNO := hide hno
                clear hno
                go_wp2_with fail
                refine (get_wait (po : Int) (th : Int) _ HS3.out.st HS3.out.lt HIS.out (anyM_nm HNO.out) (by rw [HTN.out]; omega)).mono ?_; rintro e w4 ⟨rfl, E4⟩
                have bz := below_alloc w4 (.cells #[.int .u64 0, .int .u64 0, .int .u32 0, .int .u16 0, .int .u16 0, .int .u64 0, .int .u32 0, .int .u8 0, .int .u64 0, .int .u64 0, .slice none 0 0] 37)
                have HS4 := hide ((HS3.out.deed E4).grow bz)
                have HBX : Hid (BoxM (w4.alloc (.cells #[.int .u64 0, .int .u64 0, .int .u32 0, .int .u16 0, .int .u16 0, .int .u64 0, .int .u32 0, .int .u8 0, .int .u64 0, .int .u64 0, .slice none 0 0] 37)) w4.heap.size Ms.zero) := boxM_new w4 Ms.zero
                clear E4 bz m0 m1 m2 m3 m4 m5 m6 m7 m8 m9 m10 m11 m12 m13

                go_wp2
                go_loopg [22, 23] rn (fun gk va vk wz => BkRel (w4.alloc (.cells #[.int .u64 0, .int .u64 0, .int .u32 0, .int .u16 0, .int .u16 0, .int .u64 0, .int .u32 0, .int .u8 0, .int .u64 0, .int .u64 0, .slice none 0 0] 37)) (isTo (po : Int)) Ms.zero R gk va vk wz)
                case atStart => exact ⟨-1, (rn : Int) - 1, by omega, rfl, rfl, by rw [HRN.out]; exact Nat.le_refl _, by rw [← HRN.out]; exact atF_nil _ _ _, Below.refl _ _⟩
                case round =>
                  rename World => wz
                  obtain ⟨a, k, hk, rfl, rfl, hle, hat, bz⟩ := hrel
                  have HAT := hide hat
                  have HBZ := hide bz
                  have HSL := hide (HS4.out.grow bz)
                  have hl := HSL.out.lr HRN.out
                  rw [HRN.out] at hle
                  have HL := hide hl
                  clear hat bz hl
                  cases gk with
                  | succ g2 =>
                    obtain rfl : k = (g2 : Int) := by omega
                    have hg2 : g2 < rn := by omega
                    have hge : (0 : Int) ≤ (g2 : Int) := by omega
                    have hlt : (g2 : Int) < (rn : Int) := by omega
                    obtain ⟨ae, hae⟩ := HL.out.there hg2
                    subst hae
                    obtain ⟨y, hy⟩ : ∃ y, R.getD g2 Ms.zero = y := ⟨_, rfl⟩
                    obtain ⟨e0, _⟩ := lies_elem HL.out g2 hg2 y hy _ rfl
                    obtain ⟨r, hr⟩ : ∃ r, (y.ta == (po : Int)) = r := ⟨_, rfl⟩
                    have HQ : Hid (isTo (po : Int) (R.getD g2 Ms.zero) = r) := by show _ = _; rw [hy]; exact hr
                    clear hy hk
                    cases r with
                    | true =>
                     as_aux_lemma =>
                      go_wp2
                      go_roundg g2
                      case measure => omega
                      case rel => exact ⟨(g2 : Int), (g2 : Int) - 1, by omega, by go_num, by go_num, by rw [HRN.out]; omega, atF_yes (by rw [HRN.out]; exact hg2) HQ.out, HBZ.out⟩
                    | false =>
                     as_aux_lemma =>
                      go_wp2
                      go_roundg g2
                      case measure => omega
                      case rel => exact ⟨a, (g2 : Int) - 1, by omega, by go_num, by go_num, by rw [HRN.out]; omega, atF_no HAT.out HQ.out, HBZ.out⟩
                  | zero =>
                    obtain rfl : k = -1 := by omega
                    clear hk hle
                    obtain rfl := atM_none HAT.out HNO.out
                    obtain ⟨k0, k1, k2, k3, k4, k5, k6, k7, k8, k9, k10⟩ := (HBX.out.grow HBZ.out).all
                    simp only [Ms.zero] at k0 k1 k2 k3 k4 k5 k6 k7 k8 k9 k10
                    go_wp2_with fail
                    refine (same_yes Ms.zero Ms.zero _ (bts_nil _) (bts_nil _) rfl).mono ?_; rintro e w6 ⟨rfl, b6⟩
                    have HS6 := hide (HSL.out.grow b6)
                    obtain ⟨bo, dd, w5, hr5, s5⟩ := HS6.out.appT ⟨(po : Int), (th : Int)⟩ (by rw [HTN.out]; omega)
                    rw [HTN.out] at hr5 s5
                    have HR5 := hide hr5
                    have HS5 := hide s5
                    clear hr5 s5 b6 k0 k1 k2 k3 k4 k5 k6 k7 k8 k9 k10
                    go_wp2_with (at_builtin; refine wpList_append_run rfl _ _ _ rfl _ _ _ _ rfl rfl HR5.out ?_)
                    as_aux_lemma =>
                      go_wp2_with fail
                      refine (len_any _ HS5.out.st).mono ?_; rintro e w9 ⟨rfl, b9⟩
                      rw [show (((T ++ [(⟨(po : Int), (th : Int)⟩ : Wt)]).length : Nat) : Int) = ((tn + 1 : Nat) : Int) from congrArg Nat.cast (by rw [List.length_append, HTN.out]; rfl), show (((List.map Ms.nm (R)).length : Nat) : Int) = ((rn : Nat) : Int) from congrArg Nat.cast (by rw [List.length_map]; exact HRN.out)]
                      have HS9 := hide (HS5.out.grow b9)
                      clear b9
                      go_wp2
                      go_roundg g1
                      case measure => have := HI.out; omega
                      case rel => exact ⟨i + 1, T ++ [(⟨(po : Int), (th : Int)⟩ : Wt)], R, by have := HI.out; omega, by go_num, HS9.out, HINV.out.snoc _ _ HIS.out (by omega)⟩
          · cases is with
            | true =>
              obtain ⟨i1, hf⟩ : ∃ i1, First (isT (th : Int)) Wt.zero T i1 := by
                rcases first_or (isT (th : Int)) Wt.zero T with h | h
                · exact h
                · have := HIS.out
                  unfold waitsF at this
                  rw [h] at this; cases this
              have HF := hide hf
              clear hf
              go_wp2_with fail
              refine (cancel_yes (th : Int) i1 _ HS3.out.st HS3.out.lt HF.out).mono ?_; rintro e w4 ⟨rfl, E4⟩
              have HS4 := hide (HS3.out.deed E4)
              have HDR := hide (dropT_erase HINV.out.nd HF.out)
              clear E4 m0 m1 m2 m3 m4 m5 m6 m7 m8 m9 m10 m11 m12 m13

              go_wp2
              go_loopg [24, 76] tn (fun gk vs vi wz => StRel w4 T (th : Int) tn gk vs vi wz)
              case atStart => exact ⟨0, by omega, rfl, owns_nil _ _ _ _, Below.refl _ _⟩
              case round =>
                rename World => wz
                obtain ⟨j, hj, rfl, own, bz⟩ := hrel
                have HJ := hide hj
                have HO := hide own
                have HBZ := hide bz
                have HSL := hide (HS4.out.grow bz)
                have hl := HSL.out.lw HTN.out
                have HL := hide hl
                have hdl : (dropT (th : Int) (T.take j)).length ≤ 8 := by
                  have h1 : (dropT (th : Int) (T.take j)).length ≤ (T.take j).length := List.length_filter_le _ _
                  rw [List.length_take, HTN.out] at h1; omega
                obtain ⟨so, sc, rfl⟩ := owns_slice own
                clear own bz hj hl
                cases gk with
                | succ g2 =>
                  have hjn : j < tn := by have := HJ.out; omega
                  have hlt : (j : Int) < (tn : Int) := by omega
                  obtain ⟨ae, hae⟩ := HL.out.there hjn
                  subst hae
                  obtain ⟨⟨yp, yt⟩, hy⟩ : ∃ y, T.getD j Wt.zero = y := ⟨_, rfl⟩
                  have he := liesW_elem HL.out j hjn ⟨yp, yt⟩ hy _ rfl
                  simp only at he
                  obtain ⟨e0, e1⟩ := he
                  have HSN := hide (dropT_snoc T (th : Int) j (by rw [HTN.out]; exact hjn))
                  rw [hy] at HSN
                  obtain ⟨Q, hQ⟩ : ∃ Q, wz.alloc (.cells #[.int .u64 yp, .int .i64 yt] 41) = Q := ⟨_, rfl⟩
                  have bQ : Below wz.heap.size wz Q := hQ ▸ below_alloc wz _
                  have f0 : Q.cell? ⟨wz.heap.size, 0, none⟩ = some (.int .u64 yp) := by rw [← hQ]; simp
                  have f1 : Q.cell? ⟨wz.heap.size, 1, none⟩ = some (.int .i64 yt) := by rw [← hQ]; simp
                  have HBQ := hide (below_one HBZ.out bQ)
                  have HOQ := hide (owns_carry HO.out bQ)
                  obtain ⟨dn, hdn⟩ : ∃ dn, (dropT (th : Int) (T.take j)).length = dn := ⟨_, rfl⟩
                  rw [hdn] at HOQ hdl
                  have HDN := hide hdn
                  rw [hdn]
                  clear hy hdn bQ
                  by_cases hye : yt = (th : Int)
                  · subst hye
                    have HSM : Hid (dropT (th : Int) (T.take (j + 1)) = dropT (th : Int) (T.take j)) := by
                      show _ = _
                      rw [HSN.out]; unfold isT; simp
                    clear HSN
                    as_aux_lemma =>
                    go_wp2
                    go_roundg g2
                    case measure => have := HJ.out; omega
                    case rel =>
                      refine ⟨j + 1, by have := HJ.out; omega, by go_num, ?_, HBQ.out⟩
                      rw [HSM.out, HDN.out]; exact HOQ.out
                  · have HSM : Hid (dropT (th : Int) (T.take (j + 1)) = dropT (th : Int) (T.take j) ++ [⟨yp, yt⟩]) := by
                      show _ = _
                      rw [HSN.out]; unfold isT; simp [hye]
                    clear HSN
                    obtain ⟨bo, dd, w5, hr5, ho5, hf5, _⟩ := app_w1 ⟨yp, yt⟩ HOQ.out (by omega) HBQ.out.size
                    have HR5 := hide hr5
                    have HO5 := hide ho5
                    have HB5 : Hid (Below w4.heap.size w4 w5) := HBQ.out.trans (hf5.below HBQ.out.size (fun k e => (owns_lt HOQ.out e).2))
                    clear hr5 ho5 hf5
                    go_wp2_with (at_builtin; refine wpList_append_run rfl _ _ _ rfl _ _ _ _ rfl rfl HR5.out ?_)
                    as_aux_lemma =>
                    go_wp2
                    go_roundg g2
                    case measure => have := HJ.out; omega
                    case rel =>
                      refine ⟨j + 1, by have := HJ.out; omega, by go_num, ?_, HB5.out⟩
                      rw [HSM.out, cellsW_append, List.length_append, HDN.out]; exact HO5.out
                | zero =>
                  obtain rfl : j = tn := by have := HJ.out; omega
                  have hlt : ¬ ((j : Int) < (j : Int)) := by omega
                  obtain ⟨dn, hdn⟩ : ∃ dn, ((T.eraseIdx i1)).length = dn := ⟨_, rfl⟩
                  have HDN := hide hdn
                  have ho := HO.out
                  rw [show T.take j = T from by rw [← HTN.out, List.take_length], HDR.out, hdn] at ho
                  have HSF := hide (HS4.out.freshT HBZ.out ho)
                  rw [show T.take j = T from by rw [← HTN.out, List.take_length], HDR.out, hdn]
                  clear ho hdn hdl
                  as_aux_lemma =>
                    go_wp2_with fail
                    refine (len_any _ HSF.out.st).mono ?_; rintro e w9 ⟨rfl, b9⟩
                    rw [show ((((T.eraseIdx i1)).length : Nat) : Int) = ((dn : Nat) : Int) from congrArg Nat.cast (HDN.out), show (((List.map Ms.nm (R)).length : Nat) : Int) = ((rn : Nat) : Int) from congrArg Nat.cast (by rw [List.length_map]; exact HRN.out)]
                    have HS9 := hide (HSF.out.grow b9)
                    clear b9
                    go_wp2
                    go_roundg g1
                    case measure => have := HI.out; omega
                    case rel => exact ⟨i + 1, (T.eraseIdx i1), R, by have := HI.out; omega, by go_num, HS9.out, HINV.out.erase i1⟩
            | false =>
              go_wp2_with fail
              refine (cancel_no (th : Int) _ HS3.out.st HIS.out).mono ?_; rintro e w4 ⟨rfl, b4⟩
              have HS4 := hide (HS3.out.grow b4)
              have HDR := hide (dropT_no HIS.out)
              clear b4 m0 m1 m2 m3 m4 m5 m6 m7 m8 m9 m10 m11 m12 m13

              go_wp2
              go_loopg [24, 76] tn (fun gk vs vi wz => StRel w4 T (th : Int) tn gk vs vi wz)
              case atStart => exact ⟨0, by omega, rfl, owns_nil _ _ _ _, Below.refl _ _⟩
              case round =>
                rename World => wz
                obtain ⟨j, hj, rfl, own, bz⟩ := hrel
                have HJ := hide hj
                have HO := hide own
                have HBZ := hide bz
                have HSL := hide (HS4.out.grow bz)
                have hl := HSL.out.lw HTN.out
                have HL := hide hl
                have hdl : (dropT (th : Int) (T.take j)).length ≤ 8 := by
                  have h1 : (dropT (th : Int) (T.take j)).length ≤ (T.take j).length := List.length_filter_le _ _
                  rw [List.length_take, HTN.out] at h1; omega
                obtain ⟨so, sc, rfl⟩ := owns_slice own
                clear own bz hj hl
                cases gk with
                | succ g2 =>
                  have hjn : j < tn := by have := HJ.out; omega
                  have hlt : (j : Int) < (tn : Int) := by omega
                  obtain ⟨ae, hae⟩ := HL.out.there hjn
                  subst hae
                  obtain ⟨⟨yp, yt⟩, hy⟩ : ∃ y, T.getD j Wt.zero = y := ⟨_, rfl⟩
                  have he := liesW_elem HL.out j hjn ⟨yp, yt⟩ hy _ rfl
                  simp only at he
                  obtain ⟨e0, e1⟩ := he
                  have HSN := hide (dropT_snoc T (th : Int) j (by rw [HTN.out]; exact hjn))
                  rw [hy] at HSN
                  obtain ⟨Q, hQ⟩ : ∃ Q, wz.alloc (.cells #[.int .u64 yp, .int .i64 yt] 41) = Q := ⟨_, rfl⟩
                  have bQ : Below wz.heap.size wz Q := hQ ▸ below_alloc wz _
                  have f0 : Q.cell? ⟨wz.heap.size, 0, none⟩ = some (.int .u64 yp) := by rw [← hQ]; simp
                  have f1 : Q.cell? ⟨wz.heap.size, 1, none⟩ = some (.int .i64 yt) := by rw [← hQ]; simp
                  have HBQ := hide (below_one HBZ.out bQ)
                  have HOQ := hide (owns_carry HO.out bQ)
                  obtain ⟨dn, hdn⟩ : ∃ dn, (dropT (th : Int) (T.take j)).length = dn := ⟨_, rfl⟩
                  rw [hdn] at HOQ hdl
                  have HDN := hide hdn
                  rw [hdn]
                  clear hy hdn bQ
                  by_cases hye : yt = (th : Int)
                  · subst hye
                    have HSM : Hid (dropT (th : Int) (T.take (j + 1)) = dropT (th : Int) (T.take j)) := by
                      show _ = _
                      rw [HSN.out]; unfold isT; simp
                    clear HSN
                    as_aux_lemma =>
                    go_wp2
                    go_roundg g2
                    case measure => have := HJ.out; omega
                    case rel =>
                      refine ⟨j + 1, by have := HJ.out; omega, by go_num, ?_, HBQ.out⟩
                      rw [HSM.out, HDN.out]; exact HOQ.out
                  · have HSM : Hid (dropT (th : Int) (T.take (j + 1)) = dropT (th : Int) (T.take j) ++ [⟨yp, yt⟩]) := by
                      show _ = _
                      rw [HSN.out]; unfold isT; simp [hye]
                    clear HSN
                    obtain ⟨bo, dd, w5, hr5, ho5, hf5, _⟩ := app_w1 ⟨yp, yt⟩ HOQ.out (by omega) HBQ.out.size
                    have HR5 := hide hr5
                    have HO5 := hide ho5
                    have HB5 : Hid (Below w4.heap.size w4 w5) := HBQ.out.trans (hf5.below HBQ.out.size (fun k e => (owns_lt HOQ.out e).2))
                    clear hr5 ho5 hf5
                    go_wp2_with (at_builtin; refine wpList_append_run rfl _ _ _ rfl _ _ _ _ rfl rfl HR5.out ?_)
                    as_aux_lemma =>
                    go_wp2
                    go_roundg g2
                    case measure => have := HJ.out; omega
                    case rel =>
                      refine ⟨j + 1, by have := HJ.out; omega, by go_num, ?_, HB5.out⟩
                      rw [HSM.out, cellsW_append, List.length_append, HDN.out]; exact HO5.out
                | zero =>
                  obtain rfl : j = tn := by have := HJ.out; omega
                  have hlt : ¬ ((j : Int) < (j : Int)) := by omega
                  obtain ⟨dn, hdn⟩ : ∃ dn, (T).length = dn := ⟨_, rfl⟩
                  have HDN := hide hdn
                  have ho := HO.out
                  rw [show T.take j = T from by rw [← HTN.out, List.take_length], HDR.out, hdn] at ho
                  have HSF := hide (HS4.out.freshT HBZ.out ho)
                  rw [show T.take j = T from by rw [← HTN.out, List.take_length], HDR.out, hdn]
                  clear ho hdn hdl
                  as_aux_lemma =>
                    go_wp2_with fail
                    refine (len_any _ HSF.out.st).mono ?_; rintro e w9 ⟨rfl, b9⟩
                    rw [show (((T).length : Nat) : Int) = ((dn : Nat) : Int) from congrArg Nat.cast (HDN.out), show (((List.map Ms.nm (R)).length : Nat) : Int) = ((rn : Nat) : Int) from congrArg Nat.cast (by rw [List.length_map]; exact HRN.out)]
                    have HS9 := hide (HSF.out.grow b9)
                    clear b9
                    go_wp2
                    go_roundg g1
                    case measure => have := HI.out; omega
                    case rel => exact ⟨i + 1, T, R, by have := HI.out; omega, by go_num, HS9.out, HINV.out⟩
end Go.Proofs.YtfjchchjdjjepaaDoor
