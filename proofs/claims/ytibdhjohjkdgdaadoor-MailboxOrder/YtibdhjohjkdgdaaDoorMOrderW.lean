/-
  The walk of MailboxOrder.
-/
import Derived.Test.YtibdhjohjkdgdaaDoorGBls
namespace Go.Proofs.YtibdhjohjkdgdaaDoor
open Go.RowKit Go.Conc
/- which of the first k are of that kind -/
def pickN (B : List Bool) (t : Bool) (k : Nat) : List Nat := (List.range (min k 64)).filter fun j => B.getD j false == t
theorem pickN_zero (B : List Bool) (t : Bool) : pickN B t 0 = [] := rfl
theorem pickN_len (B : List Bool) (t : Bool) (k : Nat) : (pickN B t k).length ≤ 64 := by
  unfold pickN
  have := List.length_filter_le (fun j => B.getD j false == t) (List.range (min k 64))
  rw [List.length_range] at this; omega
theorem pickN_more (B : List Bool) (t : Bool) (k : Nat) (h : 64 ≤ k) : pickN B t (k + 1) = pickN B t k := by
  unfold pickN; rw [Nat.min_eq_right h, Nat.min_eq_right (by omega)]
theorem pickN_succ (B : List Bool) (t : Bool) (k : Nat) (h : k < 64) : pickN B t (k + 1) = pickN B t k ++ (if B.getD k false == t then [k] else []) := by
  unfold pickN
  rw [Nat.min_eq_left (by omega), Nat.min_eq_left (by omega), List.range_succ, List.filter_append]
  congr 1
  simp only [List.filter_cons, List.filter_nil]
theorem pickN_lt (B : List Bool) (t : Bool) (k : Nat) (h : k < 64) : (pickN B t k).length ≤ k := by
  unfold pickN
  have := List.length_filter_le (fun j => B.getD j false == t) (List.range (min k 64))
  rw [List.length_range] at this; omega
theorem pickN_mem (B : List Bool) (t : Bool) (k j : Nat) (h : j ∈ pickN B t k) : j < 64 := by
  have := (List.mem_filter.1 h).1
  rw [List.mem_range] at this; omega
def cellsU (l : List Nat) : List Value := l.map fun (k : Nat) => Value.int .u32 (k : Int)
theorem cellsU_append (a b : List Nat) : cellsU (a ++ b) = cellsU a ++ cellsU b := by simp [cellsU]
theorem Tryd.infoU : (Tryd.prog.info? 29).map (fun i => (i.zero, i.size, i.bytes)) = some (some (.int .u32 0), 1, 4) := by kernel_rfl
theorem app_num {W : World} {B n : Nat} {v : Value} {xs : List Value} (k : Nat) (own : W.ownsRow B 29 1 v n xs) (hn : n ≤ 99999) (hB : B ≤ W.heap.size) :
    ∃ ao c w', (Builtin.append_ #[53, 53] 53 #[v, .slice (some ⟨W.heap.size, 0, none⟩) 1 1]).run Tryd.prog (W.alloc (.cells #[.int .u32 (k : Int)] 29)) = .ok (.slice ao (n + 1) c) w' ∧ w'.ownsRow B 29 1 (.slice ao (n + 1) c) (n + 1) (xs ++ [.int .u32 (k : Int)]) ∧ Foot (fun k => v.ownBlock = some k) W w' ∧ ∀ k, v.ownBlock = some k → B ≤ k := by
  have b := below_alloc W (.cells #[.int .u32 (k : Int)] 29)
  obtain ⟨i0, hi0, hz0, hz1, hz2⟩ := info_parts Tryd.infoU
  have hl : Lies 1 (W.alloc (.cells #[.int .u32 (k : Int)] 29)) (some ⟨W.heap.size, 0, none⟩) 1 1 [.int .u32 (k : Int)] := lies_alloc rfl rfl (by omega)
  obtain ⟨v', w3, hr, hown3, hgr3, _, hbl⟩ := run_append_own_at (P := Tryd.prog) (W.alloc (.cells #[.int .u32 (k : Int)] 29)) B 53 53 29 i0 _ 1 4 Tryd.underlying53 hi0 hz0 hz1 hz2 rfl (by omega) v n _ (owns_carry own b) ⟨W.heap.size, 0, none⟩ 1 1 [.int .u32 (k : Int)] hl.1 (hl.2.2.2.2 _ rfl) (fun u hu => by rw [List.mem_singleton.1 hu]; rfl) (by unfold maxLen; omega) (by omega) (Nat.le_trans hB b.size)
  obtain ⟨ao, c, rfl, _⟩ := owns_lies hown3
  exact ⟨ao, c, w3, hr, hown3, (below_foot _ b).then (grown_foot hgr3), fun k h => (owns_lt own h).2⟩
/- the numbers as messages -/
def msgs (l : List Nat) : List Ms := l.map fun (k : Nat) => msgI (k : Int)
theorem msgs_len (l : List Nat) : (msgs l).length = l.length := by simp [msgs]
theorem msgs_snoc (l : List Nat) (k : Nat) : msgs (l ++ [k]) = msgs l ++ [(msgI (k : Int)).nm] := by simp [msgs]; rfl
/- what is wanted so far: the t kind's first k -/
def wantN (B : List Bool) (t : Bool) (k : Nat) : List Nat := if t then pickN B true k else pickN B true B.length ++ pickN B false k
/- behind the rounds of 'first' -/
def doneN (B : List Bool) (j : Nat) : List Nat := if j = 0 then [] else if j = 1 then pickN B true B.length else pickN B true B.length ++ pickN B false B.length
theorem wantN_len (B : List Bool) (t : Bool) (k : Nat) : (wantN B t k).length ≤ 128 := by
  unfold wantN
  have := pickN_len B true k
  have := pickN_len B false k
  have := pickN_len B true B.length
  split
  · omega
  · rw [List.length_append]; omega
theorem wantN_succ (B : List Bool) (t : Bool) (k : Nat) (u : Bool) (hu : B.getD k false = u) : wantN B t (k + 1) = wantN B t k ++ (if u = t ∧ k < 64 then [k] else []) := by
  have key : ∀ t, pickN B t (k + 1) = pickN B t k ++ (if u = t ∧ k < 64 then [k] else []) := fun t => by
    by_cases h : k < 64
    · rw [pickN_succ B t k h, hu]
      congr 1
      cases u <;> cases t <;> simp [h]
    · rw [pickN_more B t k (by omega), if_neg (by omega), List.append_nil]
  unfold wantN
  cases t with
  | true => rw [if_pos rfl, if_pos rfl, key]
  | false => rw [if_neg (by decide), if_neg (by decide), key, List.append_assoc]
def OutRel (X : World) (B : List Bool) (gk : Nat) (vs vi : Value) (wq : World) : Prop :=
  ∃ j : Nat, j + gk = 2 ∧ vi = .int .i64 (j : Int) ∧ wq.ownsRow X.heap.size 29 1 vs (doneN B j).length (cellsU (doneN B j)) ∧ Below X.heap.size X wq
def InRel (X : World) (B : List Bool) (t : Bool) (n gk : Nat) (vs vi : Value) (wq : World) : Prop :=
  ∃ i : Nat, i + gk = n ∧ vi = .int .i64 (i : Int) ∧ wq.ownsRow X.heap.size 29 1 vs (wantN B t i).length (cellsU (wantN B t i)) ∧ Below X.heap.size X wq
def PutRel (w : World) (B : List Bool) (W : List Nat) (b cu co n tw : Nat) (v : Value) (gk : Nat) (vi : Value) (wq : World) : Prop :=
  ∃ i : Nat, i + gk = n ∧ vi = .int .i64 (i : Int) ∧ St wq b cu co 64 (msgs (pickN B true i)) (msgs (pickN B false i)) ∧ wq.ownsRow w.heap.size 29 1 v tw (cellsU W) ∧ Below w.heap.size w wq
def GetRel (w : World) (W : List Nat) (b cu co tw : Nat) (v : Value) (gk : Nat) (vi : Value) (wq : World) : Prop :=
  ∃ (i : Nat) (P Q : List Nat), i + gk = tw ∧ vi = .int .i64 (i : Int) ∧ P ++ Q = W.drop i ∧ St wq b cu co 64 (msgs P) (msgs Q) ∧ wq.ownsRow w.heap.size 29 1 v tw (cellsU W) ∧ Below w.heap.size w wq
set_option maxRecDepth 20000 in
set_option maxHeartbeats 6400000 in
theorem walk_order (ao : Option Addr) (n cap : Nat) (B : List Bool) (w : World) (hA : Bls w ao n cap B) (hg : Glob w) :
    Calls Tryd.prog 4 #[.slice ao n cap] w fun e w' => e = .returned (.bool true) ∧ Below w.heap.size w w' := by
  have HG := hide hg
  have HA := hide hA
  have hnc := hA.2.1
  have hcm : cap ≤ 9223372036854775807 := hA.2.2.1
  have HN := hide hA.1
  clear hg hA
  go_enter Tryd.func4, Tryd.ntmps4
  go_wp2_with fail
  refine (awake_any _ HG.out).mono ?_; rintro e w0 ⟨rfl, b0⟩
  have HB0 := hide b0
  clear b0
  go_wp2_with fail
  refine (st_of 64 64 rfl _).mono ?_; rintro e w1 ⟨b, cu, co, rfl, x1, b1, h1, h2, h3⟩
  have HX1 := hide x1
  have H2 : Hid (w.heap.size ≤ cu) := Nat.le_trans HB0.out.size h2
  have H3 : Hid (w.heap.size ≤ co) := Nat.le_trans HB0.out.size h3
  have HB1 := hide (below_one HB0.out b1)
  clear x1 b1 h1 h2 h3
  obtain ⟨X, hX⟩ : ∃ X, w1.alloc (.cells #[.bool true, .bool false] 4) = X := ⟨_, rfl⟩
  have bX : Below w1.heap.size w1 X := hX ▸ below_alloc w1 _
  have hbk : X.heap[w1.heap.size]? = some (.cells #[.bool true, .bool false] 4 (0, 0)) := by rw [← hX]; exact heap_alloc_new _ _
  have HXL : Hid (w1.heap.size < X.heap.size) := lt_of_heap hbk
  have HK0 : Hid (X.cell? ⟨w1.heap.size, 0, none⟩ = some (.bool true)) := by show _ = _; rw [cell_of_row X _ 0 _ _ _ hbk]; rfl
  have HK1 : Hid (X.cell? ⟨w1.heap.size, 1, none⟩ = some (.bool false)) := by show _ = _; rw [cell_of_row X _ 1 _ _ _ hbk]; rfl
  have HX := hide (HX1.out.grow bX)
  have HBX := hide (below_one HB1.out bX)
  clear bX hbk
  go_wp2
  go_loopg [4, 22] 2 (fun gk vs vi wq => OutRel X B gk vs vi wq)
  case atStart => exact ⟨0, by omega, rfl, owns_nil _ _ _ _, Below.refl _ _⟩
  case round =>
    obtain ⟨j, hj, rfl, own, bl⟩ := hrel
    have HO := hide own
    have HB := hide bl
    have HJ := hide hj
    obtain ⟨so, sc, rfl, _⟩ := owns_lies own
    clear own bl hj hX
    cases gk with
    | zero =>
      obtain rfl : j = 2 := by have := HJ.out; omega
      have hlt : ¬ (((2 : Nat) : Int) < 2) := by omega
      obtain ⟨W, hW⟩ : ∃ W, pickN B true B.length ++ pickN B false B.length = W := ⟨_, rfl⟩
      have HW := hide hW
      have hO := HO.out
      rw [show doneN B 2 = W from hW] at hO
      obtain ⟨tw, htw⟩ : ∃ tw, W.length = tw := ⟨_, rfl⟩
      have HTW := hide htw
      have htl : tw ≤ 128 := by
        rw [← htw, ← hW, List.length_append]
        have := pickN_len B true B.length
        have := pickN_len B false B.length
        omega
      rw [show (doneN B 2).length = tw from by rw [show doneN B 2 = W from hW, htw]]
      rw [htw] at hO
      have HOW := hide (owns_base hO HBX.out.size)
      have HSQ := hide (HX.out.grow HB.out)
      have HBQ := hide (below_one HBX.out HB.out)
      clear hW hO htw HO
      go_wp2
      go_loopg [49] n (fun gk vi wr => PutRel w B W b cu co n tw (.slice so tw sc) gk vi wr)
      case atStart => exact ⟨0, by omega, rfl, HSQ.out, HOW.out, HBQ.out⟩
      case round =>
        obtain ⟨i, hi, rfl, st2, own2, bl2⟩ := hrel
        have HI := hide hi
        have HS2 := hide st2
        have HO2 := hide own2
        have HB2 := hide bl2
        clear st2 own2 bl2 hi
        cases gk with
        | zero =>
          obtain rfl : i = n := by have := HI.out; omega
          have hlt : ¬ ((i : Int) < (i : Int)) := by omega
          go_wp2
          go_loopg [68] tw (fun gk vi wr => GetRel w W b cu co tw (.slice so tw sc) gk vi wr)
          case atStart => exact ⟨0, _, _, by omega, rfl, by rw [List.drop_zero, ← HW.out, ← HN.out], HS2.out, HO2.out, HB2.out⟩
          case round =>
            obtain ⟨h, AA, CC, hh, rfl, hAC, st3, own3, bl3⟩ := hrel
            have HH := hide hh
            have HAC := hide hAC
            have HS3 := hide st3
            have HO3 := hide own3
            have HB3 := hide bl3
            clear st3 own3 bl3 hh hAC
            cases gk with
            | zero =>
              obtain rfl : h = tw := by have := HH.out; omega
              have hlt : ¬ ((h : Int) < (h : Int)) := by omega
              have e0 : AA ++ CC = [] := by rw [HAC.out, ← HTW.out, List.drop_length]
              obtain ⟨rfl, rfl⟩ := List.append_eq_nil_iff.1 e0
              go_wp2_with fail
              refine (st_none _ HS3.out).mono ?_; rintro e w9 ⟨rfl, b9⟩
              have HB9 : Hid (∀ o, Below w.heap.size w (w9.alloc o)) := fun o => below_one (below_one HB3.out b9) (below_alloc w9 o)
              clear b9
              go_wp2
              go_ret
              exact ⟨rfl, HB9.out _⟩
            | succ g1 =>
              have hin : h < tw := by have := HH.out; omega
              have hlt : (h : Int) < (tw : Int) := by omega
              have hiw : h < W.length := by rw [HTW.out]; exact hin
              obtain ⟨x, hx⟩ : ∃ x, W.getD h 0 = x := ⟨_, rfl⟩
              have hcons : W.drop h = x :: W.drop (h + 1) := by rw [List.drop_eq_getElem_cons hiw, ← hx, List.getD_eq_getElem?_getD, List.getElem?_eq_getElem hiw]; rfl
              have hAC := HAC.out
              rw [hcons] at hAC
              obtain ⟨so2, sc2, he, hl⟩ := owns_lies HO3.out
              obtain ⟨rfl, rfl⟩ : so = so2 ∧ sc = sc2 := by cases he; exact ⟨rfl, rfl⟩
              have hnc3 := hl.2.1
              have hcm3 : sc ≤ 9223372036854775807 := hl.2.2.1
              obtain ⟨ad, hbo⟩ := hl.there (k := h) hin
              subst hbo
              have kc := hl.2.2.2.2 ad rfl h (.int .u32 (x : Int)) (by simp [cellsU, List.getElem?_eq_getElem hiw, ← hx, List.getD_eq_getElem?_getD])
              clear hcons hiw hl he hx
              cases AA with
              | cons a AA =>
                obtain ⟨rfl, hAC2⟩ := List.cons.inj hAC
                have HAC2 : Hid (AA ++ CC = W.drop (h + 1)) := hAC2
                clear hAC hAC2
                go_wp2_with fail
                refine (stU_get (msgI (a : Int)) _ HS3.out).mono ?_; rintro e w6 ⟨y6, rfl, E6⟩
                have i6 := id_of E6.nm
                have HX6 : Hid (∀ o, St (w6.alloc o) b cu co 64 (msgs AA) (msgs CC)) := fun o => E6.st.grow (below_alloc w6 o)
                have HB6 : Hid (∀ o, Below w.heap.size w (w6.alloc o)) := fun o => below_one (two_on HB3.out H2.out H3.out E6.ft) (below_alloc w6 o)
                have HO6 : Hid (∀ o, (w6.alloc o).ownsRow w.heap.size 29 1 (.slice (some ad) tw sc) tw (cellsU W)) := fun o => owns_carry (HS3.out.owns E6.ft HO3.out) (below_alloc w6 o)
                clear E6 kc
                go_wp2
                go_roundg g1
                case measure => have := HH.out; omega
                case rel => exact ⟨h + 1, AA, CC, by have := HH.out; omega, by go_num, HAC2.out, HX6.out _, HO6.out _, HB6.out _⟩
              | nil =>
                rw [List.nil_append] at hAC
                subst hAC
                go_wp2_with fail
                refine (stO_get (msgI (x : Int)) _ HS3.out).mono ?_; rintro e w6 ⟨y6, rfl, E6⟩
                have i6 := id_of E6.nm
                have HX6 : Hid (∀ o, St (w6.alloc o) b cu co 64 (msgs []) (msgs (W.drop (h + 1)))) := fun o => E6.st.grow (below_alloc w6 o)
                have HB6 : Hid (∀ o, Below w.heap.size w (w6.alloc o)) := fun o => below_one (two_on HB3.out H2.out H3.out E6.ft) (below_alloc w6 o)
                have HO6 : Hid (∀ o, (w6.alloc o).ownsRow w.heap.size 29 1 (.slice (some ad) tw sc) tw (cellsU W)) := fun o => owns_carry (HS3.out.owns E6.ft HO3.out) (below_alloc w6 o)
                clear E6 kc
                go_wp2
                go_roundg g1
                case measure => have := HH.out; omega
                case rel => exact ⟨h + 1, [], _, by have := HH.out; omega, by go_num, rfl, HX6.out _, HO6.out _, HB6.out _⟩
        | succ g1 =>
          have hin : i < n := by have := HI.out; omega
          have hlt : (i : Int) < (n : Int) := by omega
          obtain ⟨ad, hbo⟩ := HA.out.there (k := i) hin
          subst hbo
          have kc := HA.out.2.2.2.2 ad rfl i hin
          obtain ⟨u, hu⟩ : ∃ u, B.getD i false = u := ⟨_, rfl⟩
          rw [hu] at kc
          have HU := hide hu
          have kd : wr.cell? (ad.add i) = some (.bool u) := by rw [HB2.out.cell (lt_of_cell kc), kc]
          clear hu kc
          by_cases h64 : i < 64
          · have h64' : (i : Int) < 64 := by omega
            cases u with
            | true =>
              go_wp2_with fail
              refine (stU_room (msgI (i : Int)) _ HS2.out (msgI_has _ _) (msgI_sn _) (by rw [msgs_len]; have := pickN_lt B true i (by omega); omega)).mono ?_; rintro e w5 ⟨rfl, x5, f5⟩
              rw [← msgs_snoc] at x5
              have HX5 := hide x5
              have HB5 := hide (two_on HB2.out H2.out H3.out f5)
              have HO5 := hide (HS2.out.owns f5 HO2.out)
              clear x5 f5
              go_wp2
              go_roundg g1
              case measure => have := HI.out; omega
              case rel =>
                refine ⟨i + 1, by have := HI.out; omega, by go_num, ?_, HO5.out, HB5.out⟩
                rw [pickN_succ B true i h64, pickN_succ B false i h64, HU.out]
                simpa using HX5.out
            | false =>
              go_wp2_with fail
              refine (stO_room (msgI (i : Int)) _ HS2.out (msgI_has _ _) (msgI_sn _) (by rw [msgs_len]; have := pickN_lt B false i (by omega); omega)).mono ?_; rintro e w5 ⟨rfl, x5, f5⟩
              rw [← msgs_snoc] at x5
              have HX5 := hide x5
              have HB5 := hide (two_on HB2.out H2.out H3.out f5)
              have HO5 := hide (HS2.out.owns f5 HO2.out)
              clear x5 f5
              go_wp2
              go_roundg g1
              case measure => have := HI.out; omega
              case rel =>
                refine ⟨i + 1, by have := HI.out; omega, by go_num, ?_, HO5.out, HB5.out⟩
                rw [pickN_succ B true i h64, pickN_succ B false i h64, HU.out]
                simpa using HX5.out
          · have h64' : ¬ ((i : Int) < 64) := by omega
            go_wp2
            go_roundg g1
            case measure => have := HI.out; omega
            case rel =>
              refine ⟨i + 1, by have := HI.out; omega, by go_num, ?_, HO2.out, HB2.out⟩
              rw [pickN_more B true i (by omega), pickN_more B false i (by omega)]; exact HS2.out
    | succ g0 =>
      obtain rfl | rfl : j = 0 ∨ j = 1 := by have := HJ.out; omega
      · have hj0 := HJ.out
        clear hj0
        have k0 : wr.cell? ⟨w1.heap.size, 0, none⟩ = some (.bool true) := by rw [HB.out.cell (by show w1.heap.size < _; exact HXL.out), HK0.out]
        go_wp2
        clear k0
        go_loopg [4, 28] n (fun gk vs vi wr => InRel X B true n gk vs vi wr)
        case atStart => exact ⟨0, by omega, rfl, by simpa [wantN, doneN, pickN] using HO.out, HB.out⟩
        case round =>
          obtain ⟨i, hi, rfl, own2, bl2⟩ := hrel
          have HI := hide hi
          have HO2 := hide own2
          have HB2 := hide bl2
          have hwl := wantN_len B true i
          obtain ⟨m, hm⟩ : ∃ m, (wantN B true i).length = m := ⟨_, rfl⟩
          have HM := hide hm
          rw [hm] at HO2 hwl own2
          obtain ⟨so, sc, rfl, _⟩ := owns_lies own2
          clear own2 bl2 hm hi
          cases gk with
          | zero =>
            obtain rfl : i = n := by have := HI.out; omega
            have hlt : ¬ ((i : Int) < (i : Int)) := by omega
            go_wp2
            go_roundg g0
            case measure => omega
            case rel =>
              refine ⟨0 + 1, by have := HJ.out; omega, by go_num, ?_, HB2.out⟩
              have e : doneN B (0 + 1) = wantN B true i := by rw [HN.out]; rfl
              rw [e, HM.out]; exact HO2.out
          | succ g1 =>
            have hin : i < n := by have := HI.out; omega
            have hlt : (i : Int) < (n : Int) := by omega
            obtain ⟨ad, hbo⟩ := HA.out.there (k := i) hin
            subst hbo
            have kc := HA.out.2.2.2.2 ad rfl i hin
            obtain ⟨u, hu⟩ : ∃ u, B.getD i false = u := ⟨_, rfl⟩
            rw [hu] at kc
            have HU := hide hu
            have kd : wr.cell? (ad.add i) = some (.bool u) := by rw [HB2.out.cell (Nat.lt_of_lt_of_le (lt_of_cell kc) HBX.out.size), HBX.out.cell (lt_of_cell kc), kc]
            clear hu kc
            have HRW := hide (wantN_succ B true i u HU.out)
            cases u with
            | false =>
              go_wp2
              go_roundg g1
              case measure => have := HI.out; omega
              case rel =>
                refine ⟨i + 1, by have := HI.out; omega, by go_num, ?_, HB2.out⟩
                rw [HRW.out, if_neg (by simp), List.append_nil, HM.out]; exact HO2.out
            | true =>
              by_cases h64 : i < 64
              · have h64' : (i : Int) < 64 := by omega
                obtain ⟨ao5, ac5, w5, hr, ho5, hf5, hB5⟩ := app_num i HO2.out (by omega) HB2.out.size
                have HR := hide hr
                have HO5 := hide ho5
                have HB5 : Hid (Below X.heap.size X w5) := HB2.out.trans (hf5.below HB2.out.size hB5)
                clear hr ho5 hf5 hB5
                go_wp2_with (at_builtin; refine wpList_append_run rfl _ _ _ rfl _ _ _ _ rfl rfl HR.out ?_)
                go_wp2
                go_roundg g1
                case measure => have := HI.out; omega
                case rel =>
                  refine ⟨i + 1, by have := HI.out; omega, by go_num, ?_, HB5.out⟩
                  rw [HRW.out, if_pos (by first | exact ⟨rfl, h64⟩ | exact ⟨trivial, h64⟩ | exact h64), cellsU_append, List.length_append, HM.out]; exact HO5.out
              · have h64' : ¬ ((i : Int) < 64) := by omega
                go_wp2
                go_roundg g1
                case measure => have := HI.out; omega
                case rel =>
                  refine ⟨i + 1, by have := HI.out; omega, by go_num, ?_, HB2.out⟩
                  rw [HRW.out, if_neg (by omega), List.append_nil, HM.out]; exact HO2.out
      · have hj0 := HJ.out
        clear hj0
        have k0 : wr.cell? ⟨w1.heap.size, 1, none⟩ = some (.bool false) := by rw [HB.out.cell (by show w1.heap.size < _; exact HXL.out), HK1.out]
        go_wp2
        clear k0
        go_loopg [4, 28] n (fun gk vs vi wr => InRel X B false n gk vs vi wr)
        case atStart => exact ⟨0, by omega, rfl, by simpa [wantN, doneN, pickN] using HO.out, HB.out⟩
        case round =>
          obtain ⟨i, hi, rfl, own2, bl2⟩ := hrel
          have HI := hide hi
          have HO2 := hide own2
          have HB2 := hide bl2
          have hwl := wantN_len B false i
          obtain ⟨m, hm⟩ : ∃ m, (wantN B false i).length = m := ⟨_, rfl⟩
          have HM := hide hm
          rw [hm] at HO2 hwl own2
          obtain ⟨so, sc, rfl, _⟩ := owns_lies own2
          clear own2 bl2 hm hi
          cases gk with
          | zero =>
            obtain rfl : i = n := by have := HI.out; omega
            have hlt : ¬ ((i : Int) < (i : Int)) := by omega
            go_wp2
            go_roundg g0
            case measure => omega
            case rel =>
              refine ⟨1 + 1, by have := HJ.out; omega, by go_num, ?_, HB2.out⟩
              have e : doneN B (1 + 1) = wantN B false i := by rw [HN.out]; rfl
              rw [e, HM.out]; exact HO2.out
          | succ g1 =>
            have hin : i < n := by have := HI.out; omega
            have hlt : (i : Int) < (n : Int) := by omega
            obtain ⟨ad, hbo⟩ := HA.out.there (k := i) hin
            subst hbo
            have kc := HA.out.2.2.2.2 ad rfl i hin
            obtain ⟨u, hu⟩ : ∃ u, B.getD i false = u := ⟨_, rfl⟩
            rw [hu] at kc
            have HU := hide hu
            have kd : wr.cell? (ad.add i) = some (.bool u) := by rw [HB2.out.cell (Nat.lt_of_lt_of_le (lt_of_cell kc) HBX.out.size), HBX.out.cell (lt_of_cell kc), kc]
            clear hu kc
            have HRW := hide (wantN_succ B false i u HU.out)
            cases u with
            | true =>
              go_wp2
              go_roundg g1
              case measure => have := HI.out; omega
              case rel =>
                refine ⟨i + 1, by have := HI.out; omega, by go_num, ?_, HB2.out⟩
                rw [HRW.out, if_neg (by simp), List.append_nil, HM.out]; exact HO2.out
            | false =>
              by_cases h64 : i < 64
              · have h64' : (i : Int) < 64 := by omega
                obtain ⟨ao5, ac5, w5, hr, ho5, hf5, hB5⟩ := app_num i HO2.out (by omega) HB2.out.size
                have HR := hide hr
                have HO5 := hide ho5
                have HB5 : Hid (Below X.heap.size X w5) := HB2.out.trans (hf5.below HB2.out.size hB5)
                clear hr ho5 hf5 hB5
                go_wp2_with (at_builtin; refine wpList_append_run rfl _ _ _ rfl _ _ _ _ rfl rfl HR.out ?_)
                go_wp2
                go_roundg g1
                case measure => have := HI.out; omega
                case rel =>
                  refine ⟨i + 1, by have := HI.out; omega, by go_num, ?_, HB5.out⟩
                  rw [HRW.out, if_pos (by first | exact ⟨rfl, h64⟩ | exact ⟨trivial, h64⟩ | exact h64), cellsU_append, List.length_append, HM.out]; exact HO5.out
              · have h64' : ¬ ((i : Int) < 64) := by omega
                go_wp2
                go_roundg g1
                case measure => have := HI.out; omega
                case rel =>
                  refine ⟨i + 1, by have := HI.out; omega, by go_num, ?_, HB2.out⟩
                  rw [HRW.out, if_neg (by omega), List.append_nil, HM.out]; exact HO2.out
end Go.Proofs.YtibdhjohjkdgdaaDoor
