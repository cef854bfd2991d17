/-
  A slice of truths that came in.
  A round of a table: what ends, and what is left: a contract (IAge's, over ZMade).
  How many objects a table has: a contract (IScr's, over ZAgeT).
  The services' boxes, and a number in an own row.
-/
import Derived.Test.YtjpgfldppepmiaaDoorJf
import Derived.Deep.Grids
import Derived.Test.YtjpgfldppepmiaaDoorJi
import Derived.Deep.CutRange
namespace Go.Proofs.YtjpgfldppepmiaaDoor
section
open Go.RowKit Go.Deep
def Bls (w : World) (ao : Option Addr) (n cap : Nat) (xs : List Bool) : Prop :=
  n = xs.length ∧ n ≤ cap ∧ cap ≤ maxLen ∧ (ao = none → cap = 0) ∧ ∀ ad, ao = some ad → ∀ j, j < n → w.cell? (ad.add j) = some (.bool (xs.getD j false))
theorem Bls.carry {w w' : World} {ao : Option Addr} {n cap : Nat} {xs : List Bool} (h : Bls w ao n cap xs) {B : Nat} (b : Below B w w') (hB : w.heap.size ≤ B) : Bls w' ao n cap xs :=
  ⟨h.1, h.2.1, h.2.2.1, h.2.2.2.1, fun ad e j hj => by
    have := h.2.2.2.2 ad e j hj
    rw [b.cell (Nat.lt_of_lt_of_le (lt_of_cell this) hB), this]⟩
theorem bytesB : Tryd.prog.bytesOf 4 = 1 := by kernel_rfl
theorem open_bls {H : Type} {enc : TypeId × Value → H} {w : World} {a : Option Addr} {len cap fuel : Nat} {x : DataW H × List MemPlace} (hf : DataW.trod enc Tryd.prog w 0 (fun _ => true) true fuel 57 [.slice a len cap] = some x) :
    ∃ xs, Bls w a len cap xs ∧ (x.1 = .nil ∧ cap = 0 ∨ ∃ els sp, x.1 = .slice els sp ∧ els.length + sp.length = cap) := by
  rcases open_bools Tryd.underlying57 Tryd.underlying4 (by kernel_rfl) hf with ⟨hcs, hx⟩ | ⟨ad, l, c, Q, hcs, _, hl, hm, hx, hel⟩
  · simp at hcs
    obtain ⟨rfl, rfl, rfl⟩ := hcs
    exact ⟨[], ⟨rfl, Nat.le_refl _, by decide, fun _ => rfl, (fun ad e => by cases e)⟩, .inl ⟨by rw [hx], rfl⟩⟩
  · simp at hcs
    obtain ⟨rfl, rfl, rfl⟩ := hcs
    refine ⟨(List.range len).map Q, ⟨by simp, hl, hm, (fun e => by cases e), fun ad' e j hj => ?_⟩, .inr ⟨_, _, by rw [hx]; rfl, by simp; omega⟩⟩
    obtain rfl := Option.some.inj e
    rw [hel j (by omega), List.getD_eq_getElem?_getD, List.getElem?_map, List.getElem?_range hj]; rfl
theorem Bls.there {w : World} {ao : Option Addr} {n cap : Nat} {xs : List Bool} (h : Bls w ao n cap xs) {k : Nat} (hk : k < n) : ∃ ad, ao = some ad := by
  cases ao with
  | none => have := h.2.2.2.1 rfl; have := h.2.1; omega
  | some ad => exact ⟨ad, rfl⟩
end
end Go.Proofs.YtjpgfldppepmiaaDoor
namespace Go.Proofs.YtjpgfldppepmiaaDoor
section
open Go.RowKit
variable {w0 w w1 w2 w' : World} {g go p : Nat} {T : Nat → Ob}
def agO (x : Ob) : Ob := if x.l = 0 then x else if x.l = 1 then Ob.zero else ⟨x.s, x.e, x.v, x.l - 1⟩
def agT (T : Nat → Ob) (i : Nat) : Nat → Ob := fun k => if 1 ≤ k ∧ k < i then agO (T k) else T k
def goneL (T : Nat → Ob) (i : Nat) : List Int := (List.range i).flatMap fun k => if 1 ≤ k ∧ (T k).l = 1 then [(T k).v] else []
theorem agT_one (T : Nat → Ob) : agT T 1 = T := by funext k; unfold agT; rw [if_neg (by omega)]
theorem agT_at (T : Nat → Ob) (i : Nat) : agT T i i = T i := by unfold agT; rw [if_neg (by omega)]
theorem agT_succ (T : Nat → Ob) {i : Nat} (h : 1 ≤ i) : agT T (i + 1) = updO (agT T i) i (agO (T i)) := by
  funext k
  unfold agT updO
  by_cases e : k = i
  · subst e; rw [if_pos rfl, if_pos (by omega)]
  · rw [if_neg e]
    show _ = if 1 ≤ k ∧ k < i then agO (T k) else T k
    by_cases h2 : 1 ≤ k ∧ k < i
    · rw [if_pos h2, if_pos (by omega)]
    · rw [if_neg h2, if_neg (by omega)]
theorem agT_same (T : Nat → Ob) {i : Nat} (h : agO (T i) = T i) : agT T (i + 1) = agT T i := by
  funext k
  unfold agT
  by_cases e : k = i
  · subst e
    rw [if_neg (show ¬ (1 ≤ k ∧ k < k) by omega)]
    split
    · exact h
    · rfl
  · by_cases h2 : 1 ≤ k ∧ k < i
    · rw [if_pos h2, if_pos (by omega)]
    · rw [if_neg h2, if_neg (by omega)]
theorem goneL_succ (T : Nat → Ob) (i : Nat) : goneL T (i + 1) = goneL T i ++ (if 1 ≤ i ∧ (T i).l = 1 then [(T i).v] else []) := by
  unfold goneL
  rw [List.range_succ, List.flatMap_append]; simp
theorem goneL_one (T : Nat → Ob) : goneL T 1 = [] := by rw [goneL_succ, if_neg (by omega)]; rfl
theorem goneL_len (T : Nat → Ob) (i : Nat) : (goneL T i).length ≤ i := by
  induction i with
  | zero => simp [goneL]
  | succ i ih =>
    rw [goneL_succ, List.length_append]
    split
    · simp; omega
    · simp; omega
theorem Tryd.infoI : (Tryd.prog.info? 3).map (fun i => (i.zero, i.size, i.bytes)) = some (some (.int .i64 0), 1, 8) := by kernel_rfl
theorem app_int {B n : Nat} {v : Value} {L : List Int} (x : Int) (h : w.ownsRow B 3 1 v n (cellsG L)) (hn : n ≤ 1000) (hB : B ≤ w.heap.size) :
    ∃ v' w', (Builtin.append_ #[33, 33] 33 #[v, .slice (some ⟨w.heap.size, 0, none⟩) 1 1]).run Tryd.prog (w.alloc (.cells #[.int .i64 x] 3)) = .ok v' w' ∧ w'.ownsRow B 3 1 v' (n + 1) (cellsG (L ++ [x])) ∧ Foot (fun k => v.ownBlock = some k) w w' ∧ Moved w v v' := by
  obtain ⟨v', w', h1, h2, h3, h4⟩ := app_elem (ty := 33) #[.int .i64 x] Tryd.underlying33 Tryd.infoI rfl (by omega) rfl (by intro u hu; simp at hu; rcases hu with rfl; rfl) (by omega) (by unfold maxLen; omega) h hB
  exact ⟨v', w', h1, by simpa [cellsG] using h2, h3, h4⟩
def AgeRel (w : World) (g p go : Nat) (T : Nat → Ob) (gk : Nat) (vo vk : Value) (wr : World) : Prop :=
  ∃ i n : Nat, i + gk = 64 ∧ 1 ≤ i ∧ vk = .int .i64 (i : Int) ∧ n = (goneL T i).length ∧ wr.ownsRow w.heap.size 3 1 vo n (cellsG (goneL T i)) ∧ Tb wr g p go (agT T i) ∧ Foot (fun j => j = g) w wr
set_option maxRecDepth 20000 in
set_option maxHeartbeats 3200000 in
theorem age_any (w : World) (x : Tb w g p go T) :
    Calls Tryd.prog 43 #[.pointer (some ⟨g, 0, none⟩)] w fun e w' => ∃ ao n cap, e = .returned (.slice ao n cap) ∧ n = (goneL T 64).length ∧ w'.ownsRow w.heap.size 3 1 (.slice ao n cap) n (cellsG (goneL T 64)) ∧ Tb w' g p go (agT T 64) ∧ Foot (fun j => j = g) w w' := by
  have HX := hide x
  have HGW : Hid (g < w.heap.size) := x.lt
  clear x
  go_enter Tryd.func43, Tryd.ntmps43
  go_wp2
  go_loopg [3, 4] 63 (fun gk vo vk wr => AgeRel w g p go T gk vo vk wr)
  case atStart => exact ⟨1, 0, by omega, by omega, rfl, by rw [goneL_one]; rfl, by rw [goneL_one]; exact owns_nil _ _ _ _, by rw [agT_one]; exact HX.out, Foot.refl _ _⟩
  case round =>
    obtain ⟨i, n, hi, h1, rfl, hn, ho, ht, hf⟩ := hrel
    have HO := hide ho
    have HT := hide ht
    have HF := hide hf
    have HN := hide hn
    clear ho ht hf hn HX
    cases gk with
    | zero =>
      obtain rfl : i = 64 := by omega
      obtain ⟨ao, cap, rfl, hl⟩ := owns_lies HO.out
      clear hl
      go_wp2
      go_ret
      exact ⟨ao, n, cap, rfl, HN.out, HO.out, HT.out, HF.out⟩
    | succ g1 =>
      have hin : i < 64 := by omega
      have hlt : (i : Int) < 64 := by omega
      have hi0 : (0 : Int) ≤ (i : Int) := by omega
      have HI := hide hi
      have HIN := hide hin
      have H1 := hide h1
      rcases hTi : T i with ⟨s, ep, vl, l⟩
      have hTa : agT T i i = ⟨s, ep, vl, l⟩ := by rw [agT_at]; exact hTi
      have hb : (decide (0 ≤ (i : Int)) && hasO (agT T i) ((i : Int)).toNat) = decide (0 < l) := by
        unfold hasO
        rw [Int.toNat_natCast, hTa, decide_eq_true hi0, decide_eq_true hin]; rfl
      have HB := hide hb
      have HTI := hide hTi
      have HTA := hide hTa
      clear hb hTi hTa hi hin h1
      go_wp2_with fail
      refine (has_any i _ HT.out (by omega)).mono ?_; rintro e wx ⟨rfl, rfl⟩
      rw [HB.out]
      by_cases hl : 0 < l
      · rw [decide_eq_true hl]
        have HLP := hide hl
        obtain ⟨k0, k1, k2, k3⟩ := HT.out.at i HIN.out s ep vl l HTA.out
        have z := HT.out.z
        have hok := HT.out.ok i
        rw [HTA.out] at hok
        have hl24 : l ≤ 24 := hok.2
        obtain ⟨l1, hl1⟩ : ∃ l1, l - 1 = l1 := ⟨_, rfl⟩
        have hsub : (l : Int) - 1 = (l1 : Int) := by omega
        have hwr : IntKind.i64.wrap ((l : Int) - 1) = (l1 : Int) := by rw [IntKind.wrap_i64]; omega
        have hwr2 : IntKind.i64.wrap (l1 : Int) = (l1 : Int) := by rw [IntKind.wrap_i64]; omega
        have HL1 := hide hl1
        go_upto_region 6 with fail
        go_region
        obtain ⟨T1, hT1⟩ : ∃ T1, updO (agT T i) i ⟨s, ep, vl, l1⟩ = T1 := ⟨_, rfl⟩
        obtain ⟨W1, hW1⟩ : ∃ W, (wx.setCell ⟨g, 2 + i * 4 + 3, none⟩ (.int .i64 (l1 : Int))).drew = W := ⟨_, rfl⟩
        rw [hW1]
        have HT1 : Hid (Tb W1 g p go T1) := hW1 ▸ hT1 ▸ (HT.out.set i 3 HIN.out (by omega) (.int .i64 (l1 : Int)) ⟨s, ep, vl, l1⟩ ⟨hok.1, by show l1 ≤ 24; omega⟩ (fun f hf => by rw [HTA.out]; match f, hf with | 0, _ | 1, _ | 2, _ | 3, _ => rfl)).drewN 1
        have fW : Foot (fun j => j = g) wx W1 := hW1 ▸ (foot_set wx ⟨g, 2 + i * 4 + 3, none⟩ (.int .i64 (l1 : Int))).drewN 1
        have HF1 := hide (HF.out.trans fW (fun _ e => .inl e))
        have HO1 := hide (owns_foot HO.out fW (fun r hr e => by
          have h1 := (owns_block HO.out hr).choose_spec.2
          have h2 := HGW.out
          omega))
        have HTk : Hid (T1 i = ⟨s, ep, vl, l1⟩) := by show _ = _; rw [← hT1, updO_same]
        have HTT := hide hT1
        have hb1 : (decide (0 ≤ (i : Int)) && hasO T1 ((i : Int)).toNat) = decide (0 < l1) := by
          unfold hasO
          rw [Int.toNat_natCast, HTk.out, decide_eq_true hi0, decide_eq_true HIN.out]; rfl
        have HB1 := hide hb1
        clear hl1 hl k0 k1 k2 k3 z hok hsub hwr hwr2 hW1 fW hT1 hb1 HT HF HO hl24
        go_wp2_with fail
        refine (has_any i _ HT1.out (by omega)).mono ?_; rintro e wy ⟨rfl, rfl⟩
        rw [HB1.out]
        by_cases h0 : 0 < l1
        · rw [decide_eq_true h0]
          have hs : agO (T i) = ⟨s, ep, vl, l1⟩ := by
            unfold agO
            rw [HTI.out]
            simp only
            rw [if_neg (by have := HL1.out; omega), if_neg (by have := HL1.out; omega), HL1.out]
          have hT2 : agT T (i + 1) = T1 := by rw [agT_succ T H1.out, hs]; exact HTT.out
          have hg2 : goneL T (i + 1) = goneL T i := by rw [goneL_succ, if_neg (by rw [HTI.out]; have := HL1.out; show ¬ (_ ∧ l = 1); omega), List.append_nil]
          have HS := hide (And.intro hT2 hg2)
          clear h0 hs hT2 hg2
          go_wp2_with fail
          go_roundg g1
          case measure => have := HI.out; omega
          case rel => exact ⟨i + 1, n, by have := HI.out; omega, by omega, by go_num, by rw [HS.out.2]; exact HN.out, by rw [HS.out.2]; exact HO1.out, by rw [HS.out.1]; exact HT1.out, HF1.out⟩
        · rw [decide_eq_false h0]
          have hs : agO (T i) = Ob.zero := by
            unfold agO
            rw [HTI.out]
            simp only
            rw [if_neg (by have := HLP.out; omega), if_pos (by have := HL1.out; have := HLP.out; omega)]
          have hT2 : agT T (i + 1) = updO T1 i Ob.zero := by rw [agT_succ T H1.out, hs, ← HTT.out, updO_updO]
          have hg2 : goneL T (i + 1) = goneL T i ++ [vl] := by rw [goneL_succ, if_pos ⟨H1.out, by rw [HTI.out]; have := HL1.out; have := HLP.out; show l = 1; omega⟩, HTI.out]
          have HS := hide (And.intro hT2 hg2)
          clear h0 hs hT2 hg2
          go_wp2_with fail
          refine (end_any i _ HT1.out HIN.out).mono ?_; rintro e w2 ⟨rfl, T2, f2⟩
          rw [HTk.out]
          have HT2 := hide T2
          have HF2 := hide (HF1.out.trans f2 (fun _ e => .inl e))
          have HO2 := hide (owns_foot HO1.out f2 (fun r hr e => by
            have h1 := (owns_block HO1.out hr).choose_spec.2
            have h2 := HGW.out
            omega))
          clear T2 f2
          obtain ⟨v', w', hr, ho', hfa, -⟩ := app_int vl HO2.out (by have := goneL_len T i; have := HN.out; have := HIN.out; omega) HF2.out.size
          have HRUN := hide hr
          have HO3 := hide ho'
          have HF3 := hide (HF2.out.trans hfa (fun r e => .inr (owns_block HO2.out e).choose_spec.2))
          have HT3 := hide (HT2.out.foot hfa (fun e => by
            have h1 := (owns_block HO2.out e).choose_spec.2
            have h2 := HGW.out
            omega))
          clear hr ho' hfa
          go_wp2_with (at_builtin; refine wpList_append_run rfl _ _ _ rfl _ _ _ _ rfl rfl HRUN.out ?_)
          go_roundg g1
          case measure => have := HI.out; omega
          case rel => exact ⟨i + 1, n + 1, by have := HI.out; omega, by omega, by go_num, by rw [HS.out.2, List.length_append, ← HN.out]; rfl, by rw [HS.out.2]; exact HO3.out, by rw [HS.out.1]; exact HT3.out, HF3.out⟩
      · rw [decide_eq_false hl]
        have hs : agO (T i) = T i := by unfold agO; rw [if_pos (by rw [HTI.out]; show l = 0; omega)]
        have hg2 : goneL T (i + 1) = goneL T i := by rw [goneL_succ, if_neg (by rw [HTI.out]; show ¬ (_ ∧ l = 1); omega), List.append_nil]
        have HS := hide (And.intro (agT_same T hs) hg2)
        clear hl hs hg2
        go_wp2_with fail
        go_roundg g1
        case measure => have := HI.out; omega
        case rel => exact ⟨i + 1, n, by have := HI.out; omega, by omega, by go_num, by rw [HS.out.2]; exact HN.out, by rw [HS.out.2]; exact HO.out, by rw [HS.out.1]; exact HT.out, HF.out⟩
end
end Go.Proofs.YtjpgfldppepmiaaDoor
namespace Go.Proofs.YtjpgfldppepmiaaDoor
section
open Go.RowKit
variable {w0 w w1 w2 w' : World} {g go p : Nat} {T : Nat → Ob}
def lenF (T : Nat → Ob) (i : Nat) : Nat := ((List.range i).filter fun k => decide (0 < (T k).l)).length
theorem lenF_succ (T : Nat → Ob) (i : Nat) : lenF T (i + 1) = lenF T i + (if 0 < (T i).l then 1 else 0) := by
  unfold lenF
  rw [List.range_succ, List.filter_append, List.length_append]
  by_cases h : 0 < (T i).l
  · rw [if_pos h]; simp [h]
  · rw [if_neg h]; simp [h]
theorem lenF_le (T : Nat → Ob) (i : Nat) : lenF T i ≤ i := by
  unfold lenF
  have := List.length_filter_le (fun k => decide (0 < (T k).l)) (List.range i)
  rw [List.length_range] at this
  exact this
def LenRel (w : World) (T : Nat → Ob) (gk : Nat) (vm vi : Value) (wr : World) : Prop := ∃ i m : Nat, i + gk = 64 ∧ m = lenF T i ∧ vi = .int .i64 (i : Int) ∧ vm = .int .i64 (m : Int) ∧ w = wr
set_option maxRecDepth 20000 in
set_option maxHeartbeats 1600000 in
theorem len_any (w : World) (x : Tb w g p go T) :
    Calls Tryd.prog 18 #[.pointer (some ⟨g, 0, none⟩)] w fun e w' => e = .returned (.int .i64 (lenF T 64 : Nat)) ∧ w' = w := by
  have HX := hide x
  clear x
  obtain ⟨R, hR⟩ : ∃ R, lenF T 64 = R := ⟨_, rfl⟩
  rw [hR]
  have HR := hide hR
  clear hR
  go_enter Tryd.func18, Tryd.ntmps18
  go_wp2
  go_loopg [3, 5] 64 (fun gk vm vi wr => LenRel w T gk vm vi wr)
  case atStart => exact ⟨0, 0, by omega, rfl, rfl, rfl, rfl⟩
  case round =>
    obtain ⟨i, m, hi, hm, rfl, rfl, rfl⟩ := hrel
    have HM := hide hm
    clear hm
    cases gk with
    | zero =>
      obtain rfl : i = 64 := by omega
      have e : m = R := HM.out.trans HR.out
      subst e
      go_wp2
      go_ret
      exact ⟨rfl, rfl⟩
    | succ g1 =>
      have hin : i < 64 := by omega
      have hlt : (i : Int) < 64 := by omega
      have hi0 : (0 : Int) ≤ (i : Int) := by omega
      have hb : (decide (0 ≤ (i : Int)) && hasO T ((i : Int)).toNat) = decide (0 < (T i).l) := by
        unfold hasO
        rw [Int.toNat_natCast, decide_eq_true hi0, decide_eq_true hin]; rfl
      have hml : (m : Int) ≤ 64 := by have := lenF_le T i; have := HM.out; omega
      have HB := hide hb
      have HI := hide hi
      clear hb hin hi
      go_wp2_with fail
      refine (has_any i _ HX.out (by omega)).mono ?_; rintro e wx ⟨rfl, rfl⟩
      rw [HB.out]
      by_cases hl : 0 < (T i).l
      · rw [decide_eq_true hl]
        have HL := hide hl
        clear hl
        go_wp2_with fail
        go_roundg g1
        case measure => have := HI.out; omega
        case rel => exact ⟨i + 1, m + 1, by have := HI.out; omega, by rw [lenF_succ, if_pos HL.out, HM.out], by go_num, by go_num, rfl⟩
      · rw [decide_eq_false hl]
        have HL := hide hl
        clear hl
        go_wp2_with fail
        go_roundg g1
        case measure => have := HI.out; omega
        case rel => exact ⟨i + 1, m, by have := HI.out; omega, by rw [lenF_succ, if_neg HL.out, HM.out]; rfl, by go_num, rfl, rfl⟩
end
end Go.Proofs.YtjpgfldppepmiaaDoor
namespace Go.Proofs.YtjpgfldppepmiaaDoor
section
open Go.RowKit
variable {w0 w w' : World} {A : Ad} {p : Nat} {ws : List Nat} {s : Hs}
/- the services' boxes -/
theorem Sv.cd (x : Sv w0 w A p ws s) : w.cell? ⟨A.sb, 0, none⟩ = some A.dv := by rw [cell_of_row w A.sb _ _ _ _ x.box]; rfl
theorem Sv.cn (x : Sv w0 w A p ws s) : w.cell? ⟨A.sb, 1, none⟩ = some A.nv := by rw [cell_of_row w A.sb _ _ _ _ x.box]; rfl
theorem Sv.fd (x : Sv w0 w A p ws s) : ∃ ao cap, A.dv = .slice ao s.D.length cap ∧ cap ≤ 9223372036854775807 ∧ s.D.length ≤ cap := by
  obtain ⟨ao, cap, e, h1, h2, h3, _⟩ := owns_lies x.dn
  exact ⟨ao, cap, e, h3, h2⟩
theorem Sv.fn (x : Sv w0 w A p ws s) : ∃ ao cap, A.nv = .slice ao s.G.length cap ∧ cap ≤ 9223372036854775807 ∧ s.G.length ≤ cap := by
  obtain ⟨ao, cap, e, h1, h2, h3, _⟩ := owns_lies x.gn
  exact ⟨ao, cap, e, h3, h2⟩
theorem cells_u (D : List Int) (f : Int → Value) {j : Nat} (hj : j < D.length) : (D.map f)[j]? = some (f (D.getD j 0)) := by
  rw [List.getElem?_map, List.getD_eq_getElem?_getD, List.getElem?_eq_getElem hj]; rfl
theorem owns_one {B : Nat} {e : TypeId} {D : List Int} {f : Int → Value} {ao : Option Addr} {n cap : Nat} (h : w.ownsRow B e 1 (.slice ao n cap) D.length (D.map f)) {j : Nat} (hj : j < D.length) :
    ∃ b, ao = some ⟨b, 0, none⟩ ∧ w.cell? ⟨b, j, none⟩ = some (f (D.getD j 0)) := by
  rcases h.2 with ⟨_, h2⟩ | ⟨b, cap', cur, e2, h1, h2, h3, h4, h5, h6⟩
  · omega
  · have e3 : ao = some ⟨b, 0, none⟩ := by cases e2; rfl
    subst e3
    refine ⟨b, rfl, ?_⟩
    rw [← add0]; exact h.cells (g := b) rfl j _ (cells_u D f hj)
end
end Go.Proofs.YtjpgfldppepmiaaDoor
