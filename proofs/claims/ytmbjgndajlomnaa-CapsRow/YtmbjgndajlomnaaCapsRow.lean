/-
  CapsRow: several capabilities are their bytes one behind the other, and are read of them.
-/
import Derived.Test.YtmbjgndajlomnaaRows
import Derived.Test.YtmbjgndajlomnaaRow
import Derived.Test.YtmbjgndajlomnaaRowsOf
import Derived.Test.YtmbjgndajlomnaaReadC
import Derived.WalkKit
import Derived.WalkSpells
import Derived.WalkLawsBesides
import Derived.Deep.QuietTactic
import Derived.BigQuiet
import Derived.ProofKit
import Derived.OpenShut
import Derived.ShutString
import Derived.ChangeOld
import Derived.Below
import Derived.SizedLaws
namespace Go.Proofs.Ytmbjgndajlomnaa

open Go.RowKit
theorem hide {p : Prop} (h : p) : Hid p := h
theorem decF_bytes (x : Cp) (h : x.may = true) (hr : x.r ≤ 255) : decF x.bytes = x := by
  obtain ⟨h1, h2, h3⟩ := (Cp.may_iff x).1 h
  obtain ⟨p, o, r, c⟩ := x
  simp only [decF, Cp.bytes]
  rw [cap_port p o r c h1, cap_object p o r c h2, cap_rights p o r c hr, cap_check p o r c h3]
theorem decsF_bytesC (ys : List Cp) (hm : ∀ x ∈ ys, x.may = true ∧ x.r ≤ 255) (k : Nat) (hk : k ≤ ys.length) : decsF (bytesC ys) k = ys.take k := by
  induction k with
  | zero => rfl
  | succ k ih =>
    have hl : k < ys.length := by omega
    rw [decsF, ih (by omega), bytesC_get ys k hl, take_snoc ys k hl]
    have hx : ys.getD k Cp.zero ∈ ys := by rw [List.getD_eq_getElem?_getD, List.getElem?_eq_getElem hl]; exact List.getElem_mem hl
    rw [decF_bytes _ (hm _ hx).1 (hm _ hx).2]
def madeC (xs : List Cp) : List Cp := xs.map Cp.made
theorem madeC_len (xs : List Cp) : (madeC xs).length = xs.length := by simp [madeC]
theorem madeC_mem (xs : List Cp) (hok : ∀ x ∈ xs, x.ok) : ∀ y ∈ madeC xs, y.may = true ∧ y.r ≤ 255 := by
  intro y hy
  simp only [madeC, List.mem_map] at hy
  obtain ⟨x, hx, rfl⟩ := hy
  exact ⟨Cp.may_made x, (hok x hx).2.2.1⟩
theorem madeC_ok (xs : List Cp) (hok : ∀ x ∈ xs, x.ok) : ∀ y ∈ madeC xs, y.ok := by
  intro y hy
  simp only [madeC, List.mem_map] at hy
  obtain ⟨x, hx, rfl⟩ := hy
  exact Cp.ok_made x (hok x hx)
theorem madeC_may (xs : List Cp) (hok : ∀ x ∈ xs, x.ok) : mayC (madeC xs) = true := by
  unfold mayC; rw [List.all_eq_true]; exact fun y hy => (madeC_mem xs hok y hy).1
theorem madeC_snoc (xs : List Cp) (x : Cp) : madeC (xs ++ [x]) = madeC xs ++ [x.made] := by simp [madeC]
theorem one_any (b : Bool) (w : World) : Calls Try.prog 19 #[.bool b] w fun e w' => e = .returned (.int .i64 (if b then 1 else 0)) ∧ w' = w := by
  cases b
  · go_enter Try.func19, Try.ntmps19
    go_wp2
    go_ret
    exact ⟨rfl, rfl⟩
  · go_enter Try.func19, Try.ntmps19
    go_wp2
    go_ret
    exact ⟨rfl, rfl⟩
theorem owns_far {w w' : World} {base size n : Nat} {e : TypeId} {v : Value} {xs : List Value} {row : Option Nat} (h : w.ownsRow base e size v n xs) (hg : w.grownBy w' row) (hne : ∀ g, v.ownBlock = some g → row ≠ some g) : w'.ownsRow base e size v n xs := by
  refine ⟨h.1, ?_⟩
  rcases h.2 with ⟨hv, hn⟩ | ⟨g, cap, cur, hv, hb, hgg, h1, h2, h3, h4⟩
  · exact .inl ⟨hv, hn⟩
  · have hlt : g < w.heap.size := by
      by_cases hlt : g < w.heap.size
      · exact hlt
      · rw [Array.getElem?_eq_none (by omega)] at hgg; cases hgg
    exact .inr ⟨g, cap, cur, hv, hb, (hg.block g hlt (fun e => hne g (by rw [hv]; rfl) e.symm)).trans hgg, h1, h2, h3, h4⟩
def Loop2Rel (w : World) (n : Nat) (a5 : Option Addr) (c5 : Nat) (a4 : Option Addr) (c4 : Nat) (ys : List Cp) (bo : Option Addr) (bn bc : Nat) (l : List UInt8) (i : Value) (wr : World) : Prop :=
  ∃ j : Nat, j ≤ n ∧ i = .int .i64 j ∧ Hid (Caps wr a5 n c5 ys) ∧ Hid (Caps wr a4 n c4 ys) ∧ Hid (Bts wr bo bn bc l) ∧ Hid (Below w.heap.size w wr)
theorem below_drewN {B : Nat} {a w : World} (h : Below B a w) (k : Nat) : Below B a (w.drewN k) := ⟨h.os, h.tape, h.output, h.size, h.block⟩
def LoopRel (w : World) (n : Nat) (xs : List Cp) (x5 x6 x7 x23 : Value) (wr : World) : Prop :=
  ∃ k : Nat, k ≤ n ∧ x23 = .int .i64 k ∧ x7 = .bool (mayC (xs.take k)) ∧ Hid (wr.ownsRow w.heap.size 25 4 x5 k (cellsC (madeC (xs.take k)))) ∧ Hid (wr.ownsRow w.heap.size 5 1 x6 (k * 16) (cellsB (bytesC (madeC (xs.take k))))) ∧
    Hid (∀ g, x5.ownBlock = some g → x6.ownBlock ≠ some g) ∧ Hid (Below w.heap.size w wr)
set_option maxRecDepth 100000 in
set_option maxHeartbeats 6400000 in
theorem walk_row (ao : Option Addr) (n cap : Nat) (xs : List Cp) (bo : Option Addr) (bn bc : Nat) (l : List UInt8) (w : World) (hx : Caps w ao n cap xs) (hr : n ≤ 5864062014634) (hb : Bts w bo bn bc l) (hbr : bn ≤ 140737488351232) :
    Calls Try.prog 6 #[.slice ao n cap, .slice bo bn bc] w fun e w' => e = .returned (.bool true) ∧ Below w.heap.size w w' := by
  have HX : Hid (Caps w ao n cap xs) := hx
  have HB : Hid (Bts w bo bn bc l) := hb
  have HN : Hid (n = xs.length) := hx.1
  have hcm : cap ≤ 9223372036854775807 := hx.2.2.1
  have hnc : n ≤ cap := hx.2.1
  have hbm : bc ≤ 9223372036854775807 := hb.2.2.1
  have hbc : bn ≤ bc := hb.2.1
  clear hx hb
  obtain ⟨i0, hi, hz0, hz1, hz2⟩ := info_parts Try.info5
  obtain ⟨j0, hj, hy0, hy1, hy2⟩ := info_parts Try.info25
  go_enter Try.func6, Try.ntmps6
  go_wp2_with fail
  refine (awake_any _).mono ?_; rintro e w1 ⟨rfl, bel1⟩
  have HL1 : Hid (Below w.heap.size w w1) := bel1
  have HX1 : Hid (Caps w1 ao n cap xs) := HX.out.carry bel1
  clear bel1
  go_wp2
  go_loopw [5, 6, 7, 23] (fun x5 x6 x7 x23 wr => LoopRel w n xs x5 x6 x7 x23 wr) (fun _ _ _ i _ => n - (intOf i).toNat)
  case atStart => exact ⟨0, Nat.zero_le _, rfl, rfl, ⟨rfl, .inl ⟨rfl, rfl⟩⟩, ⟨rfl, .inl ⟨rfl, rfl⟩⟩, (fun g h => by cases h), HL1.out⟩
  case round =>
    obtain ⟨k, hk, rfl, rfl, HO5, HO6, HNE, HL⟩ := hrel
    have HXr : Hid (Caps wr ao n cap xs) := HX.out.carry HL.out
    by_cases hkn : k < n
    · have HS : Hid (xs.take (k + 1) = xs.take k ++ [xs.getD k Cp.zero]) := take_snoc xs k (by have := HN.out; omega)
      have hok := HXr.out.okAt k hkn
      obtain ⟨⟨p, o, r, c⟩, hx⟩ : ∃ x, xs.getD k Cp.zero = x := ⟨_, rfl⟩
      cases ao with
      | none => have := HX.out.2.2.2.1 rfl; omega
      | some ad =>
        obtain ⟨k0, k1, k2, k3⟩ := HXr.out.elem k hkn p o r c hx
        rw [hx] at HS hok
        obtain ⟨hp, ho, hr8, hc⟩ := hok
        have hp : p ≤ 18446744073709551615 := hp
        have ho : o ≤ 4294967295 := ho
        have hr8 : r ≤ 255 := hr8
        have hc : c ≤ 18446744073709551615 := hc
        clear hx
        obtain ⟨p', ep⟩ : ∃ x, p % 281474976710656 = x := ⟨_, rfl⟩
        obtain ⟨o', eo⟩ : ∃ x, o % 16777216 = x := ⟨_, rfl⟩
        obtain ⟨c', ec⟩ : ∃ x, c % 281474976710656 = x := ⟨_, rfl⟩
        have hp' : p' ≤ 281474976710655 := by omega
        have ho' : o' ≤ 16777215 := by omega
        have hc' : c' ≤ 281474976710655 := by omega
        have HMD : Hid ((⟨p, o, r, c⟩ : Cp).made = ⟨p', o', r, c'⟩) := by rw [← ep, ← eo, ← ec]; rfl
        have EP : Hid _ := ep
        have EO : Hid _ := eo
        have EC : Hid _ := ec
        clear ep eo ec
        have HT : Hid (Below wr.heap.size wr (wr.alloc (.cells #[.int .u64 p, .int .u32 o, .int .u8 r, .int .u64 c] 25))) := below_alloc _ _
        have HZ : Hid (Box (wr.alloc (.cells #[.int .u64 p, .int .u32 o, .int .u8 r, .int .u64 c] 25)) wr.heap.size p o r c) := box_new _ _ _ _ _
        go_wp2_with fail
        refine (make_at p o r c p' o' c' _ hp ho hr8 hc EP.out EO.out EC.out).mono ?_; rintro e w3 ⟨rfl, bel3⟩
        have HL3 : Hid (Below w.heap.size w w3) := below_one (below_one HL.out HT.out) bel3
        have HZ3 : Hid (Box w3 wr.heap.size p o r c) := HZ.out.carry bel3
        have HO53 := owns_carry (owns_carry HO5.out HT.out) bel3
        have HO63 := owns_carry (owns_carry HO6.out HT.out) bel3
        have HLT5 : Hid _ := owns_lt HO5.out
        have HLT6 : Hid _ := owns_lt HO6.out
        have hw3 : wr.heap.size < w3.heap.size := lt_of_cell HZ3.out.1
        have H53 := hide HO53
        have H63 := hide (HO63)
        clear bel3 HT HZ k0 k1 k2 k3 HO5 HO6 HO53 HO63
        go_wp2_with (at_builtin; refine wpList_append_lies _ rfl _ _ 35 rfl w.heap.size 25 j0 _ 4 24 Try.underlying35 hj hy0 hy1 hy2 rfl (by decide) _ k _ rfl (H53.out.alloc _) ⟨w3.heap.size, 0, none⟩ 1 1 (Cp.cells ⟨p', o', r, c'⟩) rfl rfl ?c1 (cells_one _) (by omega) (by unfold maxLen; omega) (by omega) ?c5 (w3.heap.size + 1) (by simp) ?_)
        case c1 => exact news_cells _ ⟨p', o', r, c'⟩ _ rfl
        case c5 => have := HL3.out.size; simp; omega
        intro g5 cap5 w4 hown5 hgrow5 hat5 hlt5
        have HL4 : Hid (Below w.heap.size w w4) := (HL3.out.alloc HL3.out.size _).grown hgrow5 (HL3.out.alloc HL3.out.size _).size (fun g e => (HLT5.out g e).1)
        have HZ4 : Hid (Box w4 wr.heap.size p o r c) := (HZ3.out.carry (below_alloc _ _)).grown hgrow5 (fun e => absurd (HLT5.out _ e.symm).2 (Nat.lt_irrefl _))
        have H54 : Hid (w4.ownsRow w.heap.size 25 4 (.slice (some ⟨g5, 0, none⟩) (k + 1) cap5) (k + 1) (cellsC (madeC (xs.take (k + 1))))) := by rw [HS.out, madeC_snoc, HMD.out, cellsC_snoc]; exact hown5
        have H64 := hide (owns_far (H63.out.alloc (.cells #[.int .u64 p', .int .u32 o', .int .u8 r, .int .u64 c'] 25)) hgrow5 (fun g h e => HNE.out g e h))
        have HN4 : Hid (∀ g, u6.ownBlock = some g → g ≠ g5) := by
          intro g h e
          subst e
          rcases hat5 with h5 | h5
          · exact HNE.out g h5 h
          · have := (HLT6.out g h).2; omega
        have hw4 : wr.heap.size < w4.heap.size := lt_of_cell HZ4.out.1
        clear hown5 hgrow5 hat5 HZ3 H53 H63 HNE HLT5
        obtain ⟨k0, k1, k2, k3⟩ := HZ4.out
        go_wp2_with fail
        refine (make_at p o r c p' o' c' _ hp ho hr8 hc EP.out EO.out EC.out).mono ?_; rintro e w5 ⟨rfl, bel5⟩
        have HL5 : Hid (Below w.heap.size w w5) := below_one HL4.out bel5
        have HZ5 : Hid (Box w5 wr.heap.size p o r c) := HZ4.out.carry bel5
        have H55 := hide (owns_carry H54.out bel5)
        have H65 := hide (owns_carry H64.out bel5)
        have hlt5' : g5 < w5.heap.size := Nat.lt_of_lt_of_le hlt5 bel5.size
        clear bel5 HL4 HZ4 H54 H64 k0 k1 k2 k3 hlt5
        go_wp2_with fail
        refine (own_bytes p' o' r c' _ hp' ho' hr8 hc').mono ?_; rintro e w6 ⟨gb, cb, rfl, hgb, hownb, bel6⟩
        have HL6 : Hid (Below w.heap.size w w6) := below_one HL5.out bel6
        have HZ6 : Hid (Box w6 wr.heap.size p o r c) := HZ5.out.carry bel6
        have H56 := hide (owns_carry H55.out bel6)
        have H66 := hide (owns_carry H65.out bel6)
        have hlt6' : g5 < w6.heap.size := Nat.lt_of_lt_of_le hlt5' bel6.size
        have HBB : Hid (w6.ownsRow w5.heap.size 5 1 (.slice (some ⟨gb, 0, none⟩) 16 cb) 16 (cellsB (capF p' o' r c'))) := hownb
        clear bel6 HL5 HZ5 H55 H65 hownb hlt5'
        go_wp2_with (at_builtin; refine wpList_append_lies _ rfl _ _ 29 rfl w.heap.size 5 i0 (.int .u8 0) 1 1 Try.underlying29 hi hz0 hz1 hz2 rfl (by decide) _ (k * 16) _ rfl H66.out ⟨gb, 0, none⟩ 16 cb (cellsB (capF p' o' r c')) rfl (by rw [cellsB_len, capF_len]) (owns_news HBB.out) (cellsB_one _) (by omega) (by unfold maxLen; omega) (by omega) HL6.out.size w6.heap.size rfl ?_)
        intro g6 cap6 w7 hown7 hgrow7 hat7 hlt7
        have HL7 : Hid (Below w.heap.size w w7) := HL6.out.grown hgrow7 HL6.out.size (fun g e => (HLT6.out g e).1)
        have HZ7 : Hid (Box w7 wr.heap.size p o r c) := HZ6.out.grown hgrow7 (fun e => absurd (HLT6.out _ e.symm).2 (Nat.lt_irrefl _))
        have H67 : Hid (w7.ownsRow w.heap.size 5 1 (.slice (some ⟨g6, 0, none⟩) ((k + 1) * 16) cap6) ((k + 1) * 16) (cellsB (bytesC (madeC (xs.take (k + 1)))))) := by
          rw [HS.out, madeC_snoc, HMD.out, bytesC_snoc, cellsB_append, show (k + 1) * 16 = k * 16 + 16 from by omega]; exact hown7
        have H57 := hide (owns_far H56.out hgrow7 (fun g h e => HN4.out g e (by cases h; rfl)))
        have HN7 : Hid (g6 ≠ g5) := by
          intro e
          subst e
          rcases hat7 with h7 | h7
          · exact HN4.out _ h7 rfl
          · omega
        clear hown7 hgrow7 hat7 hlt7 HBB HL6 HZ6 H56 H66 HN4 HLT6
        obtain ⟨k0, k1, k2, k3⟩ := HZ7.out
        have HMS : Hid (mayC (xs.take (k + 1)) = (mayC (xs.take k) && mayD p o c)) := by rw [HS.out, mayC_snoc]; rfl
        cases hmk : mayC (xs.take k) with
        | false =>
          rw [hmk] at HMS
          go_wp2
          go_roundw
          case rel => exact ⟨k + 1, by omega, by go_num, by rw [HMS.out]; rfl, H57, by rw [show (k + 1) * 16 = k * 16 + 16 from by omega] at H67 ⊢; exact H67, (fun g h e => HN7.out (by cases h; cases e; rfl)), HL7⟩
          case measure => simp [intOf]; omega
        | true =>
          rw [hmk] at HMS
          go_wp2_with fail
          refine (own_may p o r c _ hp ho hr8 hc).mono ?_; rintro e w8 ⟨rfl, bel8⟩
          have HL8 : Hid (Below w.heap.size w w8) := below_one HL7.out bel8
          have H58 := hide (owns_carry H57.out bel8)
          have H68 := hide (owns_carry H67.out bel8)
          clear bel8 HL7 H57 H67 k0 k1 k2 k3 HZ7
          go_wp2
          go_roundw
          case rel => exact ⟨k + 1, by omega, by go_num, by rw [HMS.out]; rfl, H58, by rw [show (k + 1) * 16 = k * 16 + 16 from by omega] at H68 ⊢; exact H68, (fun g h e => HN7.out (by cases h; cases e; rfl)), HL8⟩
          case measure => simp [intOf]; omega
    · obtain rfl : k = n := by omega
      have hokall := HX.out.2.2.2.2.2
      have hall : xs.take k = xs := List.take_of_length_le (by have := HN.out; omega)
      have hys := madeC_may xs hokall
      have hmem := madeC_mem xs hokall
      have hylen : k = (madeC xs).length := by rw [madeC_len]; exact HN.out
      rw [hall] at HO5 HO6 ⊢
      obtain ⟨a5, c5, e5, hc5⟩ := owns_caps HO5.out (madeC_ok xs hokall)
      obtain ⟨a6, c6, e6, hb6⟩ := owns_bts HO6.out
      subst e5
      subst e6
      have HDS : Hid (decsF (bytesC (madeC xs)) k = madeC xs) := by show decsF (bytesC (madeC xs)) k = madeC xs; rw [decsF_bytesC (madeC xs) hmem k (by omega), List.take_of_length_le (by omega)]
      have HB : Hid (Bts wr bo bn bc l) := HB.out.carry HL.out
      generalize madeC xs = ys at *
      have HC5 : Hid (Caps wr a5 k c5 ys) := hc5
      have HB6 : Hid (Bts wr a6 (k * 16) c6 (bytesC ys)) := hb6
      have HYS : Hid (mayC ys = true) := hys
      have hc5m : c5 ≤ 9223372036854775807 := hc5.2.2.1
      have hc5n : k ≤ c5 := hc5.2.1
      have hc6m : c6 ≤ 9223372036854775807 := hb6.2.2.1
      have hc6n : k * 16 ≤ c6 := hb6.2.1
      clear hc5 hb6 hys hmem hylen hall hokall HO5 HO6 HNE HX HX1 HL1 hkn hk
      go_wp2_with fail
      refine (row_any a5 k c5 ys _ HC5.out (by omega)).mono ?_; rintro e w2 ⟨bel2, hans⟩
      rcases hans with ⟨_, g2, c2, rfl, hb2⟩ | ⟨hf, _⟩
      rotate_left
      · rw [HYS.out] at hf; cases hf
      have HL2 : Hid (Below w.heap.size w w2) := below_one HL.out bel2
      have HX2 : Hid (Caps w2 ao k cap xs) := HXr.out.carry bel2
      have HC2 : Hid (Caps w2 a5 k c5 ys) := HC5.out.carry bel2
      have HW2 : Hid (Bts w2 a6 (k * 16) c6 (bytesC ys)) := HB6.out.carry bel2
      have HB2 : Hid (Bts w2 bo bn bc l) := HB.out.carry bel2
      have HR2 : Hid (Bts w2 (some ⟨g2, 0, none⟩) (k * 16) c2 (bytesC ys)) := hb2
      clear bel2 hb2 HL HXr HC5 HB6 HB
      go_wp2_with fail
      refine (row_any ao k cap xs _ HX2.out (by omega)).mono ?_; rintro e w3 ⟨bel3, hans⟩
      have HL3 : Hid (Below w.heap.size w w3) := below_one HL2.out bel3
      have HC3 : Hid (Caps w3 a5 k c5 ys) := HC2.out.carry bel3
      have HW3 : Hid (Bts w3 a6 (k * 16) c6 (bytesC ys)) := HW2.out.carry bel3
      have HB3 : Hid (Bts w3 bo bn bc l) := HB2.out.carry bel3
      have HR3 : Hid (Bts w3 (some ⟨g2, 0, none⟩) (k * 16) c2 (bytesC ys)) := HR2.out.carry bel3
      clear bel3 HL2 HX2 HC2 HW2 HB2 HR2
      obtain ⟨m, hm⟩ : ∃ m, mayC xs = m := ⟨_, rfl⟩
      rw [hm] at hans ⊢
      clear hm
      rcases hans with ⟨rfl, g3, c3, rfl, hb3⟩ | ⟨rfl, rfl⟩
      all_goals
        go_wp2_with fail
        refine (rows_yes a6 (k * 16) c6 k (bytesC ys) _ HW3.out rfl (by omega)).mono ?_; rintro e w4 ⟨g4, mc, rfl, hcaps, bel4⟩
        rw [HDS.out] at hcaps
        have HL4 : Hid (Below w.heap.size w w4) := below_one HL3.out bel4
        have HC4 : Hid (Caps w4 a5 k c5 ys) := HC3.out.carry bel4
        have HK4 : Hid (Caps w4 (some ⟨g4, 0, none⟩) k mc ys) := hcaps
        have HB4 : Hid (Bts w4 bo bn bc l) := HB3.out.carry bel4
        have cv1 := conv_bts (HR3.out.carry bel4)
        have cv2 := conv_bts (HW3.out.carry bel4)
        have hmc : mc ≤ 9223372036854775807 := hcaps.2.2.1
        have hmk : k ≤ mc := hcaps.2.1
        clear bel4 hcaps HL3 HC3 HB3 HR3 HW3
        go_wp2
        clear cv1 cv2
        go_loopw [94] (fun i wr => Loop2Rel w k a5 c5 (some ⟨g4, 0, none⟩) mc ys bo bn bc l i wr) (fun i _ => k - (intOf i).toNat)
        case atStart => exact ⟨0, Nat.zero_le _, rfl, HC4, HK4, HB4, HL4⟩
        case round =>
          obtain ⟨j, hj, rfl, GC, GK, GB, GL⟩ := hrel
          by_cases hjk : j < k
          · obtain ⟨⟨p, o, r, c⟩, hx⟩ : ∃ x, ys.getD j Cp.zero = x := ⟨_, rfl⟩
            have hg := eqGuard25
            have hN : ∀ wx, (binOp .neq 25 (.agg #[.int .u64 p, .int .u32 o, .int .u8 r, .int .u64 c]) (.agg #[.int .u64 p, .int .u32 o, .int .u8 r, .int .u64 c])).run Try.prog wx = .ok (.bool false) wx := by
              intro wx; rw [neq_cap]; simp
            cases a5 with
            | none => have := GC.out.2.2.2.1 rfl; omega
            | some ad =>
              obtain ⟨k0, k1, k2, k3⟩ := GC.out.elem j hjk p o r c hx
              obtain ⟨q0, q1, q2, q3⟩ := GK.out.elem j hjk p o r c hx
              simp only [addr0] at q0 q1 q2 q3
              clear hx
              go_wp2
              go_quiet (fail)
              go_wp2
              go_roundw
              case rel => exact ⟨j + 1, by omega, by go_num, GC, GK, GB, below_drewN GL.out _⟩
              case measure => simp [intOf]; omega
          · go_wp2_with fail
            by_cases hb16 : bn % 16 = 0
            · have hbi : (bn : Int) % 16 = 0 := by omega
              obtain ⟨m, hm⟩ : ∃ m, bn = m * 16 := ⟨bn / 16, by omega⟩
              have hbd : (bn : Int) / 16 = (m : Int) := by omega
              have hm9 : m ≤ 8796093022208 := by omega
              have HMM : Hid (bn = m * 16) := hm
              have hbb : ((bn : Int) % 16 == 0) = true := by rw [hbi]; rfl
              clear hbi hb16 hm
              refine (rows_yes bo bn bc m l _ GB.out HMM.out (by omega)).mono ?_; rintro e w5 ⟨g5, mc5, rfl, hcz, bel5⟩
              have hz5 : mc5 ≤ 9223372036854775807 := hcz.2.2.1
              have hz6 : m ≤ mc5 := hcz.2.1
              clear hcz
              have HLz : Hid (Below w.heap.size w w5) := below_one GL.out bel5
              clear bel5
              go_wp2_with fail
              refine (one_any true _).mono ?_; rintro e w6 ⟨rfl, rfl⟩
              go_wp2
              go_ret
              exact ⟨rfl, HLz.out⟩
            · have hbb : ((bn : Int) % 16 == 0) = false := beq_eq_false_iff_ne.2 (by omega)
              have HB16 : Hid (bn % 16 ≠ 0) := hb16
              refine (rows_no bo bn bc _ (by omega) HB16.out).mono ?_; rintro e w5 ⟨rfl, rfl⟩
              go_wp2_with fail
              refine (one_any false _).mono ?_; rintro e w6 ⟨rfl, rfl⟩
              go_wp2
              go_ret
              exact ⟨rfl, GL.out⟩

end Go.Proofs.Ytmbjgndajlomnaa

namespace Go.Proofs.Ytmbjgndajlomnaa.capsRow
open Go.ChangeShapes Go.WideShapes Go.ChangeAt Go.RowKit
set_option linter.unusedVariables false

theorem own : ownKnob Try.prog.godebug = none := by kernel_rfl
theorem laidOut : laidOutB Try.prog = true := by kernel_rfl

theorem walk (a0 : Option Addr) (len0 cap0 : Nat) (z0 : List Cp) (a1 : Option Addr) (len1 cap1 : Nat) (z1 : List Int) (w : World) (w0 : Caps w a0 len0 cap0 z0) (s0 : cap0 * 24 ≤ 140737488351232) (w1 : RowOf .u8 w a1 len1 cap1 z1) (s1 : cap1 * 1 ≤ 140737488351232) :
    Calls Try.prog 6 #[.slice a0 len0 cap0, .slice a1 len1 cap1] w fun e w' => e = .returned (.bool true) ∧ Below w.heap.size w w' :=
  by obtain ⟨l, hl⟩ := w1.bytes; exact walk_row a0 len0 cap0 z0 a1 len1 cap1 l w w0 (by have := w0.2.1; omega) hl (by have := hl.2.1; omega)

set_option maxRecDepth 100000 in
theorem lifted (os : Os) (started : os.Started) (H : Type) (enc : TypeId × Value → H) :
    ReturnsInHanded {} Try.checked os 6 .any (Rows.capsRowSpec.pre6 enc Try.prog Try.f6 Rows.capsRowRow.domain false) (Rows.capsRowSpec.post enc Try.prog Try.f6 false true false false) := by
  refine returnsInHanded_of_change_sized (C := Try.checked) own started (by kernel_rfl) Try.func6
    (ChangeSpec.witness6 (enc := enc) (C := Try.checked) false ⟨#[], #[.slice none 0 0, .slice none 0 0], []⟩ 8 (by kernel_rfl) (by kernel_rfl) (by kernel_rfl) (by kernel_rfl)) ?_
  intro W base args ds gs before hval0 hW hcnd hsz0 _
  have hval : ∀ (j : Nat) t v, Try.f6.params[j]? = some t → args[j]? = some v → Value.okWide Try.prog W .any base t v := hval0
  have hW' := hW
  obtain ⟨p, q, hA0, hV, rfl, hfz, hnd⟩ := hW
  have hA : DataW.TrodAll enc Try.prog W 0 (fun _ => true) true Try.f6.params.toList args.toList ds p := hA0
  have hsz : (DataW.weightsEach Try.prog (Try.f6.params.toList ++ Rows.capsRowSpec.plain.varTypes Try.prog) (ds ++ gs)).all (· ≤ reachBytes) = true := hsz0
  rw [Try.params6] at hA hval hsz
  obtain ⟨v0, vs0, d0, ds0, p0, q0, hargs, rfl, rfl, h0, r0⟩ := trodAll_cons hA
  obtain ⟨v1, vs1, d1, ds1, p1, q1, rfl, rfl, rfl, h1, r1⟩ := trodAll_cons r0
  obtain ⟨rfl, rfl, rfl⟩ := trodAll_nil r1
  obtain rfl : args = #[v0, v1] := by cases args; simp_all
  obtain ⟨rfl, rfl⟩ := trodVars_none hV
  obtain ⟨a0, len0, cap0, rfl⟩ := okWide_slice Try.underlying35 (hval 0 35 v0 rfl rfl)
  have k0 := h0
  have lt0 : ∀ x ∈ p0, x.block < W.heap.size := by obtain ⟨m, hm⟩ := k0; exact DataW.trod_lt m _ _ _ hm
  obtain ⟨z0, w0, s0⟩ : ∃ zs, Caps W a0 len0 cap0 zs ∧ cap0 * 24 ≤ 140737488351232 := by
    obtain ⟨fuel, hf⟩ := h0
    obtain ⟨xs, hc, hd⟩ := open_caps hf
    refine ⟨xs, hc, ?_⟩
    rcases hd with ⟨_, h0⟩ | ⟨els, sp, hd, hlen⟩
    · omega
    · simp only at hd
      subst hd
      have hs := sized_slice hsz (j := 0) (t := 35) (e := 25) rfl rfl Try.underlying35
      rw [bytesOf25] at hs
      simp only [reachBytes] at hs
      omega
  obtain ⟨a1, len1, cap1, rfl⟩ := okWide_slice Try.underlying29 (hval 1 29 v1 rfl rfl)
  have k1 := h1
  have lt1 : ∀ x ∈ p1, x.block < W.heap.size := by obtain ⟨m, hm⟩ := k1; exact DataW.trod_lt m _ _ _ hm
  obtain ⟨z1, w1, s1⟩ : ∃ zs, RowOf .u8 W a1 len1 cap1 zs ∧ cap1 * 1 ≤ 140737488351232 := by
    obtain ⟨fuel, hf⟩ := h1
    rcases open_ints Try.underlying29 Try.underlying5 (by kernel_rfl) hf with ⟨hcs, _⟩ | ⟨x, l, c, zs, hcs, _, hl, hm, hz, hx, hcell, hwz⟩
    · simp [Value.cells] at hcs
      obtain ⟨rfl, rfl, rfl⟩ := hcs
      exact ⟨[], .inl ⟨rfl, rfl, rfl, rfl⟩, by omega⟩
    · simp [Value.cells] at hcs
      obtain ⟨rfl, rfl, rfl⟩ := hcs
      have hd := congrArg Prod.fst hx
      simp only at hd
      subst hd
      have hs := sized_slice hsz (j := 1) (t := 29) (e := 5) rfl rfl Try.underlying29
      rw [bytesOf5] at hs
      simp only [lits, List.length_map, List.length_take, List.length_drop, reachBytes] at hs
      have hz' : zs.length = cap1 := by simpa using hz
      exact ⟨zs, .inr ⟨_, rfl, hl, hm, hz', hcell, hwz⟩, by omega⟩
  clear hA0 hval0
  refine (walk a0 len0 cap0 z0 a1 len1 cap1 z1 W w0 s0 w1 s1).mono fun e W' ⟨he, bel⟩ => ?_
  subst he
  exact ⟨_, rfl, _, _, _, [], _, [], hW', trodAll_mk1 (shut_bool Try.underlying4 _), (trodAll_cons_mk (Below.trod laidOut (by kernel_rfl) (of_decide_eq_true (by kernel_rfl)) k0 bel lt0) (trodAll_cons_mk (Below.trod laidOut (by kernel_rfl) (of_decide_eq_true (by kernel_rfl)) k1 bel lt1) trodAll_mk0)), rfl, bel.frame _, fun h => by cases h⟩

theorem over : Rows.capsRowRow.holds Try.pinned (OpenSpec.ofChange Rows.capsRowSpec) :=
  OpenClaim.holds_of_wide 6 Try.f6 rfl rfl rfl rfl rfl rfl rfl ⟨rfl, rfl, rfl, rfl, rfl⟩ rfl rfl rfl rfl rfl (by kernel_rfl) Try.func6 (by kernel_rfl)
    (of_decide_eq_true (by kernel_rfl)) (by unfold Func.isWrapper; first | (rw [if_pos (by decide +kernel)]; kernel_rfl) | (rw [if_neg (by decide +kernel)]; exact ⟨rfl, rfl⟩))
    (fun os started H enc _ => lifted os started H enc)
end Go.Proofs.Ytmbjgndajlomnaa.capsRow

namespace Go.Proofs.Ytmbjgndajlomnaa
theorem capsRow_holds : Rows.CapsRowSaid := capsRow.over
#print axioms capsRow_holds
end Go.Proofs.Ytmbjgndajlomnaa
