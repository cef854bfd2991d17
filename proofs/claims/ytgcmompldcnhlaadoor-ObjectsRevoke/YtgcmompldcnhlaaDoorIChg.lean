/-
  The statements' own way to change a capability: what comes of it is a capability; whether a check is one of the draws: contracts.
-/
import Derived.Test.YtgcmompldcnhlaaDoorIRowC
namespace Go.Proofs.YtgcmompldcnhlaaDoor
open Go.RowKit
theorem cap_val (p o r c : Nat) : Cp.val ⟨p, o, r, c⟩ = .agg #[.int .u64 (p : Int), .int .u32 (o : Int), .int .u8 (r : Int), .int .u64 (c : Int)] := rfl
theorem bits_u8 (op : BinOp) (x y : Int) : ∃ v : Nat, bits op .u8 x y = (v : Int) ∧ v ≤ 255 := u8_nat (wf_bits op .u8 x y)
theorem bits_u64 (op : BinOp) (x y : Int) : ∃ v : Nat, bits op .u64 x y = (v : Int) ∧ v ≤ 18446744073709551615 := u64_nat (wf_bits op .u64 x y)
set_option maxHeartbeats 3200000 in
theorem change_any (c : Cp) (how : Nat) (w : World) (hc : c.ok) (hh : how ≤ 255) :
    Calls Tryd.prog 19 #[c.val, .int .u8 (how : Int)] w fun e w' => (∃ c' : Cp, e = .returned c'.val ∧ c'.ok) ∧ Below w.heap.size w w' := by
  obtain ⟨p, o, r, c⟩ := c
  obtain ⟨h1, h2, h3, h4⟩ := hc
  simp only at h1 h2 h3 h4
  have HC := hide (And.intro h1 (And.intro h2 (And.intro h3 h4)))
  obtain ⟨d, hd⟩ : ∃ d, how % 12 = d := ⟨_, rfl⟩
  have hd1 : (how : Int) % 12 = (d : Int) := by omega
  obtain ⟨q, hq⟩ : ∃ q, how / 12 = q := ⟨_, rfl⟩
  have hq1 : (how : Int) / 12 = (q : Int) := by omega
  have hq2 : (q : Int) ≤ 21 := by omega
  clear h1 h2 h3 h4 hd hq hh
  rw [cap_val]
  have f0 : ∀ z : Int, (Lit.int .u64 z).wf = true → ∃ c' : Cp, Ending.returned (.agg #[.int .u64 z, .int .u32 (o : Int), .int .u8 (r : Int), .int .u64 (c : Int)]) = .returned c'.val ∧ c'.ok := fun z hz => by
    obtain ⟨v, rfl, hv⟩ := u64_nat hz
    exact ⟨⟨v, o, r, c⟩, rfl, hv, HC.out.2.1, HC.out.2.2.1, HC.out.2.2.2⟩
  have f1 : ∀ z : Int, (Lit.int .u32 z).wf = true → ∃ c' : Cp, Ending.returned (.agg #[.int .u64 (p : Int), .int .u32 z, .int .u8 (r : Int), .int .u64 (c : Int)]) = .returned c'.val ∧ c'.ok := fun z hz => by
    obtain ⟨v, rfl, hv⟩ := u32_nat hz
    exact ⟨⟨p, v, r, c⟩, rfl, HC.out.1, hv, HC.out.2.2.1, HC.out.2.2.2⟩
  have f2 : ∀ z : Int, (Lit.int .u8 z).wf = true → ∃ c' : Cp, Ending.returned (.agg #[.int .u64 (p : Int), .int .u32 (o : Int), .int .u8 z, .int .u64 (c : Int)]) = .returned c'.val ∧ c'.ok := fun z hz => by
    obtain ⟨v, rfl, hv⟩ := u8_nat hz
    exact ⟨⟨p, o, v, c⟩, rfl, HC.out.1, HC.out.2.1, hv, HC.out.2.2.2⟩
  have f3 : ∀ z : Int, (Lit.int .u64 z).wf = true → ∃ c' : Cp, Ending.returned (.agg #[.int .u64 (p : Int), .int .u32 (o : Int), .int .u8 (r : Int), .int .u64 z]) = .returned c'.val ∧ c'.ok := fun z hz => by
    obtain ⟨v, rfl, hv⟩ := u64_nat hz
    exact ⟨⟨p, o, r, v⟩, rfl, HC.out.1, HC.out.2.1, HC.out.2.2.1, hv⟩
  have F0 := hide f0
  have F1 := hide f1
  have F2 := hide f2
  have F3 := hide f3
  clear f0 f1 f2 f3
  by_cases e0 : d = 0
  · subst e0
    go_enter Tryd.func19, Tryd.ntmps19
    go_wp2
    go_returns
    exact ⟨F2.out _ (wf_bits _ _ _ _), by go_grown⟩
  · have g0 : ((d : Int) == 0) = false := by rw [beq_eq_false_iff_ne]; omega
    by_cases e1 : d = 1
    · subst e1
      go_enter Tryd.func19, Tryd.ntmps19
      go_wp2
      go_returns
      exact ⟨F3.out _ (wf_bits _ _ _ _), by go_grown⟩
    · have g1 : ((d : Int) == 1) = false := by rw [beq_eq_false_iff_ne]; omega
      by_cases e2 : d = 2
      · subst e2
        go_enter Tryd.func19, Tryd.ntmps19
        go_wp2
        go_returns
        exact ⟨F1.out _ (WalkArith.wf_u32 (by omega)), by go_grown⟩
      · have g2 : ((d : Int) == 2) = false := by rw [beq_eq_false_iff_ne]; omega
        by_cases e3 : d = 3
        · subst e3
          go_enter Tryd.func19, Tryd.ntmps19
          go_wp2
          go_returns
          exact ⟨F0.out _ (wf_bits _ _ _ _), by go_grown⟩
        · have g3 : ((d : Int) == 3) = false := by rw [beq_eq_false_iff_ne]; omega
          clear e0 e1 e2 e3
          go_enter Tryd.func19, Tryd.ntmps19
          go_wp2
          go_returns
          exact ⟨⟨⟨p, o, r, c⟩, rfl, HC.out⟩, by go_grown⟩
def SpoRel (w : World) (j gk : Nat) (vi : Value) (wr : World) : Prop := ∃ i : Nat, i + gk = 40 ∧ i ≤ j ∧ vi = .int .i64 (i : Int) ∧ Below w.heap.size w wr
set_option maxHeartbeats 1600000 in
theorem spoilt_yes (c : Cp) (j : Nat) (w : World) (hj : j < 40) (hc : c.c = (sprL 40).getD j 0) :
    Calls Tryd.prog 22 #[c.val] w fun e w' => e = .returned (.bool true) ∧ Below w.heap.size w w' := by
  have hspr := spread_any 40
  have hlen := sprL_len 40
  obtain ⟨ws, hws⟩ : ∃ ws, sprL 40 = ws := ⟨_, rfl⟩
  rw [hws] at hspr hlen hc
  have HSP := hide hspr
  have HL := hide hlen
  obtain ⟨p, o, r, x⟩ := c
  obtain rfl : x = ws.getD j 0 := hc
  obtain ⟨x, hx⟩ : ∃ x, ws.getD j 0 = x := ⟨_, rfl⟩
  rw [hx, cap_val]
  have HX := hide hx
  have HJ := hide hj
  clear hspr hws hlen hx hj
  obtain ⟨V, hV⟩ : ∃ V, w.alloc (.cells #[.int .u64 (p : Int), .int .u32 (o : Int), .int .u8 (r : Int), .int .u64 (x : Int)] 49) = V := ⟨_, rfl⟩
  have HBV : Hid (Below w.heap.size w V) := hV ▸ below_alloc _ _
  have HC : Hid (CBox V w.heap.size p o r x) := hV ▸ CBox.new w p o r x
  go_enter Tryd.func22, Tryd.ntmps22
  go_wp2_with fail
  refine (HSP.out _ (by omega)).mono ?_; rintro e w2 ⟨ao, cap, rfl, hu, b2⟩
  obtain ⟨ad, rfl⟩ : ∃ ad, ao = some ad := by
    cases ao with
    | none => have := hu.2.2.2.1 rfl; have := hu.2.1; omega
    | some ad => exact ⟨ad, rfl⟩
  have hcm : cap ≤ 9223372036854775807 := hu.2.2.1
  have hcm2 : 40 ≤ cap := hu.2.1
  have HU := hide hu
  have HC2 := hide (HC.out.grow b2)
  have HB2 := hide (below_one HBV.out b2)
  clear hu b2 hV
  go_wp2
  go_loopg [7] 40 (fun gk vi wr => SpoRel w2 j gk vi wr)
  case atStart => exact ⟨0, by omega, Nat.zero_le _, rfl, Below.refl _ _⟩
  case round =>
    obtain ⟨i, hi, hij, rfl, b⟩ := hrel
    have HB := hide b
    cases gk with
    | zero => have := HJ.out; omega
    | succ g1 =>
      have hlt : (i : Int) < 40 := by omega
      have hi1 : i < ws.length := by have := HL.out; omega
      have hc0 := HU.out.2.2.2.2.1 ad rfl i hi1
      rw [← b.cell (lt_of_cell hc0)] at hc0
      have c3 : wr.cell? ⟨w.heap.size, 3, none⟩ = some (.int .u64 (x : Int)) := (HC2.out.grow b).c3
      have hu1 := HU.out.2.2.2.2.2 i
      have HI := hide hi
      have HIJ := hide hij
      clear hi hij b
      by_cases e : i = j
      · subst e
        rw [HX.out] at hc0
        go_wp2
        go_ret
        exact ⟨rfl, HB2.out.trans (HB.out.mono HB2.out.size)⟩
      · obtain ⟨u, hu⟩ : ∃ u, ws.getD i 0 = u := ⟨_, rfl⟩
        rw [hu] at hc0 hu1
        by_cases e2 : u = x
        · subst e2
          clear e hu
          go_wp2
          go_ret
          exact ⟨rfl, HB2.out.trans (HB.out.mono HB2.out.size)⟩
        · have hne : ((x : Int) == (u : Int)) = false := by rw [beq_eq_false_iff_ne]; omega
          have HE := hide e
          clear e2 e hu
          go_wp2
          go_roundg g1
          case measure => have := HI.out; omega
          case rel => exact ⟨i + 1, by have := HI.out; omega, by have := HIJ.out; have := HE.out; omega, by go_num, HB.out⟩
end Go.Proofs.YtgcmompldcnhlaaDoor
