/-
  PagesLowest (P8.1): a page that was taken back is the next one that is given out, if none lower is free: its walk.
-/
import Derived.Test.YtlfophfilehdeaaDoorKAlike
namespace Go.Proofs.YtlfophfilehdeaaDoor
open Go.RowKit
def LowRel1 (w1 : World) (m a b s gk : Nat) (i : Value) (wr : World) : Prop :=
  ∃ k : Nat, k + gk = s ∧ i = .int .i64 k ∧ Hid (MemAt wr m a b s (upF s k) (zeros (s * 64))) ∧ Hid (Below w1.heap.size w1 wr)
def LowRel2 (w1 : World) (m a b s N gk : Nat) (v i : Value) (wr : World) : Prop :=
  ∃ (k L : Nat) (gl : List Bool) (bs : List UInt8), k + gk = N ∧ i = .int .i64 k ∧ v = .int .i64 L ∧ L ≤ s ∧ Hid (lowF gl = L) ∧ Hid (MemAt wr m a b s gl bs) ∧ Hid (Below w1.heap.size w1 wr)
theorem MemAt.low {w1 w2 w3 : World} {a b : Nat} (ha : w1.heap.size ≤ a) (hb : w1.heap.size ≤ b) (b2 : Below w1.heap.size w1 w2) (f : Foot (MemS a b) w2 w3) : Below w1.heap.size w1 w3 :=
  b2.trans (f.below b2.size fun x e => by rcases e with e | e <;> omega)
set_option maxRecDepth 20000 in
set_option maxHeartbeats 1600000 in
theorem walk_lowest (q : Nat) (ao : Option Addr) (N cap : Nat) (l : List UInt8) (w : World) (hq : q ≤ 255) (hb : Bts w ao N cap l) (hN : N ≤ 140737488351232) (hg : Glob w) :
    Calls Tryd.prog 3 #[.int .u8 (q : Int), .slice ao N cap] w fun e w' => e = .returned (.bool true) ∧ Below w.heap.size w w' := by
  have HB := hide hb
  have HG := hide hg
  have hcap : cap ≤ 9223372036854775807 := hb.2.2.1
  have hnc : N ≤ cap := hb.2.1
  clear hb hg
  obtain ⟨s, hs⟩ : ∃ s, 1 + q % 20 = s := ⟨_, rfl⟩
  have hqs : 1 + (q : Int) % 20 = (s : Int) := by omega
  have hs1 : 1 ≤ s := by omega
  have hs20 : s ≤ 20 := by omega
  clear hs
  go_enter Tryd.func3, Tryd.ntmps3
  go_wp2_with fail
  refine (awake_any _).mono ?_; rintro e w1 ⟨rfl, bel1⟩
  have HB1 := hide bel1
  clear bel1
  go_wp2_with fail
  refine (of_any _ _ s (by unfold clampF; omega) (by omega)).mono ?_; rintro e w2 ⟨m, a, b, rfl, N2⟩
  have H2 := hide N2
  clear N2
  go_wp2_with fail
  go_loopg [21] s (fun gk i wr => LowRel1 w1 m a b s gk i wr)
  case atStart => exact ⟨0, by omega, rfl, by rw [upF_zero]; exact H2.out.mem, H2.out.bel⟩
  case round =>
    obtain ⟨k, hk, rfl, HM, HBr⟩ := hrel
    cases gk with
    | zero =>
      obtain rfl : k = s := by omega
      have hlt : ¬ ((k : Int) < (k : Int)) := by omega
      have HL := hide (show lowF (upF k k) = k from upF_low k k (Nat.le_refl _))
      clear hk
      go_wp2_with fail
      go_loopg [7, 32] N (fun gk v i wq => LowRel2 w1 m a b k N gk v i wq)
      case atStart => exact ⟨0, k, _, _, by omega, rfl, rfl, Nat.le_refl _, HL, HM, HBr⟩
      case round =>
        rename World => wq
        clear HM HBr HL hlt
        obtain ⟨i, L, gl, bs, hi, rfl, rfl, hL, HL, HM, HBr⟩ := hrel
        cases gk with
        | zero =>
          have hlt : ¬ ((i : Int) < (N : Int)) := by omega
          have HE := hide (HB1.out.trans (HBr.out.mono HB1.out.size))
          by_cases hLk : L = k
          · have HLK := hide (show lowF gl = k by rw [HL.out]; exact hLk)
            have hbe : ((L : Int) == (k : Int)) = true := by rw [hLk]; simp
            have HGq := hide (HG.out.carry HE.out)
            clear hLk
            go_wp2_with fail
            refine (alloc_no m a b k _ _ _ HM.out HLK.out).mono ?_; rintro e w4 ⟨rfl, rfl⟩
            unfold errV
            go_wp2_with fail
            refine (number_errno 6 _ HGq.out).mono ?_; rintro e w5 ⟨rfl, bel5⟩
            go_wp2
            go_ret
            exact ⟨rfl, HE.out.trans (bel5.mono HE.out.size)⟩
          · have hbe : ((L : Int) == (k : Int)) = false := by simp; omega
            have HLT := hide (show L < k by omega)
            clear hLk
            go_wp2_with fail
            refine (alloc_yes m a b k L _ _ _ HM.out HL.out HLT.out).mono ?_; rintro e w4 ⟨rfl, M4, F4⟩
            have HE4 := hide (HB1.out.trans ((MemAt.low H2.out.ha H2.out.hb HBr.out F4).mono HB1.out.size))
            clear M4 F4
            go_wp2
            go_ret
            exact ⟨rfl, HE4.out⟩
        | succ g1 =>
          have hlt : ((i : Int) < (N : Int)) := by omega
          have hiN : i < N := by omega
          cases ao with
          | none => have := HB.out.none rfl; omega
          | some ad =>
            have hc := (HB.out.carry (HB1.out.trans (HBr.out.mono HB1.out.size))).2.2.2.2 ad rfl i (by rw [← HB.out.1]; exact hiN)
            obtain ⟨v, hv, hv255⟩ : ∃ v : Nat, bt l i = (v : Int) ∧ v ≤ 255 := ⟨(bt l i).toNat, by have := bt_lo l i; omega, by have := bt_hi l i; omega⟩
            rw [hv] at hc
            clear hv
            obtain ⟨j, hj⟩ : ∃ j, v % k = j := ⟨_, rfl⟩
            have hjk : j < k := by rw [← hj]; exact Nat.mod_lt _ (by omega)
            have hjm : (v : Int) % (k : Int) = (j : Int) := by rw [← hj]; omega
            have hjt : (v : Int).tmod (k : Int) = (j : Int) := by rw [← hj]; rfl
            have hk0 : ¬ ((k : Int) = 0) := by omega
            have HJ := hide hjk
            clear hj
            cases hg : gl.getD j true with
            | false =>
              have HH := hide (show hasF gl (j : Int) = false by rw [hasF_nat, hg]; simp)
              clear hg
              go_wp2_with fail
              refine (free_no m a b k _ _ _ _ HM.out HH.out).mono ?_; rintro e w4 ⟨rfl, rfl⟩
              unfold errV
              go_wp2
              go_roundg g1
              case measure => omega
              case rel => exact ⟨i + 1, L, gl, bs, by omega, by go_num, rfl, hL, HL, HM, HBr⟩
            | true =>
              have HGl := hide hg
              have HS := hide (show lowF (gl.set j false) = min L j by rw [lowF_set_false gl j (by rw [HM.out.num]; exact hjk), HL.out])
              clear hg
              rcases Nat.lt_trichotomy L j with hlj | hlj | hlj
              · have h1 : ((L : Int) < (j : Int)) := by omega
                have h2 : ¬ ((j : Int) < (L : Int)) := by omega
                go_wp2_with fail
                refine (free_yes m a b k j _ _ _ HM.out HJ.out HGl.out).mono ?_; rintro e w4 ⟨rfl, M4, F4⟩
                have HM4 := hide M4
                have HB4 := hide (MemAt.low H2.out.ha H2.out.hb HBr.out F4)
                clear M4 F4
                go_wp2
                go_roundg g1
                case measure => omega
                case rel => exact ⟨i + 1, L, _, _, by omega, by go_num, rfl, hL, by show _ = _; rw [HS.out]; omega, HM4, HB4⟩
              · subst hlj
                go_wp2_with fail
                refine (free_yes m a b k L _ _ _ HM.out HJ.out HGl.out).mono ?_; rintro e w4 ⟨rfl, M4, F4⟩
                have HM4 := hide M4
                have HB4 := hide (MemAt.low H2.out.ha H2.out.hb HBr.out F4)
                clear M4 F4
                go_wp2
                go_roundg g1
                case measure => omega
                case rel => exact ⟨i + 1, L, _, _, by omega, by go_num, rfl, hL, by show _ = _; rw [HS.out]; omega, HM4, HB4⟩
              · have h1 : ¬ ((L : Int) < (j : Int)) := by omega
                have h2 : ((j : Int) < (L : Int)) := by omega
                go_wp2_with fail
                refine (free_yes m a b k j _ _ _ HM.out HJ.out HGl.out).mono ?_; rintro e w4 ⟨rfl, M4, F4⟩
                have HM4 := hide M4
                have HB4 := hide (MemAt.low H2.out.ha H2.out.hb HBr.out F4)
                clear M4 F4
                go_wp2
                go_roundg g1
                case measure => omega
                case rel => exact ⟨i + 1, j, _, _, by omega, by go_num, rfl, by omega, by show _ = _; rw [HS.out]; omega, HM4, HB4⟩
    | succ g1 =>
      have hlt : ((k : Int) < (s : Int)) := by omega
      have hkn : k < s := by omega
      go_wp2_with fail
      refine (alloc_yes m a b s k _ _ _ HM.out (upF_low s k (by omega)) hkn).mono ?_; rintro e w4 ⟨rfl, M4, F4⟩
      rw [upF_set s k hkn] at M4
      have H4 := hide M4
      have HB4 := hide (MemAt.low H2.out.ha H2.out.hb HBr.out F4)
      clear M4 F4
      go_wp2
      go_roundg g1
      case measure => omega
      case rel => exact ⟨k + 1, by omega, by go_num, H4, HB4⟩
end Go.Proofs.YtlfophfilehdeaaDoor
