/-
  The walk of SkeletonAge.
-/
import Derived.Test.YtjpgfldppepmiaaDoorJk
import Derived.Test.YtjpgfldppepmiaaDoorJj
import Derived.Lib.MinMax
import Derived.Deep.RegionHeldLaw
namespace Go.Proofs.YtjpgfldppepmiaaDoor
section
open Go.RowKit
theorem row_Z (w : World) : RowN (w.alloc (.cells (madeCells #[.int .u64 0] 64) 27)) .u64 27 w.heap.size (List.replicate 64 0) := by
  unfold RowN
  rw [heap_alloc_new]
  congr 2
  apply Array.ext'
  rw [toList_madeCells_one]; simp
theorem u64s_Z (w : World) : U64s (w.alloc (.cells (madeCells #[.int .u64 0] 64) 27)) (some ⟨w.heap.size, 0, none⟩) 64 64 (List.replicate 64 0) :=
  (row_Z w).u64s (by simp [maxLen]) (fun j => by
    rw [List.getD_eq_getElem?_getD, List.getElem?_replicate]
    split <;> simp)
theorem cutN_Z : cutN (List.replicate 64 0) = List.replicate 64 0 := by decide
theorem row_caps {w : World} {B : Nat} {vh : Value} {i : Nat} (h : w.ownsRow B 41 4 vh (capsL i).length (cellsC (capsL i))) : w.ownsRow B 41 4 vh i (cellsC (capsL i)) := by
  rw [capsL_len] at h; exact h
theorem caps_at {w : World} {B b n cap i k : Nat} (h : w.ownsRow B 41 4 (.slice (some ⟨b, 0, none⟩) n cap) (capsL i).length (cellsC (capsL i))) (hk : k < i) : w.cell? ⟨b, k * 4, none⟩ = some (.int .u64 5) ∧ w.cell? ⟨b, k * 4 + 1, none⟩ = some (.int .u32 (k : Int)) ∧ w.cell? ⟨b, k * 4 + 2, none⟩ = some (.int .u8 255) ∧ w.cell? ⟨b, k * 4 + 3, none⟩ = some (.int .u64 0) := by
  obtain ⟨b', cap', e, _, _, c0, c1, c2, c3⟩ := owns_cap h rfl k (by rw [capsL_len]; exact hk) 5 k 255 0 (capsL_at hk)
  cases e
  exact ⟨c0, c1, c2, c3⟩
theorem caps_form {w : World} {B i : Nat} {v : Value} (h : w.ownsRow B 41 4 v (capsL (i + 1)).length (cellsC (capsL (i + 1)))) : ∃ b cap, v = .slice (some ⟨b, 0, none⟩) (i + 1) cap ∧ i + 1 ≤ cap ∧ cap ≤ maxLen := by
  obtain ⟨b, cap, e, h1, h2, _⟩ := owns_cap h rfl 0 (by rw [capsL_len]; omega) 5 0 255 0 (capsL_at (by omega))
  rw [capsL_len] at e h1
  exact ⟨b, cap, e, h1, h2⟩
def CreRel (w0 : World) (A : Ad) (rr m gk : Nat) (vh vi : Value) (wr : World) : Prop :=
  ∃ i : Nat, vi = .int .i64 (i : Int) ∧ i + gk = m + 1 ∧ ∃ va dv nv, Bh w0 wr (A.upd va dv nv) rr (List.replicate 64 0) ⟨i, [], crT i, [], []⟩ vh (capsL i)
def RndRel (w0 : World) (A : Ad) (rr m K : Nat) (f : Nat → Bool) (vh : Value) (gk : Nat) (vg vk : Value) (wr : World) : Prop :=
  ∃ k : Nat, vk = .int .i64 (k : Int) ∧ k + gk = K ∧ vg = .int .i64 (gN f k (m + 1) : Nat) ∧ ∃ va dv nv G, G.length = gN f k (m + 1) ∧ Bh w0 wr (A.upd va dv nv) rr (List.replicate 64 0) ⟨m + 1, [], tcT f m k 1, [], G⟩ vh (capsL (m + 1))
def TouRel (w0 : World) (A : Ad) (rr m k : Nat) (f : Nat → Bool) (vh : Value) (gk : Nat) (vi : Value) (wr : World) : Prop :=
  ∃ i : Nat, vi = .int .i64 (i : Int) ∧ 1 ≤ i ∧ i + gk = m + 1 ∧ ∃ va dv nv G, G.length = gN f k (m + 1) ∧ Bh w0 wr (A.upd va dv nv) rr (List.replicate 64 0) ⟨m + 1, [], tcT f m k i, [], G⟩ vh (capsL (m + 1))
def WantRel (m K : Nat) (f : Nat → Bool) (w1 : World) (gk : Nat) (vw vi : Value) (wr : World) : Prop :=
  wr = w1 ∧ ∃ i : Nat, vi = .int .i64 (i : Int) ∧ 1 ≤ i ∧ i + gk = m + 1 ∧ vw = .int .i64 (gN f K i : Nat)
set_option maxRecDepth 20000 in
set_option maxHeartbeats 6400000 in
theorem walk_age (ao : Option Addr) (n cap : Nat) (xs : List Bool) (rounds : Nat) (w : World) (hx : Bls w ao n cap xs) (hr : rounds ≤ 255) (hg : Glob w) :
    Calls Tryd.prog 4 #[.slice ao n cap, .int .u8 (rounds : Int)] w fun e w' => e = .returned (.bool true) ∧ Below w.heap.size w w' := by
  have HG := hide hg
  have HX := hide hx
  have HRD := hide hr
  have hcap : cap ≤ 9223372036854775807 := hx.2.2.1
  have hncap := hx.2.1
  have hmk := run_make_row' (P := Tryd.prog) 22 27 (.int .u64 0) 8 Tryd.underlying22 Tryd.tinfo27 rfl .i64 .i64 64 (by omega) (by omega)
  have h64 : ((64 : Nat) : Int) = 64 := rfl
  simp only [h64] at hmk
  clear hg h64 hx hr
  go_enter Tryd.func4, Tryd.ntmps4
  go_wp2_with fail
  refine (awake_any _ HG.out).mono ?_; rintro e w1 ⟨rfl, b1⟩
  have HB1 := hide b1
  clear b1
  go_wp2_with fail
  refine (of_any _ _ _ (List.replicate 64 0) _ (u64s_Z w1) (by omega)).mono ?_; rintro e w2 ⟨ta, th, tk, rfl, TA, _, ha, hh2, bel⟩
  rw [cutN_Z] at TA
  have HT := hide TA
  have HTA := hide ha
  have HTH := hide hh2
  have HBE := hide bel
  clear TA bel ha hh2 hmk
  go_wp2_with fail
  refine (oof_any _ ⟨_, rfl⟩ _).mono ?_; rintro e w3 ⟨go, gm, rfl, O2, bel2⟩
  have HS3 := hide (Tk.made (below_one HB1.out (below_alloc w1 _)) HT.out HTA.out HTH.out HBE.out O2 bel2)
  clear O2 bel2 HT HBE HTA HTH
  go_wp2_with fail
  refine (tof_new 5 _).mono ?_; rintro e w4 ⟨rfl, T4, b4⟩
  have HO4 := hide (Od.make HS3.out T4 b4)
  obtain ⟨g, hgg⟩ : ∃ g, w3.heap.size = g := ⟨_, rfl⟩
  rw [hgg] at HO4 ⊢
  clear T4 b4 HS3 hgg
  go_wp2_with fail
  have S5 := Sv.make HO4.out
  obtain ⟨w5, hw5⟩ : ∃ w5, w4.alloc (.cells #[.slice none 0 0, .slice none 0 0] 35) = w5 := ⟨_, rfl⟩
  rw [hw5] at S5 ⊢
  obtain ⟨sb, hsb⟩ : ∃ sb, w4.heap.size = sb := ⟨_, rfl⟩
  rw [hsb] at S5 ⊢
  have HS5 := hide S5
  clear S5 hw5 hsb
  refine (srv_of _ _ (.inr ⟨_, rfl⟩) _).mono ?_; rintro e w6 ⟨rfl, S6, b6⟩
  obtain ⟨rr, hrr⟩ : ∃ rr, w5.heap.size = rr := ⟨_, rfl⟩
  rw [hrr] at S6 ⊢
  have hr6 := Sr.of S6
  obtain ⟨A, hs6, e1, e2⟩ : ∃ A : Ad, Sv w w6 A 5 (List.replicate 64 0) ⟨0, [], noneO, [], []⟩ ∧ A.g = g ∧ A.sb = sb := ⟨_, HS5.out.grow b6, rfl, rfl⟩
  have HB6 : Hid (Bh w w6 A rr (List.replicate 64 0) ⟨0, [], noneO, [], []⟩ (.slice none 0 0) []) := by
    rw [← e1, ← e2] at hr6
    exact ⟨hs6, hr6, owns_nil _ _ _ _⟩
  rw [← e1, ← e2]
  clear S6 b6 hrr hr6 hs6 HS5 HO4 e1 e2
  obtain ⟨m, hm⟩ : ∃ m, min n 10 = m := ⟨_, rfl⟩
  have hmi : min (n : Int) 10 = (m : Int) := by omega
  have hm10 : m ≤ 10 := by omega
  have hmn : m ≤ n := by omega
  have HM := hide hm10
  have HMN := hide hmn
  clear hm hm10 hmn
  obtain ⟨f, hf⟩ : ∃ f : Nat → Bool, f = fun j => xs.getD (j - 1) false := ⟨_, rfl⟩
  have hfj : ∀ j, xs.getD j false = f (j + 1) := fun j => by rw [hf]; rfl
  have HFJ := hide hfj
  obtain ⟨K, hK⟩ : ∃ K, rounds % 60 = K := ⟨_, rfl⟩
  have hr255 := HRD.out
  have hK60 : K < 60 := by omega
  have hKd : (rounds : Int) % 60 = (K : Int) := by omega
  have hKt : (rounds : Int).tmod 60 = (K : Int) := by rw [Int.tmod_eq_emod_of_nonneg (by omega)]; exact hKd
  have hKw : IntKind.i64.wrap (K : Int) = (K : Int) := by rw [IntKind.wrap_i64]; omega
  have HK60 := hide hK60
  clear hf hfj hK hr255 hK60
  go_wp2_with fail
  go_loopg [9, 10] (m + 1) (fun gk vh vi wr => CreRel w A rr m gk vh vi wr)
  case atStart => exact ⟨0, rfl, by omega, A.v, A.dv, A.nv, by rw [crT_zero]; exact HB6.out⟩
  case round =>
    obtain ⟨i, rfl, hi, va, dv, nv, hB⟩ := hrel
    have HB := hide hB
    clear hB HB6
    cases gk with
    | succ g1 =>
      have hle : (i : Int) ≤ (m : Int) := by omega
      have hi64 : i < 64 := by have := HM.out; omega
      obtain ⟨qp, qr, qc, hq, hc⟩ : ∃ qp qr qc : Nat, (qp = 5 ∧ qr = 255 ∧ qc = 0) ∧ creF (List.replicate 64 0) i [] 5 (crT i) (i : Int) = ⟨⟨qp, i, qr, qc⟩, 0, i + 1, [], crT (i + 1)⟩ := ⟨5, 255, 0, ⟨rfl, rfl, rfl⟩, cre_Z hi64⟩
      have HI := hide hi
      have HQ := hide hq
      have HC := hide hc
      clear hi hi64 hq hc
      go_wp2_with fail
      refine (tb_create (i : Int) _ HB.out.x (Nat.zero_le _) _ HC.out).mono ?_; rintro e x1 ⟨rfl, E⟩
      obtain ⟨va1, dv1, nv1, B1⟩ := HB.out.left E
      simp only [Cp.val]
      obtain ⟨V, hV⟩ : ∃ V, x1.alloc (.cells #[.int .u64 (qp : Int), .int .u32 (i : Int), .int .u8 (qr : Int), .int .u64 (qc : Int)] 41) = V := ⟨_, rfl⟩
      have bV : Below x1.heap.size x1 V := hV ▸ below_alloc _ _
      have cb : CBox V x1.heap.size qp i qr qc := hV ▸ CBox.new x1 qp i qr qc
      have B2 := B1.grow bV
      obtain ⟨gc, hgc⟩ : ∃ gc, x1.heap.size = gc := ⟨_, rfl⟩
      rw [hgc] at cb
      have c0 : V.cell? ⟨gc, 0, none⟩ = some (.int .u64 (qp : Int)) := cb.c0
      have c1 : V.cell? ⟨gc, 1, none⟩ = some (.int .u32 (i : Int)) := cb.c1
      have c2 : V.cell? ⟨gc, 2, none⟩ = some (.int .u8 (qr : Int)) := cb.c2
      have c3 : V.cell? ⟨gc, 3, none⟩ = some (.int .u64 (qc : Int)) := cb.c3
      obtain ⟨v', w', hr, ho', hf, -⟩ := app_cap qp i qr qc B2.row (by rw [capsL_len]; have := HI.out; have := HM.out; omega) B2.x.bel.size
      have HB3 := hide (B2.app (L' := capsL i ++ [⟨qp, i, qr, qc⟩]) hf (by rw [len_snoc]; exact ho'))
      have HRN := hide hr
      clear E B1 B2 bV cb hr ho' hf
      go_wp2_with (at_builtin; refine wpList_append_run rfl _ _ _ rfl _ _ _ _ rfl rfl HRN.out ?_)
      go_roundg g1
      case measure => have := HI.out; omega
      case rel =>
        obtain ⟨rfl, rfl, rfl⟩ := HQ.out
        exact ⟨i + 1, by go_num, by have := HI.out; omega, va1, dv1, nv1, by rw [capsL_succ]; exact HB3.out⟩
    | zero =>
      obtain rfl : i = m + 1 := by omega
      have hle : ¬ (((m + 1 : Nat) : Int) ≤ (m : Int)) := by omega
      clear hi
      obtain ⟨b, hcap, hvh, hc1, hc2⟩ := caps_form HB.out.row
      have hc3 : hcap ≤ 9223372036854775807 := hc2
      subst hvh
      have HR0 : Hid (∃ va dv nv G, G.length = gN f 0 (m + 1) ∧ Bh w wr (A.upd va dv nv) rr (List.replicate 64 0) ⟨m + 1, [], tcT f m 0 1, [], G⟩ (.slice (some ⟨b, 0, none⟩) (m + 1) hcap) (capsL (m + 1))) := ⟨va, dv, nv, [], rfl, by rw [← crT_rd]; exact HB.out⟩
      clear HB hc2
      go_wp2_with fail
      go_loopg [13, 14] K (fun gk vg vk wx => RndRel w A rr m K f (.slice (some ⟨b, 0, none⟩) (m + 1) hcap) gk vg vk wx)
      case atStart => exact ⟨0, rfl, by omega, rfl, HR0.out⟩
      case round =>
        obtain ⟨k, rfl, hk, rfl, va, dv, nv, G, hG, hB⟩ := hrel
        have HB := hide hB
        have HGL := hide hG
        have HKK := hide hk
        clear hB hG HR0
        cases gk with
        | succ g1 =>
          have hkK : (k : Int) < (K : Int) := by omega
          have hk0 : (0 : Int) ≤ (k : Int) := by omega
          have HT0 : Hid (TouRel w A rr m k f (.slice (some ⟨b, 0, none⟩) (m + 1) hcap) m (.int .i64 1) wr) := ⟨1, rfl, Nat.le_refl _, by omega, va, dv, nv, G, HGL.out, HB.out⟩
          clear hk HB HGL
          go_wp2_with fail
          go_loopg [15] m (fun gk vi wx => TouRel w A rr m k f (.slice (some ⟨b, 0, none⟩) (m + 1) hcap) gk vi wx)
          case atStart => exact HT0.out
          case round =>
            obtain ⟨i, rfl, h1, hi, va, dv, nv, G, hG, hB⟩ := hrel
            have HB := hide hB
            have HGL := hide hG
            have HI := hide hi
            have H1 := hide h1
            clear hB hG HT0
            cases gk with
            | succ g2 =>
              have hle : (i : Int) ≤ (m : Int) := by omega
              have him : i ≤ m := by omega
              have hin : i ≤ n := by have := HMN.out; omega
              obtain ⟨j, hj⟩ : ∃ j, i = j + 1 := ⟨i - 1, by omega⟩
              have hsub : (i : Int) - 1 = (j : Int) := by omega
              have hwr : IntKind.i64.wrap ((i : Int) - 1) = (j : Int) := by rw [IntKind.wrap_i64]; have := HM.out; omega
              have hwr2 : IntKind.i64.wrap (j : Int) = (j : Int) := by rw [IntKind.wrap_i64]; have := HM.out; omega
              have hj0 : (0 : Int) ≤ (j : Int) := by omega
              have hjn : (j : Int) < (n : Int) := by omega
              have hi0 : (0 : Int) ≤ (i : Int) := by omega
              have him1 : (i : Int) < ((m + 1 : Nat) : Int) := by omega
              obtain ⟨ad, hao⟩ := HX.out.there (show j < n by omega)
              subst hao
              have ht := HX.out.2.2.2.2 ad rfl j (by omega)
              have hlt := lt_of_cell ht
              have ht : wr.cell? (ad.add j) = some (.bool (f i)) := by rw [HB.out.x.bel.cell hlt, ht, HFJ.out, ← hj]
              obtain ⟨c0, c1, c2, c3⟩ := caps_at HB.out.row (show i < m + 1 by omega)
              have HIM := hide him
              cases hfi : f i with
              | false =>
                rw [hfi] at ht
                have hsk := tcT_skip (n := m) (k := k) hfi
                have HSK := hide hsk
                clear hi h1 him hin hj hlt hfi hsk
                go_wp2_with fail
                go_roundg g2
                case measure => have := HI.out; omega
                case rel => exact ⟨i + 1, by go_num, by omega, by have := HI.out; omega, va, dv, nv, G, HGL.out, by rw [← HSK.out]; exact HB.out⟩
              | true =>
                rw [hfi] at ht
                have HFI := hide hfi
                clear hi h1 him hin hj hlt hfi
                go_wp2_with fail
                refine (touch_any H1.out HIM.out (by have := HM.out; omega) HFI.out (by have := untF_le f (m + 1); have := HM.out; rw [HGL.out]; unfold gN; split <;> omega) HG.out HB.out).mono ?_
                rintro e x1 ⟨d0, d1, d2, d3, d5, d6, d7, d8, d9, d10, d11, d12, rfl, E⟩
                have hfld := fld4 d0 d1 d2 d3 0 d5 d6 d7 d8 d9 d10 d11 d12
                obtain ⟨va1, dv1, nv1, B1⟩ := HB.out.left E
                have HB1 := hide B1
                clear E B1
                go_wp2_with fail
                go_roundg g2
                case measure => have := HI.out; omega
                case rel => exact ⟨i + 1, by go_num, by omega, by have := HI.out; omega, va1, dv1, nv1, G, HGL.out, HB1.out⟩
            | zero =>
              obtain rfl : i = m + 1 := by omega
              have hle : ¬ (((m + 1 : Nat) : Int) ≤ (m : Int)) := by omega
              have hgl := gone_len (f := f) (k := k) (by have := HM.out; omega) HGL.out
              have hlim : G.length ≤ 1000000 := by
                have := untF_le f (m + 1)
                have := HM.out
                rw [HGL.out]
                unfold gN
                split <;> omega
              have hg1 : gN f (k + 1) (m + 1) ≤ 100 := by
                have := untF_le f (m + 1)
                have := HM.out
                unfold gN
                split <;> omega
              have hlen := hgl.2
              rw [List.length_append, HGL.out] at hlen
              obtain ⟨l0, hl0⟩ : ∃ l0, (goneL (tcT f m k (m + 1)) 64).length = l0 := ⟨_, rfl⟩
              rw [hl0] at hlen
              obtain ⟨g0, hg0⟩ : ∃ g0, gN f k (m + 1) = g0 := ⟨_, rfl⟩
              obtain ⟨gq, hgq⟩ : ∃ gq, gN f (k + 1) (m + 1) = gq := ⟨_, rfl⟩
              rw [hg0, hgq] at hlen
              rw [hgq] at hg1
              rw [hg0]
              have hadd : (g0 : Int) + (l0 : Int) = (gq : Int) := by omega
              have hwr : IntKind.i64.wrap ((g0 : Int) + (l0 : Int)) = (gq : Int) := by rw [IntKind.wrap_i64]; omega
              have hwr2 : IntKind.i64.wrap (gq : Int) = (gq : Int) := by rw [IntKind.wrap_i64]; omega
              have HL0 := hide hl0
              have HGQ := hide hgq
              have HG2 := hide hgl.2
              have HLI := hide hlim
              clear hi h1 hgl hlim hg1 hlen hl0 hg0 hgq
              go_wp2_with fail
              refine (sage_any _ HB.out.sr HB.out.x HLI.out).mono ?_
              rintro e x1 ⟨rfl, E⟩
              obtain ⟨va1, dv1, nv1, B1⟩ := HB.out.left E
              rw [tcT_age f m k (by have := HM.out; omega)] at B1
              rw [HL0.out]
              have HB1 := hide B1
              clear E B1
              go_wp2_with fail
              go_roundg g1
              case measure => have := HKK.out; omega
              case rel => exact ⟨k + 1, by go_num, by have := HKK.out; omega, by rw [HGQ.out], va1, dv1, nv1, _, HG2.out, HB1.out⟩
        | zero =>
          obtain rfl : k = K := by omega
          have hlt : ¬ ((k : Int) < (k : Int)) := by omega
          have hgk : gN f k (m + 1) ≤ 100 := by
            have := untF_le f (m + 1)
            have := HM.out
            unfold gN
            split <;> omega
          have hleft := left_len (f := f) (n := m) (k := k) (by have := HM.out; omega)
          have HGK := hide hgk
          have HLF := hide hleft
          clear hk hgk hleft
          go_wp2_with fail
          go_loopg [16, 17] m (fun gk vw vi wx => WantRel m k f wr gk vw vi wx)
          case atStart => exact ⟨rfl, 1, rfl, Nat.le_refl _, by omega, by rw [gN_one]; rfl⟩
          case round =>
            obtain ⟨rfl, i, rfl, h1, hi, rfl⟩ := hrel
            have HI := hide hi
            have H1 := hide h1
            obtain ⟨g0, hg0⟩ : ∃ g0, gN f k i = g0 := ⟨_, rfl⟩
            cases gk with
            | succ g2 =>
              have hgs : gN f k (i + 1) = if 24 ≤ k ∧ f i = false then g0 + 1 else g0 := by
                rw [← hg0]
                unfold gN
                rw [untF_succ]
                by_cases h24 : 24 ≤ k
                · rw [if_pos h24, if_pos h24]
                  by_cases hf : f i = false
                  · rw [if_pos ⟨h1, hf⟩, if_pos ⟨h24, hf⟩]
                  · rw [if_neg (fun q => hf q.2), if_neg (fun q => hf q.2)]; rfl
                · rw [if_neg h24, if_neg h24, if_neg (fun q => h24 q.1)]
              have hgb : g0 ≤ 100 := by
                have := untF_le f i
                have := HM.out
                rw [← hg0]
                unfold gN
                split <;> omega
              have hle : (i : Int) ≤ (m : Int) := by omega
              obtain ⟨j, hj⟩ : ∃ j, i = j + 1 := ⟨i - 1, by omega⟩
              have hsub : (i : Int) - 1 = (j : Int) := by omega
              have hwr : IntKind.i64.wrap ((i : Int) - 1) = (j : Int) := by rw [IntKind.wrap_i64]; have := HM.out; omega
              have hwr2 : IntKind.i64.wrap (j : Int) = (j : Int) := by rw [IntKind.wrap_i64]; have := HM.out; omega
              have hj0 : (0 : Int) ≤ (j : Int) := by omega
              have hjn : (j : Int) < (n : Int) := by have := HMN.out; omega
              obtain ⟨ad, hao⟩ := HX.out.there (show j < n by omega)
              subst hao
              have ht := HX.out.2.2.2.2 ad rfl j (by omega)
              have hlt := lt_of_cell ht
              have ht : wr.cell? (ad.add j) = some (.bool (f i)) := by rw [HB.out.x.bel.cell hlt, ht, HFJ.out, ← hj]
              rw [hg0]
              have HGS := hide hgs
              have HGB := hide hgb
              cases hfi : f i with
              | true =>
                rw [hfi] at ht
                have hgt : gN f k (i + 1) = g0 := by rw [HGS.out, if_neg (fun q => by rw [hfi] at q; cases q.2)]
                have HGT := hide hgt
                clear hi h1 hg0 hgs hgb hj hlt hfi hgt
                go_wp2_with fail
                go_roundg g2
                case measure => have := HI.out; omega
                case rel => exact ⟨rfl, i + 1, by go_num, by omega, by have := HI.out; omega, by rw [HGT.out]⟩
              | false =>
                rw [hfi] at ht
                by_cases h24 : 24 ≤ k
                · have hge : (24 : Int) ≤ (k : Int) := by omega
                  have hgt : gN f k (i + 1) = g0 + 1 := by rw [HGS.out, if_pos ⟨h24, hfi⟩]
                  have hsw : wrap64 ((g0 : Int) + 1) = (g0 : Int) + 1 := by unfold wrap64; omega
                  have HGT := hide hgt
                  clear hi h1 hg0 hgs hgb hj hlt hfi hgt h24
                  go_wp2_with fail
                  go_roundg g2
                  case measure => have := HI.out; omega
                  case rel => exact ⟨rfl, i + 1, by go_num, by omega, by have := HI.out; omega, by rw [HGT.out]; go_num⟩
                · have hge : ¬ ((24 : Int) ≤ (k : Int)) := by omega
                  have hgt : gN f k (i + 1) = g0 := by rw [HGS.out, if_neg (fun q => h24 q.1)]
                  have HGT := hide hgt
                  clear hi h1 hg0 hgs hgb hj hlt hfi hgt h24
                  go_wp2_with fail
                  go_roundg g2
                  case measure => have := HI.out; omega
                  case rel => exact ⟨rfl, i + 1, by go_num, by omega, by have := HI.out; omega, by rw [HGT.out]⟩
            | zero =>
              obtain rfl : i = m + 1 := by omega
              have hle : ¬ (((m + 1 : Nat) : Int) ≤ (m : Int)) := by omega
              obtain ⟨no, nc, hnv, hn1, hn2⟩ := HB.out.x.fn
              have hnv : nv = .slice no G.length nc := hnv
              have cn : wr.cell? ⟨A.sb, 1, none⟩ = some nv := HB.out.x.cn
              obtain ⟨l0, hl0⟩ : ∃ l0, lenF (tcT f m k 1) 64 = l0 := ⟨_, rfl⟩
              have hlf := HLF.out
              rw [hl0, hg0] at hlf
              rw [hg0]
              rw [hnv, HGL.out, hg0] at cn
              have hgb := HGK.out
              rw [hg0] at hgb
              have hs1 : wrap64 ((m : Int) + 1 - (g0 : Int)) = (l0 : Int) := by unfold wrap64; have := HM.out; omega
              have HL0 := hide hl0
              clear hi h1 hg0 hnv hn1 hn2 hl0 hlf hgb
              go_wp2_with fail
              refine (len_any _ HB.out.x.od.tb).mono ?_; rintro e wy ⟨rfl, rfl⟩
              rw [HL0.out]
              go_wp2_with fail
              go_ret
              exact ⟨rfl, HB.out.x.bel⟩
end
end Go.Proofs.YtjpgfldppepmiaaDoor
