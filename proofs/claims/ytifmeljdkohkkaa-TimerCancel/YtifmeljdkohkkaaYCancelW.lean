/-
  The walk of TimerCancel.
-/
import Derived.Test.YtifmeljdkohkkaaYRead
import Derived.Lib.MinMax
namespace Go.Proofs.Ytifmeljdkohkkaa
open Go.RowKit
def atF (zs : List Int) (j : Nat) : Int := 1 + zs.getD j 0 % 30
def manyL (zs : List Int) (k : Nat) : List Al := (List.range k).map fun j : Nat => ⟨(j : Int), atF zs j⟩
theorem many_len (zs : List Int) (k : Nat) : (manyL zs k).length = k := by simp [manyL]
theorem many_succ (zs : List Int) (k : Nat) : manyL zs (k + 1) = manyL zs k ++ [⟨(k : Int), atF zs k⟩] := by simp [manyL, List.range_succ]
theorem many_mem {zs : List Int} {k : Nat} {a : Al} (h : a ∈ manyL zs k) : ∃ j : Nat, j < k ∧ a = ⟨(j : Int), atF zs j⟩ := by
  unfold manyL at h
  obtain ⟨j, hj, e⟩ := List.mem_map.1 h
  exact ⟨j, List.mem_range.1 hj, e.symm⟩
theorem dropA_none {L : List Al} {x : Int} (h : ∀ a ∈ L, a.i ≠ x) : dropA L x = L := by
  unfold dropA
  rw [List.filter_eq_self]
  intro a ha
  have := h a ha
  simp [this]
theorem many_drop (zs : List Int) (k : Nat) : dropA (manyL zs k) (k : Int) = manyL zs k := dropA_none fun a ha => by
  obtain ⟨j, hj, rfl⟩ := many_mem ha
  show (j : Int) ≠ _
  omega
theorem many_set (zs : List Int) (k : Nat) (hk : k < 64) : setE (manyL zs k) (k : Int) (atF zs k) = 0 ∧ setL (manyL zs k) 0 (k : Int) (atF zs k) = manyL zs (k + 1) := by
  have hE : setE (manyL zs k) (k : Int) (atF zs k) = 0 := setE_ok (by unfold atF; omega) (by rw [many_drop, many_len]; omega)
  refine ⟨hE, ?_⟩
  rw [setL_ok hE, many_drop, many_succ, Int.zero_add]
theorem many_cut (zs : List Int) : ∀ (k c : Nat), c < k → (dropA (manyL zs k) (c : Int)).length = k - 1 := by
  intro k
  induction k with
  | zero => intro c hc; omega
  | succ k ih =>
    intro c hc
    rw [many_succ, dropA_append, List.length_append]
    by_cases e : c = k
    · subst e
      rw [many_drop, many_len]
      unfold dropA
      rw [List.filter_cons_of_neg (by simp)]; simp
    · rw [ih c (by omega)]
      unfold dropA
      rw [List.filter_cons_of_pos (by simp; omega)]
      simp; omega
/- those that are still set, at a time -/
structure CI (zs : List Int) (n : Nat) (c t : Int) (L : List Al) : Prop where
  mem : ∀ a ∈ L, ∃ j : Nat, j < n ∧ a = ⟨(j : Int), atF zs j⟩ ∧ (j : Int) ≠ c
  lat : ∀ a ∈ L, t < a.t
  few : L.length ≤ 40
theorem CI.rest {zs : List Int} {n : Nat} {c t : Int} {L : List Al} (h : CI zs n c t L) : CI zs n c (t + 1) (restF L (t + 1)) := by
  refine ⟨fun a ha => h.mem a (List.mem_filter.1 ha).1, fun a ha => ?_, Nat.le_trans (rest_len L _) h.few⟩
  obtain ⟨h1, h2⟩ := List.mem_filter.1 ha
  have h3 := h.lat a h1
  have h4 : a.t ≠ t + 1 := by simpa using h2
  omega
theorem CI.ring {zs : List Int} {n : Nat} {c t : Int} {L : List Al} (h : CI zs n c t L) (x : Int) (hx : x ∈ ringF L (t + 1)) : ∃ j : Nat, x = (j : Int) ∧ j < n ∧ atF zs j = t + 1 ∧ (j : Int) ≠ c := by
  unfold ringF at hx
  obtain ⟨a, ha, rfl⟩ := List.mem_map.1 hx
  obtain ⟨h1, h2⟩ := List.mem_filter.1 ha
  obtain ⟨j, hj, rfl, hc⟩ := h.mem a h1
  exact ⟨j, rfl, hj, by simpa using h2, hc⟩
theorem CI.start (zs : List Int) (n : Nat) (c : Int) (hn : n ≤ 40) : CI zs n c 0 (dropA (manyL zs n) c) := by
  refine ⟨fun a ha => ?_, fun a ha => ?_, Nat.le_trans (dropA_len _ _) (by rw [many_len]; exact hn)⟩
  · obtain ⟨h1, h2⟩ := List.mem_filter.1 ha
    obtain ⟨j, hj, rfl⟩ := many_mem h1
    exact ⟨j, hj, rfl, by simpa using h2⟩
  · obtain ⟨h1, h2⟩ := List.mem_filter.1 ha
    obtain ⟨j, hj, rfl⟩ := many_mem h1
    show 0 < atF zs j
    unfold atF; omega
theorem CI.last {zs : List Int} {n : Nat} {c t : Int} {L : List Al} (h : CI zs n c t L) (ht : 30 ≤ t) : L = [] := by
  cases L with
  | nil => rfl
  | cons a L =>
    exfalso
    obtain ⟨j, _, e, _⟩ := h.mem a (List.mem_cons_self ..)
    have h1 := h.lat a (List.mem_cons_self ..)
    rw [e] at h1
    replace h1 : t < atF zs j := h1
    unfold atF at h1
    omega
theorem getI_mem (L : List Int) (j : Nat) (h : j < L.length) : L.getD j 0 ∈ L := by
  rw [List.getD_eq_getElem?_getD, List.getElem?_eq_getElem h]; exact List.getElem_mem h
def PutRel (w : World) (g : Nat) (zs : List Int) (n gk : Nat) (vi : Value) (wr : World) : Prop := ∃ (i : Nat) (v : Value), i + gk = n ∧ vi = .int .i64 (i : Int) ∧ Tm wr g g 0 v (manyL zs i) ∧ Below w.heap.size w wr
def TimeRel (w : World) (g : Nat) (zs : List Int) (n : Nat) (c : Int) (tot gk : Nat) (vi vr : Value) (wr : World) : Prop := ∃ (k r : Nat) (t : Int) (v : Value) (L : List Al), 1 ≤ k ∧ k + gk = 32 ∧ vi = .int .i64 (k : Int) ∧ vr = .int .i64 (r : Int) ∧ t = (k : Int) - 1 ∧ Tm wr g g t v L ∧ CI zs n c t L ∧ r + L.length = tot ∧ Below w.heap.size w wr
def EachRel (w5 : World) (r m gk : Nat) (vi vr : Value) (wr : World) : Prop := ∃ i : Nat, i + gk = m ∧ vi = .int .i64 (i : Int) ∧ vr = .int .i64 ((r + i : Nat) : Int) ∧ wr = w5
theorem rem30 {z : Int} (h0 : 0 ≤ z) : z.tmod 30 = z % 30 := Int.tmod_eq_emod_of_nonneg h0
set_option maxRecDepth 20000 in
set_option maxHeartbeats 3200000 in
theorem walk_cancel (so : Option Addr) (N cap : Nat) (zs : List Int) (q : Nat) (w : World) (hO : Oct w so N cap zs) (hq : q ≤ 255) :
    Calls Try.prog 4 #[.slice so N cap, .int .u8 (q : Int)] w fun e w' => e = .returned (.bool true) ∧ Below w.heap.size w w' := by
  obtain ⟨n, hn⟩ : ∃ n, min N 40 = n := ⟨_, rfl⟩
  have hn1 : min (N : Int) 40 = (n : Int) := by omega
  have hn2 : n ≤ 40 := by omega
  have HNN : Hid (n ≤ N) := by show _ ≤ _; omega
  have hcap : cap ≤ 9223372036854775807 := hO.2.1
  have hnc := hO.1
  have HO := hide hO
  clear hO hn
  go_enter Try.func4, Try.ntmps4
  go_wp2_with fail
  refine (awake_any _).mono ?_; rintro e w1 ⟨rfl, b1⟩
  have HB1 := hide (below_one b1 (below_alloc w1 (.cells #[.int .i64 0, .slice none 0 0] 26)))
  have HG := hide b1.size
  have H1 := hide (tm_new w1)
  clear b1
  go_wp2_with fail
  obtain ⟨g, hg⟩ : ∃ g, w1.heap.size = g := ⟨_, rfl⟩
  rw [hg] at HG H1
  simp only [hg]
  clear hg
  go_loopg [7] n (fun gk vi wr => PutRel w g zs n gk vi wr)
  case atStart => exact ⟨0, _, by omega, rfl, H1.out, HB1.out⟩
  case round =>
    clear H1 HB1
    obtain ⟨i, v, hi, rfl, h1, b1⟩ := hrel
    have H1 := hide h1
    have HB := hide b1
    have HI := hide hi
    clear h1 b1
    cases gk with
    | succ g1 =>
      have hlt : (i : Int) < (n : Int) := by omega
      have hiN : i < N := by have := HNN.out; omega
      have hltN : (i : Int) < (N : Int) := by omega
      obtain ⟨ad, rfl⟩ := HO.out.there hiN
      obtain ⟨c0, hz0, hz1⟩ := (HO.out.carry HB.out (Nat.le_refl _)).2.2.2 ad rfl i hiN
      have HS := hide (many_set zs i (by omega))
      obtain ⟨z, hz⟩ : ∃ z, zs.getD i 0 = z := ⟨_, rfl⟩
      rw [hz] at c0 hz0 hz1
      obtain ⟨f, hf⟩ : ∃ f, atF zs i = f := ⟨_, rfl⟩
      rw [hf] at HS
      have hzf : 1 + z % 30 = f := by rw [← hf, ← hz]; rfl
      obtain ⟨r, hr⟩ : ∃ r, z % 30 = r := ⟨_, rfl⟩
      have hr2 := rem30 hz0
      rw [hr] at hr2 hzf
      have hr0 : 0 ≤ r ∧ r < 30 := by omega
      have HL := hide (many_len zs i)
      clear hi hz hf
      go_wp2_with fail
      refine (set_any (i : Int) f _ H1.out (by rw [HL.out]; omega) (by decide)).mono ?_; rintro e w2 ⟨rfl, h2⟩
      obtain ⟨v2, x2, b2⟩ := h2.below HB.out HG.out
      rw [HS.out.2] at x2
      rw [HS.out.1, erN_zero]
      have H2 := hide x2
      have HB2 := hide b2
      clear h2 x2 b2
      go_wp2
      go_roundg g1
      case measure => omega
      case rel => exact ⟨i + 1, v2, by have := HI.out; omega, by go_num, H2.out, HB2.out⟩
    | zero =>
      obtain rfl : i = n := by omega
      have hlt : ¬ ((i : Int) < (i : Int)) := by omega
      have HL := hide (many_len zs i)
      clear hi
      by_cases h0 : 0 < i
      · have h01 : (0 : Int) < (i : Int) := by omega
        have hi0 : ¬ ((i : Int) = 0) := by omega
        obtain ⟨c, hc⟩ : ∃ c, q % i = c := ⟨_, rfl⟩
        have hci : c < i := by rw [← hc]; exact Nat.mod_lt _ h0
        have hc1 : (q : Int) % (i : Int) = (c : Int) := by rw [← hc]; exact (Int.natCast_emod q i).symm
        have hc2 : (q : Int).tmod (i : Int) = (c : Int) := by rw [Int.tmod_eq_emod_of_nonneg (by omega)]; exact hc1
        obtain ⟨tot, htot⟩ : ∃ tot, i - 1 = tot := ⟨_, rfl⟩
        have hm1 : (i : Int) - 1 = (tot : Int) := by omega
        have hm2 : max (0 : Int) (tot : Int) = (tot : Int) := by omega
        have HTOT : Hid ((dropA (manyL zs i) (c : Int)).length = tot) := by show _ = _; rw [many_cut zs i c hci, htot]
        have HLT : Hid (decide ((dropA (manyL zs i) (c : Int)).length < (manyL zs i).length) = true) := by show _ = _; rw [HTOT.out, HL.out]; exact decide_eq_true (by omega)
        have HCI := hide (CI.start zs i (c : Int) hn2)
        have htb : tot ≤ 40 := by omega
        clear hc hci htot
        go_wp2_with fail
        refine (cancel_any (c : Int) _ H1.out (by rw [HL.out]; omega)).mono ?_; rintro e w3 ⟨rfl, h3⟩
        obtain ⟨v3, x3, b3⟩ := h3.below HB.out HG.out
        rw [HLT.out]
        have H3 := hide x3
        have HB3 := hide b3
        clear h3 x3 b3 H1 HB
        go_wp2_with fail
        go_loopg [10, 9] 31 (fun gk vi vr wr => TimeRel w g zs i (c : Int) tot gk vi vr wr)
        case atStart => exact ⟨1, 0, 0, v3, _, by omega, by omega, rfl, rfl, by omega, H3.out, HCI.out, by rw [Nat.zero_add]; exact HTOT.out, HB3.out⟩
        case round =>
          rename World => wq
          clear H3 HB3 HCI HTOT
          obtain ⟨k, r, t, v, L, hk0, hk, rfl, rfl, ht, h1, hci, htot, b1⟩ := hrel
          have H1 := hide h1
          have HB := hide b1
          have HK := hide hk
          have HT := hide ht
          have HC := hide hci
          have HTO := hide htot
          clear h1 b1 hci
          cases gk with
          | zero =>
            have hle : ¬ ((k : Int) ≤ 31) := by omega
            have HN := hide (HC.out.last (by omega))
            have hrt : r = tot := by rw [HN.out] at htot; simpa using htot
            clear hk ht htot
            subst hrt
            go_wp2
            go_ret
            exact ⟨rfl, HB.out⟩
          | succ g1 =>
            have hle : (k : Int) ≤ 31 := by omega
            have htk : t + 1 = (k : Int) := by omega
            have HRR := hide (ring_rest L (k : Int))
            have HCR := hide (htk ▸ HC.out.rest)
            have hrb : r ≤ 100000 := by omega
            have HRB := hide hrb
            clear hk ht htot
            go_wp2_with fail
            refine (tick_any _ H1.out (by have := HC.out.few; omega) (by have := HT.out; omega)).mono ?_; rintro e w5 h5
            rw [htk] at h5
            obtain ⟨ro, rc, v5, rfl, n5, x5, b5⟩ := h5.below HB.out HG.out
            have HRG : Hid (∀ x ∈ ringF L (k : Int), ∃ j : Nat, x = (j : Int) ∧ j < i ∧ atF zs j = (k : Int) ∧ (j : Int) ≠ (c : Int)) := fun x hx => by
              have := HC.out.ring x (by rw [htk]; exact hx)
              rw [htk] at this; exact this
            obtain ⟨R, hR⟩ : ∃ R, ringF L (k : Int) = R := ⟨_, rfl⟩
            rw [hR] at n5 HRR HRG ⊢
            obtain ⟨m, hm⟩ : ∃ m, R.length = m := ⟨_, rfl⟩
            rw [hm] at n5 HRR ⊢
            have hmb : m ≤ 100000 := by have := HRR.out; have := HC.out.few; omega
            have HM := hide hm
            have HN5 := hide n5
            have H5 := hide x5
            have HB5 := hide b5
            have hrcap : rc ≤ 9223372036854775807 := n5.2.2.1
            have hrn := n5.2.1
            clear h5 n5 x5 b5 hR hm
            go_wp2_with fail
            go_loopg [55, 9] m (fun gk vi vr wr => EachRel w5 r m gk vi vr wr)
            case atStart => exact ⟨0, by omega, rfl, by rw [Nat.add_zero], rfl⟩
            case round =>
              rename World => wp
              obtain ⟨l, hl, rfl, rfl, rfl⟩ := hrel
              have HLL := hide hl
              cases gk with
              | zero =>
                obtain rfl : l = m := by omega
                have hlt2 : ¬ ((l : Int) < (l : Int)) := by omega
                clear hl
                go_wp2
                go_roundg g1
                case measure => omega
                case rel => exact ⟨k + 1, r + l, (k : Int), v5, _, by omega, by have := HK.out; omega, by go_num, rfl, by omega, H5.out, HCR.out, by have := HRR.out; have := HTO.out; omega, HB5.out⟩
              | succ g2 =>
                have hlt2 : (l : Int) < (m : Int) := by omega
                have hlm : l < m := by omega
                obtain ⟨rd, rfl⟩ := HN5.out.there hlm
                have e0 := HN5.out.elem l hlm
                obtain ⟨j, ej, hj, hat, hjc⟩ := HRG.out _ (getI_mem R l (by rw [HM.out]; exact hlm))
                rw [ej] at e0
                have hjN : j < N := by have := HNN.out; omega
                have hjN2 : (j : Int) < (N : Int) := by omega
                obtain ⟨ad, rfl⟩ := HO.out.there hjN
                obtain ⟨c0, hz0, hz1⟩ := (HO.out.carry HB5.out (Nat.le_refl _)).2.2.2 ad rfl j hjN
                obtain ⟨z, hz⟩ : ∃ z, zs.getD j 0 = z := ⟨_, rfl⟩
                rw [hz] at c0 hz0 hz1
                have hzk : 1 + z % 30 = (k : Int) := by rw [← hat, ← hz]; rfl
                obtain ⟨u, hu⟩ : ∃ u, z % 30 = u := ⟨_, rfl⟩
                have hu2 := rem30 hz0
                rw [hu] at hu2 hzk
                have hu0 : 0 ≤ u ∧ u < 30 := by omega
                have hrl : (r : Int) + (l : Int) ≤ 200000 := by omega
                clear hl hz hat ej
                go_wp2
                go_roundg g2
                case measure => omega
                case rel => exact ⟨l + 1, by have := HLL.out; omega, by go_num, by go_num, rfl⟩
      · have h01 : ¬ ((0 : Int) < (i : Int)) := by omega
        obtain ⟨tot, htot⟩ : ∃ tot, 0 = tot := ⟨_, rfl⟩
        have hm1 : (i : Int) - 1 = -1 := by omega
        have hm2 : max (0 : Int) (-1) = (tot : Int) := by omega
        have HLZ : Hid (manyL zs i = []) := List.eq_nil_of_length_eq_zero (by rw [HL.out]; omega)
        have HTOT : Hid ((dropA (manyL zs i) (-1)).length = tot) := by show _ = _; rw [HLZ.out, ← htot]; rfl
        have HLT : Hid (decide ((dropA (manyL zs i) (-1)).length < (manyL zs i).length) = false) := by show _ = _; rw [HLZ.out]; rfl
        have HCI := hide (CI.start zs i (-1) hn2)
        have htb : tot ≤ 40 := by omega
        clear htot
        go_wp2_with fail
        refine (cancel_any (-1) _ H1.out (by rw [HL.out]; omega)).mono ?_; rintro e w3 ⟨rfl, h3⟩
        obtain ⟨v3, x3, b3⟩ := h3.below HB.out HG.out
        rw [HLT.out]
        have H3 := hide x3
        have HB3 := hide b3
        clear h3 x3 b3 H1 HB
        go_wp2_with fail
        go_loopg [10, 9] 31 (fun gk vi vr wr => TimeRel w g zs i (-1) tot gk vi vr wr)
        case atStart => exact ⟨1, 0, 0, v3, _, by omega, by omega, rfl, rfl, by omega, H3.out, HCI.out, by rw [Nat.zero_add]; exact HTOT.out, HB3.out⟩
        case round =>
          rename World => wq
          clear H3 HB3 HCI HTOT
          obtain ⟨k, r, t, v, L, hk0, hk, rfl, rfl, ht, h1, hci, htot, b1⟩ := hrel
          have H1 := hide h1
          have HB := hide b1
          have HK := hide hk
          have HT := hide ht
          have HC := hide hci
          have HTO := hide htot
          clear h1 b1 hci
          cases gk with
          | zero =>
            have hle : ¬ ((k : Int) ≤ 31) := by omega
            have HN := hide (HC.out.last (by omega))
            have hrt : r = tot := by rw [HN.out] at htot; simpa using htot
            clear hk ht htot
            subst hrt
            go_wp2
            go_ret
            exact ⟨rfl, HB.out⟩
          | succ g1 =>
            have hle : (k : Int) ≤ 31 := by omega
            have htk : t + 1 = (k : Int) := by omega
            have HRR := hide (ring_rest L (k : Int))
            have HCR := hide (htk ▸ HC.out.rest)
            have hrb : r ≤ 100000 := by omega
            have HRB := hide hrb
            clear hk ht htot
            go_wp2_with fail
            refine (tick_any _ H1.out (by have := HC.out.few; omega) (by have := HT.out; omega)).mono ?_; rintro e w5 h5
            rw [htk] at h5
            obtain ⟨ro, rc, v5, rfl, n5, x5, b5⟩ := h5.below HB.out HG.out
            have HRG : Hid (∀ x ∈ ringF L (k : Int), ∃ j : Nat, x = (j : Int) ∧ j < i ∧ atF zs j = (k : Int) ∧ (j : Int) ≠ (-1)) := fun x hx => by
              have := HC.out.ring x (by rw [htk]; exact hx)
              rw [htk] at this; exact this
            obtain ⟨R, hR⟩ : ∃ R, ringF L (k : Int) = R := ⟨_, rfl⟩
            rw [hR] at n5 HRR HRG ⊢
            obtain ⟨m, hm⟩ : ∃ m, R.length = m := ⟨_, rfl⟩
            rw [hm] at n5 HRR ⊢
            have hmb : m ≤ 100000 := by have := HRR.out; have := HC.out.few; omega
            have HM := hide hm
            have HN5 := hide n5
            have H5 := hide x5
            have HB5 := hide b5
            have hrcap : rc ≤ 9223372036854775807 := n5.2.2.1
            have hrn := n5.2.1
            clear h5 n5 x5 b5 hR hm
            go_wp2_with fail
            go_loopg [55, 9] m (fun gk vi vr wr => EachRel w5 r m gk vi vr wr)
            case atStart => exact ⟨0, by omega, rfl, by rw [Nat.add_zero], rfl⟩
            case round =>
              rename World => wp
              obtain ⟨l, hl, rfl, rfl, rfl⟩ := hrel
              have HLL := hide hl
              cases gk with
              | zero =>
                obtain rfl : l = m := by omega
                have hlt2 : ¬ ((l : Int) < (l : Int)) := by omega
                clear hl
                go_wp2
                go_roundg g1
                case measure => omega
                case rel => exact ⟨k + 1, r + l, (k : Int), v5, _, by omega, by have := HK.out; omega, by go_num, rfl, by omega, H5.out, HCR.out, by have := HRR.out; have := HTO.out; omega, HB5.out⟩
              | succ g2 =>
                have hlt2 : (l : Int) < (m : Int) := by omega
                have hlm : l < m := by omega
                obtain ⟨rd, rfl⟩ := HN5.out.there hlm
                obtain ⟨j, _, hj, _⟩ := HRG.out _ (getI_mem R l (by rw [HM.out]; exact hlm))
                omega
end Go.Proofs.Ytifmeljdkohkkaa
