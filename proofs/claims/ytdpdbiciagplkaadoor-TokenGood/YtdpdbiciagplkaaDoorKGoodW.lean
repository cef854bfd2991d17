/-
  The walk of TokenGood.
-/
import Derived.Test.YtdpdbiciagplkaaDoorKAlike
import Derived.Test.YtdpdbiciagplkaaDoorKRead
import Derived.Test.YtdpdbiciagplkaaDoorKTwo
namespace Go.Proofs.YtdpdbiciagplkaaDoor
open Go.RowKit
set_option maxHeartbeats 3200000 in
theorem walk_good (ao : Option Addr) (n cap : Nat) (us : List Nat) (s p o r c : Nat) (b : Bool) (w : World) (hu : U64s w ao n cap us) (hb : n ≤ 17592186043904) (hs : s ≤ 18446744073709551615) (hr : r ≤ 255) (hg : Glob w) :
    Calls Tryd.prog 4 #[.slice ao n cap, .int .u64 (s : Int), .agg #[.int .u64 (p : Int), .int .u32 (o : Int), .int .u8 (r : Int), .int .u64 (c : Int)], .bool b] w fun e w' => e = .returned (.bool true) ∧ Below w.heap.size w w' := by
  have HU := hide hu
  have HGl := hide hg
  have HS := hide hs
  have HR := hide hr
  obtain ⟨X, hX⟩ : ∃ X, ofF (cutN us) 0 [] s r = X := ⟨_, rfl⟩
  have HE := hide (show X.es.length ≤ 1 by rw [← hX]; exact of_len _ _ _ _ _)
  obtain ⟨x, ok, t', es'⟩ := X
  have HX := hide hX
  clear hu hs hr hg hX
  go_enter Tryd.func4, Tryd.ntmps4
  go_wp2_with fail
  refine (awake_any _).mono ?_; rintro e w1 ⟨rfl, bel1⟩
  have b1 := (below_alloc w (.cells #[.int .u64 (p : Int), .int .u32 (o : Int), .int .u8 (r : Int), .int .u64 (c : Int)] 41)).trans (bel1.mono (below_alloc w _).size)
  have HB1 := hide b1
  have HC1 := hide ((CBox.new w p o r c).grow bel1)
  clear bel1 b1
  go_wp2_with fail
  refine (of_any ao n cap us _ (HU.out.carry HB1.out) hb).mono ?_; rintro e w2 ⟨a, h, k, rfl, T, _, ha, hh, bel2⟩
  have HT := hide T
  have HN := hide (And.intro ha (And.intro hh bel2))
  have HC2 := hide (HC1.out.grow bel2)
  clear T ha hh bel2 HC1
  go_wp2_with fail
  refine (oof_any _ ⟨_, rfl⟩ _).mono ?_; rintro e w3 ⟨g, m, rfl, O3, bel3⟩
  have HK := hide (Tk.made HB1.out HT.out HN.out.1 HN.out.2.1 HN.out.2.2 O3 bel3)
  have HC3 := hide (HC2.out.grow bel3)
  clear O3 bel3 HN HT HB1 HC2
  go_wp2_with fail
  refine (of_any ao n cap us _ (HU.out.carry HK.out.new.bel) hb).mono ?_; rintro e w4 ⟨f, d, k2, rfl, T, _, hf, hd, bel4⟩
  have HT := hide T
  have HN := hide (And.intro hf (And.intro hd bel4))
  have HC4 := hide (HC3.out.grow bel4)
  clear T hf hd bel4 HC3
  go_wp2_with fail
  refine (oof_any _ ⟨_, rfl⟩ _).mono ?_; rintro e w5 ⟨g2, m2, rfl, O5, bel5⟩
  have H2 := hide (Tk.second HK.out HT.out HN.out.1 HN.out.2.1 HN.out.2.2 O5 bel5)
  have HC5 := hide (HC4.out.grow bel5)
  clear O5 bel5 HN HT HK HC4
  have c2 := HC5.out.c2
  go_wp2_with fail
  refine (tof_any w _ g2 m2 f d k2 _ (cutN us) 0 [] s r _ H2.out.2.1 HS.out HR.out (by decide)).mono ?_
  rw [HX.out]
  rintro e w6 ⟨rfl, L⟩
  have H6 := hide (L.pair H2.out.2.1 H2.out.1 H2.out.2.2.symm)
  clear L
  obtain ⟨v6, _, Q6, _, F6⟩ := H6.out
  have HC6 := hide (HC5.out.ask H2.out.2.1 F6)
  clear H6 H2 HC5 c2 F6
  have HQ6 := hide Q6
  clear Q6
  cases b
  · cases ok <;> simp only [erV]
    · have c0 := HC6.out.c0
      have c1 := HC6.out.c1
      have c2 := HC6.out.c2
      have c3 := HC6.out.c3
      go_wp2_with fail
      refine (tgood_any w _ g m a h k _ (cutN us) 0 [] s p o r c _ HQ6.out HS.out HR.out (by decide)).mono ?_
      rw [HX.out]
      rintro e w7 ⟨rfl, L⟩
      obtain ⟨v7, T7, F7, _⟩ := L
      have HK7 := hide T7
      clear T7 F7 HQ6 HC6 c0 c1 c2 c3
      rw [show goodF ⟨x, false, t', es'⟩ c = false from rfl]
      simp only [erV]
      go_wp2_with fail
      refine (alike_any false _ (HGl.out.carry HK7.out.new.bel)).mono ?_; rintro e w8 ⟨rfl, bel8⟩
      have HB8 := hide (HK7.out.grow bel8).new.bel
      clear HK7 bel8
      go_wp2
      go_ret
      exact ⟨rfl, HB8.out⟩
    · have c0 := HC6.out.c0
      have c1 := HC6.out.c1
      have c2 := HC6.out.c2
      have c3 := HC6.out.c3
      go_wp2_with fail
      refine (tgood_any w _ g m a h k _ (cutN us) 0 [] s p o r c _ HQ6.out HS.out HR.out (by decide)).mono ?_
      rw [HX.out]
      rintro e w7 ⟨rfl, L⟩
      obtain ⟨v7, T7, F7, _⟩ := L
      have HK7 := hide T7
      have HC7 := hide (HC6.out.ask HQ6.out F7)
      clear T7 F7 HQ6 HC6 c0 c1 c2 c3
      rw [show goodF ⟨x, true, t', es'⟩ c = decide (c = x) from by simp [goodF]]
      simp only [erV]
      go_wp2_with fail
      refine (alike_any true _ (HGl.out.carry HK7.out.new.bel)).mono ?_; rintro e w8 ⟨rfl, bel8⟩
      have HB8 := hide (HK7.out.grow bel8).new.bel
      have HC8 := hide (HC7.out.grow bel8)
      clear HK7 bel8 HC7
      have c3 := HC8.out.c3
      by_cases hc : c = x
      · subst hc
        rw [decide_eq_true rfl]
        go_wp2
        go_ret
        exact ⟨rfl, HB8.out⟩
      · rw [decide_eq_false hc]
        have hci : ((c : Int) == (x : Int)) = false := by
          have : ¬ ((c : Int) = (x : Int)) := by omega
          simp [this]
        go_wp2
        go_ret
        exact ⟨rfl, HB8.out⟩
  · have c0 := HC6.out.c0
    have c1 := HC6.out.c1
    have c2 := HC6.out.c2
    have c3 := HC6.out.c3
    have z := HC6.out.z
    have HQ7 := hide (HQ6.out.put HC6.out.capB (Nat.le_refl _) 3 (.int .u64 (x : Int)))
    have HC7 := hide (HC6.out.set3 x)
    clear HQ6 HC6
    cases ok <;> simp only [erV]
    · go_wp2_with fail
      refine (tgood_any w _ g m a h k _ (cutN us) 0 [] s p o r x _ HQ7.out HS.out HR.out (by decide)).mono ?_
      rw [HX.out]
      rintro e w8 ⟨rfl, L⟩
      obtain ⟨v8, T8, F8, _⟩ := L
      have HK8 := hide T8
      clear T8 F8 HQ7 HC7 c0 c1 c2 c3 z
      rw [show goodF ⟨x, false, t', es'⟩ x = false from rfl]
      simp only [erV]
      go_wp2_with fail
      refine (alike_any false _ (HGl.out.carry HK8.out.new.bel)).mono ?_; rintro e w9 ⟨rfl, bel9⟩
      have HB9 := hide (HK8.out.grow bel9).new.bel
      clear HK8 bel9
      go_wp2
      go_ret
      exact ⟨rfl, HB9.out⟩
    · go_wp2_with fail
      refine (tgood_any w _ g m a h k _ (cutN us) 0 [] s p o r x _ HQ7.out HS.out HR.out (by decide)).mono ?_
      rw [HX.out]
      rintro e w8 ⟨rfl, L⟩
      obtain ⟨v8, T8, F8, _⟩ := L
      have HK8 := hide T8
      have HC8 := hide (HC7.out.ask HQ7.out F8)
      clear T8 F8 HQ7 HC7 c0 c1 c2 c3 z
      rw [show goodF ⟨x, true, t', es'⟩ x = true from by simp [goodF]]
      simp only [erV]
      go_wp2_with fail
      refine (alike_any true _ (HGl.out.carry HK8.out.new.bel)).mono ?_; rintro e w9 ⟨rfl, bel9⟩
      have HB9 := hide (HK8.out.grow bel9).new.bel
      have HC9 := hide (HC8.out.grow bel9)
      clear HK8 bel9 HC8
      have c3 := HC9.out.c3
      go_wp2
      go_ret
      exact ⟨rfl, HB9.out⟩
end Go.Proofs.YtdpdbiciagplkaaDoor
