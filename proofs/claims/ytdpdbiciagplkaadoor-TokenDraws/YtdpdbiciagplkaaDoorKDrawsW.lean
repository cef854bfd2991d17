/-
  The walk of TokenDraws.
-/
import Derived.Test.YtdpdbiciagplkaaDoorKAlike
import Derived.Test.YtdpdbiciagplkaaDoorKRead
namespace Go.Proofs.YtdpdbiciagplkaaDoor
open Go.RowKit
theorem of_first (ws : List Nat) (s r : Nat) : (ofF ws 0 [] s r).t = if r = 255 ∨ ws.length = 0 then 0 else 1 := by
  unfold ofF
  by_cases h : r = 255
  · simp [h]
  · rw [if_neg h]
    unfold ansF
    simp only [findE_nil, h, false_or]
    by_cases h0 : ws.length = 0
    · rw [if_neg (by omega), if_pos h0]
    · rw [if_pos (by omega), if_neg h0]
set_option maxHeartbeats 3200000 in
theorem walk_draws (ao : Option Addr) (n cap : Nat) (us : List Nat) (s r : Nat) (w : World) (hu : U64s w ao n cap us) (hb : n ≤ 17592186043904) (hs : s ≤ 18446744073709551615) (hr : r ≤ 255) (hg : Glob w) :
    Calls Tryd.prog 5 #[.slice ao n cap, .int .u64 (s : Int), .int .u8 (r : Int)] w fun e w' => e = .returned (.bool true) ∧ Below w.heap.size w w' := by
  have HU := hide hu
  have HGl := hide hg
  have HS := hide hs
  have HR := hide hr
  have hc2 : cap ≤ 9223372036854775807 := hu.2.2.1
  have hnc : n ≤ cap := hu.2.1
  have hL : (cutN us).length = n := by rw [cutN_len]; exact hu.1.symm
  have HL := hide hL
  obtain ⟨X, hX⟩ : ∃ X, ofF (cutN us) 0 [] s r = X := ⟨_, rfl⟩
  have hX2 : ofF (cutN us) X.t X.es s r = X := by rw [← hX]; exact of_again _ _ _ _ _
  have hXt := of_first (cutN us) s r
  rw [hX, hL] at hXt
  have HX := hide hX
  have HX2 := hide hX2
  have HE := hide (show X.es.length ≤ 1 by rw [← hX]; exact of_len _ _ _ _ _)
  clear hu hs hr hX hX2 hL hg
  obtain ⟨x, ok, t', es'⟩ := X
  simp only at hXt
  have HXT := hide hXt
  clear hXt
  go_enter Tryd.func5, Tryd.ntmps5
  go_wp2_with fail
  refine (awake_any _).mono ?_; rintro e w1 ⟨rfl, bel1⟩
  have HB1 := hide bel1
  clear bel1
  go_wp2_with fail
  refine (of_any ao n cap us _ (HU.out.carry HB1.out) hb).mono ?_; rintro e w2 ⟨a, h, k, rfl, T, _, ha, hh, bel2⟩
  have HT := hide T
  have HN := hide (And.intro ha (And.intro hh bel2))
  clear T ha hh bel2
  go_wp2_with fail
  refine (oof_any _ ⟨_, rfl⟩ _).mono ?_; rintro e w3 ⟨g, m, rfl, O3, bel3⟩
  have HK := hide (Tk.made HB1.out HT.out HN.out.1 HN.out.2.1 HN.out.2.2 O3 bel3)
  clear O3 bel3 HN HT HB1
  go_wp2_with fail
  refine (tof_owner _ s _ HS.out).mono ?_; rintro e w4 ⟨rfl, rfl⟩
  obtain ⟨y, hy⟩ : ∃ y, s % 281474976710656 = y := ⟨_, rfl⟩
  rw [hy]
  clear hy
  go_wp2_with fail
  refine (oleft_any g m _ a h _ k _ _ (cutN us) _ HK.out.orc HK.out.tape).mono ?_; rintro e w5 ⟨rfl, q5, rfl⟩
  rw [HL.out, show (n : Int) - ((0 : Nat) : Int) = (n : Int) from by omega]
  have HK5 := hide (HK.out.drewN q5)
  clear HK
  obtain ⟨w5, hw5⟩ : ∃ x, w4.drewN q5 = x := ⟨_, rfl⟩
  rw [hw5] at HK5 ⊢
  clear hw5
  go_wp2_with fail
  refine (tof_any w _ g m a h k _ (cutN us) 0 [] s r _ HK5.out HS.out HR.out (by decide)).mono ?_
  rw [HX.out]
  rintro e w6 ⟨rfl, L⟩
  obtain ⟨v6, T6, _, _⟩ := L
  have HK6 := hide T6
  clear T6 HX HK5
  obtain ⟨ev, hev⟩ : ∃ ev, erV ok = ev := ⟨_, rfl⟩
  simp only [hev]
  have HEV := hide hev
  clear hev
  go_wp2_with fail
  refine (oleft_any g m _ a h _ k _ _ (cutN us) _ HK6.out.orc HK6.out.tape).mono ?_; rintro e w7 ⟨rfl, q7, rfl⟩
  obtain ⟨z, hz⟩ : ∃ z : Int, ((cutN us).length : Int) - (t' : Int) = z := ⟨_, rfl⟩
  rw [show ((cutN us).length : Int) - ((⟨x, ok, t', es'⟩ : Ans).t : Int) = z from hz]
  have HZ := hide hz
  clear hz
  have HK7 := hide (HK6.out.drewN q7)
  clear HK6
  obtain ⟨w7, hw7⟩ : ∃ x, w6.drewN q7 = x := ⟨_, rfl⟩
  rw [hw7] at HK7 ⊢
  clear hw7
  go_wp2_with fail
  refine (tof_any w _ g m a h k _ (cutN us) t' es' s r _ HK7.out HS.out HR.out (by have hE : es'.length ≤ 1 := HE.out; omega)).mono ?_
  rw [show ofF (cutN us) t' es' s r = _ from HX2.out]
  rintro e w8 ⟨rfl, L⟩
  obtain ⟨v8, T8, _, _⟩ := L
  have HK8 := hide T8
  clear T8 HX2 HK7
  simp only [HEV.out]
  go_wp2_with fail
  rw [← HEV.out]
  refine (alike_any ok _ (HGl.out.carry HK8.out.new.bel)).mono ?_; rintro e w9 ⟨rfl, bel9⟩
  have HK9 := hide (HK8.out.grow bel9)
  clear bel9 HK8
  go_wp2_with fail
  refine (oleft_any g m _ a h _ k _ _ (cutN us) _ HK9.out.orc HK9.out.tape).mono ?_; rintro e w10 ⟨rfl, q10, rfl⟩
  rw [show ((cutN us).length : Int) - ((⟨x, ok, t', es'⟩ : Ans).t : Int) = z from HZ.out]
  have HB10 := hide (below_drewN HK9.out.new.bel q10)
  clear HK9
  have hz := HZ.out
  have hl := HL.out
  have ht := HXT.out
  clear HZ HL HXT HU
  rw [hl] at hz
  clear hl
  by_cases h1 : r = 255
  · subst h1
    rw [if_pos (.inl rfl)] at ht
    obtain rfl : z = (n : Int) := by omega
    clear hz ht
    go_wp2
    go_ret
    exact ⟨rfl, HB10.out⟩
  · have hr1 : ¬ ((r : Int) = 255) := by omega
    by_cases h2 : n = 0
    · rw [if_pos (.inr h2)] at ht
      obtain rfl : z = 0 := by omega
      subst h2
      clear hz ht h1
      go_wp2
      go_ret
      exact ⟨by simp [hr1], HB10.out⟩
    · rw [if_neg (by omega)] at ht
      have e : (n : Int) - 1 = z := by omega
      have hz0 : 0 ≤ z := by omega
      have hz1 : z ≤ 17592186043904 := by omega
      clear hz ht h1 h2
      by_cases h3 : z = 0
      · subst h3
        go_wp2
        go_ret
        exact ⟨by simp [hr1], HB10.out⟩
      · have h4 : 0 < z := by omega
        have h5 : ¬ (z < 0) := by omega
        go_wp2
        go_ret
        exact ⟨by simp [hr1], HB10.out⟩
end Go.Proofs.YtdpdbiciagplkaaDoor
