/-
  The walk of TokenOf.
-/
import Derived.Test.YtdpdbiciagplkaaDoorKAlike
import Derived.Test.YtdpdbiciagplkaaDoorKRead
import Derived.Test.YtdpdbiciagplkaaDoorKTwo
namespace Go.Proofs.YtdpdbiciagplkaaDoor
open Go.RowKit
set_option maxHeartbeats 3200000 in
theorem walk_of_owner (ao : Option Addr) (n cap : Nat) (us : List Nat) (s i : Nat) (w : World) (hu : U64s w ao n cap us) (hb : n ≤ 17592186043904) (hs : s ≤ 18446744073709551615) (hi : i ≤ 18446744073709551615) (hg : Glob w) :
    Calls Tryd.prog 3 #[.slice ao n cap, .int .u64 (s : Int), .int .u8 255, .int .u64 (i : Int)] w fun e w' => e = .returned (.bool true) ∧ Below w.heap.size w w' := by
  have HU := hide hu
  have HGl := hide hg
  have HS := hide hs
  have HI := hide hi
  obtain ⟨p, hp⟩ : ∃ p, s % 281474976710656 = p := ⟨_, rfl⟩
  have hand : bits .and .u64 (s : Int) 281474976710655 = (p : Int) := by rw [and_word _ (by omega) (by omega), cutF_nat, hp]
  obtain ⟨X, hX⟩ : ∃ X, ofF (cutN us) 0 [] s 255 = X := ⟨_, rfl⟩
  have hX2 : X = ⟨p, true, 0, []⟩ := by rw [← hX, of_owner, hp]
  rw [hX2] at hX
  clear hX2 X
  obtain ⟨x, hx⟩ : ∃ x, p = x := ⟨_, rfl⟩
  obtain ⟨ok, hok⟩ : ∃ ok, ok = true := ⟨_, rfl⟩
  obtain ⟨t', ht'⟩ : ∃ t', t' = 0 := ⟨_, rfl⟩
  obtain ⟨es', hes'⟩ : ∃ es' : List Ent, es' = [] := ⟨_, rfl⟩
  have hX' : ofF (cutN us) 0 [] s 255 = ⟨x, ok, t', es'⟩ := by rw [hX, hx, hok, ht', hes']
  have HE := hide (show es'.length ≤ 1 by rw [hes']; decide)
  have HX := hide hX'
  have HOK := hide (And.intro hok (And.intro ht' hes'))
  subst hx
  clear hX hX' hok ht' hes'
  obtain ⟨Y, hY⟩ : ∃ Y, ansF (cutN us) t' es' 0 (i % 281474976710656) = Y := ⟨_, rfl⟩
  obtain ⟨y2, ok2, t2, es2⟩ := Y
  have HYY := hide hY
  clear hu hs hi hg hp hY
  obtain ⟨ev, hev⟩ : ∃ ev, erV ok = ev := ⟨_, rfl⟩
  obtain ⟨ev2, hev2⟩ : ∃ ev2, erV ok2 = ev2 := ⟨_, rfl⟩
  have HEV := hide hev
  have HEV2 := hide hev2
  clear hev hev2
  go_enter Tryd.func3, Tryd.ntmps3
  go_wp2_with fail
  refine (awake_any _).mono ?_; rintro e w1 ⟨rfl, bel1⟩
  have HB1 := hide bel1
  clear bel1
  go_wp2_with fail
  refine (of_any ao n cap us _ (HU.out.carry HB1.out) hb).mono ?_; rintro e w2 ⟨a, h, k, rfl, T, _, ha, hh, bel2⟩
  have HT := hide T
  have HN := hide (And.intro ha (And.intro hh bel2))
  clear T ha hh bel2
  go_wp2_with fail
  refine (oof_any _ ⟨_, rfl⟩ _).mono ?_; rintro e w3 ⟨g, m, rfl, O3, bel3⟩
  have HK := hide (Tk.made HB1.out HT.out HN.out.1 HN.out.2.1 HN.out.2.2 O3 bel3)
  clear O3 bel3 HN HT HB1
  go_wp2_with fail
  refine (of_any ao n cap us _ (HU.out.carry HK.out.new.bel) hb).mono ?_; rintro e w4 ⟨c, d, k2, rfl, T, _, hc, hd, bel4⟩
  have HT := hide T
  have HN := hide (And.intro hc (And.intro hd bel4))
  clear T hc hd bel4
  go_wp2_with fail
  refine (oof_any _ ⟨_, rfl⟩ _).mono ?_; rintro e w5 ⟨g2, m2, rfl, O5, bel5⟩
  have H2 := hide (Tk.second HK.out HT.out HN.out.1 HN.out.2.1 HN.out.2.2 O5 bel5)
  clear O5 bel5 HN HT HK
  go_wp2_with fail
  refine (tof_any w _ g m a h k _ (cutN us) 0 [] s 255 _ H2.out.1 HS.out (by omega) (by decide)).mono ?_
  rw [HX.out]
  rintro e w6 ⟨rfl, L⟩
  have H6 := hide (L.pair H2.out.1 H2.out.2.1 H2.out.2.2)
  clear L HX H2
  obtain ⟨v6, S6, Q6, D6, _⟩ := H6.out
  have H6 := hide (And.intro S6 (And.intro Q6 D6))
  clear S6 Q6 D6
  simp only [HEV.out]
  have H7 : Hid (Tk w w6 w2.heap.size g m a h k v6 (cutN us) t' es' ∧ Tk w w6 w4.heap.size g2 m2 c d k2 (.slice none 0 0) (cutN us) t' es' ∧ Two g m a v6 g2 m2 c (.slice none 0 0)) := by
    have h := H6.out
    obtain ⟨_, ht', hes'⟩ := HOK.out
    subst ht'
    subst hes'
    exact h
  clear H6
  obtain ⟨v7, hv7⟩ : ∃ v7, Value.slice none 0 0 = v7 := ⟨_, rfl⟩
  have H7 := hide (hv7 ▸ H7.out)
  clear hv7
  obtain ⟨w7, hw7⟩ : ∃ w7, w6 = w7 := ⟨_, rfl⟩
  rw [hw7] at H7 ⊢
  clear hw7
  go_wp2_with fail
  refine (tport_any w _ g m a h k _ (cutN us) t' es' i _ H7.out.1 HI.out (by have hE : es'.length ≤ 1 := HE.out; omega)).mono ?_
  rw [HYY.out]
  rintro e w8 ⟨rfl, L⟩
  have H8 := hide (L.pair H7.out.1 H7.out.2.1 H7.out.2.2)
  clear L H7
  obtain ⟨v8, S8, Q8, D8, _⟩ := H8.out
  have H8 := hide (And.intro S8 (And.intro Q8 D8))
  clear S8 Q8 D8
  simp only [HEV2.out]
  go_wp2_with fail
  refine (ask_ans w _ g2 m2 c d k2 _ (cutN us) t' es' 0 i _ H8.out.2.1 (by omega) HI.out (by have hE : es'.length ≤ 1 := HE.out; omega)).mono ?_
  rw [HYY.out]
  rintro e w9 ⟨rfl, L⟩
  have H9 := hide (L.pair H8.out.2.1 H8.out.1 H8.out.2.2.symm)
  clear L HYY H8
  obtain ⟨v9, S9, Q9, D9, _⟩ := H9.out
  have H9 : Hid (Tk w w9 w2.heap.size g m a h k v8 (cutN us) t2 es2 ∧ Tk w w9 w4.heap.size g2 m2 c d k2 v9 (cutN us) t2 es2) := ⟨Q9, S9⟩
  clear S9 Q9 D9
  simp only [HEV2.out]
  go_wp2_with fail
  have e1 : ev = erV true := by rw [← HEV.out, HOK.out.1]
  rw [e1]
  refine (alike_any true _ (HGl.out.carry H9.out.1.new.bel)).mono ?_; rintro e w10 ⟨rfl, bel10⟩
  rw [← e1]
  clear e1
  have H10 := hide (And.intro (H9.out.1.grow bel10) (H9.out.2.grow bel10))
  clear H9 bel10
  go_wp2_with fail
  rw [← HEV2.out]
  refine (alike_any ok2 _ (HGl.out.carry H10.out.1.new.bel)).mono ?_; rintro e w11 ⟨rfl, bel11⟩
  rw [HEV2.out]
  have H11 := hide (And.intro (H10.out.1.grow bel11) (H10.out.2.grow bel11))
  clear H10 bel11
  go_wp2_with fail
  refine (oleft_any g m _ a h _ k _ _ (cutN us) _ H11.out.1.orc H11.out.1.tape).mono ?_; rintro e w12 ⟨rfl, q12, rfl⟩
  obtain ⟨z, hz⟩ : ∃ z : Int, ((cutN us).length : Int) - (t2 : Int) = z := ⟨_, rfl⟩
  rw [hz]
  have H12 := hide (H11.out.2.drewN q12)
  clear H11
  obtain ⟨w12, hw12⟩ : ∃ x, w11.drewN q12 = x := ⟨_, rfl⟩
  rw [hw12] at H12 ⊢
  clear hw12
  have HZ := hide hz
  clear hz
  go_wp2_with fail
  refine (oleft_any g2 m2 _ c d _ k2 _ _ (cutN us) _ H12.out.orc H12.out.tape).mono ?_; rintro e w13 ⟨rfl, q13, rfl⟩
  rw [HZ.out]
  have HB13 := hide (below_drewN H12.out.new.bel q13)
  clear H12
  go_wp2
  go_ret
  exact ⟨rfl, HB13.out⟩
set_option maxHeartbeats 3200000 in
theorem walk_of_other (ao : Option Addr) (n cap : Nat) (us : List Nat) (s r i : Nat) (w : World) (hu : U64s w ao n cap us) (hb : n ≤ 17592186043904) (hs : s ≤ 18446744073709551615) (hr : r ≤ 255) (hn : r ≠ 255) (hi : i ≤ 18446744073709551615) (hg : Glob w) :
    Calls Tryd.prog 3 #[.slice ao n cap, .int .u64 (s : Int), .int .u8 (r : Int), .int .u64 (i : Int)] w fun e w' => e = .returned (.bool true) ∧ Below w.heap.size w w' := by
  have HU := hide hu
  have HGl := hide hg
  have HS := hide hs
  have HI := hide hi
  have HR := hide hr
  obtain ⟨p, hp⟩ : ∃ p, s % 281474976710656 = p := ⟨_, rfl⟩
  have hand : bits .and .u64 (s : Int) 281474976710655 = (p : Int) := by rw [and_word _ (by omega) (by omega), cutF_nat, hp]
  have eo : ofF (cutN us) 0 [] s r = ansF (cutN us) 0 [] 1 ((s % 281474976710656) ^^^ r) := by unfold ofF; rw [if_neg hn]
  have hx := xor_lt s r hr
  have hxn := xor_nat (s % 281474976710656) r (by omega) (by omega)
  rw [hp] at eo hx hxn
  obtain ⟨y, hy⟩ : ∃ y, p ^^^ r = y := ⟨_, rfl⟩
  rw [hy] at eo hx hxn
  obtain ⟨X, hX⟩ : ∃ X, ofF (cutN us) 0 [] s r = X := ⟨_, rfl⟩
  have hX2 : ansF (cutN us) 0 [] 1 (y % 281474976710656) = X := by rw [Nat.mod_eq_of_lt hx, ← eo]; exact hX
  have HE := hide (show X.es.length ≤ 1 by rw [← hX]; exact of_len _ _ _ _ _)
  obtain ⟨x, ok, t', es'⟩ := X
  have HX := hide hX
  have HX2 := hide hX2
  have HY := hide (show y ≤ 18446744073709551615 by omega)
  have hr1 : ¬ ((r : Int) = 255) := by omega
  have hr0 : (0 : Int) ≤ r := by omega
  have hr2 : (r : Int) ≤ 255 := by omega
  clear hX hX2 eo hx hy hr hn
  obtain ⟨Y, hY⟩ : ∃ Y, ansF (cutN us) t' es' 0 (i % 281474976710656) = Y := ⟨_, rfl⟩
  obtain ⟨y2, ok2, t2, es2⟩ := Y
  have HYY := hide hY
  clear hu hs hi hg hp hY
  obtain ⟨ev, hev⟩ : ∃ ev, erV ok = ev := ⟨_, rfl⟩
  obtain ⟨ev2, hev2⟩ : ∃ ev2, erV ok2 = ev2 := ⟨_, rfl⟩
  have HEV := hide hev
  have HEV2 := hide hev2
  clear hev hev2
  go_enter Tryd.func3, Tryd.ntmps3
  go_wp2_with fail
  refine (awake_any _).mono ?_; rintro e w1 ⟨rfl, bel1⟩
  have HB1 := hide bel1
  clear bel1
  go_wp2_with fail
  refine (of_any ao n cap us _ (HU.out.carry HB1.out) hb).mono ?_; rintro e w2 ⟨a, h, k, rfl, T, _, ha, hh, bel2⟩
  have HT := hide T
  have HN := hide (And.intro ha (And.intro hh bel2))
  clear T ha hh bel2
  go_wp2_with fail
  refine (oof_any _ ⟨_, rfl⟩ _).mono ?_; rintro e w3 ⟨g, m, rfl, O3, bel3⟩
  have HK := hide (Tk.made HB1.out HT.out HN.out.1 HN.out.2.1 HN.out.2.2 O3 bel3)
  clear O3 bel3 HN HT HB1
  go_wp2_with fail
  refine (of_any ao n cap us _ (HU.out.carry HK.out.new.bel) hb).mono ?_; rintro e w4 ⟨c, d, k2, rfl, T, _, hc, hd, bel4⟩
  have HT := hide T
  have HN := hide (And.intro hc (And.intro hd bel4))
  clear T hc hd bel4
  go_wp2_with fail
  refine (oof_any _ ⟨_, rfl⟩ _).mono ?_; rintro e w5 ⟨g2, m2, rfl, O5, bel5⟩
  have H2 := hide (Tk.second HK.out HT.out HN.out.1 HN.out.2.1 HN.out.2.2 O5 bel5)
  clear O5 bel5 HN HT HK
  go_wp2_with fail
  refine (tof_any w _ g m a h k _ (cutN us) 0 [] s r _ H2.out.1 HS.out HR.out (by decide)).mono ?_
  rw [HX.out]
  rintro e w6 ⟨rfl, L⟩
  have H6 := hide (L.pair H2.out.1 H2.out.2.1 H2.out.2.2)
  clear L HX H2
  obtain ⟨v6, S6, Q6, D6, _⟩ := H6.out
  have H6 := hide (And.intro S6 (And.intro Q6 D6))
  clear S6 Q6 D6
  simp only [HEV.out]
  go_wp2_with fail
  refine (ask_ans w _ g2 m2 c d k2 _ (cutN us) 0 [] 1 y _ H6.out.2.1 (by omega) HY.out (by decide)).mono ?_
  rw [HX2.out]
  rintro e w7 ⟨rfl, L⟩
  have H7 := hide (L.pair H6.out.2.1 H6.out.1 H6.out.2.2.symm)
  clear L HX2 H6
  obtain ⟨v7, S7, Q7, D7, _⟩ := H7.out
  have H7 : Hid (Tk w w7 w2.heap.size g m a h k v6 (cutN us) t' es' ∧ Tk w w7 w4.heap.size g2 m2 c d k2 v7 (cutN us) t' es' ∧ Two g m a v6 g2 m2 c v7) := ⟨Q7, S7, D7.symm⟩
  clear S7 Q7 D7
  simp only [HEV.out]
  go_wp2_with fail
  refine (tport_any w _ g m a h k _ (cutN us) t' es' i _ H7.out.1 HI.out (by have hE : es'.length ≤ 1 := HE.out; omega)).mono ?_
  rw [HYY.out]
  rintro e w8 ⟨rfl, L⟩
  have H8 := hide (L.pair H7.out.1 H7.out.2.1 H7.out.2.2)
  clear L H7
  obtain ⟨v8, S8, Q8, D8, _⟩ := H8.out
  have H8 := hide (And.intro S8 (And.intro Q8 D8))
  clear S8 Q8 D8
  simp only [HEV2.out]
  go_wp2_with fail
  refine (ask_ans w _ g2 m2 c d k2 _ (cutN us) t' es' 0 i _ H8.out.2.1 (by omega) HI.out (by have hE : es'.length ≤ 1 := HE.out; omega)).mono ?_
  rw [HYY.out]
  rintro e w9 ⟨rfl, L⟩
  have H9 := hide (L.pair H8.out.2.1 H8.out.1 H8.out.2.2.symm)
  clear L HYY H8
  obtain ⟨v9, S9, Q9, D9, _⟩ := H9.out
  have H9 : Hid (Tk w w9 w2.heap.size g m a h k v8 (cutN us) t2 es2 ∧ Tk w w9 w4.heap.size g2 m2 c d k2 v9 (cutN us) t2 es2) := ⟨Q9, S9⟩
  clear S9 Q9 D9
  simp only [HEV2.out]
  go_wp2_with fail
  rw [← HEV.out]
  refine (alike_any ok _ (HGl.out.carry H9.out.1.new.bel)).mono ?_; rintro e w10 ⟨rfl, bel10⟩
  rw [HEV.out]
  have H10 := hide (And.intro (H9.out.1.grow bel10) (H9.out.2.grow bel10))
  clear H9 bel10
  go_wp2_with fail
  rw [← HEV2.out]
  refine (alike_any ok2 _ (HGl.out.carry H10.out.1.new.bel)).mono ?_; rintro e w11 ⟨rfl, bel11⟩
  rw [HEV2.out]
  have H11 := hide (And.intro (H10.out.1.grow bel11) (H10.out.2.grow bel11))
  clear H10 bel11
  go_wp2_with fail
  refine (oleft_any g m _ a h _ k _ _ (cutN us) _ H11.out.1.orc H11.out.1.tape).mono ?_; rintro e w12 ⟨rfl, q12, rfl⟩
  obtain ⟨z, hz⟩ : ∃ z : Int, ((cutN us).length : Int) - (t2 : Int) = z := ⟨_, rfl⟩
  rw [hz]
  have H12 := hide (H11.out.2.drewN q12)
  clear H11
  obtain ⟨w12, hw12⟩ : ∃ x, w11.drewN q12 = x := ⟨_, rfl⟩
  rw [hw12] at H12 ⊢
  clear hw12
  have HZ := hide hz
  clear hz
  go_wp2_with fail
  refine (oleft_any g2 m2 _ c d _ k2 _ _ (cutN us) _ H12.out.orc H12.out.tape).mono ?_; rintro e w13 ⟨rfl, q13, rfl⟩
  rw [HZ.out]
  have HB13 := hide (below_drewN H12.out.new.bel q13)
  clear H12
  go_wp2
  go_ret
  exact ⟨rfl, HB13.out⟩
theorem walk_of (ao : Option Addr) (n cap : Nat) (us : List Nat) (s r i : Nat) (w : World) (hu : U64s w ao n cap us) (hb : n ≤ 17592186043904) (hs : s ≤ 18446744073709551615) (hr : r ≤ 255) (hi : i ≤ 18446744073709551615) (hg : Glob w) :
    Calls Tryd.prog 3 #[.slice ao n cap, .int .u64 (s : Int), .int .u8 (r : Int), .int .u64 (i : Int)] w fun e w' => e = .returned (.bool true) ∧ Below w.heap.size w w' := by
  by_cases h : r = 255
  · subst h
    exact walk_of_owner ao n cap us s i w hu hb hs hi hg
  · exact walk_of_other ao n cap us s r i w hu hb hs hr h hi hg
end Go.Proofs.YtdpdbiciagplkaaDoor
