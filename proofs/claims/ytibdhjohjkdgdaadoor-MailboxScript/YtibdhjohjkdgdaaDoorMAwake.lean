/-
  The statements' own first step, as a contract: the document's examples.
-/
import Derived.Test.YtibdhjohjkdgdaaDoorMSt
import Derived.Test.YtibdhjohjkdgdaaDoorKAlike
import Derived.Laws.Runes
namespace Go.Proofs.YtibdhjohjkdgdaaDoor
open Go.RowKit Go.Conc
set_option maxRecDepth 20000 in
set_option maxHeartbeats 6400000 in
theorem awake_any (w : World) (hg : Glob w) :
    Calls Tryd.prog 7 #[] w fun e w' => e = .returned (.bool true) ∧ Below w.heap.size w w' := by
  have HG := hide hg
  have e3 : Utf8.encode 51 = ⟨#[51]⟩ := by kernel_rfl
  have e1 : Utf8.encode 49 = ⟨#[49]⟩ := by kernel_rfl
  have e2 : Utf8.encode 50 = ⟨#[50]⟩ := by kernel_rfl
  have e0 : Utf8.encode 48 = ⟨#[48]⟩ := by kernel_rfl
  clear hg
  go_enter Tryd.func7, Tryd.ntmps7
  go_wp2_with fail
  refine (st_of 2 2 rfl _).mono ?_; rintro e w1 ⟨b, cu, co, rfl, x1, b1, h1, h2, h3⟩
  have HX1 := hide x1
  have HB1 := hide b1
  have H2 := hide h2
  have H3 := hide h3
  clear x1 b1 h1 h2 h3
  go_wp2_with fail
  refine (stO_room (msgI 1) _ HX1.out (msgI_has 1 _) (msgI_sn 1) (by decide)).mono ?_; rintro e w2 ⟨rfl, x2, f2⟩
  have HX2 := hide x2
  have HB2 := hide (two_on HB1.out H2.out H3.out f2)
  clear x2 f2
  go_wp2_with fail
  refine (stO_room (msgI 2) _ HX2.out (msgI_has 2 _) (msgI_sn 2) (by decide)).mono ?_; rintro e w3 ⟨rfl, x3, f3⟩
  have HX3 := hide x3
  have HB3 := hide (two_on HB2.out H2.out H3.out f3)
  clear x3 f3
  go_wp2_with fail
  refine (stU_room (msgI 3) _ HX3.out (msgI_has 3 _) (msgI_sn 3) (by decide)).mono ?_; rintro e w4 ⟨rfl, x4, f4⟩
  have HX4 := hide x4
  have HB4 := hide (two_on HB3.out H2.out H3.out f4)
  clear x4 f4
  go_wp2_with fail
  refine (stO_full (msgI 4) _ HX4.out (msgI_has 4 _) (msgI_sn 4) (by decide)).mono ?_; rintro e w5 ⟨rfl, x5, f5⟩
  have HX5 : Hid (St w5 b cu co 2 [msgI 3] [msgI 1, msgI 2]) := x5
  have HB5 := hide (two_on HB4.out H2.out H3.out f5)
  clear x5 f5
  unfold errV
  go_wp2
  refine wp_loop_rounds 5 ?_
  rw [rounds_succ]
  go_wp2_with fail
  refine (stU_get (msgI 3) _ (HX5.out)).mono ?_; rintro e w6 ⟨y6, rfl, E6⟩
  have i6 := id_of E6.nm
  have HX6 : Hid (∀ o, St (w6.alloc o) b cu co 2 _ _) := fun o => E6.st.grow (below_alloc w6 o)
  have HB6 : Hid (∀ o, Below w.heap.size w (w6.alloc o)) := fun o => below_one (two_on (HB5.out) H2.out H3.out E6.ft) (below_alloc w6 o)
  clear E6
  go_wp2
  rw [rounds_succ]
  go_wp2_with fail
  refine (stO_get (msgI 1) _ (HX6.out _)).mono ?_; rintro e w7 ⟨y7, rfl, E7⟩
  have i7 := id_of E7.nm
  have HX7 : Hid (∀ o, St (w7.alloc o) b cu co 2 _ _) := fun o => E7.st.grow (below_alloc w7 o)
  have HB7 : Hid (∀ o, Below w.heap.size w (w7.alloc o)) := fun o => below_one (two_on (HB6.out _) H2.out H3.out E7.ft) (below_alloc w7 o)
  clear E7
  go_wp2
  rw [rounds_succ]
  go_wp2_with fail
  refine (stO_get (msgI 2) _ (HX7.out _)).mono ?_; rintro e w8 ⟨y8, rfl, E8⟩
  have i8 := id_of E8.nm
  have HX8 : Hid (∀ o, St (w8.alloc o) b cu co 2 _ _) := fun o => E8.st.grow (below_alloc w8 o)
  have HB8 : Hid (∀ o, Below w.heap.size w (w8.alloc o)) := fun o => below_one (two_on (HB7.out _) H2.out H3.out E8.ft) (below_alloc w8 o)
  clear E8
  go_wp2
  rw [rounds_succ]
  go_wp2_with fail
  refine (st_none _ (HX8.out _)).mono ?_; rintro e w9 ⟨rfl, b9⟩
  have HB9 : Hid (∀ o, Below w.heap.size w (w9.alloc o)) := fun o => below_one (below_one (HB8.out _) b9) (below_alloc w9 o)
  have HG9 : Hid (∀ o, Glob (w9.alloc o)) := fun o => HG.out.grow (HB9.out o) HG.out.lt
  clear b9
  go_wp2
  rw [rounds_succ]
  go_wp2_with fail
  refine (number_errno 5 _ (HG9.out _)).mono ?_; rintro e w10 ⟨rfl, b10⟩
  have HB10 := hide (below_one (HB9.out _) b10)
  clear b10
  go_wp2
  go_ret
  have ht : ((⟨#[]⟩ ++ ⟨#[51]⟩ ++ ⟨#[49]⟩ ++ ⟨#[50]⟩ ++ ⟨#[48]⟩ : ByteArray).toList == [51, 49, 50, 48]) = true := by kernel_rfl
  exact ⟨congrArg (fun t => Ending.returned (Value.bool t)) ht, HB10.out⟩
end Go.Proofs.YtibdhjohjkdgdaaDoor
