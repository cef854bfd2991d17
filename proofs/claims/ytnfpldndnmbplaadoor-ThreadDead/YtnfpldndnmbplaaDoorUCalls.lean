/-
  What a table's Get and Ready answer, and behind, as contracts.
-/
import Derived.Test.YtnfpldndnmbplaaDoorURow
namespace Go.Proofs.YtnfpldndnmbplaaDoor
open Go.RowKit
variable {g : Nat} {T : List Th} {R : List Int} {ro : Option Addr} {rc : Nat}
set_option maxRecDepth 20000 in
set_option maxHeartbeats 800000 in
theorem get_any (id : Int) (w : World) (x : Tb w g T R ro rc) (hT : T.length ≤ 64) :
    Calls Tryd.prog 9 #[.pointer (some ⟨g, 0, none⟩), .int .i64 id] w fun e w' => e = .returned (.agg #[.int .i64 (getF T id).p, .int .i64 (getF T id).s, .int .i64 (getF T id).u]) ∧ Below w.heap.size w w' := by
  have HX := hide x
  clear x
  by_cases h0 : id < 0
  · rw [getF_neg T id h0]
    go_enter Tryd.func9, Tryd.ntmps9
    go_wp2
    go_returns
    exact ⟨rfl, by go_grown⟩
  · obtain ⟨k, rfl⟩ : ∃ k : Nat, id = (k : Int) := ⟨id.toNat, by omega⟩
    rw [getF_nat]
    by_cases h1 : (64 : Int) ≤ (k : Int)
    · rw [thd_ge T k (by omega)]
      go_enter Tryd.func9, Tryd.ntmps9
      go_wp2
      go_returns
      exact ⟨rfl, by go_grown⟩
    · obtain ⟨y, hy⟩ : ∃ y, thd T k = y := ⟨_, rfl⟩
      have X1 := HX.out.grow (below_alloc w (.cells #[.int .i64 0, .int .i64 0, .int .i64 0] 27))
      have c0 := X1.c0 k (by omega)
      have c1 := X1.c1 k (by omega)
      have c2 := X1.c2 k (by omega)
      rw [hy] at c0 c1 c2 ⊢
      have hlt : (k : Int) < 64 := by omega
      clear hy X1
      go_enter Tryd.func9, Tryd.ntmps9
      go_wp2
      go_returns
      exact ⟨rfl, by go_grown⟩
def TbEnd (w : World) (g : Nat) (T : List Th) (R : List Int) (ro : Option Addr) (n : Nat) (w' : World) : Prop := ∃ ao c, Tb w' g T R ao c ∧ Foot (fun j => j = g) w w' ∧ (ao = ro ∧ R.length = n ∨ New w ao)
theorem Tb.same {w w' : World} (x : Tb w g T R ro rc) (b : Below w.heap.size w w') : TbEnd w g T R ro R.length w' := ⟨ro, rc, x.grow b, below_foot _ b, .inl ⟨rfl, rfl⟩⟩
def BackL (w : World) (L : List Int) (e : Ending) (w' : World) : Prop := ∃ ao c, e = .returned (.slice ao L.length c) ∧ Nums w' ao L.length c L ∧ Below w.heap.size w w' ∧ New w ao
theorem own_none (w : World) : (w.alloc (.cells #[] 3)).ownsRow w.heap.size 3 1 (.slice (some ⟨w.heap.size, 0, none⟩) 0 0) 0 (cellsI []) := ⟨rfl, .inr ⟨w.heap.size, 0, #[], rfl, Nat.le_refl _, heap_alloc_new w _, Nat.le_refl _, Nat.zero_le _, rfl, rfl⟩⟩
set_option maxRecDepth 20000 in
set_option maxHeartbeats 800000 in
theorem clone_any (ao : Option Addr) (n cap : Nat) (L : List Int) (w : World) (hA : Nums w ao n cap L) (hn : n ≤ 17592186044416) :
    Calls Tryd.prog 20 #[.slice ao n cap] w fun e w' => BackL w L e w' := by
  have HA := hide hA
  have hcap : cap ≤ 9223372036854775807 := hA.2.2.1
  have hnc := hA.2.1
  have HL := hide hA.len
  clear hA
  cases ao with
  | none =>
    have he := run_eql_slice_nil (P := Tryd.prog) w 29 3 none n cap Tryd.underlying29
    go_enter Tryd.func20, Tryd.ntmps20
    go_wp2
    go_ret
    have h0 := HA.out.2.2.2.1 rfl
    have h1 := HA.out.2.1
    obtain rfl : L = [] := List.eq_nil_of_length_eq_zero (by have := HL.out; omega)
    exact ⟨none, 0, rfl, nums_nil _, Below.refl _ _, new_none _⟩
  | some ad =>
    have he := run_eql_slice_nil (P := Tryd.prog) w 29 3 (some ad) n cap Tryd.underlying29
    obtain ⟨v', w2, hr, hown, hgr⟩ := app_own (ty := 29) Tryd.underlying29 (own_none w) (HA.out.carry (below_alloc w _)) (by omega) (below_alloc w _).size
    rw [Nat.zero_add, List.nil_append] at hown
    have HB := hide (below_grown (below_alloc w _) (below_alloc w _).size (own_none w) hgr)
    have HO := hide hown
    have HR := hide hr
    clear hr hown hgr
    go_enter Tryd.func20, Tryd.ntmps20
    go_wp2_with (at_builtin; refine wpList_append_run rfl _ _ _ rfl _ _ _ _ rfl rfl HR.out ?_)
    go_wp2
    go_ret
    obtain ⟨co, cc, rfl, hl⟩ := owns_lies HO.out
    have hN : Nums w2 co n cc L := hl
    have := HL.out
    subst this
    exact ⟨co, cc, rfl, hN, HB.out, owns_new HO.out⟩
theorem ready_any (w : World) (x : Tb w g T R ro rc) (hR : R.length ≤ 64) :
    Calls Tryd.prog 8 #[.pointer (some ⟨g, 0, none⟩)] w fun e w' => BackL w R e w' := by
  have c := x.cq
  have HN := hide x.row
  obtain ⟨n, hn⟩ : ∃ n, R.length = n := ⟨_, rfl⟩
  rw [hn] at c HN hR
  clear x hn
  go_enter Tryd.func8, Tryd.ntmps8
  go_wp2_with fail
  refine (clone_any ro n rc R _ HN.out (by omega)).mono ?_; rintro e w1 h1
  obtain ⟨ao, ac, rfl, hA, b, hN⟩ := h1
  have HE : Hid (BackL w R (.returned (.slice ao R.length ac)) w1) := ⟨ao, ac, rfl, hA, b, hN⟩
  clear hA b hN
  go_wp2
  go_ret
  exact HE.out
theorem behind_any (x : Int) (ao : Option Addr) (n cap : Nat) (L : List Int) (w : World) (hA : Nums w ao n cap L) :
    Calls Tryd.prog 21 #[.slice ao n cap, .int .i64 x] w fun e w' => BackL w (pushL L x) e w' := by
  have HA := hide hA
  obtain ⟨Q, hQ⟩ : ∃ Q, pushL L x = Q := ⟨_, rfl⟩
  rw [hQ]
  have HQ := hide hQ
  clear hA hQ
  go_enter Tryd.func21, Tryd.ntmps21
  go_wp2_with fail
  refine (push_any x ao n cap L _ HA.out).mono ?_; rintro e w1 ⟨qo, qc, rfl, h1, b1, n1⟩
  rw [HQ.out] at h1 ⊢
  have HE : Hid (BackL w Q (.returned (.slice qo Q.length qc)) w1) := ⟨qo, qc, rfl, h1, b1, n1⟩
  clear h1 b1 n1
  go_wp2
  go_ret
  exact HE.out
end Go.Proofs.YtnfpldndnmbplaaDoor
