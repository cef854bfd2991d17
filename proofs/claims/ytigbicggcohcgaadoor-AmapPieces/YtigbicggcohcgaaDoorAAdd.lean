/-
  What Add answers, as a contract.
-/
import Derived.Test.YtigbicggcohcgaaDoorAIdx
import Derived.Test.YtigbicggcohcgaaDoorAConc
import Derived.Deep.AppendLies
namespace Go.Proofs.YtigbicggcohcgaaDoor
open Go.RowKit
def erN (k : Int) : Value := if k = 0 then .nilIface else .iface 30 (.int .i64 k)
theorem erN_zero : erN 0 = .nilIface := rfl
theorem erN_not {k : Int} (h : k ≠ 0) : erN k = .iface 30 (.int .i64 k) := if_neg h
theorem posA_is (x : Int) (L : List Ar) (i : Nat) (hi : i ≤ L.length) (h1 : ∀ j, j < i → (L.getD j Ar.zero).b < x) (h2 : i < L.length → ¬ (L.getD i Ar.zero).b < x) : posA x L = i := by
  induction L generalizing i with
  | nil => simp at hi; subst hi; rfl
  | cons y L ih =>
    unfold posA
    cases i with
    | zero =>
      have h0 : ¬ y.b < x := h2 (by simp)
      rw [if_neg h0]
    | succ i =>
      have h0 : y.b < x := h1 0 (by omega)
      rw [if_pos h0, ih i (by simpa using hi) (fun j hj => h1 (j + 1) (by omega)) (fun hlt => h2 (by simpa using hlt))]
def AddEnd (w : World) (k : Int) (L : List Ar) (e : Ending) (w' : World) : Prop := ∃ ro rc, e = .returned (.tuple #[.slice ro L.length rc, erN k]) ∧ Ars w' ro L.length rc L ∧ Below w.heap.size w w'
def AddNew (w : World) (k : Int) (L : List Ar) (e : Ending) (w' : World) : Prop := ∃ ro rc, e = .returned (.tuple #[.slice ro L.length rc, erN k]) ∧ Ars w' ro L.length rc L ∧ Below w.heap.size w w' ∧ New w ro
theorem AddNew.plain {w w' : World} {k : Int} {L : List Ar} {e : Ending} : AddNew w k L e w' → AddEnd w k L e w' := fun ⟨ro, rc, h1, h2, h3, _⟩ => ⟨ro, rc, h1, h2, h3⟩
theorem add_err {w w' : World} {k : Int} {L : List Ar} (h : k ≠ 0) (hL : L = []) (b : Below w.heap.size w w') : AddNew w k L (.returned (.tuple #[.slice none 0 0, .iface 30 (.int .i64 k)])) w' := by
  subst hL
  exact ⟨none, 0, by rw [erN_not h]; rfl, ars_nil w', b, new_none _⟩
theorem addL_err {L : List Ar} {a : Ar} {k : Int} (h : addE L a = k) (hk : k ≠ 0) : addL L a = [] := by unfold addL; rw [if_neg (by rw [h]; exact hk)]
theorem add_fin {w w' : World} {k K : Int} {L R : List Ar} {a : Ar} (hK : addE L a = K) (hR : addL L a = R) (hE : K = k) (hk : k ≠ 0) (b : Below w.heap.size w w') : AddNew w K R (.returned (.tuple #[.slice none 0 0, .iface 30 (.int .i64 k)])) w' := by
  subst hE
  exact add_err hk (hR.symm.trans (addL_err hK hk)) b
theorem below_d (w : World) (q : Nat) : Below w.heap.size w (w.drewN q) := below_drewN (Below.refl _ _) q
theorem below_d1 (w : World) (q : Nat) (o : Obj) : Below w.heap.size w ((w.drewN q).alloc o) := below_one (below_d w q) (below_alloc _ _)
theorem below_d2 (w : World) (q : Nat) (o o' : Obj) : Below w.heap.size w (((w.drewN q).alloc o).alloc o') := below_one (below_d1 w q o) (below_alloc _ _)
theorem below_dd (w : World) (q : Nat) : Below w.heap.size w (w.drewN q).drew := below_drewN (below_d w q) 1
theorem add_done {w w5 : World} {K : Int} {R L F : List Ar} {a : Ar} {i n c : Nat} {ao : Option Addr} (hE : K = 0) (hR : R = putA L a) (hp : posA a.b L = i) (hF : F = L.take i ++ a :: L.drop i) (A5 : Ars w5 ao (n + 1) c F) (b : Below w.heap.size w w5) (hnew : New w ao) : AddNew w K R (.returned (.tuple #[.slice ao (n + 1) c, .nilIface])) w5 := by
  subst hE hR hF
  unfold putA
  rw [hp]
  have hl := A5.len
  refine ⟨ao, c, ?_, ?_, b, hnew⟩
  · rw [← hl, erN_zero]
  · rw [← hl]; exact A5
def AddRel (w1 : World) (x : Int) (L : List Ar) (n gk : Nat) (vi : Value) (wr : World) : Prop := ∃ i : Nat, i + gk = n ∧ vi = .int .i64 (i : Int) ∧ (∀ j, j < i → (L.getD j Ar.zero).b < x) ∧ Below w1.heap.size w1 wr
theorem parts_add {X : World} {ao : Option Addr} {n cap i : Nat} {L : List Ar} (a : Ar) (hA : Ars X ao n cap L) (hi : i ≤ n) {T1 T2 : TypeId} :
    Parts ((X.alloc (.cells #[.int .i64 a.b, .int .i64 a.s, .int .i64 a.g, .int .i64 a.o, .bool a.w] T1)).alloc (.cells #[.slice ao i cap, .slice (some ⟨X.heap.size, 0, none⟩) 1 1, .slice (tailA ao i cap) (n - i) (cap - i)] T2))
      ⟨X.heap.size + 1, 0, none⟩ [⟨ao, i, cap, L.take i⟩, ⟨some ⟨X.heap.size, 0, none⟩, 1, 1, [a]⟩, ⟨tailA ao i cap, n - i, cap - i, L.drop i⟩] := by
  obtain ⟨Y, hY⟩ : ∃ Y, X.alloc (.cells #[.int .i64 a.b, .int .i64 a.s, .int .i64 a.g, .int .i64 a.o, .bool a.w] T1) = Y := ⟨_, rfl⟩
  have sY : Y.heap.size = X.heap.size + 1 := by rw [← hY]; simp
  rw [hY]
  obtain ⟨Z, hZ⟩ : ∃ Z, Y.alloc (.cells #[.slice ao i cap, .slice (some ⟨X.heap.size, 0, none⟩) 1 1, .slice (tailA ao i cap) (n - i) (cap - i)] T2) = Z := ⟨_, rfl⟩
  rw [hZ]
  have b1 : Below X.heap.size X Y := hY ▸ below_alloc X _
  have b2 : Below Y.heap.size Y Z := hZ ▸ below_alloc Y _
  have b3 : Below X.heap.size X Z := below_one b1 b2
  have hbk : Z.heap[X.heap.size + 1]? = some (.cells #[.slice ao i cap, .slice (some ⟨X.heap.size, 0, none⟩) 1 1, .slice (tailA ao i cap) (n - i) (cap - i)] T2 (0, 0)) := by
    rw [← hZ, ← sY]; exact heap_alloc_new _ _
  have hbl : Z.heap[X.heap.size]? = some (.cells #[.int .i64 a.b, .int .i64 a.s, .int .i64 a.g, .int .i64 a.o, .bool a.w] T1 (0, 0)) := by
    rw [b2.block _ (by omega), ← hY]; exact heap_alloc_new _ _
  intro j hj
  rcases j with _ | _ | _ | j
  · exact ⟨by rw [add0, cell_of_row Z _ 0 _ _ _ hbk]; rfl, (hA.head i hi).carry b3⟩
  · refine ⟨by rw [add0, cell_of_row Z _ 1 _ _ _ hbk]; rfl, rfl, Nat.le_refl _, (show 1 ≤ maxLen by decide), (fun e => by cases e), fun ad e j u hu => ?_⟩
    obtain rfl := Option.some.inj e
    exact World.news_of_block hbl j u hu
  · exact ⟨by rw [add0, cell_of_row Z _ 2 _ _ _ hbk]; rfl, (hA.tail i hi).carry b3⟩
  · simp only [List.length_cons, List.length_nil] at hj; omega
set_option maxRecDepth 20000 in
set_option maxHeartbeats 1600000 in
theorem add_new (a : Ar) (ao : Option Addr) (n cap : Nat) (L : List Ar) (w : World) (hA : Ars w ao n cap L) (hf : a.fit) (hl : L.length ≤ 1000) :
    Calls Tryd.prog 12 #[.slice ao n cap, .agg #[.int .i64 a.b, .int .i64 a.s, .int .i64 a.g, .int .i64 a.o, .bool a.w]] w fun e w' => AddNew w (addE L a) (addL L a) e w' := by
  obtain ⟨X, hX⟩ : ∃ X, w.alloc (.cells #[.int .i64 a.b, .int .i64 a.s, .int .i64 a.g, .int .i64 a.o, .bool a.w] 24) = X := ⟨_, rfl⟩
  have bX : Below w.heap.size w X := hX ▸ below_alloc w _
  have BX : BoxA X w.heap.size a := hX ▸ box_new w a
  have HBX := hide BX
  have HB := hide bX
  have HF := hide hf
  have HA := hide (hA.carry bX)
  have HN := hide hA.len
  have hnc := hA.2.1
  have hcap : cap ≤ 9223372036854775807 := hA.2.2.1
  have hn : n ≤ 1000 := by rw [hA.len]; exact hl
  obtain ⟨x0, x1, x2, x3, x4⟩ : _ ∧ _ ∧ _ ∧ _ ∧ _ := ⟨BX.c0, BX.c1, BX.c2, BX.c3, BX.c4⟩
  obtain ⟨K, hK⟩ : ∃ K, addE L a = K := ⟨_, rfl⟩
  obtain ⟨R, hR⟩ : ∃ R, addL L a = R := ⟨_, rfl⟩
  rw [hK, hR]
  have HK := hide hK
  have HR := hide hR
  clear hA hf hl bX BX hK hR
  by_cases h1 : a.s < 1
  · have HE : Hid (K = 13) := by show _ = _; rw [← HK.out]; unfold addE; rw [decide_eq_true h1]; rfl
    go_enter Tryd.func12, Tryd.ntmps12
    go_wp2
    go_ret2
    exact add_fin HK.out HR.out HE.out (by decide) HB.out
  · obtain ⟨q, hq⟩ : ∃ q, outA a.b a.s = q := ⟨_, rfl⟩
    have HQ := hide hq
    have hs : Hid (addE L a = if q then 13 else if decide (a.o < 0) || decide (a.g < 0) then 4 else if L.any (lapA a) then 14 else if 64 ≤ L.length then 5 else 0) := by
      show _ = _; unfold addE; rw [decide_eq_false h1, Bool.false_or, hq]
    clear hq
    go_enter Tryd.func12, Tryd.ntmps12
    go_wp2_with fail
    refine (beyond_any a.b a.s _ HF.out.1).mono ?_; rintro e w1 ⟨rfl, rfl⟩
    rw [HQ.out]
    cases q with
    | true =>
      have HE : Hid (K = 13) := by show _ = _; rw [← HK.out, hs.out]; rfl
      clear hs
      go_wp2
      go_ret2
      exact add_fin HK.out HR.out HE.out (by decide) HB.out
    | false =>
      by_cases h2 : a.o < 0
      · have HE : Hid (K = 4) := by show _ = _; rw [← HK.out, hs.out, decide_eq_true h2]; rfl
        clear hs
        go_wp2
        go_ret2
        exact add_fin HK.out HR.out HE.out (by decide) HB.out
      · by_cases h3 : a.g < 0
        · have HE : Hid (K = 4) := by show _ = _; rw [← HK.out, hs.out, decide_eq_false h2, decide_eq_true h3]; rfl
          clear hs
          go_wp2
          go_ret2
          exact add_fin HK.out HR.out HE.out (by decide) HB.out
        · obtain ⟨p, hp⟩ : ∃ p, L.any (lapA a) = p := ⟨_, rfl⟩
          have HS : Hid (K = if p then 14 else if 64 ≤ L.length then 5 else 0) := by show _ = _; rw [← HK.out, hs.out, decide_eq_false h2, decide_eq_false h3, hp]; rfl
          have HP := hide hp
          clear hs hp
          go_wp2_with fail
          refine (contains_any a ao n cap L _ HA.out).mono ?_; rintro e w1 ⟨rfl, b1⟩
          rw [HP.out]
          have HB1 := hide (HB.out.trans (b1.mono HB.out.size))
          have HA1 := hide (HA.out.carry b1)
          have HBX1 := hide (HBX.out.carry b1 (Nat.le_refl _))
          clear x0 x1 x2 x3 x4 b1 hX HA HBX HB
          cases p with
          | true =>
            have HE : Hid (K = 14) := by show _ = _; rw [HS.out]; rfl
            go_wp2
            go_ret2
            exact add_fin HK.out HR.out HE.out (by decide) HB1.out
          | false =>
            by_cases h4 : (64 : Int) ≤ (n : Int)
            · have HE : Hid (K = 5) := by show _ = _; rw [HS.out, ← HN.out]; simp; omega
              go_wp2
              go_ret2
              exact add_fin HK.out HR.out HE.out (by decide) HB1.out
            · have HE : Hid (K = 0) := by show _ = _; rw [HS.out, ← HN.out]; simp; omega
              have HPUT : Hid (R = putA L a) := by show _ = _; rw [← HR.out]; unfold addL; rw [if_pos (HK.out.trans HE.out)]
              clear h1 h2 h3
              go_wp2
              go_loopg [6] n (fun gk vi wr => AddRel w1 a.b L n gk vi wr)
              case atStart => exact ⟨0, by omega, rfl, fun j hj => by omega, Below.refl _ _⟩
              case round =>
                obtain ⟨i, hi, rfl, hlow, b2⟩ := hrel
                have HLOW := hide hlow
                have HB2 := hide (HB1.out.trans (b2.mono HB1.out.size))
                have HA2 := hide (HA1.out.carry b2)
                have HBX2 := hide (HBX1.out.carry b2 (Nat.le_refl _))
                have HB12 := hide b2
                clear hlow b2
                have x0 := fun q => (show BoxA (wr.drewN q) w.heap.size a from HBX2.out).c0
                have x1 := fun q => (show BoxA (wr.drewN q) w.heap.size a from HBX2.out).c1
                have x2 := fun q => (show BoxA (wr.drewN q) w.heap.size a from HBX2.out).c2
                have x3 := fun q => (show BoxA (wr.drewN q) w.heap.size a from HBX2.out).c3
                have x4 := fun q => (show BoxA (wr.drewN q) w.heap.size a from HBX2.out).c4
                have HI := hide hi
                have hin : i ≤ n := by omega
                cases gk with
                | zero =>
                  obtain rfl : i = n := by omega
                  have hlt : ¬ ((i : Int) < (i : Int)) := by omega
                  clear hi
                  go_wp2_with fail
                  go_quiet (fail)
                  have HPOS := hide (posA_is a.b L i (by have := HN.out; omega) HLOW.out (fun h => by have := HN.out; have := HI.out; omega))
                  obtain ⟨m, hm⟩ : ∃ m, i - i = m := ⟨_, rfl⟩
                  obtain ⟨cm, hcm⟩ : ∃ m, cap - i = m := ⟨_, rfl⟩
                  obtain ⟨ta, hta⟩ : ∃ X, tailA ao i cap = X := ⟨_, rfl⟩
                  have hc1 := fun W : World => cut_head W ao i cap i (by omega)
                  have hc2 := fun W : World => cut_tail W ao i cap i (by omega)
                  rw [hta, hm, hcm] at hc2
                  obtain ⟨ps, hps⟩ : ∃ ps : List Prt, [⟨ao, i, cap, L.take i⟩, ⟨some ⟨wr.heap.size, 0, none⟩, 1, 1, [a]⟩, ⟨ta, m, cm, L.drop i⟩] = ps := ⟨_, rfl⟩
                  have HPS := hide hps
                  have HPA : Hid (∀ q, Parts (((wr.drewN q).alloc (.cells #[.int .i64 a.b, .int .i64 a.s, .int .i64 a.g, .int .i64 a.o, .bool a.w] 24)).alloc (.cells #[.slice ao i cap, .slice (some ⟨wr.heap.size, 0, none⟩) 1 1, .slice ta m cm] 26)) ⟨wr.heap.size + 1, 0, none⟩ ps) := fun q => by
                    have := parts_add (X := wr.drewN q) (i := i) a (show Ars (wr.drewN q) ao i cap L from HA2.out) (by omega) (T1 := 24) (T2 := 26)
                    rw [hta, hm, hcm] at this
                    rw [← hps]
                    exact this
                  have HL3 : Hid (ps.length = 3) := by show _ = _; rw [← hps]; rfl
                  have HSU : Hid (sumN ps 3 = i + 1) := by show _ = _; rw [← hps]; simp [sumN]; omega
                  have HM := hide hm
                  clear hm hcm hta hps x0 x1 x2 x3 x4 hlt
                  go_wp2_with fail
                  go_region_held (fun w' => w'.cell? ⟨w.heap.size, 0, none⟩ = some (.int .i64 a.b) ∧ w'.cell? ⟨w.heap.size, 1, none⟩ = some (.int .i64 a.s) ∧ w'.cell? ⟨w.heap.size, 2, none⟩ = some (.int .i64 a.g) ∧ w'.cell? ⟨w.heap.size, 3, none⟩ = some (.int .i64 a.o) ∧ w'.cell? ⟨w.heap.size, 4, none⟩ = some (.bool a.w)) (first | exact HBX2.out.five (below_dd _ _) | exact HBX2.out.five (below_d _ _) | exact HBX2.out.five (below_d1 _ _ _) | exact HBX2.out.five (below_d2 _ _ _ _) | exact HBX2.out.five HW5.out) (first | (go_at_call 21; refine (concat_any _ 3 ps _ HL3.out (by omega) (HPA.out _) (by rw [HSU.out]; omega)).mono ?_; rintro e w5 ⟨v5, rfl, ao5, c5, rfl, A5, b5, n5⟩; have HN5 := hide (New.le n5 (Nat.le_trans HB2.out.size (below_d2 wr _ _ _).size)); clear n5; rw [HSU.out] at A5 ⊢; have HA5 := hide A5; have HW5 := hide (below_one (below_d2 wr _ _ _) b5); have HB5 := hide (HB2.out.trans (HW5.out.mono HB2.out.size)); clear A5 b5))
                  all_goals
                    go_wp2
                    go_ret2
                    exact add_done HE.out HPUT.out HPOS.out (by rw [← HPS.out]; simp [flatL]) HA5.out HB5.out HN5.out
                | succ g1 =>
                  have hlt : (i : Int) < (n : Int) := by omega
                  have hltn : i < n := by omega
                  clear hi
                  obtain ⟨ad, rfl⟩ := HA2.out.there hltn
                  obtain ⟨y, hy⟩ : ∃ y, L.getD i Ar.zero = y := ⟨_, rfl⟩
                  have c0 : ∀ q, (wr.drewN q).cell? (ad.add (i * 5)) = some (.int .i64 y.b) := fun q => by rw [← hy]; exact (HA2.out.elem i hltn).c0
                  have HY := hide hy
                  clear hy
                  by_cases h5 : y.b < a.b
                  · go_wp2_with fail
                    go_quiet (fail)
                    go_wp2
                    go_roundg g1
                    case measure => omega
                    case rel =>
                      refine ⟨i + 1, by have := HI.out; omega, by go_num, fun j hj => ?_, below_drewN HB12.out _⟩
                      by_cases e : j = i
                      · rw [e, HY.out]; exact h5
                      · exact HLOW.out j (by omega)
                  · go_wp2_with fail
                    go_quiet (fail)
                    have HPOS := hide (posA_is a.b L i (by have := HN.out; omega) HLOW.out (fun _ => by rw [HY.out]; omega))
                    obtain ⟨m, hm⟩ : ∃ m, n - i = m := ⟨_, rfl⟩
                    obtain ⟨cm, hcm⟩ : ∃ m, cap - i = m := ⟨_, rfl⟩
                    obtain ⟨ta, hta⟩ : ∃ X, tailA (some ad) i cap = X := ⟨_, rfl⟩
                    have hc1 := fun W : World => cut_head W (some ad) n cap i (by omega)
                    have hc2 := fun W : World => cut_tail W (some ad) n cap i (by omega)
                    rw [hta, hm, hcm] at hc2
                    obtain ⟨ps, hps⟩ : ∃ ps : List Prt, [⟨(some ad), i, cap, L.take i⟩, ⟨some ⟨wr.heap.size, 0, none⟩, 1, 1, [a]⟩, ⟨ta, m, cm, L.drop i⟩] = ps := ⟨_, rfl⟩
                    have HPS := hide hps
                    have HPA : Hid (∀ q, Parts (((wr.drewN q).alloc (.cells #[.int .i64 a.b, .int .i64 a.s, .int .i64 a.g, .int .i64 a.o, .bool a.w] 24)).alloc (.cells #[.slice (some ad) i cap, .slice (some ⟨wr.heap.size, 0, none⟩) 1 1, .slice ta m cm] 26)) ⟨wr.heap.size + 1, 0, none⟩ ps) := fun q => by
                      have := parts_add (X := wr.drewN q) (i := i) a (show Ars (wr.drewN q) (some ad) n cap L from HA2.out) (by omega) (T1 := 24) (T2 := 26)
                      rw [hta, hm, hcm] at this
                      rw [← hps]
                      exact this
                    have HL3 : Hid (ps.length = 3) := by show _ = _; rw [← hps]; rfl
                    have HSU : Hid (sumN ps 3 = n + 1) := by show _ = _; rw [← hps]; simp [sumN]; omega
                    have HM := hide hm
                    clear hm hcm hta hps x0 x1 x2 x3 x4 hlt c0
                    go_wp2_with fail
                    go_region_held (fun w' => w'.cell? ⟨w.heap.size, 0, none⟩ = some (.int .i64 a.b) ∧ w'.cell? ⟨w.heap.size, 1, none⟩ = some (.int .i64 a.s) ∧ w'.cell? ⟨w.heap.size, 2, none⟩ = some (.int .i64 a.g) ∧ w'.cell? ⟨w.heap.size, 3, none⟩ = some (.int .i64 a.o) ∧ w'.cell? ⟨w.heap.size, 4, none⟩ = some (.bool a.w)) (first | exact HBX2.out.five (below_dd _ _) | exact HBX2.out.five (below_d _ _) | exact HBX2.out.five (below_d1 _ _ _) | exact HBX2.out.five (below_d2 _ _ _ _) | exact HBX2.out.five HW5.out) (first | (go_at_call 21; refine (concat_any _ 3 ps _ HL3.out (by omega) (HPA.out _) (by rw [HSU.out]; omega)).mono ?_; rintro e w5 ⟨v5, rfl, ao5, c5, rfl, A5, b5, n5⟩; have HN5 := hide (New.le n5 (Nat.le_trans HB2.out.size (below_d2 wr _ _ _).size)); clear n5; rw [HSU.out] at A5 ⊢; have HA5 := hide A5; have HW5 := hide (below_one (below_d2 wr _ _ _) b5); have HB5 := hide (HB2.out.trans (HW5.out.mono HB2.out.size)); clear A5 b5))
                    all_goals
                      go_wp2
                      go_ret2
                      exact add_done HE.out HPUT.out HPOS.out (by rw [← HPS.out]; simp [flatL]) HA5.out HB5.out HN5.out
theorem add_any (a : Ar) (ao : Option Addr) (n cap : Nat) (L : List Ar) (w : World) (hA : Ars w ao n cap L) (hf : a.fit) (hl : L.length ≤ 1000) :
    Calls Tryd.prog 12 #[.slice ao n cap, .agg #[.int .i64 a.b, .int .i64 a.s, .int .i64 a.g, .int .i64 a.o, .bool a.w]] w fun e w' => AddEnd w (addE L a) (addL L a) e w' :=
  (add_new a ao n cap L w hA hf hl).mono fun _ _ h => h.plain
end Go.Proofs.YtigbicggcohcgaaDoor
