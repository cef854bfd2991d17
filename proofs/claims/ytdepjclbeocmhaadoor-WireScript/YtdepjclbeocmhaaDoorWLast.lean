/-
  What a wire's Lose, Double and Cut answer, as contracts.
-/
import Derived.Test.YtdepjclbeocmhaaDoorWMore
namespace Go.Proofs.YtdepjclbeocmhaaDoor
open Go.RowKit
variable {w w' : World} {g : Nat} {bo : Option Addr} {bc : Nat} {K : List Pa} {S : Nat → Prop} {L : List Pa}
def LsEnd (w : World) (g : Nat) (S : Nat → Prop) (L : List Pa) (pick : Int) (e : Ending) (w' : World) : Prop :=
  e = .returned (.bool (decide (0 < L.length))) ∧ St w' g S (L.eraseIdx (placeF pick L.length)) ∧ Foot (· = g) w w'
set_option maxRecDepth 20000 in
set_option maxHeartbeats 1600000 in
theorem lose_any (pick : Int) (w : World) (x : St w g S L) (hS : ∀ k, S k → k < w.heap.size) :
    Calls Tryd.prog 8 #[.pointer (some ⟨g, 0, none⟩), .int .i64 pick] w fun e w' => LsEnd w g S L pick e w' := by
  obtain ⟨bo, bc, K, x, hF, rfl⟩ := x
  have HX := hide x
  have HF := hide hF
  have HS : Hid (∀ k, S k → k < w.heap.size) := hS
  have c1 := x.c0
  have hfew := x.few
  have HLM : Hid ((K.map Pa.nm).length = K.length) := List.length_map ..
  by_cases h0 : K.length = 0
  · rw [h0] at c1
    clear x hF hS
    go_enter Tryd.func8, Tryd.ntmps8
    go_wp2
    go_ret
    obtain rfl : K = [] := List.eq_nil_of_length_eq_zero h0
    exact ⟨rfl, ⟨bo, bc, [], HX.out, HF.out, rfl⟩, Foot.refl _ _⟩
  · have hkl := placeF_lt pick K.length (by omega)
    obtain ⟨k, hk⟩ : ∃ k, placeF pick K.length = k := ⟨_, rfl⟩
    rw [hk] at hkl
    have HKL := hide hkl
    have HK2 := hide hk
    obtain ⟨n, hn⟩ : ∃ n, K.length = n := ⟨_, rfl⟩
    have HN := hide hn
    rw [hn] at c1 h0 hkl hk hfew
    have HK := hide hk
    have h1 : ¬ ((n : Int) = 0) := by omega
    clear x hF hS hk hn
    go_enter Tryd.func8, Tryd.ntmps8
    go_wp2_with fail
    refine (place_any pick n _ (by omega) (by omega)).mono ?_; rintro e w1 ⟨rfl, rfl⟩
    rw [HK.out]
    go_wp2_with fail
    refine (take_any k _ HX.out HKL.out).mono ?_; rintro e w3 ⟨ao, c, rfl, E3⟩
    have HE3 := hide E3
    clear E3
    go_wp2
    go_ret
    refine ⟨?_, ?_, HE3.out.ft⟩
    · rw [HLM.out, HN.out, decide_eq_true (by omega)]; rfl
    · rw [HLM.out, HK2.out, ← map_erase]; exact HE3.out.st HF.out HS.out
def dblE (L : List Pa) : Int := if L.length = 0 then 12 else sendE L
def dblL (L : List Pa) (pick : Int) : List Pa := if L.length = 0 then L else sendL L (L.getD (placeF pick L.length) Pa.zero)
def DbEnd (w : World) (g : Nat) (S : Nat → Prop) (L : List Pa) (pick : Int) (e : Ending) (w' : World) : Prop :=
  e = .returned (erN (dblE L)) ∧ St w' g S (dblL L pick) ∧ Foot (· = g) w w'
set_option maxRecDepth 20000 in
set_option maxHeartbeats 3200000 in
theorem double_any (pick : Int) (w : World) (x : St w g S L) (hS : ∀ k, S k → k < w.heap.size) :
    Calls Tryd.prog 11 #[.pointer (some ⟨g, 0, none⟩), .int .i64 pick] w fun e w' => DbEnd w g S L pick e w' := by
  have HST := hide x
  obtain ⟨bo, bc, K, x, hF, rfl⟩ := x
  have HX := hide x
  have HS : Hid (∀ k, S k → k < w.heap.size) := hS
  have c1 := x.c0
  have hfew := x.few
  have HLM : Hid ((K.map Pa.nm).length = K.length) := List.length_map ..
  by_cases h0 : K.length = 0
  · rw [h0] at c1
    clear x hF hS
    go_enter Tryd.func11, Tryd.ntmps11
    go_wp2
    go_ret
    refine ⟨?_, ?_, Foot.refl _ _⟩
    · unfold dblE; rw [if_pos (by rw [HLM.out]; exact h0)]; rfl
    · unfold dblL; rw [if_pos (by rw [HLM.out]; exact h0)]; exact HST.out
  · have hkl := placeF_lt pick K.length (by omega)
    obtain ⟨k, hk⟩ : ∃ k, placeF pick K.length = k := ⟨_, rfl⟩
    rw [hk] at hkl
    have HK2 := hide hk
    have hb0 := x.row.bts k hkl
    obtain ⟨ad, hbo⟩ := x.row.there hkl
    subst hbo
    have e1 := x.row.elem k hkl
    have HLOW := hide (x.low _ (getK_mem K k hkl))
    obtain ⟨p, hp⟩ : ∃ p, K.getD k Pa.zero = p := ⟨_, rfl⟩
    rw [hp] at e1 hb0 HLOW
    obtain ⟨k0, k1, k2, k3, k4, k5⟩ := e1
    have HP := hide hp
    have HPB := hide hb0
    obtain ⟨n, hn⟩ : ∃ n, K.length = n := ⟨_, rfl⟩
    have HN := hide hn
    rw [hn] at c1 h0 hkl hk hfew
    have HK := hide hk
    have h1 : ¬ ((n : Int) = 0) := by omega
    have hlt : (k : Int) < (n : Int) := by omega
    clear x hF hS hk hn hp hb0
    go_enter Tryd.func11, Tryd.ntmps11
    go_wp2_with fail
    go_region_with (first
      | (go_at_call 17
         go_must (refine (place_any pick n _ (by omega) (by omega)).mono ?_)
         rintro e w1 ⟨rfl, rfl⟩
         rw [HK.out])
      | (go_at_call 5
         go_must (refine (send_any p _ (HST.out.grow (below_d w 1)) HS.out HPB.out HLOW.out).mono ?_)
         rintro e w3 ⟨rfl, s3, f3⟩
         have HS3 := hide s3
         have HF3 := hide ((foot_drewN (· = g) w 1).then f3)
         clear s3 f3))
    all_goals
      go_wp2
      go_ret
      refine ⟨?_, ?_, HF3.out⟩
      · unfold dblE; rw [if_neg (by rw [HLM.out, HN.out]; exact h0)]; rfl
      · unfold dblL; rw [if_neg (by rw [HLM.out, HN.out]; exact h0), HLM.out, HK2.out, getD_nm, HP.out]; exact HS3.out
/- what is not cut off -/
def stays (node : Int) (p : Pa) : Bool := p.f != node && p.t != node
def cutF (node : Int) (K : List Pa) : List Pa := K.filter (stays node)
theorem cutF_snoc (node : Int) (K : List Pa) (i : Nat) (h : i < K.length) : cutF node (K.take (i + 1)) = cutF node (K.take i) ++ (if stays node (K.getD i Pa.zero) then [K.getD i Pa.zero] else []) := by
  unfold cutF
  rw [takeK_snoc K i h, List.filter_append]
  congr 1
  simp only [List.filter_cons, List.filter_nil]
theorem cutF_nm (node : Int) (K : List Pa) : (cutF node K).map Pa.nm = cutF node (K.map Pa.nm) := by
  unfold cutF
  rw [List.filter_map]; rfl
theorem cutF_len (node : Int) (K : List Pa) : (cutF node K).length ≤ K.length := List.length_filter_le ..
theorem cutF_mem {node : Int} {K : List Pa} {p : Pa} (h : p ∈ cutF node K) : p ∈ K := (List.mem_filter.1 h).1
def CtRel (w : World) (node : Int) (K : List Pa) (n gk : Nat) (vs vi : Value) (wr : World) : Prop :=
  ∃ i : Nat, i + gk = n ∧ vi = .int .i64 (i : Int) ∧ wr.ownsRow w.heap.size 33 6 vs (cutF node (K.take i)).length (cellsK (cutF node (K.take i))) ∧ Below w.heap.size w wr
/- a packet more in an own row -/
theorem app_one {W : World} {B n : Nat} {v : Value} {xs : List Value} (p : Pa) (own : W.ownsRow B 33 6 v n xs) (hn : n ≤ 99999) (hB : B ≤ W.heap.size) :
    ∃ ao c w', (Builtin.append_ #[25, 25] 25 #[v, .slice (some ⟨W.heap.size, 0, none⟩) 1 1]).run Tryd.prog (W.alloc (.cells #[.int .i64 p.f, .int .i64 p.t, .int .u64 p.i, .int .i64 p.x, .int .i64 p.c, .slice p.so p.sn p.sc] 33)) = .ok (.slice ao (n + 1) c) w' ∧ w'.ownsRow B 33 6 (.slice ao (n + 1) c) (n + 1) (xs ++ cellsK [p]) ∧ (W.alloc (.cells #[.int .i64 p.f, .int .i64 p.t, .int .u64 p.i, .int .i64 p.x, .int .i64 p.c, .slice p.so p.sn p.sc] 33)).grownBy w' v.ownBlock := by
  have b := below_alloc W (.cells #[.int .i64 p.f, .int .i64 p.t, .int .u64 p.i, .int .i64 p.x, .int .i64 p.c, .slice p.so p.sn p.sc] 33)
  obtain ⟨v', w', hr, ho, hg⟩ := app_pk (owns_carry own b) (lies_alloc (sz := 6) (n := 1) (X := W) (T := 33) (C := #[.int .i64 p.f, .int .i64 p.t, .int .u64 p.i, .int .i64 p.x, .int .i64 p.c, .slice p.so p.sn p.sc]) (cs := cellsK [p]) rfl rfl (by omega)) (cellsK_one _) (by omega) (Nat.le_trans hB b.size)
  obtain ⟨ao, c, rfl, _⟩ := owns_lies ho
  exact ⟨ao, c, w', hr, ho, hg⟩
set_option maxRecDepth 20000 in
set_option maxHeartbeats 3200000 in
theorem cut_any (node : Int) (w : World) (x : St w g S L) (hS : ∀ k, S k → k < w.heap.size) :
    Calls Tryd.prog 12 #[.pointer (some ⟨g, 0, none⟩), .int .i64 node] w fun e w' => e = .returned (.int .i64 ((L.length : Int) - ((cutF node L).length : Int))) ∧ St w' g S (cutF node L) ∧ Foot (· = g) w w' := by
  obtain ⟨bo, bc, K, x, hF, rfl⟩ := x
  have HX := hide x
  have HF := hide hF
  have HS : Hid (∀ k, S k → k < w.heap.size) := hS
  have c1 := x.c0
  have hfew := x.few
  rw [← cutF_nm, List.length_map, List.length_map]
  obtain ⟨n, hn⟩ : ∃ n, K.length = n := ⟨_, rfl⟩
  have HN := hide hn
  rw [hn] at c1 hfew ⊢
  clear x hF hS hn
  go_enter Tryd.func12, Tryd.ntmps12
  go_wp2
  go_loopg [5, 14] n (fun gk vs vi wr => CtRel w node K n gk vs vi wr)
  case atStart => exact ⟨0, by omega, rfl, owns_nil _ _ _ _, Below.refl _ _⟩
  case round =>
    obtain ⟨i, hi, rfl, own, b⟩ := hrel
    have HO := hide own
    have HB := hide b
    obtain ⟨so, sc, rfl, hsl⟩ := owns_lies own
    have HL := hide hsl
    have HNW := hide (owns_new own)
    have hle := cutF_len node (K.take i)
    rw [List.length_take] at hle
    obtain ⟨m, hm⟩ : ∃ m, (cutF node (K.take i)).length = m := ⟨_, rfl⟩
    have HM := hide hm
    rw [hm] at HO HL hle ⊢
    clear own b hsl hm
    cases gk with
    | zero =>
      obtain rfl : i = n := by omega
      have hlt : ¬ ((i : Int) < (i : Int)) := by omega
      have HT : Hid (K.take i = K) := by show _ = _; rw [← HN.out, List.take_length]
      have c2 := (HX.out.grow HB.out).c0
      have z2 := (HX.out.grow HB.out).z
      rw [HN.out] at c2
      have hmi : m ≤ i := by omega
      have HEND := hide (wr_end HX.out HL.out HB.out HNW.out (fun p hp => .inl (by rw [HT.out] at hp; exact cutF_mem hp)) (by rw [HM.out]; omega))
      go_wp2
      go_ret
      refine ⟨?_, ?_, HEND.out.ft⟩
      · rw [← HM.out, HT.out]; go_num
      · have := HEND.out.st HF.out HS.out
        rw [HT.out] at this
        exact this
    | succ g1 =>
      have hin : i < n := by omega
      have hlt : (i : Int) < (n : Int) := by omega
      have x2 := HX.out.grow HB.out
      obtain ⟨ad, hbo⟩ := x2.row.there (k := i) (by rw [HN.out]; exact hin)
      subst hbo
      have e1 := x2.row.elem i (by rw [HN.out]; exact hin)
      have HSN := hide (cutF_snoc node K i (by rw [HN.out]; exact hin))
      obtain ⟨p, hp⟩ : ∃ p, K.getD i Pa.zero = p := ⟨_, rfl⟩
      rw [hp] at e1 HSN
      obtain ⟨k0, k1, k2, k3, k4, k5⟩ := e1
      obtain ⟨Y, hY⟩ : ∃ Y, wr.alloc (.cells #[.int .i64 p.f, .int .i64 p.t, .int .u64 p.i, .int .i64 p.x, .int .i64 p.c, .slice p.so p.sn p.sc] 33) = Y := ⟨_, rfl⟩
      have bY : Below wr.heap.size wr Y := hY ▸ below_alloc wr _
      have hbx : BoxK Y wr.heap.size p := hY ▸ boxK_new wr p
      obtain ⟨y0, y1, y2, y3, y4, y5⟩ := hbx.six (Below.refl _ _)
      have HBY := hide (below_one HB.out bY)
      have HOY := hide (owns_carry HO.out bY)
      clear x2 hp hbx
      cases hst : stays node p with
      | false =>
        have HF2 : Hid (cutF node (K.take (i + 1)) = cutF node (K.take i)) := by show _ = _; rw [HSN.out, hst]; simp
        unfold stays at hst
        clear bY
        by_cases q1 : p.f = node
        · clear hst
          subst q1
          go_wp2
          go_roundg g1
          case measure => omega
          case rel =>
            refine ⟨i + 1, by omega, by go_num, ?_, HBY.out⟩
            rw [HF2.out, HM.out]; exact HOY.out
        · have q2 : p.t = node := by
            by_cases h : p.t = node
            · exact h
            · rw [bne_iff_ne.2 q1, bne_iff_ne.2 h] at hst; cases hst
          clear hst
          subst q2
          go_wp2
          go_roundg g1
          case measure => omega
          case rel =>
            refine ⟨i + 1, by omega, by go_num, ?_, HBY.out⟩
            rw [HF2.out, HM.out]; exact HOY.out
      | true =>
        have HF2 : Hid (cutF node (K.take (i + 1)) = cutF node (K.take i) ++ [p]) := by show _ = _; rw [HSN.out, hst]; simp
        unfold stays at hst
        rw [Bool.and_eq_true] at hst
        obtain ⟨q1, q2⟩ := hst
        obtain ⟨ao, c, w4, hr, ho4, hg4⟩ := app_one p HOY.out (by omega) HBY.out.size
        have HR := hide hr
        have HO4 := hide ho4
        have HB4 := hide (below_grown (below_one HBY.out (below_alloc Y _)) (below_one HBY.out (below_alloc Y (.cells #[.int .i64 p.f, .int .i64 p.t, .int .u64 p.i, .int .i64 p.x, .int .i64 p.c, .slice p.so p.sn p.sc] 33))).size (owns_carry HOY.out (below_alloc Y (.cells #[.int .i64 p.f, .int .i64 p.t, .int .u64 p.i, .int .i64 p.x, .int .i64 p.c, .slice p.so p.sn p.sc] 33))) hg4)
        clear bY hr ho4 hg4
        go_wp2_with (at_builtin; refine wpList_append_run rfl _ _ _ rfl _ _ _ _ rfl rfl HR.out ?_)
        go_wp2
        go_roundg g1
        case measure => omega
        case rel =>
          refine ⟨i + 1, by omega, by go_num, ?_, HB4.out⟩
          rw [HF2.out, cellsK_append, List.length_append, HM.out]
          exact HO4.out
end Go.Proofs.YtdepjclbeocmhaaDoor
