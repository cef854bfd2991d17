/-
  What a wire's Lose, Double and Cut answer, as contracts.
-/
import Derived.Test.YtdepjclbeocmhaaWMore
namespace Go.Proofs.Ytdepjclbeocmhaa
open Go.RowKit
variable {w w' : World} {g : Nat} {bo : Option Addr} {bc : Nat} {K : List Pa} {S : Nat → Prop} {L : List Pa}
def LsEnd (w : World) (g : Nat) (S : Nat → Prop) (L : List Pa) (pick : Int) (e : Ending) (w' : World) : Prop :=
  e = .returned (.bool (decide (0 < L.length))) ∧ St w' g S (L.eraseIdx (placeF pick L.length)) ∧ Foot (· = g) w w'
def dblE (L : List Pa) : Int := if L.length = 0 then 12 else sendE L
def dblL (L : List Pa) (pick : Int) : List Pa := if L.length = 0 then L else sendL L (L.getD (placeF pick L.length) Pa.zero)
def DbEnd (w : World) (g : Nat) (S : Nat → Prop) (L : List Pa) (pick : Int) (e : Ending) (w' : World) : Prop :=
  e = .returned (erN (dblE L)) ∧ St w' g S (dblL L pick) ∧ Foot (· = g) w w'
set_option maxRecDepth 20000 in
set_option maxHeartbeats 3200000 in
theorem double_any (pick : Int) (w : World) (x : St w g S L) (hS : ∀ k, S k → k < w.heap.size) :
    Calls Try.prog 10 #[.pointer (some ⟨g, 0, none⟩), .int .i64 pick] w fun e w' => DbEnd w g S L pick e w' := by
  have HST := hide x
  obtain ⟨bo, bc, K, x, hF, rfl⟩ := x
  have HX := hide x
  have HS : Hid (∀ k, S k → k < w.heap.size) := hS
  have c1 := x.c0
  have hfew := x.few
  have HLM : Hid ((K.map Pa.nm).length = K.length) := List.length_map ..
  by_cases h0 : K.length = 0
  · rw [h0] at c1
    clear x hF hS
    go_enter Try.func10, Try.ntmps10
    go_wp2
    go_ret
    refine ⟨?_, ?_, Foot.refl _ _⟩
    · unfold dblE; rw [if_pos (by rw [HLM.out]; exact h0)]; rfl
    · unfold dblL; rw [if_pos (by rw [HLM.out]; exact h0)]; exact HST.out
  · have hkl := placeF_lt pick K.length (by omega)
    obtain ⟨k, hk⟩ : ∃ k, placeF pick K.length = k := ⟨_, rfl⟩
    rw [hk] at hkl
    have HK2 := hide hk
    have hb0 := x.row.bts k hkl
    obtain ⟨ad, hbo⟩ := x.row.there hkl
    subst hbo
    have e1 := x.row.elem k hkl
    have HLOW := hide (x.low _ (getK_mem K k hkl))
    obtain ⟨p, hp⟩ : ∃ p, K.getD k Pa.zero = p := ⟨_, rfl⟩
    rw [hp] at e1 hb0 HLOW
    obtain ⟨k0, k1, k2, k3, k4, k5⟩ := e1
    have HP := hide hp
    have HPB := hide hb0
    obtain ⟨n, hn⟩ : ∃ n, K.length = n := ⟨_, rfl⟩
    have HN := hide hn
    rw [hn] at c1 h0 hkl hk hfew
    have HK := hide hk
    have h1 : ¬ ((n : Int) = 0) := by omega
    have hlt : (k : Int) < (n : Int) := by omega
    clear x hF hS hk hn hp hb0
    go_enter Try.func10, Try.ntmps10
    go_wp2_with fail
    go_region_with (first
      | (go_at_call 13
         go_must (refine (place_any pick n _ (by omega) (by omega)).mono ?_)
         rintro e w1 ⟨rfl, rfl⟩
         rw [HK.out])
      | (go_at_call 7
         go_must (refine (send_any p _ (HST.out.grow (below_d w 1)) HS.out HPB.out HLOW.out).mono ?_)
         rintro e w3 ⟨rfl, s3, f3⟩
         have HS3 := hide s3
         have HF3 := hide ((foot_drewN (· = g) w 1).then f3)
         clear s3 f3))
    all_goals
      go_wp2
      go_ret
      refine ⟨?_, ?_, HF3.out⟩
      · unfold dblE; rw [if_neg (by rw [HLM.out, HN.out]; exact h0)]; rfl
      · unfold dblL; rw [if_neg (by rw [HLM.out, HN.out]; exact h0), HLM.out, HK2.out, getD_nm, HP.out]; exact HS3.out
/- what is not cut off -/
def stays (node : Int) (p : Pa) : Bool := p.f != node && p.t != node
def cutF (node : Int) (K : List Pa) : List Pa := K.filter (stays node)
theorem cutF_snoc (node : Int) (K : List Pa) (i : Nat) (h : i < K.length) : cutF node (K.take (i + 1)) = cutF node (K.take i) ++ (if stays node (K.getD i Pa.zero) then [K.getD i Pa.zero] else []) := by
  unfold cutF
  rw [takeK_snoc K i h, List.filter_append]
  congr 1
  simp only [List.filter_cons, List.filter_nil]
theorem cutF_nm (node : Int) (K : List Pa) : (cutF node K).map Pa.nm = cutF node (K.map Pa.nm) := by
  unfold cutF
  rw [List.filter_map]; rfl
theorem cutF_len (node : Int) (K : List Pa) : (cutF node K).length ≤ K.length := List.length_filter_le ..
theorem cutF_mem {node : Int} {K : List Pa} {p : Pa} (h : p ∈ cutF node K) : p ∈ K := (List.mem_filter.1 h).1
def CtRel (w : World) (node : Int) (K : List Pa) (n gk : Nat) (vs vi : Value) (wr : World) : Prop :=
  ∃ i : Nat, i + gk = n ∧ vi = .int .i64 (i : Int) ∧ wr.ownsRow w.heap.size 33 6 vs (cutF node (K.take i)).length (cellsK (cutF node (K.take i))) ∧ Below w.heap.size w wr
/- a packet more in an own row -/
theorem app_one {W : World} {B n : Nat} {v : Value} {xs : List Value} (p : Pa) (own : W.ownsRow B 33 6 v n xs) (hn : n ≤ 99999) (hB : B ≤ W.heap.size) :
    ∃ ao c w', (Builtin.append_ #[24, 24] 24 #[v, .slice (some ⟨W.heap.size, 0, none⟩) 1 1]).run Try.prog (W.alloc (.cells #[.int .i64 p.f, .int .i64 p.t, .int .u64 p.i, .int .i64 p.x, .int .i64 p.c, .slice p.so p.sn p.sc] 33)) = .ok (.slice ao (n + 1) c) w' ∧ w'.ownsRow B 33 6 (.slice ao (n + 1) c) (n + 1) (xs ++ cellsK [p]) ∧ (W.alloc (.cells #[.int .i64 p.f, .int .i64 p.t, .int .u64 p.i, .int .i64 p.x, .int .i64 p.c, .slice p.so p.sn p.sc] 33)).grownBy w' v.ownBlock := by
  have b := below_alloc W (.cells #[.int .i64 p.f, .int .i64 p.t, .int .u64 p.i, .int .i64 p.x, .int .i64 p.c, .slice p.so p.sn p.sc] 33)
  obtain ⟨v', w', hr, ho, hg⟩ := app_pk (owns_carry own b) (lies_alloc (sz := 6) (n := 1) (X := W) (T := 33) (C := #[.int .i64 p.f, .int .i64 p.t, .int .u64 p.i, .int .i64 p.x, .int .i64 p.c, .slice p.so p.sn p.sc]) (cs := cellsK [p]) rfl rfl (by omega)) (cellsK_one _) (by omega) (Nat.le_trans hB b.size)
  obtain ⟨ao, c, rfl, _⟩ := owns_lies ho
  exact ⟨ao, c, w', hr, ho, hg⟩
end Go.Proofs.Ytdepjclbeocmhaa
