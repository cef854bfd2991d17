/-
  What the calls on a memory of pages answer, as contracts: has, wrong, Alloc, Free, Left, Read, Write; what became of the world.
-/
import Derived.Test.YtppdammgmnihgaaDoorPRow
namespace Go.Proofs.YtppdammgmnihgaaDoor
open Go.RowKit
def IdxRel (gl : List Bool) (n gk : Nat) (i : Value) : Prop := ∃ k : Nat, k + gk = n ∧ i = .int .i64 k ∧ Hid (∀ i, i < k → gl.getD i true = true)
set_option maxHeartbeats 800000 in
theorem index_any (a n : Nat) (gl : List Bool) (w : World) (h : RowT w a gl) (hn : gl.length = n) (hm : n ≤ 4096) :
    Calls Tryd.prog 40 #[.slice (some ⟨a, 0, none⟩) n n, .bool false] w fun e w' => e = .returned (.int .i64 (if lowF gl < n then (lowF gl : Int) else -1)) ∧ w' = w := by
  have H := hide h
  have HN := hide hn
  clear h hn
  obtain ⟨z, hz⟩ : ∃ z : Int, (if lowF gl < n then (lowF gl : Int) else -1) = z := ⟨_, rfl⟩
  rw [hz]
  have HZ := hide hz
  clear hz
  go_enter Tryd.func40, Tryd.ntmps40
  go_wp2
  go_loopg [8] n (fun gk i wr => IdxRel gl n gk i ∧ wr = w)
  case atStart => exact ⟨⟨0, by omega, rfl, fun i hi => by omega⟩, rfl⟩
  case round =>
    obtain ⟨⟨k, hk, rfl, HK⟩, rfl⟩ := hrel
    cases gk with
    | zero =>
      have hlt : ¬ ((k : Int) < (n : Int)) := by omega
      go_wp2
      go_ret
      refine ⟨?_, rfl⟩
      rw [← HZ.out, lowF_is gl k (by rw [HN.out]; omega) HK.out (fun h => by rw [HN.out] at h; omega), if_neg (by omega)]; rfl
    | succ g1 =>
      have hlt : ((k : Int) < (n : Int)) := by omega
      have hkl : k < gl.length := by rw [HN.out]; omega
      have hc := H.out.cell k hkl
      cases hb : gl.getD k true with
      | true =>
        rw [hb] at hc
        have HB := hide hb
        clear hb
        go_wp2
        go_roundg g1
        case measure => omega
        case rel => exact ⟨⟨k + 1, by omega, by go_num, fun i hi => by
          by_cases e : i = k
          · rw [e]; exact HB.out
          · exact HK.out i (by omega)⟩, rfl⟩
      | false =>
        rw [hb] at hc
        have HB := hide hb
        clear hb
        go_wp2
        go_ret
        refine ⟨?_, rfl⟩
        rw [← HZ.out, lowF_is gl k (by rw [HN.out]; omega) HK.out (fun _ => HB.out), if_pos (by omega)]; rfl
/- is page k given out -/
def hasF (gl : List Bool) (k : Int) : Bool := decide (0 ≤ k ∧ k < (gl.length : Int)) && gl.getD k.toNat false
theorem hasF_nat (gl : List Bool) (k : Nat) : hasF gl (k : Int) = (decide (k < gl.length) && gl.getD k true) := by
  unfold hasF
  by_cases h : k < gl.length
  · simp [h, List.getD_eq_getElem?_getD]
  · simp [h]
theorem hasF_yes {gl : List Bool} {k : Int} (h : hasF gl k = true) : ∃ j : Nat, k = (j : Int) ∧ j < gl.length ∧ gl.getD j true = true := by
  unfold hasF at h
  simp only [Bool.and_eq_true, decide_eq_true_eq] at h
  obtain ⟨⟨h1, h2⟩, h3⟩ := h
  refine ⟨k.toNat, by omega, by omega, ?_⟩
  have hl : k.toNat < gl.length := by omega
  simpa [List.getD_eq_getElem?_getD, List.getElem?_eq_getElem hl] using h3
set_option maxHeartbeats 800000 in
theorem has_any (m a b n : Nat) (gl : List Bool) (bs : List UInt8) (k : Int) (w : World) (M : MemAt w m a b n gl bs) :
    Calls Tryd.prog 35 #[.pointer (some ⟨m, 0, none⟩), .int .i64 k] w fun e w' => e = .returned (.bool (hasF gl k)) ∧ w' = w := by
  have H := hide M
  have hn : n ≤ 4096 := M.few
  have c0 := M.c0
  obtain ⟨z, hz⟩ : ∃ z, hasF gl k = z := ⟨_, rfl⟩
  rw [hz]
  have HZ := hide hz
  clear hz M
  by_cases h0 : 0 ≤ k
  · obtain ⟨j, rfl⟩ := Int.eq_ofNat_of_zero_le h0
    by_cases h1 : (j : Int) < (n : Int)
    · have hj : j < gl.length := by rw [H.out.num]; omega
      have hc := H.out.giv.cell j hj
      obtain ⟨y, hy⟩ : ∃ y, gl.getD j true = y := ⟨_, rfl⟩
      rw [hy] at hc
      have HY := hide hy
      clear hy
      go_enter Tryd.func35, Tryd.ntmps35
      go_wp2
      go_ret
      refine ⟨?_, rfl⟩
      rw [← HZ.out, hasF_nat, HY.out, decide_eq_true hj]; simp
    · go_enter Tryd.func35, Tryd.ntmps35
      go_wp2
      go_ret
      refine ⟨?_, rfl⟩
      rw [← HZ.out, hasF_nat, decide_eq_false (by rw [H.out.num]; omega)]; simp
  · go_enter Tryd.func35, Tryd.ntmps35
    go_wp2
    go_ret
    refine ⟨?_, rfl⟩
    rw [← HZ.out]; unfold hasF; rw [decide_eq_false (by omega)]; simp
/- what Read and Write tell of a page and a piece of it -/
def errV (a : Int) : Value := .iface 50 (.int .i64 a)
def fitsF (at_ n : Int) : Bool := decide (0 ≤ at_ ∧ 0 ≤ n ∧ n ≤ 64 - at_)
def wrongV (gl : List Bool) (k at_ n : Int) : Value := if hasF gl k then (if fitsF at_ n then .nilIface else errV 13) else errV 4
set_option maxHeartbeats 800000 in
theorem wrong_any (m a b n : Nat) (gl : List Bool) (bs : List UInt8) (k p l : Int) (w : World) (M : MemAt w m a b n gl bs) (hp : -9223372036854775808 ≤ p ∧ p ≤ 9223372036854775807) :
    Calls Tryd.prog 32 #[.pointer (some ⟨m, 0, none⟩), .int .i64 k, .int .i64 p, .int .i64 l] w fun e w' => e = .returned (wrongV gl k p l) ∧ w' = w := by
  have H := hide M
  clear M
  obtain ⟨z, hz⟩ : ∃ z, wrongV gl k p l = z := ⟨_, rfl⟩
  rw [hz]
  have HZ := hide hz
  clear hz
  unfold wrongV at HZ
  cases hh : hasF gl k with
  | false =>
    have HH := hide hh
    have HE := HZ.out
    rw [hh] at HE
    simp only [Bool.false_eq_true, if_false] at HE
    subst HE
    clear hh HZ
    unfold errV
    go_enter Tryd.func32, Tryd.ntmps32
    go_wp2_with fail
    refine (has_any m a b n gl bs k _ H.out).mono ?_; rintro e w1 ⟨rfl, rfl⟩
    rw [HH.out]
    go_wp2
    go_ret
    exact ⟨rfl, rfl⟩
  | true =>
    have HH := hide hh
    have HE := HZ.out
    rw [hh] at HE
    simp only [if_true] at HE
    clear hh HZ
    by_cases h0 : 0 ≤ p
    · by_cases h1 : 0 ≤ l
      · by_cases h2 : l ≤ 64 - p
        · rw [show fitsF p l = true from decide_eq_true ⟨h0, h1, h2⟩, if_pos rfl] at HE
          subst HE
          go_enter Tryd.func32, Tryd.ntmps32
          go_wp2_with fail
          refine (has_any m a b n gl bs k _ H.out).mono ?_; rintro e w1 ⟨rfl, rfl⟩
          rw [HH.out]
          go_wp2
          go_ret
          exact ⟨rfl, rfl⟩
        · rw [show fitsF p l = false from decide_eq_false (by omega)] at HE
          simp only [Bool.false_eq_true, if_false] at HE
          subst HE
          unfold errV
          go_enter Tryd.func32, Tryd.ntmps32
          go_wp2_with fail
          refine (has_any m a b n gl bs k _ H.out).mono ?_; rintro e w1 ⟨rfl, rfl⟩
          rw [HH.out]
          go_wp2
          go_ret
          exact ⟨rfl, rfl⟩
      · rw [show fitsF p l = false from decide_eq_false (by omega)] at HE
        simp only [Bool.false_eq_true, if_false] at HE
        subst HE
        unfold errV
        go_enter Tryd.func32, Tryd.ntmps32
        go_wp2_with fail
        refine (has_any m a b n gl bs k _ H.out).mono ?_; rintro e w1 ⟨rfl, rfl⟩
        rw [HH.out]
        go_wp2
        go_ret
        exact ⟨rfl, rfl⟩
    · rw [show fitsF p l = false from decide_eq_false (by omega)] at HE
      simp only [Bool.false_eq_true, if_false] at HE
      subst HE
      unfold errV
      go_enter Tryd.func32, Tryd.ntmps32
      go_wp2_with fail
      refine (has_any m a b n gl bs k _ H.out).mono ?_; rintro e w1 ⟨rfl, rfl⟩
      rw [HH.out]
      go_wp2
      go_ret
      exact ⟨rfl, rfl⟩
def LeftRel (gl : List Bool) (n gk : Nat) (s i : Value) : Prop := ∃ k c : Nat, k + gk = n ∧ i = .int .i64 k ∧ s = .int .i64 c ∧ c ≤ k ∧ Hid (leftF (gl.take k) = c)
set_option maxHeartbeats 800000 in
theorem left_any (m a b n : Nat) (gl : List Bool) (bs : List UInt8) (w : World) (M : MemAt w m a b n gl bs) :
    Calls Tryd.prog 22 #[.pointer (some ⟨m, 0, none⟩)] w fun e w' => e = .returned (.int .i64 (leftF gl : Int)) ∧ w' = w := by
  have H := hide M
  have hn : n ≤ 4096 := M.few
  have c0 := M.c0
  clear M
  obtain ⟨z, hz⟩ : ∃ z, leftF gl = z := ⟨_, rfl⟩
  rw [hz]
  have HZ := hide hz
  clear hz
  go_enter Tryd.func22, Tryd.ntmps22
  go_wp2
  go_loopg [3, 11] n (fun gk s i wr => LeftRel gl n gk s i ∧ wr = w)
  case atStart => exact ⟨⟨0, 0, by omega, rfl, rfl, by omega, rfl⟩, rfl⟩
  case round =>
    obtain ⟨⟨k, c, hk, rfl, rfl, hck, HC⟩, rfl⟩ := hrel
    cases gk with
    | zero =>
      have hlt : ¬ ((k : Int) < (n : Int)) := by omega
      go_wp2
      go_ret
      refine ⟨?_, rfl⟩
      rw [← HZ.out, ← HC.out, List.take_of_length_le (by rw [H.out.num]; omega)]; rfl
    | succ g1 =>
      have hlt : ((k : Int) < (n : Int)) := by omega
      have hkl : k < gl.length := by rw [H.out.num]; omega
      have hc := H.out.giv.cell k hkl
      have HT := hide (leftF_take gl k hkl)
      cases hb : gl.getD k true with
      | true =>
        rw [hb] at hc HT
        clear hb
        go_wp2
        go_roundg g1
        case measure => omega
        case rel => exact ⟨⟨k + 1, c, by omega, by go_num, rfl, by omega, by show _ = _; rw [HT.out, HC.out]; rfl⟩, rfl⟩
      | false =>
        rw [hb] at hc HT
        clear hb
        go_wp2
        go_roundg g1
        case measure => omega
        case rel => exact ⟨⟨k + 1, c + 1, by omega, by go_num, by go_num, by omega, by show _ = _; rw [HT.out, HC.out]; rfl⟩, rfl⟩
end Go.Proofs.YtppdammgmnihgaaDoor
