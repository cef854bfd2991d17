/-
  Which message of a gather a packet is of, as a contract.
-/
import Derived.Test.YtdfakeddhoolcaaGRow
namespace Go.Proofs.Ytdfakeddhoolcaa
open Go.RowKit
variable {w w' : World} {g : Nat} {bo : Option Addr} {bc : Nat} {Ms : List Mg}
def rawM (Ms : List Mg) : List (List Pa) := Ms.map Mg.L
theorem getM_L (Ms : List Mg) (k : Nat) : (rawM Ms).getD k [] = (Ms.getD k Mg.zero).L := by
  unfold rawM
  rw [List.getD_eq_getElem?_getD, List.getD_eq_getElem?_getD, List.getElem?_map]
  cases Ms[k]? <;> rfl
def fndI (G : List (List Pa)) (p : Pa) : Int := if fndF G p < G.length then (fndF G p : Int) else -1
def FdRel (X : World) (Ms : List Mg) (p : Pa) (n gk : Nat) (vi : Value) (wq : World) : Prop :=
  ∃ k : Nat, k + gk = n ∧ vi = .int .i64 (k : Int) ∧ (∀ j, j < k → (hd ((rawM Ms).getD j [])).with p = false) ∧ Below X.heap.size X wq
set_option maxRecDepth 20000 in
set_option maxHeartbeats 3200000 in
theorem find_any (p : Pa) (w : World) (x : Gt w g bo bc Ms) (hne : ∀ m ∈ Ms, m.L ≠ []) :
    Calls Try.prog 14 #[.pointer (some ⟨g, 0, none⟩), .agg #[.int .i64 p.f, .int .i64 p.t, .int .u64 p.i, .int .i64 p.x, .int .i64 p.c, .slice p.so p.sn p.sc]] w fun e w' => e = .returned (.int .i64 (fndI (rawM Ms) p)) ∧ Below w.heap.size w w' := by
  obtain ⟨X, hX⟩ : ∃ X, w.alloc (.cells #[.int .i64 p.f, .int .i64 p.t, .int .u64 p.i, .int .i64 p.x, .int .i64 p.c, .slice p.so p.sn p.sc] 35) = X := ⟨_, rfl⟩
  have bX : Below w.heap.size w X := hX ▸ below_alloc w _
  have HBX : Hid (BoxK X w.heap.size p) := hX ▸ boxK_new w p
  have HWX := hide bX
  have HGX := hide (x.grow bX)
  have c := (x.grow bX).c0
  have hcap : bc ≤ 9223372036854775807 := x.row.2.2.1
  have hnc := x.row.2.1
  have HNE := hide hne
  obtain ⟨n, hn⟩ : ∃ n, Ms.length = n := ⟨_, rfl⟩
  have HN := hide hn
  rw [hn] at c hnc
  obtain ⟨R, hR⟩ : ∃ R, fndI (rawM Ms) p = R := ⟨_, rfl⟩
  rw [hR]
  have HR := hide hR
  have HLR : Hid ((rawM Ms).length = n) := by show _ = _; rw [← hn]; simp [rawM]
  clear x bX hn hne hR
  go_enter Try.func14, Try.ntmps14
  go_wp2
  go_loopg [12] n (fun gk vi wq => FdRel X Ms p n gk vi wq)
  case atStart => exact ⟨0, by omega, rfl, (fun j hj => by omega), Below.refl _ _⟩
  case round =>
    obtain ⟨k, hk, rfl, hj, b⟩ := hrel
    have HJ := hide hj
    have HB := hide b
    clear hj b
    cases gk with
    | zero =>
      obtain rfl : k = n := by omega
      have hlt : ¬ ((k : Int) < (k : Int)) := by omega
      go_wp2
      go_ret
      refine ⟨?_, below_one HWX.out HB.out⟩
      have e : fndF (rawM Ms) p = (rawM Ms).length := fnd_none (fun j hj => HJ.out j (by rw [HLR.out] at hj; exact hj))
      rw [← HR.out]; unfold fndI
      rw [e, if_neg (by omega)]; rfl
    | succ g1 =>
      have hkn : k < n := by omega
      have hlt : (k : Int) < (n : Int) := by omega
      have hG := HGX.out.grow HB.out
      obtain ⟨ad, rfl⟩ := hG.row.there (k := k) (by rw [HN.out]; exact hkn)
      have c1 := hG.elem k (by rw [HN.out]; exact hkn)
      have hmem := getM_mem Ms k (by rw [HN.out]; exact hkn)
      have hP := hG.has _ hmem
      have hne := HNE.out _ hmem
      have hraw := getM_L Ms k
      obtain ⟨m, hm⟩ : ∃ m, Ms.getD k Mg.zero = m := ⟨_, rfl⟩
      rw [hm] at c1 hP hne hraw
      obtain ⟨ma, mn, mc, mL⟩ := m
      simp only at c1 hP hne hraw
      have hmn : mn = mL.length := hP.len
      have hm0 : 0 < mn := by rw [hmn]; exact List.length_pos_iff.2 hne
      have hmz : ¬ mn = 0 := by omega
      have hmp : (0 : Int) < (mn : Int) := by omega
      obtain ⟨ae, rfl⟩ := hP.there (k := 0) hm0
      obtain ⟨q, hq⟩ : ∃ q, hd mL = q := ⟨_, rfl⟩
      have e0 := fun j => ((hP.carry (below_d wr j)).six0 (Below.refl _ _) hm0 q hq)
      have e1 := fun j => (HBX.out.six (below_one HB.out (below_d wr j)))
      have HHQ : Hid (hd ((rawM Ms).getD k []) = q) := by show _ = _; rw [hraw]; exact hq
      have f0 := fun j => (e0 j).1
      have f1 := fun j => (e0 j).2.1
      have f2 := fun j => (e0 j).2.2.1
      have p0 := fun j => (e1 j).1
      have p1 := fun j => (e1 j).2.1
      have p2 := fun j => (e1 j).2.2.1
      have hD : ∀ (W : World) (vi : Value), q.with p = false → Below wr.heap.size wr W → vi = .int .i64 ((k + 1 : Nat) : Int) → FdRel X Ms p n g1 vi W := fun W vi h1 h2 h3 => ⟨k + 1, by omega, h3, fun j hj => by
        rcases Nat.lt_or_ge j k with h | h
        · exact HJ.out j h
        · obtain rfl : j = k := by omega
          rw [HHQ.out, h1], below_one HB.out h2⟩
      have HD := hide hD
      have HT : Hid (q.with p = true → R = (k : Int)) := fun h => by
        have hk2 : k < (rawM Ms).length := by rw [HLR.out]; exact hkn
        have e : fndF (rawM Ms) p = k := fnd_at hk2 (by rw [HHQ.out]; exact h) HJ.out
        rw [← HR.out]; unfold fndI
        rw [e, if_pos hk2]
      clear e0 e1 hP hG hm hmem hne hraw hmn hD hq
      cases h1 : (q.f == p.f) with
      | false =>
        have HW : Hid (q.with p = false) := by show _ = _; unfold Pa.with; simp [h1]
        go_wp2_with fail
        go_quiet (fail)
        go_wp2
        go_roundg g1
        case measure => omega
        case rel => exact HD.out _ _ HW.out (below_d wr _) (by go_num)
      | true =>
        cases h2 : (q.t == p.t) with
        | false =>
          have HW : Hid (q.with p = false) := by show _ = _; unfold Pa.with; simp [h2]
          go_wp2_with fail
          go_quiet (fail)
          go_wp2
          go_roundg g1
          case measure => omega
          case rel => exact HD.out _ _ HW.out (below_d wr _) (by go_num)
        | true =>
          cases h3 : (q.i == p.i) with
          | false =>
            have HW : Hid (q.with p = false) := by show _ = _; unfold Pa.with; simp [h3]
            go_wp2_with fail
            go_quiet (fail)
            go_wp2
            go_roundg g1
            case measure => omega
            case rel => exact HD.out _ _ HW.out (below_d wr _) (by go_num)
          | true =>
            have HW : Hid (q.with p = true) := by show _ = _; unfold Pa.with; rw [h1, h2, h3]; rfl
            go_wp2_with fail
            go_quiet (fail)
            go_wp2
            go_ret
            exact ⟨by rw [HT.out HW.out]; rfl, below_one HWX.out (below_one HB.out (below_d wr _))⟩
end Go.Proofs.Ytdfakeddhoolcaa
