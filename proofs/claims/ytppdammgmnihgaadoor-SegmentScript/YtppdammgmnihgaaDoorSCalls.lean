/-
  What the calls that only look at a store of segments answer, as contracts: within, slices.Index of segments, find, piece, Left, Size.
-/
import Derived.Test.YtppdammgmnihgaaDoorSRow
namespace Go.Proofs.YtppdammgmnihgaaDoor
open Go.RowKit
variable {w w' : World} {B st m a b n : Nat} {gl : List Bool} {bs : List UInt8} {sg : Nat → Option Cel}
/- how many of n bytes lie in the page of a place -/
def inPage (p n : Nat) : Nat := min n (64 - p % 64)
set_option maxHeartbeats 800000 in
theorem within_any (p n : Nat) (w : World) :
    Calls Tryd.prog 24 #[.int .i64 (p : Int), .int .i64 (n : Int)] w fun e w' => e = .returned (.int .i64 (inPage p n : Int)) ∧ w' = w := by
  obtain ⟨x, hx⟩ : ∃ x, inPage p n = x := ⟨_, rfl⟩
  rw [hx]
  have HX := hide hx
  clear hx
  obtain ⟨q, hq⟩ : ∃ q, p % 64 = q := ⟨_, rfl⟩
  have hqm : (p : Int) % 64 = (q : Int) := by rw [← hq]; omega
  have hqt : (p : Int).tmod 64 = (q : Int) := by rw [← hq]; rfl
  have hq64 : q < 64 := by rw [← hq]; exact Nat.mod_lt _ (by omega)
  have HQ := hide hq
  clear hq
  rcases Nat.lt_trichotomy n (64 - q) with h | h | h
  · have h1 : (n : Int) < 64 - (q : Int) := by omega
    have h2 : ¬ (64 - (q : Int) < (n : Int)) := by omega
    go_enter Tryd.func24, Tryd.ntmps24
    go_wp2
    go_ret
    exact ⟨by rw [← HX.out]; unfold inPage; rw [HQ.out, Nat.min_eq_left (by omega)]; first | rfl | (subst h; rfl), rfl⟩
  · have h1 : (64 : Int) - (q : Int) = (n : Int) := by omega
    go_enter Tryd.func24, Tryd.ntmps24
    go_wp2
    go_ret
    exact ⟨by rw [← HX.out]; unfold inPage; rw [HQ.out, Nat.min_eq_left (by omega)]; first | rfl | (subst h; rfl), rfl⟩
  · have h1 : ¬ ((n : Int) < 64 - (q : Int)) := by omega
    have h2 : (64 - (q : Int) < (n : Int)) := by omega
    have h3 : (64 : Int) - (q : Int) = ((64 - q : Nat) : Int) := by omega
    go_enter Tryd.func24, Tryd.ntmps24
    go_wp2
    go_ret
    exact ⟨by rw [← HX.out]; unfold inPage; rw [HQ.out, Nat.min_eq_right (by omega)]; rfl, rfl⟩
/- the lowest number that no segment has -/
def lowC (sg : Nat → Option Cel) : Nat := (List.range 64).findIdx fun i => (sg i).isNone
theorem lowC_low {L : Nat → Option (List UInt8)} (V : View bs sg L) : lowC sg = lowS L := by
  unfold lowC lowS; congr 1; funext i; rw [V i]; cases sg i <;> rfl
theorem lowC_is (sg : Nat → Option Cel) (k : Nat) (hk : k ≤ 64) (h1 : ∀ i, i < k → (sg i).isNone = false) (h2 : k < 64 → (sg k).isNone = true) : lowC sg = k := by
  have V : View [] sg (fun i => (sg i).map fun c => cont [] c.pgs c.size) := fun _ => rfl
  rw [lowC_low V]
  refine lowS_is _ k hk (fun i hi => ?_) (fun h => ?_)
  · have := h1 i hi; cases e : sg i <;> simp_all
  · have := h2 h; cases e : sg k <;> simp_all
theorem equalIn_nil_ptr {P : Program} (w : World) (d : Nat) {t e : TypeId} (p : Addr) (h : P.underlying t = some (.pointer e)) : (Op.equalIn (d + 1) t (.pointer none) (.pointer (some p))).run P w = .ok false w := by
  simp [Op.equalIn, run_underlying h]
theorem eql_nil_ptr (w : World) (p : Addr) : (binOp .eql 55 (.pointer none) (.pointer (some p))).run Tryd.prog w = .ok (.bool false) w := by
  simp only [binOp]
  simp [Op.equal, Op.maxDepth, equalIn_nil_ptr w 9999 p Tryd.underlying55]
def IdxS (sg : Nat → Option Cel) (gk : Nat) (i : Value) : Prop := ∃ k : Nat, k + gk = 64 ∧ i = .int .i64 k ∧ Hid (∀ i, i < k → (sg i).isNone = false)
set_option maxRecDepth 20000 in
set_option maxHeartbeats 800000 in
theorem sindex_any (w : World) (x : StAt w B st m a b n gl bs sg) :
    Calls Tryd.prog 26 #[.slice (some ⟨st, 1, none⟩) 64 64, .pointer none] w fun e w' => e = .returned (.int .i64 (if lowC sg < 64 then (lowC sg : Int) else -1)) ∧ w' = w := by
  have H := hide x
  clear x
  obtain ⟨z, hz⟩ : ∃ z : Int, (if lowC sg < 64 then (lowC sg : Int) else -1) = z := ⟨_, rfl⟩
  rw [hz]
  have HZ := hide hz
  clear hz
  go_enter Tryd.func26, Tryd.ntmps26
  go_wp2
  go_loopg [8] 64 (fun gk i wr => IdxS sg gk i ∧ wr = w)
  case atStart => exact ⟨⟨0, by omega, rfl, fun i hi => by omega⟩, rfl⟩
  case round =>
    obtain ⟨⟨k, hk, rfl, HK⟩, rfl⟩ := hrel
    cases gk with
    | zero =>
      have hlt : ¬ ((k : Int) < 64) := by omega
      go_wp2
      go_ret
      refine ⟨?_, rfl⟩
      rw [← HZ.out, lowC_is sg k (by omega) HK.out (fun h => by omega), if_neg (by omega)]; rfl
    | succ g1 =>
      have hlt : ((k : Int) < 64) := by omega
      have hc := H.out.ci k (by omega)
      cases hs : sg k with
      | some c =>
        rw [hs] at hc
        have HB : Hid ((sg k).isNone = false) := by rw [hs]; rfl
        replace hc : wr.cell? ⟨st, 1 + k, none⟩ = some (.pointer (some ⟨c.g, 0, none⟩)) := hc
        have heq := eql_nil_ptr wr ⟨c.g, 0, none⟩
        clear hs
        go_wp2
        go_roundg g1
        case measure => omega
        case rel => exact ⟨⟨k + 1, by omega, by go_num, fun i hi => by
          by_cases e : i = k
          · rw [e]; exact HB.out
          · exact HK.out i (by omega)⟩, rfl⟩
      | none =>
        rw [hs] at hc
        have HB : Hid ((sg k).isNone = true) := by rw [hs]; rfl
        replace hc : wr.cell? ⟨st, 1 + k, none⟩ = some (.pointer none) := hc
        clear hs
        go_wp2
        go_ret
        refine ⟨?_, rfl⟩
        rw [← HZ.out, lowC_is sg k (by omega) HK.out (fun _ => HB.out), if_pos (by omega)]; rfl
/- the segment of a number, if there is one -/
def pickF {α : Type} (L : Nat → Option α) (id : Int) : Option α := if 0 ≤ id ∧ id < 64 then L id.toNat else none
theorem pickF_nat {α : Type} (L : Nat → Option α) (i : Nat) (h : i < 64) : pickF L (i : Int) = L i := by unfold pickF; rw [if_pos (by omega)]; rfl
theorem View.pick {L : Nat → Option (List UInt8)} (V : View bs sg L) (id : Int) : pickF L id = (pickF sg id).map fun c => cont bs c.pgs c.size := by
  unfold pickF; split
  · exact V _
  · rfl
theorem pickF_some {α : Type} {L : Nat → Option α} {id : Int} {c : α} (h : pickF L id = some c) : ∃ i : Nat, id = (i : Int) ∧ i < 64 ∧ L i = some c := by
  unfold pickF at h; split at h
  · exact ⟨id.toNat, by omega, by omega, h⟩
  · cases h
set_option maxRecDepth 20000 in
set_option maxHeartbeats 800000 in
theorem find_no (id : Int) (w : World) (x : StAt w B st m a b n gl bs sg) (hn : pickF sg id = none) :
    Calls Tryd.prog 29 #[.pointer (some ⟨st, 0, none⟩), .int .i64 id] w fun e w' => e = .returned (.tuple #[.pointer none, errV 12]) ∧ w' = w := by
  unfold errV
  by_cases h0 : 0 ≤ id
  · by_cases h1 : id < 64
    · obtain ⟨j, rfl⟩ := Int.eq_ofNat_of_zero_le h0
      have hc := x.ci j (by omega)
      rw [pickF_nat _ _ (by omega)] at hn
      rw [hn] at hc
      replace hc : w.cell? ⟨st, 1 + j, none⟩ = some (.pointer none) := hc
      clear hn x
      go_enter Tryd.func29, Tryd.ntmps29
      go_wp2
      go_ret2
      exact ⟨rfl, rfl⟩
    · clear hn x
      go_enter Tryd.func29, Tryd.ntmps29
      go_wp2
      go_ret2
      exact ⟨rfl, rfl⟩
  · clear hn x
    go_enter Tryd.func29, Tryd.ntmps29
    go_wp2
    go_ret2
    exact ⟨rfl, rfl⟩
set_option maxRecDepth 20000 in
set_option maxHeartbeats 800000 in
theorem find_yes (i : Nat) (c : Cel) (w : World) (x : StAt w B st m a b n gl bs sg) (hi : sg i = some c) :
    Calls Tryd.prog 29 #[.pointer (some ⟨st, 0, none⟩), .int .i64 (i : Int)] w fun e w' => e = .returned (.tuple #[.pointer (some ⟨c.g, 0, none⟩), .nilIface]) ∧ w' = w := by
  have hl := x.good.top i c hi
  have hc := x.ci i hl
  rw [hi] at hc
  replace hc : w.cell? ⟨st, 1 + i, none⟩ = some (.pointer (some ⟨c.g, 0, none⟩)) := hc
  clear hi x
  go_enter Tryd.func29, Tryd.ntmps29
  go_wp2
  go_ret2
  exact ⟨rfl, rfl⟩
/- are so many bytes from a place on in a segment -/
def inS (size : Nat) (p l : Int) : Bool := decide (0 ≤ p ∧ 0 ≤ l ∧ l ≤ size - p)
set_option maxHeartbeats 800000 in
theorem piece_none (id p l : Int) (w : World) (x : StAt w B st m a b n gl bs sg) (hn : pickF sg id = none) :
    Calls Tryd.prog 23 #[.pointer (some ⟨st, 0, none⟩), .int .i64 id, .int .i64 p, .int .i64 l] w fun e w' => e = .returned (.tuple #[.pointer none, errV 12]) ∧ w' = w := by
  have H := hide x
  have HN := hide hn
  clear x hn
  unfold errV
  go_enter Tryd.func23, Tryd.ntmps23
  go_wp2_with fail
  refine (find_no id _ H.out HN.out).mono ?_; rintro e w1 ⟨rfl, rfl⟩
  unfold errV
  go_wp2
  go_ret2
  exact ⟨rfl, rfl⟩
set_option maxHeartbeats 800000 in
theorem piece_no (i : Nat) (c : Cel) (p l : Int) (w : World) (x : StAt w B st m a b n gl bs sg) (hi : sg i = some c) (hp : -9223372036854775808 ≤ p ∧ p ≤ 9223372036854775807) (hn : inS c.size p l = false) :
    Calls Tryd.prog 23 #[.pointer (some ⟨st, 0, none⟩), .int .i64 (i : Int), .int .i64 p, .int .i64 l] w fun e w' => e = .returned (.tuple #[.pointer none, errV 13]) ∧ w' = w := by
  have H := hide x
  have HI := hide hi
  have c0 := (x.cel i c hi).c0
  have hm := x.good.most i c hi
  obtain ⟨z, hz⟩ : ∃ z, c.size = z := ⟨_, rfl⟩
  rw [hz] at c0 hm hn
  clear x hi hz
  unfold inS at hn
  have hn := of_decide_eq_false hn
  unfold errV
  by_cases h0 : 0 ≤ p
  · by_cases h1 : 0 ≤ l
    · have h2 : ¬ (l ≤ (z : Int) - p) := by omega
      clear hn
      go_enter Tryd.func23, Tryd.ntmps23
      go_wp2_with fail
      refine (find_yes i c _ H.out HI.out).mono ?_; rintro e w1 ⟨rfl, rfl⟩
      go_wp2
      go_ret2
      exact ⟨rfl, rfl⟩
    · clear hn
      go_enter Tryd.func23, Tryd.ntmps23
      go_wp2_with fail
      refine (find_yes i c _ H.out HI.out).mono ?_; rintro e w1 ⟨rfl, rfl⟩
      go_wp2
      go_ret2
      exact ⟨rfl, rfl⟩
  · clear hn
    go_enter Tryd.func23, Tryd.ntmps23
    go_wp2_with fail
    refine (find_yes i c _ H.out HI.out).mono ?_; rintro e w1 ⟨rfl, rfl⟩
    go_wp2
    go_ret2
    exact ⟨rfl, rfl⟩
set_option maxHeartbeats 800000 in
theorem piece_yes (i : Nat) (c : Cel) (p l : Nat) (w : World) (x : StAt w B st m a b n gl bs sg) (hi : sg i = some c) (hn : p + l ≤ c.size) :
    Calls Tryd.prog 23 #[.pointer (some ⟨st, 0, none⟩), .int .i64 (i : Int), .int .i64 (p : Int), .int .i64 (l : Int)] w fun e w' => e = .returned (.tuple #[.pointer (some ⟨c.g, 0, none⟩), .nilIface]) ∧ w' = w := by
  have H := hide x
  have HI := hide hi
  have c0 := (x.cel i c hi).c0
  have hm := x.good.most i c hi
  obtain ⟨z, hz⟩ : ∃ z, c.size = z := ⟨_, rfl⟩
  rw [hz] at c0 hm hn
  clear x hi hz
  have h2 : ¬ ((z : Int) - (p : Int) < (l : Int)) := by omega
  go_enter Tryd.func23, Tryd.ntmps23
  go_wp2_with fail
  refine (find_yes i c _ H.out HI.out).mono ?_; rintro e w1 ⟨rfl, rfl⟩
  go_wp2
  go_ret2
  exact ⟨rfl, rfl⟩
set_option maxHeartbeats 800000 in
theorem sleft_at (w : World) (x : StAt w B st m a b n gl bs sg) :
    Calls Tryd.prog 10 #[.pointer (some ⟨st, 0, none⟩)] w fun e w' => e = .returned (.int .i64 (leftF gl : Int)) ∧ w' = w := by
  have H := hide x
  have c0 := x.c0
  clear x
  obtain ⟨z, hz⟩ : ∃ z, leftF gl = z := ⟨_, rfl⟩
  rw [hz]
  have HZ := hide hz
  clear hz
  go_enter Tryd.func10, Tryd.ntmps10
  go_wp2_with fail
  refine (left_any m a b n gl bs _ H.out.mem).mono ?_; rintro e w1 ⟨rfl, rfl⟩
  rw [HZ.out]
  go_wp2
  go_ret
  exact ⟨rfl, rfl⟩
theorem sleft_any {L : Nat → Option (List UInt8)} (w : World) (x : St w B st n L) :
    Calls Tryd.prog 10 #[.pointer (some ⟨st, 0, none⟩)] w fun e w' => e = .returned (.int .i64 (leftL n L : Int)) ∧ w' = w := by
  obtain ⟨m, a, b, gl, bs, sg, x, v⟩ := x
  have := sleft_at w x
  rw [v.left x.good] at this
  exact this
/- no error, or one -/
def erS (e : Int) : Value := if e = 0 then .nilIface else errV e
theorem erS_zero : erS 0 = .nilIface := rfl
/- what Size answers -/
def sizeE (L : Nat → Option (List UInt8)) (id : Int) : Int := match pickF L id with | none => 12 | some _ => 0
def sizeN (L : Nat → Option (List UInt8)) (id : Int) : Nat := match pickF L id with | none => 0 | some l => l.length
set_option maxHeartbeats 800000 in
theorem ssize_no {L : Nat → Option (List UInt8)} (id : Int) (w : World) (x : St w B st n L) (hn : pickF L id = none) :
    Calls Tryd.prog 17 #[.pointer (some ⟨st, 0, none⟩), .int .i64 id] w fun e w' => e = .returned (.tuple #[.int .i64 0, errV 12]) ∧ w' = w := by
  obtain ⟨m, a, b, gl, bs, sg, x, v⟩ := x
  have H := hide x
  have HN : Hid (pickF sg id = none) := by rw [v.pick] at hn; exact Option.map_eq_none_iff.1 hn
  clear x hn v
  unfold errV
  go_enter Tryd.func17, Tryd.ntmps17
  go_wp2_with fail
  refine (find_no id _ H.out HN.out).mono ?_; rintro e w1 ⟨rfl, rfl⟩
  unfold errV
  go_wp2
  go_ret2
  exact ⟨rfl, rfl⟩
set_option maxHeartbeats 800000 in
theorem ssize_yes {L : Nat → Option (List UInt8)} (i : Nat) (l : List UInt8) (w : World) (x : St w B st n L) (hi : L i = some l) :
    Calls Tryd.prog 17 #[.pointer (some ⟨st, 0, none⟩), .int .i64 (i : Int)] w fun e w' => e = .returned (.tuple #[.int .i64 (l.length : Int), .nilIface]) ∧ w' = w := by
  obtain ⟨m, a, b, gl, bs, sg, x, v⟩ := x
  rw [v i] at hi
  obtain ⟨c, hc, rfl⟩ := Option.map_eq_some_iff.1 hi
  rw [cont_len]
  have H := hide x
  have HI := hide hc
  have c0 := (x.cel i c hc).c0
  obtain ⟨z, hz⟩ : ∃ z, c.size = z := ⟨_, rfl⟩
  rw [hz] at c0 ⊢
  clear x hi v hc hz
  go_enter Tryd.func17, Tryd.ntmps17
  go_wp2_with fail
  refine (find_yes i c _ H.out HI.out).mono ?_; rintro e w1 ⟨rfl, rfl⟩
  go_wp2
  go_ret2
  exact ⟨rfl, rfl⟩
end Go.Proofs.YtppdammgmnihgaaDoor
