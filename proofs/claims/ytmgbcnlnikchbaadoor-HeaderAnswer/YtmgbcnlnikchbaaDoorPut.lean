/-
  What Put answers, as a contract: new memory that holds what it should; what became of the world.
-/
import Derived.Test.YtmgbcnlnikchbaaDoorRows
import Derived.Test.YtmgbcnlnikchbaaDoorReads
import Derived.WalkKit
import Derived.WalkSpells
import Derived.WalkLawsBesides
import Derived.Deep.QuietTactic
import Derived.BigQuiet
namespace Go.Proofs.YtmgbcnlnikchbaaDoor
open Go.RowKit
theorem Tryd.info5 : (Tryd.prog.info? 5).map (fun i => (i.zero, i.size, i.bytes)) = some (some (.int .u8 0), 1, 1) := by kernel_rfl
def cellsB (l : List UInt8) : List Value := l.map fun c => Value.int .u8 (c.toNat : Int)
theorem cellsB_len (l : List UInt8) : (cellsB l).length = l.length := by simp [cellsB]
theorem cellsB_append (l r : List UInt8) : cellsB (l ++ r) = cellsB l ++ cellsB r := by simp [cellsB]
theorem cellsB_get (l : List UInt8) (j : Nat) (h : j < l.length) : (cellsB l)[j]? = some (.int .u8 (bt l j)) := by
  simp [cellsB, bt, List.getElem?_eq_getElem h, List.getD_eq_getElem?_getD]
theorem cellsB_one (l : List UInt8) : ∀ u ∈ cellsB l, u.oneCell' = true := by
  intro u hu; simp only [cellsB, List.mem_map] at hu; obtain ⟨c, _, rfl⟩ := hu; rfl
theorem Bts.news {w : World} {ao : Option Addr} {n cap : Nat} {l : List UInt8} (h : Bts w ao n cap l) : ∀ ad, ao = some ad → ∀ j u, (cellsB l)[j]? = some u → w.cell? (ad.add j) = some u := by
  intro ad e j u hj
  have hlt : j < l.length := by have := (List.getElem?_eq_some_iff.1 hj).1; rw [cellsB_len] at this; exact this
  rw [cellsB_get l j hlt] at hj; rw [h.2.2.2.2 ad e j hlt, hj]
theorem Bts.none {w : World} {ao : Option Addr} {n cap : Nat} {l : List UInt8} (h : Bts w ao n cap l) : ao = none → n = 0 ∧ cap = 0 := by
  intro e; have := h.2.2.2.1 e; have := h.2.1; omega
theorem addr0 (g j : Nat) : Addr.add ⟨g, 0, none⟩ j = ⟨g, j, none⟩ := by unfold Addr.add; simp; exact fun h => h.symm
theorem owns_bts {w : World} {base : Nat} {v : Value} {n : Nat} {l : List UInt8} (h : w.ownsRow base 5 1 v n (cellsB l)) : ∃ ao cap, v = .slice ao n cap ∧ Bts w ao n cap l := by
  have hl := h.1; rw [cellsB_len] at hl
  rcases h.2 with ⟨rfl, rfl⟩ | ⟨g, cap, cur, rfl, _, _, hc, hm, _, _⟩
  · refine ⟨none, 0, rfl, by omega, Nat.le_refl _, by decide, fun _ => rfl, fun ad e => by cases e⟩
  · refine ⟨some ⟨g, 0, none⟩, cap, rfl, by omega, hc, hm, (fun e => by cases e), fun ad e j hj => ?_⟩
    obtain rfl := Option.some.inj e
    have := h.cellAt j (by omega)
    rw [cellsB_get l j hj] at this
    rw [addr0]; exact this
def PutRel (w : World) (n m v : Nat) (l : List UInt8) (x i : Value) (wr : World) : Prop :=
  ∃ d, d ≤ m ∧ i = .int .i64 ((d : Int) - 1) ∧ x = .slice (some ⟨w.heap.size, 0, none⟩) (n + (m - d)) (n + m) ∧
    Hid (wr.ownsRow w.heap.size 5 1 (.slice (some ⟨w.heap.size, 0, none⟩) (n + (m - d)) (n + m)) (n + (m - d)) (cellsB (l ++ putP v m (m - d)))) ∧ Hid (Below w.heap.size w wr)
theorem cell_new (wr : World) (x : Value) (t : TypeId) : ∀ j u, [x][j]? = some u → (wr.alloc (.cells #[x] t)).cell? (Addr.add ⟨wr.heap.size, 0, none⟩ j) = some u := by
  intro j u hj
  have h0 : j = 0 := by have := (List.getElem?_eq_some_iff.1 hj).1; simpa using this
  subst h0
  simp at hj; subst hj; simp [Addr.add]
theorem one_new {k : IntKind} (x : Int) : ∀ u ∈ [Value.int k x], u.oneCell' = true := by intro u hu; simp at hu; subst hu; rfl
theorem byte_of (v d : Nat) : (v : Int) / 2 ^ (8 * d) % 256 = ((UInt8.ofNat (v / 256 ^ d)).toNat : Int) := by
  rw [ofNat_toNat, show (256 : Nat) ^ d = 2 ^ (8 * d) from by rw [Nat.pow_mul], show (2 : Int) ^ (8 * d) = ((2 ^ (8 * d) : Nat) : Int) from by rw [Int.natCast_pow]; rfl, ← Int.natCast_ediv]
  generalize v / 2 ^ (8 * d) = x
  omega
theorem put_step (v m d n : Nat) (l : List UInt8) (h : d + 1 ≤ m) : n + (m - (d + 1)) + 1 = n + (m - d) ∧ cellsB (l ++ putP v m (m - (d + 1))) ++ [.int .u8 ((v : Int) / 2 ^ (8 * d) % 256)] = cellsB (l ++ putP v m (m - d)) := by
  refine ⟨by omega, ?_⟩
  rw [byte_of, show m - d = (m - (d + 1)) + 1 from by omega, putP_succ, ← List.append_assoc, cellsB_append (l ++ _), show m - 1 - (m - (d + 1)) = d from by omega]
  rfl
set_option maxHeartbeats 800000 in
theorem put_yes (ao : Option Addr) (n cap v m : Nat) (l : List UInt8) (w : World) (hb : Bts w ao n cap l) (hr : n ≤ 140737488421888) (h1 : 1 ≤ m) (h8 : m ≤ 8) (_hv : v ≤ 18446744073709551615) :
    Calls Tryd.prog 15 #[.slice ao n cap, .int .u64 v, .int .i64 m] w fun e w' => e = .returned (.slice (some ⟨w.heap.size, 0, none⟩) (n + m) (n + m)) ∧
      w'.ownsRow w.heap.size 5 1 (.slice (some ⟨w.heap.size, 0, none⟩) (n + m) (n + m)) (n + m) (cellsB (l ++ putF v m)) ∧ Below w.heap.size w w' := by
  have HB : Hid (Bts w ao n cap l) := hb
  clear hb
  have HD : Hid (decide (1 ≤ (m : Int) ∧ (m : Int) ≤ 8) = true) := decide_eq_true (by omega)
  obtain ⟨i0, hi, hz0, hz1, hz2⟩ := info_parts Tryd.info5
  have hcm : cap ≤ 9223372036854775807 := HB.out.2.2.1
  go_enter Tryd.func15, Tryd.ntmps15
  go_wp2_with fail
  refine (width_any _ _).mono ?_; rintro e w1 ⟨rfl, rfl⟩
  rw [HD.out]
  go_wp2_with (at_make; refine wpList_make_own _ rfl _ _ 27 rfl w1.heap.size 5 i0 (.int .u8 0) 1 Tryd.underlying27 hi hz0 hz1 _ _ _ (n + m) rfl rfl (by omega) ?b2 ?b3 (Nat.le_refl _) ?_)
  case b2 => rw [hz2]; omega
  case b3 => unfold maxLen; omega
  intro w2 hown2 hgrow2
  have bel2 : Below w1.heap.size w1 w2 := (Below.refl _ _).grown hgrow2 (Nat.le_refl _) (fun k e => by cases e)
  have HB2 : Hid (Bts w2 ao n cap l) := HB.out.carry bel2
  go_wp2_with (at_builtin; refine wpList_append_fits_any _ rfl _ _ 27 rfl w1.heap.size 5 i0 1 Tryd.underlying27 hi hz1 w1.heap.size 0 (n + m) [] rfl hown2 ao n cap (cellsB l) rfl (by rw [cellsB_len]; have := HB.out.1; omega) HB2.out.none HB2.out.news (cellsB_one l) (by omega) ?_)
  intro w3 hown3 hgrow3
  have bel3 : Below w1.heap.size w1 w3 := bel2.grown hgrow3 bel2.size (fun k e => by cases e; exact Nat.le_refl _)
  go_wp2
  clear hown2 hgrow2 hgrow3 HB2
  go_loopw [7, 8] (fun x i wr => PutRel w1 n m v l x i wr) (fun _ i _ => (intOf i + 1).toNat)
  case atStart => exact ⟨m, Nat.le_refl _, rfl, by rw [Nat.sub_self]; rfl, by rw [Nat.sub_self]; simp only [putP, List.range_zero, List.map_nil, List.append_nil]; exact hown3, bel3⟩
  case round =>
    obtain ⟨d, hd, rfl, rfl, HO, HL⟩ := hrel
    cases d with
    | zero =>
      go_wp2
      go_ret
      exact ⟨rfl, HO.out, HL.out⟩
    | succ d =>
      rw [show ((d + 1 : Nat) : Int) - 1 = (d : Int) from by omega]
      have hst := put_step v m d n l hd
      have HE1 : Hid _ := hst.1
      have HE2 : Hid _ := hst.2
      clear hst
      have hown := HO.out
      have hsz := HL.out.size
      go_wp2_with (at_builtin; refine wpList_append_fits _ rfl _ _ 27 rfl w1.heap.size 5 i0 1 Tryd.underlying27 hi hz1 w1.heap.size (n + (m - (d + 1))) (n + m) _ rfl (hown.alloc _) ⟨wr.heap.size, 0, none⟩ 1 1 [.int .u8 ((v : Int) / 2 ^ (8 * d) % 256)] rfl rfl (cell_new _ _ _) (one_new _) (by omega) ?_)
      intro w4 hown4 hgrow4
      have bel4 : Below w1.heap.size w1 w4 := (HL.out.alloc hsz _).grown hgrow4 (by have := (below_alloc wr (Obj.cells #[.int .u8 ((v : Int) / 2 ^ (8 * d) % 256)] 5)).size; omega) (fun k e => by cases e; exact Nat.le_refl _)
      rw [HE2.out] at hown4
      have HO4 : Hid _ := hown4
      have HL4 : Hid (Below w1.heap.size w1 w4) := bel4
      clear hown4 hgrow4 bel4 hown
      go_wp2
      go_roundw
      case rel => exact ⟨d, by omega, rfl, by rw [HE1.out], by rw [← HE1.out]; exact HO4.out, HL4⟩
      case measure => simp [intOf]
end Go.Proofs.YtmgbcnlnikchbaaDoor
