/-
  What Rows answers, as a contract: the capabilities whose bytes stand one behind the other; nothing, if the last one is cut.
-/
import Derived.Test.YtmbjgndajlomnaaLists
namespace Go.Proofs.Ytmbjgndajlomnaa
open Go.RowKit
theorem Bts.add {w : World} {ad : Addr} {n cap : Nat} {l : List UInt8} (h : Bts w (some ad) n cap l) (p q : Nat) (hq : q ≤ n - p) : Bts w (some (ad.add p)) q (cap - p) ((l.drop p).take q) := by
  obtain ⟨h1, h2, h3, h4, h5⟩ := h
  have hlen : ((l.drop p).take q).length = q := by rw [List.length_take, List.length_drop]; omega
  refine ⟨hlen.symm, by omega, by omega, (fun e => by cases e), fun a e j hj => ?_⟩
  obtain rfl := Option.some.inj e
  rw [hlen] at hj
  rw [Addr.add_add, h5 ad rfl (p + j) (by omega)]
  have hg : ((l.drop p).take q).getD j 0 = l.getD (p + j) 0 := by
    simp only [List.getD_eq_getElem?_getD]; rw [List.getElem?_take, if_pos hj, List.getElem?_drop]
  unfold bt; rw [hg]
/- the capability of 16 bytes, and those of the first k times 16 -/
def decF (l : List UInt8) : Cp := ⟨numF ((l.drop 0).take 6), numF ((l.drop 6).take 3), numF ((l.drop 9).take 1), numF ((l.drop 10).take 6)⟩
def decsF (l : List UInt8) : Nat → List Cp
  | 0 => []
  | k + 1 => decsF l k ++ [decF ((l.drop (k * 16)).take 16)]
theorem decsF_len (l : List UInt8) (k : Nat) : (decsF l k).length = k := by
  induction k with
  | zero => rfl
  | succ k ih => simp [decsF, ih]
theorem decF_ok (l : List UInt8) : (decF l).ok := by
  refine ⟨?_, ?_, ?_, ?_⟩
  · have := num6 l 0; show numF _ ≤ _; omega
  · have := num3 l 6; show numF _ ≤ _; omega
  · exact num1 l 9
  · have := num6 l 10; show numF _ ≤ _; omega
theorem decsF_ok (l : List UInt8) (k : Nat) : ∀ x ∈ decsF l k, x.ok := by
  induction k with
  | zero => intro x hx; cases hx
  | succ k ih =>
    intro x hx
    simp only [decsF, List.mem_append, List.mem_singleton] at hx
    rcases hx with hx | rfl
    · exact ih x hx
    · exact decF_ok _
theorem news_cells (w : World) (x : Cp) (g : Nat) (hg : w.heap.size = g) : ∀ j u, x.cells[j]? = some u → (w.alloc (.cells #[.int .u64 x.p, .int .u32 x.o, .int .u8 x.r, .int .u64 x.c] 25)).cell? ((⟨g, 0, none⟩ : Addr).add j) = some u := by
  subst hg
  exact World.news_of_block (cs := #[.int .u64 x.p, .int .u32 x.o, .int .u8 x.r, .int .u64 x.c]) (t := 25) (fr := (0, 0)) (heap_alloc_new _ _)
theorem cells_one (x : Cp) : ∀ u ∈ x.cells, u.oneCell' = true := by
  intro u hu
  simp only [Cp.cells, List.mem_cons, List.not_mem_nil, or_false] at hu
  rcases hu with rfl | rfl | rfl | rfl <;> rfl
def RowsRel (w : World) (m : Nat) (l : List UInt8) (x4 x5 : Value) (wr : World) : Prop :=
  ∃ k : Nat, k ≤ m ∧ x5 = .int .i64 ((k : Int) * 16) ∧ x4 = .slice (some ⟨w.heap.size, 0, none⟩) k m ∧
    Hid (wr.ownsRow w.heap.size 25 4 (.slice (some ⟨w.heap.size, 0, none⟩) k m) k (cellsC (decsF l k))) ∧ Hid (Below w.heap.size w wr)
theorem rows_no (ao : Option Addr) (n cap : Nat) (w : World) (hn : n ≤ 9223372036854775807) (hne : n % 16 ≠ 0) :
    Calls Try.prog 18 #[.slice ao n cap] w fun e w' => e = .returned (.tuple #[.slice none 0 0, .bool false]) ∧ w' = w := by
  have h1 : ¬ (n : Int) % 16 = 0 := by omega
  go_enter Try.func18, Try.ntmps18
  go_wp2
  go_ret2
  exact ⟨rfl, rfl⟩
set_option maxHeartbeats 1600000 in
theorem rows_yes (ao : Option Addr) (n cap m : Nat) (l : List UInt8) (w : World) (hb : Bts w ao n cap l) (hm : n = m * 16) (hr : n ≤ 140737488355328) :
    Calls Try.prog 18 #[.slice ao n cap] w fun e w' => ∃ g mc, e = .returned (.tuple #[.slice (some ⟨g, 0, none⟩) m mc, .bool true]) ∧ Caps w' (some ⟨g, 0, none⟩) m mc (decsF l m) ∧ Below w.heap.size w w' := by
  have HB : Hid (Bts w ao n cap l) := hb
  have hcm : cap ≤ 9223372036854775807 := hb.2.2.1
  have hnc : n ≤ cap := hb.2.1
  clear hb
  subst hm
  obtain ⟨i0, hi, hz0, hz1, hz2⟩ := info_parts Try.info25
  have h0 : ((m * 16 : Nat) : Int) % 16 = 0 := by omega
  have h1 : ((m * 16 : Nat) : Int) / 16 = (m : Int) := by omega
  go_enter Try.func18, Try.ntmps18
  go_wp2_with (at_make; refine wpList_make_own _ rfl _ _ 35 rfl w.heap.size 25 i0 _ 4 Try.underlying35 hi hz0 hz1 _ _ _ m rfl rfl (by omega) ?b2 ?b3 (Nat.le_refl _) ?_)
  case b2 => rw [hz2]; omega
  case b3 => unfold maxLen; omega
  intro w2 hown2 hgrow2
  have bel2 : Below w.heap.size w w2 := (Below.refl _ _).grown hgrow2 (Nat.le_refl _) (fun k e => by cases e)
  have HO2 : Hid (w2.ownsRow w.heap.size 25 4 (.slice (some ⟨w.heap.size, 0, none⟩) 0 m) 0 []) := hown2
  clear hown2 hgrow2
  go_wp2
  go_loopw [4, 5] (fun x i wr => RowsRel w m l x i wr) (fun _ i _ => m * 16 - (intOf i).toNat)
  case atStart => exact ⟨0, Nat.zero_le _, by simp, rfl, HO2.out, bel2⟩
  case round =>
    obtain ⟨k, hk, rfl, rfl, HO, HL⟩ := hrel
    have HBr : Hid (Bts wr ao (m * 16) cap l) := HB.out.carry HL.out
    by_cases hkm : k < m
    · cases ao with
      | none => have := HB.out.none rfl; omega
      | some ad =>
        have HD : Hid (Bts wr (some (ad.add (k * 16))) 16 (cap - k * 16) ((l.drop (k * 16)).take 16)) := HBr.out.add (k * 16) 16 (by omega)
        have HS : Hid (decsF l (k + 1) = decsF l k ++ [decF ((l.drop (k * 16)).take 16)]) := rfl
        generalize hl : (l.drop (k * 16)).take 16 = l' at HD HS
        clear hl
        obtain ⟨p, o, r, c, hx⟩ : ∃ p o r c, decF l' = ⟨p, o, r, c⟩ := ⟨_, _, _, _, rfl⟩
        have E1 : Hid (numF ((l'.drop 0).take 6) = p) := congrArg Cp.p hx
        have E2 : Hid (numF ((l'.drop 6).take 3) = o) := congrArg Cp.o hx
        have E3 : Hid (numF ((l'.drop 9).take 1) = r) := congrArg Cp.r hx
        have E4 : Hid (numF ((l'.drop 10).take 6) = c) := congrArg Cp.c hx
        rw [hx] at HS
        clear hx
        go_wp2_with fail
        refine (decode_yes _ _ _ _ HD.out p o r c E1.out E2.out E3.out E4.out).mono ?_; rintro e w3 ⟨rfl, bel3⟩
        have HL3 : Hid (Below w.heap.size w w3) := below_one HL.out bel3
        have HO3 : Hid (w3.ownsRow w.heap.size 25 4 (.slice (some ⟨w.heap.size, 0, none⟩) k m) k (cellsC (decsF l k))) := owns_carry HO.out bel3
        clear bel3 HL HO HD HBr
        go_wp2_with (at_builtin; refine wpList_append_fits _ rfl _ _ 35 rfl w.heap.size 25 i0 4 Try.underlying35 hi hz1 w.heap.size k m _ rfl ((HO3.out.alloc _).alloc _) ⟨w3.heap.size + 1, 0, none⟩ 1 1 (Cp.cells ⟨p, o, r, c⟩) rfl rfl ?c1 ?c2 (by omega) ?_)
        case c1 => exact news_cells _ _ _ (by simp)
        case c2 => exact cells_one _
        intro w4 hown4 hgrow4
        have HL4 : Hid (Below w.heap.size w w4) := ((HL3.out.alloc HL3.out.size _).alloc (HL3.out.alloc HL3.out.size _).size _).grown hgrow4 ((HL3.out.alloc HL3.out.size _).alloc (HL3.out.alloc HL3.out.size _).size _).size (fun k e => by cases e; exact Nat.le_refl _)
        have HO4 : Hid (w4.ownsRow w.heap.size 25 4 (.slice (some ⟨w.heap.size, 0, none⟩) (k + 1) m) (k + 1) (cellsC (decsF l (k + 1)))) := by rw [HS.out, cellsC_snoc]; exact hown4
        clear hown4 hgrow4 HO3 HL3
        go_wp2
        go_roundw
        case rel => exact ⟨k + 1, by omega, by go_num, rfl, HO4, HL4⟩
        case measure => simp [intOf]; omega
    · obtain rfl : k = m := by omega
      go_wp2
      go_ret2
      obtain ⟨ao', cap', e, hc⟩ := owns_caps HO.out (decsF_ok l k)
      obtain ⟨rfl, _, rfl⟩ := Value.slice.inj e
      exact ⟨_, _, rfl, hc, HL.out⟩
end Go.Proofs.Ytmbjgndajlomnaa
