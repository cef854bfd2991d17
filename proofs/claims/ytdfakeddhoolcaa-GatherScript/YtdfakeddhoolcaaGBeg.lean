/-
  A gather's room for a message that begins, as a contract.
-/
import Derived.Test.YtdfakeddhoolcaaGFind
namespace Go.Proofs.Ytdfakeddhoolcaa
open Go.RowKit
variable {w w' : World} {g : Nat} {bo : Option Addr} {bc : Nat} {Ms : List Mg}
def stayM (Ms : List Mg) : List Mg := if 16 ≤ Ms.length then Ms.drop 1 else Ms
def GtEnd (w : World) (g : Nat) (bo : Option Addr) (Ms : List Mg) (ao : Option Addr) (c : Nat) (Ns : List Mg) (w' : World) : Prop :=
  Gt w' g ao c Ns ∧ Foot (· = g) w w' ∧ ∀ S : Nat → Prop, FarG S bo Ms → (∀ k, S k → k < w.heap.size) → FarG S ao Ns
def BegEnd (w : World) (g : Nat) (bo : Option Addr) (Ms : List Mg) (e : Ending) (w' : World) : Prop :=
  ∃ ao c, e = .returned (.int .i64 ((stayM Ms).length : Int)) ∧ GtEnd w g bo Ms ao c (stayM Ms ++ [Mg.zero]) w'
/- a new row of messages, old ones and such as lie in new memory -/
theorem gt_end (x : Gt w g bo bc Ms) {w5 : World} {ao : Option Addr} {n c : Nat} {Ns : List Mg} (hA : Lies 1 w5 ao n c (cellsM Ns)) (b : Below w.heap.size w w5) (hn : New w ao) (hN : ∀ m ∈ Ns, Pks w5 m.a m.n m.c m.L) (hF : ∀ S : Nat → Prop, FarG S bo Ms → (∀ k, S k → k < w.heap.size) → ∀ m ∈ Ns, FarK S m.a m.n m.L) :
    GtEnd w g bo Ms ao c Ns (w5.setCell ⟨g, 0, none⟩ (.slice ao n c)) := by
  have hg : ∀ k, k = g → k < w.heap.size := fun k e => by rw [e]; exact x.lt
  exact ⟨(x.grow b).put hA hN ⟨OffO.new hn hg, hF _ x.far hg⟩, (below_foot _ b).then (foot_set w5 ⟨g, 0, none⟩ _), fun S h1 h2 => ⟨OffO.new hn h2, hF S h1 h2⟩⟩
theorem beg_end (x : Gt w g bo bc Ms) {Ns : List Mg} (hs : ∀ m ∈ Ns, m ∈ Ms) {w5 : World} {ao : Option Addr} {n c : Nat} (hA : Lies 1 w5 ao n c (cellsM (Ns ++ [Mg.zero]))) (b : Below w.heap.size w w5) (hn : New w ao) : GtEnd w g bo Ms ao c (Ns ++ [Mg.zero]) (w5.setCell ⟨g, 0, none⟩ (.slice ao n c)) := by
  refine gt_end x hA b hn (fun m hm => ?_) (fun S h1 h2 m hm => ?_)
  · rcases List.mem_append.1 hm with hm | hm
    · exact (x.has m (hs m hm)).carry b
    · rw [List.mem_singleton.1 hm]; exact pks_nil _
  · rcases List.mem_append.1 hm with hm | hm
    · exact h1.2 m (hs m hm)
    · rw [List.mem_singleton.1 hm]; exact ⟨(fun h => by cases h), fun _ h => by cases h⟩
set_option maxRecDepth 20000 in
set_option maxHeartbeats 1600000 in
theorem begin_any (w : World) (x : Gt w g bo bc Ms) (h16 : Ms.length ≤ 16) :
    Calls Try.prog 15 #[.pointer (some ⟨g, 0, none⟩)] w fun e w' => BegEnd w g bo Ms e w' := by
  have HX := hide x
  have c := x.c0
  have hcap : bc ≤ 9223372036854775807 := x.row.2.2.1
  have hnc := x.row.2.1
  by_cases h : 16 ≤ Ms.length
  · have HNS2 : Hid (stayM Ms = Ms.drop 1) := by show _ = _; unfold stayM; rw [if_pos h]
    have hRW := x.row.tail 1 (by omega)
    have hcut := fun W : World => cutG_tail Try.underlying25 Try.sizeOfM W bo Ms.length bc 1 (by omega)
    rw [Int.natCast_one] at hcut
    obtain ⟨n, hn⟩ : ∃ n, Ms.length = n := ⟨_, rfl⟩
    rw [hn] at c hcut hRW h h16 hnc
    have h1 : (16 : Int) ≤ (n : Int) := by omega
    obtain ⟨sa, hsa⟩ : ∃ a, tailG 1 bo 1 bc = a := ⟨_, rfl⟩
    obtain ⟨sn, hsn⟩ : ∃ a, n - 1 = a := ⟨_, rfl⟩
    obtain ⟨sc, hsc⟩ : ∃ a, bc - 1 = a := ⟨_, rfl⟩
    rw [hsa, hsn, hsc] at hcut hRW
    have HRW : Hid (Lies 1 w sa sn sc (cellsM (Ms.drop 1))) := by show Lies _ _ _ _ _ _; unfold cellsM; rw [List.map_drop]; exact hRW
    have HNS : Hid (∀ m ∈ Ms.drop 1, m ∈ Ms) := fun m hm => List.mem_of_mem_drop hm
    have hsm : sn ≤ 16 := by omega
    obtain ⟨Ns, hNs⟩ : ∃ Ns, Ms.drop 1 = Ns := ⟨_, rfl⟩
    rw [hNs] at HRW HNS HNS2
    have hscm : sc ≤ 9223372036854775807 := HRW.out.2.2.1
    have hsnc := HRW.out.2.1
    clear x hn hsa hsn hsc hNs hRW
    obtain ⟨ps, hps⟩ : ∃ ps : List Prt, [⟨sa, sn, sc, cellsM Ns⟩, ⟨some ⟨w.heap.size, 0, none⟩, 1, 1, [.slice none 0 0]⟩] = ps := ⟨_, rfl⟩
    obtain ⟨Y, hY⟩ : ∃ Y, w.alloc (.cells #[.slice none 0 0] 52) = Y := ⟨_, rfl⟩
    have bY : Below w.heap.size w Y := hY ▸ below_alloc w _
    have HPA : Hid (Parts 1 (Y.alloc (.cells #[.slice sa sn sc, .slice (some ⟨w.heap.size, 0, none⟩) 1 1] 25)) ⟨Y.heap.size, 0, none⟩ ps) := by
      have := parts_two (T := 25) (HRW.out.carry bY (Nat.le_refl _)) (hY ▸ lies_alloc (sz := 1) (n := 1) (X := w) (T := 52) (C := #[.slice none 0 0]) (cs := [.slice none 0 0]) rfl rfl (by omega)) (cellsM_one Ns) (by simp [Value.oneCell'])
      rw [← hps]; exact this
    have HL2 : Hid (ps.length = 2) := by show _ = _; rw [← hps]; rfl
    have HSU : Hid (sumN ps 2 = sn + 1) := by show _ = _; rw [← hps]; simp [sumN]
    have HF : Hid (flatV ps 2 = cellsM (Ns ++ [Mg.zero])) := by show _ = _; rw [← hps]; simp [flatV, cellsM, Mg.v, Mg.zero]
    have HBY := hide (below_one bY (below_alloc Y (.cells #[.slice sa sn sc, .slice (some ⟨w.heap.size, 0, none⟩) 1 1] 25)))
    clear hps bY
    go_enter Try.func15, Try.ntmps15
    go_wp2_with fail
    refine (concat_anyM _ 2 ps _ HL2.out (by omega) HPA.out (by rw [HSU.out]; omega)).mono ?_; rintro e w5 ⟨v5, rfl, ao5, c5, rfl, A5, b5, n5⟩
    rw [HF.out] at A5
    rw [HSU.out] at A5 ⊢
    have b6 := below_one HBY.out b5
    have d5 := (HX.out.grow b6).c0
    have z5 := (HX.out.grow b6).z
    have HEND := hide (beg_end HX.out HNS.out A5 b6 (New.le n5 HBY.out.size))
    have HLN2 : Hid (sn = Ns.length) := by show _ = _; have := HRW.out.1; rw [cellsM_len] at this; omega
    clear A5 b5 n5 b6
    go_wp2
    go_ret
    unfold BegEnd
    rw [HNS2.out]
    exact ⟨_, _, by rw [← HLN2.out]; rfl, HEND.out⟩
  · have HNS2 : Hid (stayM Ms = Ms) := by show _ = _; unfold stayM; rw [if_neg h]
    obtain ⟨sn, hsn⟩ : ∃ n, Ms.length = n := ⟨_, rfl⟩
    have HRW := hide x.row
    have HNS : Hid (∀ m ∈ Ms, m ∈ Ms) := fun m hm => hm
    rw [hsn] at c hnc h HRW
    have h1 : ¬ ((16 : Int) ≤ (sn : Int)) := by omega
    have HLN := hide hsn
    clear x hsn
    obtain ⟨ps, hps⟩ : ∃ ps : List Prt, [⟨bo, sn, bc, cellsM Ms⟩, ⟨some ⟨w.heap.size, 0, none⟩, 1, 1, [.slice none 0 0]⟩] = ps := ⟨_, rfl⟩
    obtain ⟨Y, hY⟩ : ∃ Y, w.alloc (.cells #[.slice none 0 0] 52) = Y := ⟨_, rfl⟩
    have bY : Below w.heap.size w Y := hY ▸ below_alloc w _
    have HPA : Hid (Parts 1 (Y.alloc (.cells #[.slice bo sn bc, .slice (some ⟨w.heap.size, 0, none⟩) 1 1] 25)) ⟨Y.heap.size, 0, none⟩ ps) := by
      have := parts_two (T := 25) (HRW.out.carry bY (Nat.le_refl _)) (hY ▸ lies_alloc (sz := 1) (n := 1) (X := w) (T := 52) (C := #[.slice none 0 0]) (cs := [.slice none 0 0]) rfl rfl (by omega)) (cellsM_one Ms) (by simp [Value.oneCell'])
      rw [← hps]; exact this
    have HL2 : Hid (ps.length = 2) := by show _ = _; rw [← hps]; rfl
    have HSU : Hid (sumN ps 2 = sn + 1) := by show _ = _; rw [← hps]; simp [sumN]
    have HF : Hid (flatV ps 2 = cellsM (Ms ++ [Mg.zero])) := by show _ = _; rw [← hps]; simp [flatV, cellsM, Mg.v, Mg.zero]
    have HBY := hide (below_one bY (below_alloc Y (.cells #[.slice bo sn bc, .slice (some ⟨w.heap.size, 0, none⟩) 1 1] 25)))
    clear hps bY
    go_enter Try.func15, Try.ntmps15
    go_wp2_with fail
    refine (concat_anyM _ 2 ps _ HL2.out (by omega) HPA.out (by rw [HSU.out]; omega)).mono ?_; rintro e w5 ⟨v5, rfl, ao5, c5, rfl, A5, b5, n5⟩
    rw [HF.out] at A5
    rw [HSU.out] at A5 ⊢
    have b6 := below_one HBY.out b5
    have d5 := (HX.out.grow b6).c0
    have z5 := (HX.out.grow b6).z
    have HEND := hide (beg_end HX.out HNS.out A5 b6 (New.le n5 HBY.out.size))
    have HLN2 : Hid (sn = Ms.length) := by show _ = _; have := HRW.out.1; rw [cellsM_len] at this; omega
    clear A5 b5 n5 b6
    go_wp2
    go_ret
    unfold BegEnd
    rw [HNS2.out]
    exact ⟨_, _, by rw [← HLN2.out]; rfl, HEND.out⟩
end Go.Proofs.Ytdfakeddhoolcaa
