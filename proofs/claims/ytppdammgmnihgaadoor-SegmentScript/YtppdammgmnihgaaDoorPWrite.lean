/-
  What Read and Write answer of a memory of pages, as contracts; what became of the world.
-/
import Derived.Test.YtppdammgmnihgaaDoorPDeeds
namespace Go.Proofs.YtppdammgmnihgaaDoor
open Go.RowKit
/- a piece of a page as a slice: where it begins -/
def cutA (b o p : Nat) : Addr := if p = 64 then ⟨b, o, none⟩ else ⟨b, o + p, none⟩
theorem Tryd.sizeByte (w : World) : (sizeOf 5).run Tryd.prog w = .ok 1 w := by kernel_rfl
theorem cut_lh (w : World) (b o p l : Nat) (h : p + l ≤ 64) : (Instr.sliceAt 80 (.pointer (some ⟨b, o, none⟩)) (some (.int .i64 (p : Int))) (some (.int .i64 ((p : Int) + (l : Int)))) none).run Tryd.prog w = .ok (.slice (some (cutA b o p)) l (64 - p)) w := by
  have ht : Tryd.prog.underlying 80 = some (.array (Tryd.prog.arrayLen 80) (Tryd.prog.elem 80)) := by simp [Program.arrayLen, Program.elem, Tryd.underlying80]
  have h64 : Tryd.prog.arrayLen 80 = 64 := by simp [Program.arrayLen, Tryd.underlying80]
  have he : Tryd.prog.elem 80 = 5 := by simp [Program.elem, Tryd.underlying80]
  rw [run_sliceAt_array_lh (P := Tryd.prog) w 80 ⟨b, o, none⟩ ht .i64 .i64 (p : Int) ((p : Int) + (l : Int)) (by omega) (by omega) (by rw [h64]; omega), he, Tryd.sizeByte]
  simp only [Result.andThen, slicedAt, h64, cutA, addN, Nat.mul_one, Int.toNat_natCast]
  rw [show ((p : Int) + (l : Int)).toNat = p + l by omega, show p + l - p = l by omega]
  by_cases e : p = 64
  · subst e; rfl
  · rw [if_neg (by omega), if_neg e]
theorem cut_l (w : World) (b o p : Nat) (h : p ≤ 64) : (Instr.sliceAt 80 (.pointer (some ⟨b, o, none⟩)) (some (.int .i64 (p : Int))) none none).run Tryd.prog w = .ok (.slice (some (cutA b o p)) (64 - p) (64 - p)) w := by
  have ht : Tryd.prog.underlying 80 = some (.array (Tryd.prog.arrayLen 80) (Tryd.prog.elem 80)) := by simp [Program.arrayLen, Program.elem, Tryd.underlying80]
  have h64 : Tryd.prog.arrayLen 80 = 64 := by simp [Program.arrayLen, Tryd.underlying80]
  have he : Tryd.prog.elem 80 = 5 := by simp [Program.elem, Tryd.underlying80]
  rw [run_sliceAt_array_l (P := Tryd.prog) w 80 ⟨b, o, none⟩ ht .i64 (p : Int) (by omega) (by rw [h64]; omega), he, Tryd.sizeByte]
  simp only [Result.andThen, slicedAt, h64, cutA, addN, Nat.mul_one, Int.toNat_natCast]
  by_cases e : p = 64
  · subst e; rfl
  · rw [if_neg (by omega), if_neg e]
theorem cut_bts {w : World} {b : Nat} {bs : List UInt8} (h : RowP w b bs) (k p l : Nat) (hk : k * 64 + 64 ≤ bs.length) (hl : p + l ≤ 64) : Bts w (some (cutA b (k * 64) p)) l (64 - p) (pieceF bs (k * 64 + p) l) := by
  unfold cutA
  by_cases e : p = 64
  · subst e
    obtain rfl : l = 0 := by omega
    rw [if_pos rfl]
    refine ⟨by simp [pieceF], by omega, by unfold maxLen; omega, (fun e => by cases e), fun ad e j hj => ?_⟩
    simp [pieceF] at hj
  · rw [if_neg e]
    exact h.piece (k * 64 + p) l (64 - p) (by omega) (by omega) (by unfold maxLen; omega)
theorem Tryd.oneByte : (Tryd.prog.info? 5).map (·.size) = some 1 := by kernel_rfl
theorem copy_page {w : World} {b : Nat} {bs : List UInt8} (h : RowP w b bs) (k p : Nat) (hk : k * 64 + 64 ≤ bs.length) {so : Option Addr} {sn sc : Nat} {l : List UInt8} (hb : Bts w so sn sc l) (hl : p + sn ≤ 64) :
    (Builtin.copy_ #[28, 28] 3 #[.slice (some (cutA b (k * 64) p)) (64 - p) (64 - p), .slice so sn sc]).run Tryd.prog w = .ok (goInt sn) (w.setRow b (cellsB (splice bs (k * 64 + p) l)).toArray) := by
  have hll := hb.1
  by_cases h0 : sn = 0
  · subst h0
    obtain rfl : l = [] := List.eq_nil_of_length_eq_zero hll.symm
    rw [splice_nil, setRow_self w b _ _ _ h]
    exact run_copy_none (P := Tryd.prog) w 28 28 3 5 _ _ _ _ _ _ Tryd.underlying28 Tryd.oneByte (Nat.zero_min _)
  · cases so with
    | none => have := hb.none rfl; omega
    | some ad =>
      have hc : cutA b (k * 64) p = ⟨b, k * 64 + p, none⟩ := by unfold cutA; rw [if_neg (by omega)]
      have hlen : (cellsB l).length = sn := by rw [cellsB_len]; exact hll.symm
      have := run_copy_row (P := Tryd.prog) w 28 28 3 5 b (k * 64 + p) (64 - p) (64 - p) ad sn sc (cellsB bs).toArray 80 (cellsB l) Tryd.underlying28 Tryd.oneByte h
        (by rw [hlen]; show sn = min sn (64 - p); omega) (hb.news ad rfl) (by rw [hlen]; simp [cellsB_len]; omega) (cellsB_one l)
      rw [hc, this, hlen, cellsB_splice, splice, hlen, List.append_assoc]
theorem hasF_is {gl : List Bool} {k : Nat} (hk : k < gl.length) (hg : gl.getD k true = true) : hasF gl (k : Int) = true := by rw [hasF_nat, decide_eq_true hk, hg]; rfl
theorem wrongV_has {gl : List Bool} {k : Int} (p l : Int) (h : hasF gl k = false) : wrongV gl k p l = errV 4 := by unfold wrongV; rw [h]; rfl
theorem wrongV_fits {gl : List Bool} {k p l : Int} (h : hasF gl k = true) (h2 : fitsF p l = false) : wrongV gl k p l = errV 13 := by unfold wrongV; rw [h, h2]; rfl
set_option maxHeartbeats 800000 in
theorem read_no (m a b n : Nat) (gl : List Bool) (bs : List UInt8) (k p l z : Int) (w : World) (M : MemAt w m a b n gl bs) (hp : -9223372036854775808 ≤ p ∧ p ≤ 9223372036854775807) (hw : wrongV gl k p l = errV z) :
    Calls Tryd.prog 25 #[.pointer (some ⟨m, 0, none⟩), .int .i64 k, .int .i64 p, .int .i64 l] w fun e w' => e = .returned (.tuple #[.slice none 0 0, errV z]) ∧ w' = w := by
  have H := hide M
  have HW := hide hw
  clear M hw
  unfold errV at *
  go_enter Tryd.func25, Tryd.ntmps25
  go_wp2_with fail
  refine (wrong_any m a b n gl bs k p l _ H.out hp).mono ?_; rintro e w1 ⟨rfl, rfl⟩
  rw [HW.out]
  go_wp2
  go_ret2
  exact ⟨rfl, rfl⟩
set_option maxHeartbeats 800000 in
theorem write_no (m a b n : Nat) (gl : List Bool) (bs : List UInt8) (k p z : Int) (so : Option Addr) (sn sc : Nat) (w : World) (M : MemAt w m a b n gl bs) (hp : -9223372036854775808 ≤ p ∧ p ≤ 9223372036854775807) (_hs : sn ≤ maxLen) (hw : wrongV gl k p (sn : Int) = errV z) :
    Calls Tryd.prog 28 #[.pointer (some ⟨m, 0, none⟩), .int .i64 k, .int .i64 p, .slice so sn sc] w fun e w' => e = .returned (errV z) ∧ w' = w := by
  have H := hide M
  have HW := hide hw
  unfold maxLen at _hs
  clear M hw
  unfold errV at *
  go_enter Tryd.func28, Tryd.ntmps28
  go_wp2_with fail
  refine (wrong_any m a b n gl bs k p sn _ H.out hp).mono ?_; rintro e w1 ⟨rfl, rfl⟩
  rw [HW.out]
  go_wp2
  go_ret
  exact ⟨rfl, rfl⟩
set_option maxHeartbeats 1600000 in
theorem read_yes (m a b n k p l : Nat) (gl : List Bool) (bs : List UInt8) (w : World) (M : MemAt w m a b n gl bs) (hk : k < n) (hg : gl.getD k true = true) (hl : p + l ≤ 64) :
    Calls Tryd.prog 25 #[.pointer (some ⟨m, 0, none⟩), .int .i64 (k : Int), .int .i64 (p : Int), .int .i64 (l : Int)] w fun e w' =>
      ∃ co cc, e = .returned (.tuple #[.slice co l cc, .nilIface]) ∧ Bts w' co l cc (pieceF bs (k * 64 + p) l) ∧ New w co ∧ Below w.heap.size w w' := by
  have H := hide M
  have c1 := M.c1
  have hn : n ≤ 4096 := M.few
  have HW := hide (show wrongV gl (k : Int) (p : Int) (l : Int) = .nilIface by
    unfold wrongV; rw [hasF_is (by rw [M.num]; exact hk) hg, show fitsF p l = true from decide_eq_true (by omega)]; rfl)
  have hbl : k * 64 + 64 ≤ bs.length := by have := M.len; omega
  have HL := hide hbl
  clear M hg hbl
  have hcut := cut_lh w b (k * 64) p l hl
  go_enter Tryd.func25, Tryd.ntmps25
  go_wp2_with fail
  refine (wrong_any m a b n gl bs _ _ _ _ H.out (by omega)).mono ?_; rintro e w1 ⟨rfl, rfl⟩
  rw [HW.out]
  go_wp2_with fail
  refine (clone_any _ _ _ _ _ (cut_bts H.out.byt k p l HL.out hl) (by omega)).mono ?_; rintro e w2 ⟨co, cc, rfl, hb2, hnew, bel⟩
  have HB := hide hb2
  have HN := hide hnew
  clear hb2 hnew
  go_wp2
  go_ret2
  exact ⟨co, cc, rfl, HB.out, HN.out, bel⟩
set_option maxHeartbeats 1600000 in
theorem write_yes (m a b n k p : Nat) (gl : List Bool) (bs : List UInt8) (so : Option Addr) (sn sc : Nat) (l : List UInt8) (w : World) (M : MemAt w m a b n gl bs) (hk : k < n) (hg : gl.getD k true = true) (hb : Bts w so sn sc l) (hl : p + sn ≤ 64) :
    Calls Tryd.prog 28 #[.pointer (some ⟨m, 0, none⟩), .int .i64 (k : Int), .int .i64 (p : Int), .slice so sn sc] w fun e w' =>
      e = .returned .nilIface ∧ MemAt w' m a b n gl (splice bs (k * 64 + p) l) ∧ Foot (MemS a b) w w' := by
  have H := hide M
  have HB := hide hb
  have c1 := M.c1
  have hn : n ≤ 4096 := M.few
  have HW := hide (show wrongV gl (k : Int) (p : Int) (sn : Int) = .nilIface by
    unfold wrongV; rw [hasF_is (by rw [M.num]; exact hk) hg, show fitsF p sn = true from decide_eq_true (by omega)]; rfl)
  have hbl : k * 64 + 64 ≤ bs.length := by have := M.len; omega
  have HL := hide hbl
  have HG := hide hg
  clear M hg hbl hb
  have hcut := cut_l w b (k * 64) p (by omega)
  have hsc : sn ≤ 9223372036854775807 := by omega
  have hcopy := copy_page H.out.byt k p HL.out HB.out hl
  obtain ⟨bs', hbs⟩ : ∃ x, splice bs (k * 64 + p) l = x := ⟨_, rfl⟩
  rw [hbs] at hcopy
  rw [hbs]
  have hll := HB.out.1
  have HM : Hid (MemAt (w.setRow b (cellsB bs').toArray) m a b n gl bs') :=
    H.out.lay bs' (by rw [← hbs, length_splice _ _ _ (by have := HL.out; omega)]; exact H.out.len) (by rw [← hbs]; exact H.out.clean.lay k p l HG.out (by rw [H.out.num]; exact hk) (by omega) (by rw [H.out.num]; exact H.out.len))
  obtain ⟨X, hX⟩ : ∃ X, w.setRow b (cellsB bs').toArray = X := ⟨_, rfl⟩
  have HF : Hid (Foot (MemS a b) w X) := by rw [← hX]; exact (foot_row w b _).mono fun _ e => .inr e
  rw [hX] at HM hcopy
  clear hX hbs hll
  go_enter Tryd.func28, Tryd.ntmps28
  go_wp2_with fail
  refine (wrong_any m a b n gl bs _ _ _ _ H.out (by omega)).mono ?_; rintro e w1 ⟨rfl, rfl⟩
  rw [HW.out]
  go_wp2
  go_ret
  exact ⟨rfl, HM.out, HF.out⟩
end Go.Proofs.YtppdammgmnihgaaDoor
