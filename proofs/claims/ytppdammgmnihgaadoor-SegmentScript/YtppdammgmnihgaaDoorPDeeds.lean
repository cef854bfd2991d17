/-
  What the calls that turn a memory of pages answer, as contracts: Alloc, Free, Read, Write; what became of the world.
-/
import Derived.Test.YtppdammgmnihgaaDoorPCalls
namespace Go.Proofs.YtppdammgmnihgaaDoor
open Go.RowKit
set_option maxHeartbeats 800000 in
theorem alloc_no (m a b n : Nat) (gl : List Bool) (bs : List UInt8) (w : World) (M : MemAt w m a b n gl bs) (hl : lowF gl = n) :
    Calls Tryd.prog 34 #[.pointer (some ⟨m, 0, none⟩)] w fun e w' => e = .returned (.tuple #[.int .i64 0, errV 6]) ∧ w' = w := by
  have H := hide M
  have c0 := M.c0
  have HL := hide (show (if lowF gl < n then (lowF gl : Int) else -1) = -1 from if_neg (by omega))
  clear M hl
  unfold errV
  go_enter Tryd.func34, Tryd.ntmps34
  go_wp2_with fail
  refine (index_any a n gl _ H.out.giv H.out.num H.out.few).mono ?_; rintro e w1 ⟨rfl, rfl⟩
  rw [HL.out]
  go_wp2
  go_ret2
  exact ⟨rfl, rfl⟩
set_option maxHeartbeats 800000 in
theorem alloc_yes (m a b n k : Nat) (gl : List Bool) (bs : List UInt8) (w : World) (M : MemAt w m a b n gl bs) (hl : lowF gl = k) (hk : k < n) :
    Calls Tryd.prog 34 #[.pointer (some ⟨m, 0, none⟩)] w fun e w' => e = .returned (.tuple #[.int .i64 (k : Int), .nilIface]) ∧ MemAt w' m a b n (gl.set k true) bs ∧ Foot (MemS a b) w w' := by
  have H := hide M
  have c0 := M.c0
  have hn : n ≤ 4096 := M.few
  have HL := hide (show (if lowF gl < n then (lowF gl : Int) else -1) = (k : Int) by rw [hl, if_pos hk])
  have hkl : k < gl.length := by rw [M.num]; exact hk
  have hc := M.giv.cell k hkl
  have hf := M.giv.frozen k
  clear M hl
  go_enter Tryd.func34, Tryd.ntmps34
  go_wp2_with fail
  refine (index_any a n gl _ H.out.giv H.out.num H.out.few).mono ?_; rintro e w1 ⟨rfl, rfl⟩
  rw [HL.out]
  go_wp2
  go_ret2
  exact ⟨rfl, H.out.give k, (foot_set _ _ _).mono fun _ e => .inl e⟩
theorem Tryd.zeroPage (w : World) : (zeroValue 80).run Tryd.prog w = .ok (.agg (List.replicate 64 (.int .u8 0)).toArray) w := by kernel_rfl
theorem Tryd.sizePage : (Tryd.prog.info? 80).map (·.size) = some 64 := by kernel_rfl
def pageC : Array Value := (List.replicate 64 (Value.int .u8 0)).toArray
theorem store_page (w : World) (b k : Nat) (bs : List UInt8) (h : RowP w b bs) (hk : k * 64 + 64 ≤ bs.length) :
    (storeCells ⟨b, k * 64, none⟩ pageC.toList).run Tryd.prog w = .ok () (w.setRow b (cellsB (splice bs (k * 64) (zeros 64))).toArray) := by
  have hst := run_storeCells_at Tryd.prog b (k * 64) 80 (List.replicate 64 (.int .u8 0)) 0 (cellsB bs).toArray w h (by simp [cellsB_len]; exact hk) (by intro v hv; obtain rfl := (List.mem_replicate.1 hv).2; rfl)
  rw [cellsB_splice, cellsB_zeros]
  simp only [splice, List.length_replicate] at hst ⊢
  simpa [pageC] using hst
theorem MemAt.take {w : World} {m a b n k : Nat} {gl : List Bool} {bs : List UInt8} (x : MemAt w m a b n gl bs) (hk : k < gl.length) :
    MemAt ((w.setCell ⟨a, k, none⟩ (.bool false)).setRow b (cellsB (splice bs (k * 64) (zeros 64))).toArray) m a b n (gl.set k false) (splice bs (k * 64) (zeros 64)) := by
  have hl : (splice bs (k * 64) (zeros 64)).length = n * 64 := by rw [length_splice _ _ _ (by rw [zeros_len]; have := x.len; have := x.num; omega)]; exact x.len
  refine ⟨?_, ?_, ?_, by rw [List.length_set]; exact x.num, x.few, hl, x.clean.back k hk (by rw [x.num]; exact x.len)⟩
  · rw [setRow_other _ b m _ x.mb, heap_setCell_other w ⟨a, k, none⟩ m _ x.ma]; exact x.box
  · rw [RowT, setRow_other _ b a _ x.ab]; exact x.giv.set k false
  · exact setRow_heap _ b (cellsB bs).toArray _ _ _ (by rw [heap_setCell_other w ⟨a, k, none⟩ b _ x.ab.symm]; exact x.byt)
set_option maxHeartbeats 800000 in
theorem free_no (m a b n : Nat) (gl : List Bool) (bs : List UInt8) (k : Int) (w : World) (M : MemAt w m a b n gl bs) (hh : hasF gl k = false) :
    Calls Tryd.prog 30 #[.pointer (some ⟨m, 0, none⟩), .int .i64 k] w fun e w' => e = .returned (errV 4) ∧ w' = w := by
  have H := hide M
  have HH := hide hh
  clear M hh
  unfold errV
  go_enter Tryd.func30, Tryd.ntmps30
  go_wp2_with fail
  refine (has_any m a b n gl bs k _ H.out).mono ?_; rintro e w1 ⟨rfl, rfl⟩
  rw [HH.out]
  go_wp2
  go_ret
  exact ⟨rfl, rfl⟩
set_option maxHeartbeats 800000 in
theorem free_yes (m a b n k : Nat) (gl : List Bool) (bs : List UInt8) (w : World) (M : MemAt w m a b n gl bs) (hk : k < n) (hg : gl.getD k true = true) :
    Calls Tryd.prog 30 #[.pointer (some ⟨m, 0, none⟩), .int .i64 (k : Int)] w fun e w' => e = .returned .nilIface ∧ MemAt w' m a b n (gl.set k false) (splice bs (k * 64) (zeros 64)) ∧ Foot (MemS a b) w w' := by
  have H := hide M
  have c0 := M.c0
  have hn : n ≤ 4096 := M.few
  have hkl : k < gl.length := by rw [M.num]; exact hk
  have HH := hide (show hasF gl (k : Int) = true by rw [hasF_nat, decide_eq_true hkl, hg]; rfl)
  have hc := M.giv.cell k hkl
  have hf := M.giv.frozen k
  have hbl : k * 64 + 64 ≤ bs.length := by have := M.len; omega
  obtain ⟨Z, hZ⟩ : ∃ Z, pageC = Z := ⟨_, rfl⟩
  have zp : ∀ w, (zeroValue 80).run Tryd.prog w = .ok (.agg pageC) w := Tryd.zeroPage
  rw [hZ] at zp
  have zs : Z.size = 64 := by rw [← hZ]; rfl
  obtain ⟨X, hX⟩ : ∃ X, w.setCell ⟨a, k, none⟩ (.bool false) = X := ⟨_, rfl⟩
  have x1 : X.cell? ⟨m, 1, none⟩ = some (.slice (some ⟨b, 0, none⟩) n n) := by
    rw [← hX]; exact ((foot_set w ⟨a, k, none⟩ _).cell ⟨m, 1, none⟩ (lt_of_heap M.box) M.ma).trans M.c1
  have hst := store_page X b k bs (by rw [← hX]; rw [RowP, heap_setCell_other w ⟨a, k, none⟩ b _ M.ab.symm]; exact M.byt) hbl
  rw [hZ] at hst
  have HM := hide (MemAt.take M hkl)
  rw [hX] at HM
  have HF : Hid (Foot (MemS a b) w X) := by rw [← hX]; exact (foot_set _ _ _).mono fun _ e => .inl e
  clear M hg hZ
  go_enter Tryd.func30, Tryd.ntmps30
  go_wp2_with fail
  refine (has_any m a b n gl bs _ _ H.out).mono ?_; rintro e w1 ⟨rfl, rfl⟩
  rw [HH.out]
  go_wp2
  go_ret
  exact ⟨rfl, HM.out, HF.out.then ((foot_row X b _).mono fun _ e => .inr e)⟩
end Go.Proofs.YtppdammgmnihgaaDoor
