/-
  What Of answers, as a contract: a memory of so many pages, none given out; what became of the world.
-/
import Derived.Test.YtppdammgmnihgaaDoorPWrite
namespace Go.Proofs.YtppdammgmnihgaaDoor
open Go.RowKit
theorem Tryd.infoT : (Tryd.prog.info? 4).map (fun i => (i.zero, i.size, i.bytes)) = some (some (.bool false), 1, 1) := by kernel_rfl
theorem Tryd.infoP : (Tryd.prog.info? 80).map (fun i => (i.zero, i.size, i.bytes)) = some (some (.agg pageC), 64, 64) := by kernel_rfl
set_option maxRecDepth 100000 in
theorem make_bools (c : Int) (n : Nat) (hc : c = (n : Int)) (hn : n ≤ 4096) (w : World) :
    (Instr.makeSlice 74 (.int .i64 c) (.int .i64 c)).run Tryd.prog w = .ok (.slice (some ⟨w.heap.size, 0, none⟩) n n) (w.alloc (.cells (boolsV (List.replicate n false)) 4)) := by
  subst hc
  have := run_make_row' (P := Tryd.prog) 74 4 (.bool false) 1 Tryd.underlying74 Tryd.infoT rfl .i64 .i64 n (by omega) (by omega) w
  rw [this]
  congr 2
  apply congrArg (fun x => Obj.cells x 4 (0, 0))
  apply Array.ext'
  rw [toList_madeCells_one]; simp [boolsV]
theorem page_get (j : Nat) (h : j < 64) : pageC[j]! = .int .u8 0 := by
  have h' : j < pageC.size := h
  rw [getElem!_pos pageC j h']
  simp only [pageC, List.getElem_toArray, List.getElem_replicate]
theorem made_pages (k : Nat) : madeCells pageC k = (cellsB (zeros k)).toArray := by
  apply Array.ext'
  rw [cellsB_zeros]
  apply List.ext_getElem?
  intro j
  have hs : pageC.size = 64 := rfl
  by_cases hj : j < k
  · have hm : j % 64 < 64 := Nat.mod_lt _ (by omega)
    simp only [madeCells, hs, Array.toList_map, Array.toList_range, List.getElem?_map, List.getElem?_range hj, Option.map_some, List.getElem?_replicate, if_pos hj, page_get _ hm]
  · simp [madeCells, hj]
set_option maxRecDepth 100000 in
theorem make_pages (c : Int) (n : Nat) (hc : c = (n : Int)) (hn : n ≤ 4096) (w : World) :
    (Instr.makeSlice 75 (.int .i64 c) (.int .i64 c)).run Tryd.prog w = .ok (.slice (some ⟨w.heap.size, 0, none⟩) n n) (w.alloc (.cells (cellsB (zeros (n * 64))).toArray 80)) := by
  subst hc
  obtain ⟨i, hi, hzz⟩ := Option.map_eq_some_iff.1 Tryd.infoP
  simp only [Prod.mk.injEq] at hzz
  obtain ⟨hz, hs, hb⟩ := hzz
  rw [run_make (P := Tryd.prog) w 75 80 i (.agg pageC) Tryd.underlying75 hi hz .i64 .i64 n n (by omega) (Int.le_refl _) (by rw [hb]; omega) (by omega)]
  simp only [Int.toNat_natCast, hs]
  rw [show (Value.agg pageC).cells = pageC from rfl, made_pages]
def clampF (z : Int) : Nat := (min (max z 0) 4096).toNat
theorem clampF_le (z : Int) : clampF z ≤ 4096 := by unfold clampF; omega
theorem clampF_low {z : Int} (h : z ≤ 0) : clampF z = 0 := by unfold clampF; omega
theorem clampF_high {z : Int} (h : 4096 ≤ z) : clampF z = 4096 := by unfold clampF; omega
theorem clampF_in {z : Int} (h : 0 ≤ z) (h2 : z ≤ 4096) : z = (clampF z : Int) := by unfold clampF; omega
theorem boolsV_len (n : Nat) : (List.replicate n false).length = n := by simp
theorem size_alloc (w : World) (o : Obj) : (w.alloc o).heap.size = w.heap.size + 1 := by simp
theorem alloc3 (w : World) (o1 o2 o3 : Obj) : (((w.alloc o1).alloc o2).alloc o3).heap[w.heap.size]? = some o1 ∧ (((w.alloc o1).alloc o2).alloc o3).heap[w.heap.size + 1]? = some o2 ∧ (((w.alloc o1).alloc o2).alloc o3).heap[w.heap.size + 1 + 1]? = some o3 := by
  have s1 := size_alloc w o1
  have s2 := size_alloc (w.alloc o1) o2
  refine ⟨?_, ?_, ?_⟩
  · rw [Below.heap_alloc _ _ _ (by omega), Below.heap_alloc _ _ _ (by omega)]; exact heap_alloc_new _ _
  · rw [Below.heap_alloc _ _ _ (by omega), ← s1]; exact heap_alloc_new _ _
  · rw [← s1, ← s2]; exact heap_alloc_new _ _
theorem below3 (w : World) (o1 o2 o3 : Obj) : Below w.heap.size w (((w.alloc o1).alloc o2).alloc o3) :=
  below_one (below_one (below_alloc w o1) (below_alloc _ o2)) (below_alloc _ o3)
/- a new memory of pages: none of its blocks was there -/
structure NewMem (w w' : World) (m a b n : Nat) : Prop where
  mem : MemAt w' m a b n (List.replicate n false) (zeros (n * 64))
  hm : w.heap.size ≤ m
  ha : w.heap.size ≤ a
  hb : w.heap.size ≤ b
  bel : Below w.heap.size w w'
theorem new_mem1 (w : World) (n : Nat) (hn : n ≤ 4096) (T C : Array Value) (hT : boolsV (List.replicate n false) = T) (hC : (cellsB (zeros (n * 64))).toArray = C) (q : Nat) :
    NewMem w ((((w.alloc (.cells T 4)).alloc (.cells C 80)).alloc (.cells #[.slice (some ⟨w.heap.size, 0, none⟩) n n, .slice (some ⟨w.heap.size + 1, 0, none⟩) n n] 77)).drewN q) (w.heap.size + 1 + 1) w.heap.size (w.heap.size + 1) n := by
  subst hT; subst hC
  obtain ⟨h1, h2, h3⟩ := alloc3 w (.cells (boolsV (List.replicate n false)) 4) (.cells (cellsB (zeros (n * 64))).toArray 80) (.cells #[.slice (some ⟨w.heap.size, 0, none⟩) n n, .slice (some ⟨w.heap.size + 1, 0, none⟩) n n] 77)
  exact ⟨MemAt.drewN ⟨h3, h1, h2, by simp, hn, zeros_len _, clean_new n⟩ q, by omega, by omega, by omega, below_drewN (below3 _ _ _ _) q⟩
theorem new_mem2 (w : World) (n : Nat) (hn : n ≤ 4096) (T C : Array Value) (hT : boolsV (List.replicate n false) = T) (hC : (cellsB (zeros (n * 64))).toArray = C) (q : Nat) :
    NewMem w ((((w.alloc (.cells C 80)).alloc (.cells T 4)).alloc (.cells #[.slice (some ⟨w.heap.size + 1, 0, none⟩) n n, .slice (some ⟨w.heap.size, 0, none⟩) n n] 77)).drewN q) (w.heap.size + 1 + 1) (w.heap.size + 1) w.heap.size n := by
  subst hT; subst hC
  obtain ⟨h1, h2, h3⟩ := alloc3 w (.cells (cellsB (zeros (n * 64))).toArray 80) (.cells (boolsV (List.replicate n false)) 4) (.cells #[.slice (some ⟨w.heap.size + 1, 0, none⟩) n n, .slice (some ⟨w.heap.size, 0, none⟩) n n] 77)
  exact ⟨MemAt.drewN ⟨h3, h2, h1, by simp, hn, zeros_len _, clean_new n⟩ q, by omega, by omega, by omega, below_drewN (below3 _ _ _ _) q⟩
set_option maxHeartbeats 1600000 in
theorem of_any (z : Int) (w : World) (n : Nat) (hn : clampF z = n) (hz : -9223372036854775808 ≤ z ∧ z ≤ 9223372036854775807) :
    Calls Tryd.prog 19 #[.int .i64 z] w fun e w' => ∃ m a b, e = .returned (.pointer (some ⟨m, 0, none⟩)) ∧ NewMem w w' m a b n := by
  have h40 : n ≤ 4096 := hn ▸ clampF_le z
  obtain ⟨T, hT⟩ : ∃ T, boolsV (List.replicate n false) = T := ⟨_, rfl⟩
  obtain ⟨C, hC⟩ : ∃ C, (cellsB (zeros (n * 64))).toArray = C := ⟨_, rfl⟩
  have HT := hide hT
  have HC := hide hC
  have H40 := hide h40
  by_cases h0 : z ≤ 0
  · have mb := make_bools 0 n (by rw [← hn, clampF_low h0]; rfl) h40
    have mp := make_pages 0 n (by rw [← hn, clampF_low h0]; rfl) h40
    rw [hT] at mb
    rw [hC] at mp
    clear hT hC hn h40
    by_cases h1 : z = 0
    · subst h1
      go_enter Tryd.func19, Tryd.ntmps19
      go_wp2_with fail
      go_region
      all_goals go_wp2
      all_goals go_ret
      · exact ⟨_, _, _, rfl, new_mem1 w n H40.out T C HT.out HC.out 1⟩
      · exact ⟨_, _, _, rfl, new_mem2 w n H40.out T C HT.out HC.out 1⟩
    · have h2 : z < 0 := by omega
      have h3 : ¬ (0 < z) := by omega
      go_enter Tryd.func19, Tryd.ntmps19
      go_wp2_with fail
      go_region
      all_goals go_wp2
      all_goals go_ret
      · exact ⟨_, _, _, rfl, new_mem1 w n H40.out T C HT.out HC.out 1⟩
      · exact ⟨_, _, _, rfl, new_mem2 w n H40.out T C HT.out HC.out 1⟩
  · have h2 : ¬ (z < 0) := by omega
    have h3 : 0 < z := by omega
    by_cases h4 : 4096 ≤ z
    · have mb := make_bools 4096 n (by rw [← hn, clampF_high h4]; rfl) h40
      have mp := make_pages 4096 n (by rw [← hn, clampF_high h4]; rfl) h40
      rw [hT] at mb
      rw [hC] at mp
      clear hT hC hn h40
      by_cases h5 : z = 4096
      · subst h5
        go_enter Tryd.func19, Tryd.ntmps19
        go_wp2_with fail
        go_region
        all_goals go_wp2
        all_goals go_ret
        · exact ⟨_, _, _, rfl, new_mem1 w n H40.out T C HT.out HC.out 1⟩
        · exact ⟨_, _, _, rfl, new_mem2 w n H40.out T C HT.out HC.out 1⟩
      · have h6 : ¬ (z < 4096) := by omega
        have h7 : 4096 < z := by omega
        go_enter Tryd.func19, Tryd.ntmps19
        go_wp2_with fail
        go_region
        all_goals go_wp2
        all_goals go_ret
        · exact ⟨_, _, _, rfl, new_mem1 w n H40.out T C HT.out HC.out 1⟩
        · exact ⟨_, _, _, rfl, new_mem2 w n H40.out T C HT.out HC.out 1⟩
    · have h6 : z < 4096 := by omega
      have h7 : ¬ (4096 < z) := by omega
      have mb := make_bools z n (by rw [← hn]; exact clampF_in (by omega) (by omega)) h40
      have mp := make_pages z n (by rw [← hn]; exact clampF_in (by omega) (by omega)) h40
      rw [hT] at mb
      rw [hC] at mp
      clear hT hC hn h40
      go_enter Tryd.func19, Tryd.ntmps19
      go_wp2_with fail
      go_region
      all_goals go_wp2
      all_goals go_ret
      · exact ⟨_, _, _, rfl, new_mem1 w n H40.out T C HT.out HC.out 1⟩
      · exact ⟨_, _, _, rfl, new_mem2 w n H40.out T C HT.out HC.out 1⟩
end Go.Proofs.YtppdammgmnihgaaDoor
