/-
  The walk of MutexLeaves.
-/
import Derived.Test.YtgbggdmpbbhkaaaXTurnsW
import Derived.Test.YtgbggdmpbbhkaaaXRead
namespace Go.Proofs.Ytgbggdmpbbhkaaa
open Go.RowKit
/- a row of truths that fills a block -/
def RowT (w : World) (g : Nat) (gl : List Bool) : Prop := w.heap[g]? = some (.cells (gl.map Value.bool).toArray 4 (0, 0))
theorem RowT.cell {w : World} {g : Nat} {gl : List Bool} (h : RowT w g gl) (j : Nat) (hj : j < gl.length) : w.cell? ⟨g, j, none⟩ = some (.bool (gl.getD j true)) := by
  rw [cell_of_row w g j _ _ _ h]; simp [List.getElem?_eq_getElem hj, List.getD_eq_getElem?_getD]
theorem RowT.frozen {w : World} {g : Nat} {gl : List Bool} (h : RowT w g gl) (j : Nat) : w.frozen? ⟨g, j, none⟩ = false := frozen_of_row w g j _ _ h
theorem RowT.set {w : World} {g : Nat} {gl : List Bool} (h : RowT w g gl) (j : Nat) (v : Bool) : RowT (w.setCell ⟨g, j, none⟩ (.bool v)) g (gl.set j v) := by
  have := heap_setCell_same w g j _ 4 (.bool v) h
  rw [RowT, this]
  congr 2
  simp [List.map_set]
theorem row_bools (w : World) (n : Nat) : RowT (w.alloc (.cells (madeCells #[.bool false] n) 4)) w.heap.size (List.replicate n false) := by
  rw [RowT, heap_alloc_new]
  congr 2
  apply Array.ext'
  rw [toList_madeCells_one]; simp
theorem RowT.foot {S : Nat → Prop} {w w' : World} {g : Nat} {gl : List Bool} (h : RowT w g gl) (b : Foot S w w') (hS : ¬ S g) : RowT w' g gl := (b.block g (lt_of_heap h) hS).trans h
theorem Try.infoT : (Try.prog.info? 4).map (fun i => (i.zero, i.size, i.bytes)) = some (some (.bool false), 1, 1) := by kernel_rfl
theorem make_bools (n : Nat) (hn : n ≤ 4096) (w : World) :
    (Instr.makeSlice 37 (.int .i64 (n : Int)) (.int .i64 (n : Int))).run Try.prog w = .ok (.slice (some ⟨w.heap.size, 0, none⟩) n n) (w.alloc (.cells (madeCells #[.bool false] n) 4)) :=
  run_make_row' (P := Try.prog) 37 4 (.bool false) 1 Try.underlying37 Try.infoT rfl .i64 .i64 n (by omega) (by omega) w
/- those in the line are not gone -/
structure LG (k : Nat) (L : List Int) (G : List Bool) : Prop where
  row : Row L
  len : G.length = k
  low : ∀ x ∈ L, ∃ j : Nat, x = (j : Int) ∧ j < k ∧ G.getD j true = false
structure LvP (w0 w : World) (g b k : Nat) (L : List Int) (G : List Bool) (ao : Option Addr) (c : Nat) : Prop where
  mx : Mx w g L ao c
  rt : RowT w b G
  lg : LG k L G
  off : 0 < L.length → ∀ ad, ao = some ad → ad.block ≠ b
  bel : Below w0.heap.size w0 w
  gb : g ≠ b
  gl : w0.heap.size ≤ g
  bl : w0.heap.size ≤ b
variable {w0 w w' : World} {g b k : Nat} {L : List Int} {G : List Bool} {ao : Option Addr} {c : Nat}
theorem LvP.leave (x : LvP w0 w g b k L G ao c) (y : Int) (h : MxEnd w g (dropL L y) ao L.length w') : ∃ ao' c', LvP w0 w' g b k (dropL L y) G ao' c' := by
  obtain ⟨ao', c', m, f, hn⟩ := h
  refine ⟨ao', c', m, x.rt.foot f (fun e => x.gb e.symm), ⟨x.lg.row.drop y, x.lg.len, fun z hz => x.lg.low z ((xmem_dropL L y z).1 hz).1⟩, fun h0 ad e => ?_, x.bel.trans (f.below x.bel.size (fun j e => by rw [e]; exact x.gl)), x.gb, x.gl, x.bl⟩
  rcases hn with ⟨rfl, hl⟩ | hn
  · exact x.off (by omega) ad e
  · have := hn ad e
    have := lt_of_heap x.rt
    omega
theorem LvP.set (x : LvP w0 w g b k L G ao c) (j : Nat) (hj : (j : Int) ∉ L) : LvP w0 (w.setCell ⟨b, j, none⟩ (.bool true)) g b k L (G.set j true) ao c := by
  have f := foot_set w ⟨b, j, none⟩ (.bool true)
  refine ⟨x.mx.foot f (fun e => x.gb e) (fun h0 ad e => x.off h0 ad e), x.rt.set j true, ⟨x.lg.row, by rw [List.length_set]; exact x.lg.len, fun z hz => ?_⟩, x.off, x.bel.trans (f.below x.bel.size (fun i e => by rw [e]; exact x.bl)), x.gb, x.gl, x.bl⟩
  obtain ⟨i, rfl, hi, hg⟩ := x.lg.low z hz
  refine ⟨i, rfl, hi, ?_⟩
  have hne : j ≠ i := fun e => hj (by rw [e]; exact hz)
  rw [List.getD_eq_getElem?_getD, List.getElem?_set_ne hne, ← List.getD_eq_getElem?_getD]; exact hg
theorem LvP.start {W : World} (x : Mx W g L ao c) (hb : Below w0.heap.size w0 W) (hg : w0.heap.size ≤ g) (hr : Row L) (hl : ∀ x ∈ L, ∃ j : Nat, x = (j : Int) ∧ j < k) : LvP w0 (W.alloc (.cells (madeCells #[.bool false] k) 4)) g W.heap.size k L (List.replicate k false) ao c := by
  have bb := below_alloc W (.cells (madeCells #[.bool false] k) 4)
  refine ⟨x.grow bb, row_bools W k, ⟨hr, by simp, fun z hz => ?_⟩, fun h0 ad e => by have := x.row.lt h0 ad e; omega, below_one hb bb, by have := x.lt; omega, hg, hb.size⟩
  obtain ⟨j, e, hj⟩ := hl z hz
  exact ⟨j, e, hj, by rw [List.getD_eq_getElem?_getD]; simp [hj]⟩
def LeavesRel (w0 : World) (g b k n gk : Nat) (vi : Value) (wr : World) : Prop := ∃ (i : Nat) (L : List Int) (G : List Bool) (ao : Option Addr) (c : Nat), i + gk = n ∧ vi = .int .i64 (i : Int) ∧ LvP w0 wr g b k L G ao c
def LastRel (w0 : World) (g b k gk : Nat) (vi : Value) (wr : World) : Prop := ∃ (i : Nat) (L : List Int) (G : List Bool) (ao : Option Addr) (c : Nat), i + gk = k ∧ vi = .int .i64 (i : Int) ∧ LvP w0 wr g b k L G ao c ∧ ∀ x ∈ L, (i : Int) ≤ x
set_option maxRecDepth 20000 in
set_option maxHeartbeats 1600000 in
theorem walk_leaves (q : Nat) (so : Option Addr) (n cap : Nat) (zs : List Int) (w : World) (hq : q ≤ 255) (hO : Oct w so n cap zs) :
    Calls Try.prog 4 #[.int .u8 (q : Int), .slice so n cap] w fun e w' => e = .returned (.bool true) ∧ Below w.heap.size w w' := by
  obtain ⟨s, hs⟩ : ∃ s, q % 20 = s := ⟨_, rfl⟩
  have hs1 : (q : Int) % 20 = (s : Int) := by omega
  have hs2 : s < 20 := by omega
  obtain ⟨k, hk⟩ : ∃ k, 1 + s = k := ⟨_, rfl⟩
  have hk1 : 1 + (s : Int) = (k : Int) := by omega
  have hk0 : 0 < k := by omega
  have hk2 : k ≤ 20 := by omega
  have hcap : cap ≤ 9223372036854775807 := hO.2.1
  have hnc := hO.1
  have HO := hide hO
  have mk := make_bools k (by omega)
  clear hs hk hO
  go_enter Try.func4, Try.ntmps4
  go_wp2_with fail
  refine (awake_any _).mono ?_; rintro e w1 ⟨rfl, b1⟩
  have HB1 := hide (below_one b1 (below_alloc w1 (.cells #[.slice none 0 0] 26)))
  have HG := hide b1.size
  have H1 := hide (mx_new w1)
  clear b1
  go_wp2_with fail
  obtain ⟨g, hg⟩ : ∃ g, w1.heap.size = g := ⟨_, rfl⟩
  rw [hg] at HG H1
  simp only [hg, hs1]
  clear hg
  go_loopg [7] k (fun gk vi wr => LockRel w g 1 k gk vi wr)
  case atStart => exact ⟨0, none, 0, by omega, rfl, H1.out, HB1.out⟩
  case round =>
    clear H1 HB1
    obtain ⟨i, ao, c, hi, rfl, t1, b1⟩ := hrel
    have H1 := hide t1
    have HB := hide b1
    have HI := hide hi
    clear t1 b1
    cases gk with
    | succ g1 =>
      have hlt : (i : Int) < (k : Int) := by omega
      have HLP : Hid (lockL (stepL 1 i) (i : Int) = stepL 1 (i + 1)) := by
        have := stepL_put 1 i (by decide) (by omega)
        rw [Int.one_mul] at this; exact this
      have HLN := hide (stepL_len 1 i)
      clear hi
      go_wp2_with fail
      refine (lock_any (i : Int) _ H1.out (by rw [HLN.out]; have := HI.out; omega)).mono ?_; rintro e w2 ⟨rfl, h2⟩
      obtain ⟨a2, c2, x2, b2⟩ := MxEnd.below h2 HB.out HG.out
      rw [HLP.out] at x2
      have H2 := hide x2
      have HB2 := hide b2
      clear h2 x2 b2
      go_wp2
      go_roundg g1
      case measure => omega
      case rel => exact ⟨i + 1, a2, c2, by have := HI.out; omega, by go_num, H2.out, HB2.out⟩
    | zero =>
      obtain rfl : i = k := by omega
      have hlt : ¬ ((i : Int) < (i : Int)) := by omega
      have HS := hide (LvP.start (k := i) H1.out HB.out HG.out (stepL_row 1 i (by decide) (by omega)) (fun x hx => by
        unfold stepL at hx
        obtain ⟨j, hj, e⟩ := List.mem_map.1 hx
        exact ⟨j, by rw [← e, Int.one_mul], List.mem_range.1 hj⟩))
      clear hi
      go_wp2_with fail
      obtain ⟨b, hb⟩ : ∃ b, wr.heap.size = b := ⟨_, rfl⟩
      rw [hb] at HS
      simp only [hb]
      clear hb H1 HB mk
      go_loopg [37] n (fun gk vi wr => LeavesRel w g b i n gk vi wr)
      case atStart => exact ⟨0, _, _, _, _, by omega, rfl, HS.out⟩
      case round =>
        rename World => wq
        clear HS
        obtain ⟨j, L, G, a3, c3, hj, rfl, P⟩ := hrel
        have HP := hide P
        have HJ := hide hj
        clear P
        cases gk with
        | succ g2 =>
          have hlt2 : (j : Int) < (n : Int) := by omega
          have hjn : j < n := by omega
          clear hj
          obtain ⟨ad, rfl⟩ := HO.out.there hjn
          obtain ⟨c0, hz0, hz1⟩ := (HO.out.carry HP.out.bel (Nat.le_refl _)).2.2.2 ad rfl j hjn
          obtain ⟨z, hz⟩ : ∃ z : Nat, zs.getD j 0 = (z : Int) := ⟨(zs.getD j 0).toNat, by omega⟩
          rw [hz] at c0 hz0 hz1
          obtain ⟨r, hr⟩ : ∃ r, z % i = r := ⟨_, rfl⟩
          have hri : r < i := by rw [← hr]; exact Nat.mod_lt _ hk0
          have hr1 : (z : Int).tmod (i : Int) = (r : Int) := by rw [← hr, Int.tmod_eq_emod_of_nonneg (by omega)]; exact (Int.natCast_emod z i).symm
          have hr2 : (z : Int) % (i : Int) = (r : Int) := by rw [← hr]; exact (Int.natCast_emod z i).symm
          have hi0 : ¬ ((i : Int) = 0) := by omega
          have hri2 : (r : Int) < (i : Int) := by omega
          clear hr hz
          go_wp2_with fail
          refine (leave_any (r : Int) _ HP.out.mx HP.out.lg.row).mono ?_; rintro e w4 ⟨rfl, h4⟩
          obtain ⟨a4, c4, P4⟩ := HP.out.leave (r : Int) h4
          obtain ⟨M, hM⟩ : ∃ M, dropL L (r : Int) = M := ⟨_, rfl⟩
          have hrM : (r : Int) ∉ M := by rw [← hM]; exact dropL_not L _
          rw [hM] at P4
          have d4 := P4.rt.cell r (by rw [P4.lg.len]; exact hri)
          have z4 := P4.rt.frozen r
          obtain ⟨v4, hv4⟩ : ∃ v, G.getD r true = v := ⟨_, rfl⟩
          rw [hv4] at d4
          have P5 := P4.set r hrM
          obtain ⟨W, hW⟩ : ∃ W, w4.setCell ⟨b, r, none⟩ (.bool true) = W := ⟨_, rfl⟩
          rw [hW] at P5
          have HP5 := hide P5
          clear h4 P4 P5 hM hrM hv4
          go_wp2_with fail
          refine (hold_any _ HP5.out.mx).mono ?_; rintro e w6 ⟨rfl, rfl⟩
          by_cases hl : M.length = 0
          · rw [HP5.out.lg.row.none.2 hl]
            clear hl
            go_wp2
            go_roundg g2
            case measure => omega
            case rel => exact ⟨j + 1, _, _, _, _, by have := HJ.out; omega, by go_num, HP5.out⟩
          · obtain ⟨h, e1, e2, e3⟩ := HP5.out.lg.low _ (holdF_mem M (by omega))
            have d6 := HP5.out.rt.cell h (by rw [HP5.out.lg.len]; exact e2)
            rw [e3] at d6
            rw [e1]
            have hhi : (h : Int) < (i : Int) := by omega
            have hhn : ¬ ((h : Int) = -1) := by omega
            clear hl e1 e3
            go_wp2
            go_roundg g2
            case measure => omega
            case rel => exact ⟨j + 1, _, _, _, _, by have := HJ.out; omega, by go_num, HP5.out⟩
        | zero =>
          obtain rfl : j = n := by omega
          have hlt2 : ¬ ((j : Int) < (j : Int)) := by omega
          clear hj
          go_wp2_with fail
          go_loopg [64] i (fun gk vi wr => LastRel w g b i gk vi wr)
          case atStart => exact ⟨0, _, _, _, _, by omega, rfl, HP.out, fun x hx => HP.out.lg.row.pos x hx⟩
          case round =>
            rename World => wp
            clear HP
            obtain ⟨l, L2, G2, a5, c5, hl, rfl, P, hlow⟩ := hrel
            have HP := hide P
            have HLL := hide hl
            have HLOW := hide hlow
            clear P hlow
            cases gk with
            | succ g3 =>
              have hlt3 : (l : Int) < (i : Int) := by omega
              clear hl
              go_wp2_with fail
              refine (leave_any (l : Int) _ HP.out.mx HP.out.lg.row).mono ?_; rintro e w4 ⟨rfl, h4⟩
              obtain ⟨a6, c6, P6⟩ := HP.out.leave (l : Int) h4
              have HP6 := hide P6
              clear h4 P6
              go_wp2
              go_roundg g3
              case measure => omega
              case rel =>
                refine ⟨l + 1, _, _, _, _, by have := HLL.out; omega, by go_num, HP6.out, fun x hx => ?_⟩
                obtain ⟨h1, h2⟩ := (xmem_dropL L2 _ x).1 hx
                have := HLOW.out x h1
                omega
            | zero =>
              obtain rfl : l = i := by omega
              have hlt3 : ¬ ((l : Int) < (l : Int)) := by omega
              clear hl
              have HN : Hid (L2 = []) := by
                cases L2 with
                | nil => exact rfl
                | cons y ys =>
                  exfalso
                  have h1 := HLOW.out y (List.mem_cons_self ..)
                  obtain ⟨m, e, hm, _⟩ := HP.out.lg.low y (List.mem_cons_self ..)
                  omega
              have HM := hide HP.out.mx
              rw [HN.out] at HM
              go_wp2_with fail
              refine (hold_any _ HM.out).mono ?_; rintro e w6 ⟨rfl, rfl⟩
              rw [holdF_nil]
              go_wp2_with fail
              refine (wait_any _ HM.out (by decide)).mono ?_; rintro e w7 ⟨a7, c7, rfl, _, b7, _⟩
              have HB7 := hide (below_one HP.out.bel b7)
              clear b7
              go_wp2
              go_ret
              exact ⟨rfl, HB7.out⟩
end Go.Proofs.Ytgbggdmpbbhkaaa
