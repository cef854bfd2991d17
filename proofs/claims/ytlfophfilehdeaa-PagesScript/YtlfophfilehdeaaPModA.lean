/-
  The statement's own model gives out a page: its alloc, as a contract.
-/
import Derived.Test.YtlfophfilehdeaaPMod
namespace Go.Proofs.Ytlfophfilehdeaa
open Go.RowKit
variable {w w' : World} {B x t y n : Nat} {gl : List Bool} {sl : List (Option Nat)} {bs : List UInt8}
theorem ModAt.gave (h : ModAt w B x t y n gl sl bs) {k : Nat} (hk : k < n) (hc : Clean gl bs) (hf : gl.getD k true = false) (hb : bs.length = n * 64) (C : Array Value) (hC : (cellsB (zeros 64)).toArray = C) (hB : B ≤ w.heap.size) :
    ModAt (((w.setCell ⟨t, k, none⟩ (.bool true)).alloc (.cells C 5)).setCell ⟨y, k, none⟩ (.slice (some ⟨w.heap.size, 0, none⟩) 64 64)) B x t y n (gl.set k true) (sl.set k (some w.heap.size)) bs ∧
    Foot (ModS t y sl) w (((w.setCell ⟨t, k, none⟩ (.bool true)).alloc (.cells C 5)).setCell ⟨y, k, none⟩ (.slice (some ⟨w.heap.size, 0, none⟩) 64 64)) := by
  subst hC
  obtain ⟨X, hX⟩ : ∃ X, w.setCell ⟨t, k, none⟩ (.bool true) = X := ⟨_, rfl⟩
  have hXs : X.heap.size = w.heap.size := by rw [← hX]; simp [World.setCell]
  have fX : Foot (fun j => j = t) w X := by rw [← hX]; exact foot_set w ⟨t, k, none⟩ _
  have hXt : RowT X t (gl.set k true) := by rw [← hX]; exact h.tak.set k true
  rw [hX]
  obtain ⟨Y, hY⟩ : ∃ Y, X.alloc (.cells (cellsB (zeros 64)).toArray 5) = Y := ⟨_, rfl⟩
  have fY : Foot (fun j => j = t) w Y := by rw [← hY]; exact fX.then (foot_alloc _ _ _)
  have hYg : RowG Y w.heap.size (zeros 64) := by rw [← hY, ← hXs]; exact heap_alloc_new _ _
  have hYt : RowT Y t (gl.set k true) := by rw [← hY]; exact hXt.foot (foot_alloc (fun _ => False) X _) id
  have hYy : RowS Y y sl := (fY.block y (lt_of_heap h.row) (fun e => h.ty e.symm)).trans h.row
  rw [hY]
  obtain ⟨Z, hZ⟩ : ∃ Z, Y.setCell ⟨y, k, none⟩ (.slice (some ⟨w.heap.size, 0, none⟩) 64 64) = Z := ⟨_, rfl⟩
  have fZ : Foot (fun j => j = y) Y Z := by rw [← hZ]; exact foot_set Y ⟨y, k, none⟩ _
  have hZy : RowS Z y (sl.set k (some w.heap.size)) := by rw [← hZ]; exact hYy.set k _
  have hylt := lt_of_heap h.row
  have fA : Foot (fun j => j = t ∨ j = y) w Z := (fY.mono fun _ e => .inl e).then (fZ.mono fun _ e => .inr e)
  have hZg : RowG Z w.heap.size (zeros 64) := (fZ.block _ (lt_of_heap hYg) (by omega)).trans hYg
  rw [hZ]
  have hG : ∀ j g l, sl.getD j none = some g → RowG w g l → RowG Z g l := fun j g l e hl => (fA.block g (lt_of_heap hl) (by have := h.gx e; omega)).trans hl
  have hkl : k < sl.length := by rw [h.len]; exact hk
  refine ⟨⟨(fA.block x (lt_of_heap h.box) (by have := h.xt; have := h.xy; omega)).trans h.box, hYt.foot fZ h.ty, hZy, by rw [List.length_set]; exact h.num, by rw [List.length_set]; exact h.len, h.few, fun j hj e => ?_, fun j g e => ?_, fun i j g e1 e2 => ?_, h.bx, h.bt, h.by_⟩, fA.mono fun j e => e.elim .inl fun e => .inr (.inl e)⟩
  · rw [getD_setO]
    by_cases ej : k = j
    · subst ej
      rw [if_pos ⟨rfl, hkl⟩]
      exact ⟨_, rfl, by rw [piece_clean hc k (by rw [h.num]; exact hk) hf (by rw [h.num]; exact hb)]; exact hZg⟩
    · rw [if_neg (by omega)]
      rw [getD_set, if_neg (by omega)] at e
      obtain ⟨g, e1, e2⟩ := h.page j hj e
      exact ⟨g, e1, hG j g _ e1 e2⟩
  · rw [getD_setO] at e
    by_cases ej : k = j ∧ j < sl.length
    · rw [if_pos ej] at e
      obtain rfl := Option.some.inj e
      exact ⟨lt_of_heap hZg, hB, _, hZg⟩
    · rw [if_neg ej] at e
      obtain ⟨h1, h2, l, hl⟩ := h.old j g e
      exact ⟨Nat.lt_of_lt_of_le h1 fA.size, h2, l, hG j g l e hl⟩
  · rw [getD_setO] at e1 e2
    by_cases ei : k = i ∧ i < sl.length
    · rw [if_pos ei] at e1
      obtain rfl := Option.some.inj e1
      by_cases ej : k = j ∧ j < sl.length
      · omega
      · rw [if_neg ej] at e2
        have := (h.old j _ e2).1; omega
    · rw [if_neg ei] at e1
      by_cases ej : k = j ∧ j < sl.length
      · rw [if_pos ej] at e2
        obtain rfl := Option.some.inj e2
        have := (h.old i _ e1).1; omega
      · rw [if_neg ej] at e2
        exact h.inj i j g e1 e2
set_option maxHeartbeats 800000 in
theorem malloc_no (h : ModAt w B x t y n gl sl bs) (hl : lowF gl = n) :
    Calls Try.prog 9 #[.pointer (some ⟨x, 0, none⟩)] w fun e w' => e = .returned (.int .i64 (-1)) ∧ w' = w := by
  have H := hide h
  have HL := hide hl
  have c0 := h.c0
  have hn : n ≤ 12 := h.few
  clear h hl
  go_enter Try.func9, Try.ntmps9
  go_wp2
  go_loopg [9] n (fun gk i wr => (∃ k : Nat, k + gk = n ∧ i = .int .i64 k) ∧ wr = w)
  case atStart => exact ⟨⟨0, by omega, rfl⟩, rfl⟩
  case round =>
    obtain ⟨⟨k, hk, rfl⟩, rfl⟩ := hrel
    cases gk with
    | zero =>
      have hlt : ¬ ((k : Int) < (n : Int)) := by omega
      go_wp2
      go_ret
      exact ⟨rfl, rfl⟩
    | succ g1 =>
      have hlt : ((k : Int) < (n : Int)) := by omega
      have hc := H.out.tak.cell k (by rw [H.out.num]; omega)
      rw [lowF_below gl k (by rw [HL.out]; omega)] at hc
      go_wp2
      go_roundg g1
      case measure => omega
      case rel => exact ⟨⟨k + 1, by omega, by go_num⟩, rfl⟩
set_option maxHeartbeats 1600000 in
theorem malloc_yes (h : ModAt w B x t y n gl sl bs) (k : Nat) (hl : lowF gl = k) (hk : k < n) (hcl : Clean gl bs) (hb : bs.length = n * 64) (hB : B ≤ w.heap.size) :
    Calls Try.prog 9 #[.pointer (some ⟨x, 0, none⟩)] w fun e w' => e = .returned (.int .i64 (k : Int)) ∧ (∃ g, ModAt w' B x t y n (gl.set k true) (sl.set k (some g)) bs) ∧ Foot (ModS t y sl) w w' := by
  have H := hide h
  have HL := hide hl
  have HK := hide hk
  have c0 := h.c0
  have hn : n ≤ 12 := h.few
  have hf : gl.getD k true = false := by rw [← hl]; exact lowF_free gl (by rw [hl, h.num]; exact hk)
  have HF := hide hf
  obtain ⟨C, hC⟩ : ∃ C, (cellsB (zeros 64)).toArray = C := ⟨_, rfl⟩
  have HG := hide (h.gave hk hcl hf hb C hC hB)
  have mk : ∀ w, (Instr.makeSlice 31 (.int .i64 64) (.int .i64 64)).run Try.prog w = .ok (.slice (some ⟨w.heap.size, 0, none⟩) 64 64) (w.alloc (.cells C 5)) := fun w => by rw [← hC]; exact make_bytes 64 (by omega) w
  obtain ⟨X, hX⟩ : ∃ X, w.setCell ⟨t, k, none⟩ (.bool true) = X := ⟨_, rfl⟩
  have x1 : X.cell? ⟨x, 1, none⟩ = some (.slice (some ⟨y, 0, none⟩) n n) := by
    rw [← hX]; exact ((foot_set w ⟨t, k, none⟩ _).cell ⟨x, 1, none⟩ (lt_of_heap h.box) h.xt).trans h.c1
  have hsz : X.heap.size = w.heap.size := by rw [← hX]; simp [World.setCell]
  have hyl : y < X.heap.size := by rw [hsz]; exact lt_of_heap h.row
  obtain ⟨v, x2⟩ : ∃ v, X.cell? ⟨y, k, none⟩ = some v := ⟨_, by
    rw [← hX]; exact ((foot_set w ⟨t, k, none⟩ _).cell ⟨y, k, none⟩ (lt_of_heap h.row) h.ty.symm).trans (h.row.cell k (by rw [h.len]; exact hk))⟩
  have hXr : RowS X y sl := by
    rw [← hX]; exact ((foot_set w ⟨t, k, none⟩ _).block y (lt_of_heap h.row) h.ty.symm).trans h.row
  have x3 : X.frozen? ⟨y, k, none⟩ = false := hXr.frozen k
  have y2 : (X.alloc (.cells C 5)).cell? ⟨y, k, none⟩ = some v := by rw [World.cell?_alloc_past _ _ _ hyl]; exact x2
  have y3 : (X.alloc (.cells C 5)).frozen? ⟨y, k, none⟩ = false := by
    have : RowS (X.alloc (.cells C 5)) y sl := by rw [RowS, Below.heap_alloc _ _ _ hyl]; exact hXr
    exact this.frozen k
  have y1 : (X.alloc (.cells C 5)).cell? ⟨x, 1, none⟩ = some (.slice (some ⟨y, 0, none⟩) n n) := by
    rw [World.cell?_alloc_past _ _ _ (by show x < X.heap.size; rw [hsz]; exact lt_of_heap h.box)]; exact x1
  rw [hX] at HG
  have HS := hide hsz
  clear h hl hC hcl hb hB hf hXr hyl hsz
  go_enter Try.func9, Try.ntmps9
  go_wp2
  go_loopg [9] k (fun gk i wr => (∃ j : Nat, j + gk = k ∧ i = .int .i64 j) ∧ wr = w)
  case atStart => exact ⟨⟨0, by omega, rfl⟩, rfl⟩
  case round =>
    obtain ⟨⟨j, hj, rfl⟩, rfl⟩ := hrel
    have hlt : ((j : Int) < (n : Int)) := by omega
    have hc := H.out.tak.cell j (by rw [H.out.num]; omega)
    cases gk with
    | zero =>
      obtain rfl : j = k := by omega
      rw [HF.out] at hc
      have hfz := H.out.tak.frozen j
      clear hj
      go_wp2_with fail
      clear hX
      rw [← HS.out] at HG
      go_region
      all_goals (go_wp2; go_ret; exact ⟨rfl, ⟨_, HG.out.1.drewN 1⟩, HG.out.2.drewN 1⟩)
    | succ g1 =>
      rw [lowF_below gl j (by rw [HL.out]; omega)] at hc
      clear hX
      go_wp2
      go_roundg g1
      case measure => omega
      case rel => exact ⟨⟨j + 1, by omega, by go_num⟩, rfl⟩
end Go.Proofs.Ytlfophfilehdeaa
