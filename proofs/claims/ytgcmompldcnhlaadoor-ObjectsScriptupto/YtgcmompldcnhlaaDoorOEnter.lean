/-
  What enter does, as a contract: an answer behind all others, and its place.
-/
import Derived.Test.YtgcmompldcnhlaaDoorOCalls
import Derived.Deep.RegionLaw
namespace Go.Proofs.YtgcmompldcnhlaaDoor
open Go.RowKit
theorem owns_slice {w : World} {base : Nat} {e : TypeId} {size : Nat} {v : Value} {n : Nat} {xs : List Value} (h : w.ownsRow base e size v n xs) : ∃ ao cap, v = .slice ao n cap := by
  rcases h.2 with ⟨rfl, rfl⟩ | ⟨g, cap, cur, rfl, _⟩
  · exact ⟨none, 0, rfl⟩
  · exact ⟨_, cap, rfl⟩
theorem enter_end (g m B : Nat) (tp v : Value) (es : List Ent) (f : Int) (i o : Nat) (w X A w2 : World) (gg cap n : Nat) (O : Orc w B g m tp v es) (hf : -9223372036854775808 ≤ f ∧ f ≤ 9223372036854775807) (hi : i ≤ 281474976710655) (ho : o ≤ 281474976710655)
    (hn : findE es f i = none) (hnn : es.length = n) (fX : Foot (fun k => k = m) w X) (bX : X.heap[g]? = some (.cells #[tp, v, .map (some m)] 78 (0, 0))) (pX : PlacesAt X m (es ++ [⟨f, i, o⟩]))
    (hA : X.alloc (.cells #[.int .i64 f, .int .u64 (i : Int), .int .u64 (o : Int)] 129) = A) (hb : w.heap.size < X.heap.size)
    (hown : w2.ownsRow B 129 3 (.slice (some ⟨gg, 0, none⟩) (n + 1) cap) (n + 1) (cellsE es ++ [.int .i64 f, .int .u64 (i : Int), .int .u64 (o : Int)])) (hgrow : A.drew.grownBy w2 v.ownBlock) (hat : v.ownBlock = some gg ∨ gg = X.heap.size + 1) :
    Orc (w2.setCell ⟨g, 1, none⟩ (.slice (some ⟨gg, 0, none⟩) (n + 1) cap)) B g m tp (.slice (some ⟨gg, 0, none⟩) (n + 1) cap) (es ++ [⟨f, i, o⟩]) ∧
      Foot (fun k => k = g ∨ k = m ∨ v.ownBlock = some k) w (w2.setCell ⟨g, 1, none⟩ (.slice (some ⟨gg, 0, none⟩) (n + 1) cap)) ∧ ∀ r, (Value.slice (some ⟨gg, 0, none⟩) (n + 1) cap).ownBlock = some r → v.ownBlock = some r ∨ w.heap.size ≤ r := by
  have lg : g < w.heap.size := lt_of_heap O.box
  have lm : m < w.heap.size := O.map.lt
  have fA : Foot (fun k => v.ownBlock = some k) X w2 := by
    refine (foot_alloc _ X (.cells #[.int .i64 f, .int .u64 (i : Int), .int .u64 (o : Int)] 129)).trans (S' := fun k => v.ownBlock = some k) ?_ (fun j e => .inl e)
    have := foot_grown hgrow
    rw [← hA] at this
    exact ⟨this.os, this.tape, this.output, this.size, this.block⟩
  have b2 : w2.heap[g]? = some (.cells #[tp, v, .map (some m)] 78 (0, 0)) := (fA.block g (by omega) O.gr).trans bX
  have p2 : PlacesAt w2 m (es ++ [⟨f, i, o⟩]) := pX.block (fA.block m (by omega) O.mr)
  have hgg : gg ≠ g := by
    intro e
    obtain ⟨cur, h, _⟩ := owns_block hown (r := gg) rfl
    rw [e, b2] at h; cases h
  refine ⟨⟨?_, ?_, ?_, ?_, O.dist.snoc hn, O.bg, O.bm⟩, ?_, ?_⟩
  · rw [heap_setCell_same w2 g 1 _ _ _ b2]; rfl
  · have h := owns_foot hown (foot_set w2 ⟨g, 1, none⟩ (.slice (some ⟨gg, 0, none⟩) (n + 1) cap)) (fun r hr e => hgg (by
      have : gg = r := by simpa [Value.ownBlock] using hr
      rw [this]; exact e))
    rw [cellsE_snoc, List.length_append, List.length_singleton, hnn]
    exact h
  · exact p2.block (heap_setCell_other _ _ _ _ (fun e => O.gm e.symm))
  · intro x hx
    rcases List.mem_append.1 hx with hx | hx
    · exact O.ok x hx
    · rw [List.mem_singleton.1 hx]; exact ⟨hf.1, hf.2, hi, ho⟩
  · refine ((fX.mono (S' := fun k => k = g ∨ k = m ∨ v.ownBlock = some k) (fun k e => .inr (.inl e))).trans fA (fun j e => .inl (.inr (.inr e)))).trans (foot_set _ _ _) (fun j e => .inl (.inl e))
  · intro r hr
    obtain rfl : gg = r := by simpa [Value.ownBlock] using hr
    rcases hat with h | h
    · exact .inl h
    · exact .inr (by omega)
set_option maxHeartbeats 1600000 in
set_option maxRecDepth 100000 in
theorem enter_any (g m B : Nat) (tp v : Value) (es : List Ent) (f : Int) (i o : Nat) (w : World) (O : Orc w B g m tp v es) (hf : -9223372036854775808 ≤ f ∧ f ≤ 9223372036854775807) (hi : i ≤ 281474976710655) (ho : o ≤ 281474976710655)
    (hn : findE es f i = none) (hs : (es.length + 1) * 24 ≤ 140737488355328) (hB : B ≤ w.heap.size) :
    Calls Tryd.prog 52 #[.pointer (some ⟨g, 0, none⟩), .agg #[.int .i64 f, .int .u64 (i : Int), .int .u64 (o : Int)]] w fun e w' => e = .returned (.tuple #[]) ∧
      ∃ v', Orc w' B g m tp v' (es ++ [⟨f, i, o⟩]) ∧ Foot (fun k => k = g ∨ k = m ∨ v.ownBlock = some k) w w' ∧ ∀ r, v'.ownBlock = some r → v.ownBlock = some r ∨ w.heap.size ≤ r := by
  have HO := hide O
  have lg := lt_of_heap O.box
  obtain ⟨W, hW⟩ : ∃ W, w.alloc (.cells #[.int .i64 f, .int .u64 (i : Int), .int .u64 (o : Int)] 129) = W := ⟨_, rfl⟩
  have b0 : ∀ q, (W.drewN q).cell? ⟨w.heap.size, 0, none⟩ = some (.int .i64 f) := fun q => by rw [← hW]; simp
  have b1 : ∀ q, (W.drewN q).cell? ⟨w.heap.size, 1, none⟩ = some (.int .u64 (i : Int)) := fun q => by rw [← hW]; simp
  have OW : Orc W B g m tp v es := by rw [← hW]; exact O.foot (S := fun _ => False) (foot_alloc _ w _) id id (fun _ _ => id)
  have c1 := fun q => (OW.drewN q).c1
  have c2 := fun q => (OW.drewN q).c2
  have hst := fun q => (OW.drewN q).map.store (o := o) hf hi hn (by omega)
  obtain ⟨W1, hW1⟩ := Classical.axiomOfChoice hst
  have hrun := fun q => (hW1 q).1
  obtain ⟨n, hnn⟩ : ∃ n, es.length = n := ⟨_, rfl⟩
  rw [hnn] at hrun
  obtain ⟨ao, cap, hv⟩ := owns_slice O.row
  rw [hnn] at hv
  have HV := hide hv
  rw [hv] at c1
  clear O OW hst hv
  have hr1 : (Instr.mapUpdate 75 (.map (some m)) (.agg #[.int .i64 f, .int .u64 (i : Int)]) (.int .i64 (n : Int))).run Tryd.prog W.drew = .ok () (W1 1) := hrun 1
  clear hrun
  have hl : (n : Int) ≤ 9223372036854775807 := by omega
  have HF := hide hf
  have HI := hide hi
  have HP := hide ho
  have HN := hide hn
  have HS := hide hs
  have HW1 := hide hW1
  have HNN := hide hnn
  clear hf hi ho hn hs hW1 hnn
  obtain ⟨X, hX⟩ : ∃ X, W1 1 = X := ⟨_, rfl⟩
  have hgX : W.grownBy X (some m) := by rw [← hX]; have z := (HW1.out 1).2.2; exact ⟨z.os, z.tape, z.output, z.size, z.block⟩
  have pX := hide (hX ▸ (HW1.out 1).2.1)
  rw [hX] at hr1
  clear hX HW1
  have hmw : m < w.heap.size := HO.out.map.lt
  have hWs : W.heap.size = w.heap.size + 1 := by rw [← hW]; simp
  have fX : Foot (fun k => k = m) w X := ((foot_alloc (fun k => k = m) w _).trans ((foot_grown hgX).mono (fun k e => (Option.some.inj e).symm) |> fun z => by rw [hW]; exact z) (fun j e => .inl e))
  have bX := hide ((fX.block g lg HO.out.gm).trans HO.out.box)
  have rX := hide (owns_foot HO.out.row fX (fun r hr e => HO.out.mr (e ▸ hr)))
  have eX : X.heap[w.heap.size]? = some (.cells #[.int .i64 f, .int .u64 (i : Int), .int .u64 (o : Int)] 129 (0, 0)) := by
    rw [hgX.block w.heap.size (by omega) (fun e => by have := Option.some.inj e; omega), ← hW]; exact heap_alloc_new _ _
  have HEX := hide eX
  have hbX : w.heap.size < X.heap.size := lt_of_heap eX
  have x1 : X.cell? ⟨g, 1, none⟩ = some (.slice ao n cap) := by rw [cell_of_row X g 1 _ _ _ bX.out, HV.out]; rfl
  have x2 : X.cell? ⟨g, 2, none⟩ = some (.map (some m)) := by rw [cell_of_row X g 2 _ _ _ bX.out]; rfl
  have zf : X.frozen? ⟨g, 1, none⟩ = false := frozen_of_row X g 1 _ _ bX.out
  have y0 : X.cell? ⟨w.heap.size, 0, none⟩ = some (.int .i64 f) := by rw [cell_of_row X _ 0 _ _ _ eX]; rfl
  have y1 : X.cell? ⟨w.heap.size, 1, none⟩ = some (.int .u64 (i : Int)) := by rw [cell_of_row X _ 1 _ _ _ eX]; rfl
  have y2 : X.cell? ⟨w.heap.size, 2, none⟩ = some (.int .u64 (o : Int)) := by rw [cell_of_row X _ 2 _ _ _ eX]; rfl
  obtain ⟨A, hA⟩ : ∃ A, X.alloc (.cells #[.int .i64 f, .int .u64 (i : Int), .int .u64 (o : Int)] 129) = A := ⟨_, rfl⟩
  have a1 : A.drew.cell? ⟨g, 1, none⟩ = some (.slice ao n cap) := by rw [← hA, ← x1]; exact World.cell?_of_block (Below.heap_alloc _ _ _ (Nat.lt_of_lt_of_le lg (Nat.le_of_lt hbX)))
  have zA : A.drew.frozen? ⟨g, 1, none⟩ = false := by rw [← hA, ← zf]; exact World.frozen?_of_block (Below.heap_alloc _ _ _ (Nat.lt_of_lt_of_le lg (Nat.le_of_lt hbX)))
  have rA : Hid (A.drew.ownsRow B 129 3 (.slice ao n cap) n (cellsE es)) := by have := rX.out.alloc (.cells #[.int .i64 f, .int .u64 (i : Int), .int .u64 (o : Int)] 129); rw [hA, HNN.out, HV.out] at this; exact this
  have nA : Hid (∀ j u, [Value.int .i64 f, .int .u64 (i : Int), .int .u64 (o : Int)][j]? = some u → A.drew.cell? ((⟨X.heap.size, 0, none⟩ : Addr).add j) = some u) := by
    rw [← hA]; exact World.news_of_block (cs := #[.int .i64 f, .int .u64 (i : Int), .int .u64 (o : Int)]) (t := 129) (fr := (0, 0)) (heap_alloc_new X _)
  have oA := hide (ent_one ⟨f, i, o⟩)
  have lA : Hid (n + 1 ≤ maxLen) := by show _ ≤ _; have := HS.out; have := HNN.out; unfold maxLen; omega
  have bA : Hid ((n + 1) * 24 ≤ 140737488355328) := by show _ ≤ _; have := HS.out; rw [HNN.out] at this; exact this
  have eA : Hid (A.drew.heap.size = X.heap.size + 1) := by rw [← hA]; show (X.alloc _).heap.size = _; simp
  have sA : Hid (B ≤ A.drew.heap.size) := by show _ ≤ _; rw [eA.out]; omega
  have gA : Hid ((⟨g, 1, none⟩ : Addr).block < A.drew.heap.size) := by show g < _; rw [eA.out]; omega
  have nG : Hid (some (⟨g, 1, none⟩ : Addr).block ≠ (Value.slice ao n cap).ownBlock) := by show some g ≠ _; rw [← HV.out]; exact fun e => HO.out.gr e.symm
  obtain ⟨i0, hi0, hz0, hz1, hz2⟩ := info_parts Tryd.infoE
  have FX := hide fX
  have HGX := hide hgX
  clear fX eX hgX
  go_enter Tryd.func52, Tryd.ntmps52
  go_wp2
  go_region_held3 (fun w' => w'.cell? ⟨w.heap.size, 0, none⟩ = some (.int .i64 f) ∧ w'.cell? ⟨w.heap.size, 1, none⟩ = some (.int .u64 (i : Int)) ∧ w'.cell? ⟨g, 1, none⟩ = some (.slice ao n cap) ∧ w'.cell? ⟨g, 2, none⟩ = some (.map (some m))) (first | exact ⟨b0 0, b1 0, c1 0, c2 0⟩ | exact ⟨b0 1, b1 1, c1 1, c2 1⟩ | exact ⟨y0, y1, x1, x2⟩) (fail)
  clear b0 b1 c1 c2 hr1
  go_wp2
  go_region_law ((refine step_append_lies _ (by rfl) _ _ _ (by rfl) B 129 i0 _ 3 24 Tryd.underlying76 hi0 hz0 hz1 hz2 rfl (by omega) (.slice ao n cap) n (cellsE es) (by rfl) rA.out ⟨X.heap.size, 0, none⟩ 1 1 [.int .i64 f, .int .u64 (i : Int), .int .u64 (o : Int)] (by rfl) (by rfl) nA.out oA.out (by omega) lA.out bA.out sA.out (X.heap.size + 1) eA.out ?_; intro gg cap2 w2 hown2 hgrow2 hat2 hlt2; have s1 := (hgrow2.cell_far ⟨g, 1, none⟩ gA.out nG.out).trans a1; have s2 := (hgrow2.frozen_far ⟨g, 1, none⟩ gA.out nG.out).trans zA))
  all_goals
    go_end0
    have ee := enter_end g m B tp v es f i o w X A w2 gg cap2 n HO.out HF.out HI.out HP.out HN.out HNN.out FX.out bX.out pX.out hA hbX hown2 (by rw [HV.out]; exact hgrow2) (by rw [HV.out]; exact hat2)
    exact ⟨rfl, _, ee⟩
end Go.Proofs.YtgcmompldcnhlaaDoor
