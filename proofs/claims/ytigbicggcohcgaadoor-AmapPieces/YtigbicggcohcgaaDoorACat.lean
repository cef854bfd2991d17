/-
  slices.Grow of none, slices.Concat: what they answer, as contracts: one new row that holds all parts, one behind the other. Pieces of a slice of areas.
-/
import Derived.Test.YtigbicggcohcgaaDoorARow
namespace Go.Proofs.YtigbicggcohcgaaDoor
open Go.RowKit
theorem Tryd.sizeOfA (w : World) : (sizeOf 24).run Tryd.prog w = .ok 5 w := by kernel_rfl
def tailA (ao : Option Addr) (k cap : Nat) : Option Addr := if cap = k then ao else ao.map (·.add (k * 5))
theorem cut_tail (w : World) (ao : Option Addr) (n cap k : Nat) (h : k ≤ n) : (Instr.slice 26 (.slice ao n cap) (some (.int .i64 (k : Int))) none none).run Tryd.prog w = .ok (.slice (tailA ao k cap) (n - k) (cap - k)) w := by
  have ht : Tryd.prog.underlying 26 = some (.slice (Tryd.prog.elem 26)) := by rw [Tryd.sizeA]; exact Tryd.underlying26
  rw [run_slice_l (P := Tryd.prog) w 26 ao n cap ht .i64 (k : Int) (by omega) (by omega), Tryd.sizeA, Tryd.sizeOfA]
  simp [Result.andThen, sliced, tailA]
theorem cut_head (w : World) (ao : Option Addr) (n cap k : Nat) (h : k ≤ cap) : (Instr.slice 26 (.slice ao n cap) none (some (.int .i64 (k : Int))) none).run Tryd.prog w = .ok (.slice ao k cap) w := by
  have ht : Tryd.prog.underlying 26 = some (.slice (Tryd.prog.elem 26)) := by rw [Tryd.sizeA]; exact Tryd.underlying26
  rw [run_slice_h (P := Tryd.prog) w 26 ao n cap ht .i64 (k : Int) (by omega) (by omega), Tryd.sizeA, Tryd.sizeOfA]
  have hz : ao.map (fun x => x.add 0) = ao := by cases ao <;> simp [Addr.add]
  simp [Result.andThen, sliced, hz]
theorem cellsA_drop (L : List Ar) (k : Nat) : cellsA (L.drop k) = (cellsA L).drop (k * 5) := by
  induction L generalizing k with
  | nil => simp [cellsA]
  | cons x r ih =>
    cases k with
    | zero => simp
    | succ k =>
      rw [List.drop_succ_cons, ih, show (k + 1) * 5 = 5 + k * 5 by omega, ← List.drop_drop]
      rfl
theorem cellsA_take (L : List Ar) (k : Nat) : cellsA (L.take k) = (cellsA L).take (k * 5) := by
  induction L generalizing k with
  | nil => simp [cellsA]
  | cons x r ih =>
    cases k with
    | zero => simp [cellsA]
    | succ k =>
      rw [List.take_succ_cons, show (k + 1) * 5 = k * 5 + 1 + 1 + 1 + 1 + 1 by omega]
      simp only [cellsA, List.flatMap_cons] at ih ⊢
      rw [ih]
      simp [Ar.cells]
theorem Ars.head {w : World} {ao : Option Addr} {n cap : Nat} {L : List Ar} (h : Ars w ao n cap L) (k : Nat) (hk : k ≤ n) : Ars w ao k cap (L.take k) := by
  have hl := h.len
  refine ⟨?_, Nat.le_trans hk h.2.1, h.2.2.1, h.2.2.2.1, fun ad e j u hu => h.2.2.2.2 ad e j u ?_⟩
  · rw [cellsA_len, List.length_take]; congr 1; omega
  · rw [cellsA_take, List.getElem?_take] at hu
    split at hu
    · exact hu
    · simp at hu
theorem Ars.tail {w : World} {ao : Option Addr} {n cap : Nat} {L : List Ar} (h : Ars w ao n cap L) (k : Nat) (hk : k ≤ n) : Ars w (tailA ao k cap) (n - k) (cap - k) (L.drop k) := by
  have hl := h.len
  have h2 := h.2.1
  have h3 := h.2.2.1
  refine ⟨by rw [cellsA_len, List.length_drop, hl], by omega, by omega, fun e => ?_, fun ad e j u hu => ?_⟩
  · unfold tailA at e
    split at e
    · omega
    · have := h.2.2.2.1 (by cases ao <;> simp_all); omega
  · have hj : j < (cellsA (L.drop k)).length := by
      rcases Nat.lt_or_ge j (cellsA (L.drop k)).length with hlt | hge
      · exact hlt
      · rw [List.getElem?_eq_none hge] at hu; cases hu
    rw [cellsA_len, List.length_drop] at hj
    unfold tailA at e
    rw [if_neg (by omega)] at e
    obtain ⟨a0, rfl, rfl⟩ := Option.map_eq_some_iff.1 e
    rw [cellsA_drop, List.getElem?_drop] at hu
    rw [add_add]
    exact h.2.2.2.2 a0 rfl _ u hu
/- append(nil, make([]T, m)...) -/
theorem zeros_nil {P : Program} (w : World) {t ti ty e : TypeId} {i : TypeInfo} {z : Value} (sl : P.underlying t = some (.slice e)) (nu : P.underlying ti = some (.int .i64)) (inf : P.info? e = some i) (zero : i.zero = some z) (hs : 0 < i.size) (m : Nat) (h0 : 0 < m) (hb : m * i.bytes ≤ 140737488355328) (hm : m ≤ 140737488355328) :
    (Builtin.append_ #[t, ti] ty #[.slice none 0 0, .int .i64 (m : Int)]).run P w =
      .ok (.slice (some ⟨w.heap.size, 0, none⟩) m (grownCap w m 0 e)) (w.drew.alloc (.cells (Builtin.zeroCells z.cells m ++ Builtin.zeroCells z.cells (grownCap w m 0 e - m)) e)) := by
  have big : ¬ (9223372036854775807 < (m : Int)) := by omega
  have wrap : IntKind.i64.wrap (m : Int) = (m : Int) := by rw [IntKind.wrap_i64]; omega
  have nonneg : ¬ ((m : Int) < 0) := by omega
  have fits : ¬ (281474976710656 < (m : Int) * (i.bytes : Int)) := by rw [← Int.natCast_mul]; omega
  have room : ¬ (281474976710656 < Builtin.nextslicecap m 0 * i.bytes) := by rw [nextslicecap_zero h0]; omega
  have nz : m * i.size ≠ 0 := Nat.mul_ne_zero (by omega) (by omega)
  simp [Builtin.append_, run_underlying sl, run_underlying nu, sizeOf, typeInfo, zeroValue, inf, zero, asInt, asIntOf, wrap, nonneg, fits, Nat.ne_of_gt h0, big, room, Question.forced, run_firstCells_none, newRow, grownCap]
  intro h; exact absurd h nz
/- append(s, nil...) -/
theorem app_none {P : Program} (w : World) {t ty e : TypeId} {i : TypeInfo} (sl : P.underlying t = some (.slice e)) (inf : P.info? e = some i) (ao : Option Addr) (n c : Nat) (hn : n ≤ c) (hz : ao = none → c = 0) : (Builtin.append_ #[t, t] ty #[.slice ao n c, .slice none 0 0]).run P w = .ok (.slice ao n c) w := by
  cases ao with
  | none =>
    obtain rfl := hz rfl
    obtain rfl : n = 0 := by omega
    simp [Builtin.append_, run_underlying sl, sizeOf, typeInfo, inf, Builtin.lenOf, Builtin.firstCells]
  | some a =>
    simp [Builtin.append_, run_underlying sl, sizeOf, typeInfo, inf, Builtin.lenOf, Builtin.firstCells, hn, storeCells]
theorem grow_step (w : World) (m : Nat) (h0 : 0 < m) (hm : m ≤ 1000000) : ∃ v w', (Builtin.append_ #[26, 3] 26 #[.slice none 0 0, .int .i64 (m : Int)]).run Tryd.prog w = .ok v w' ∧ Below w.heap.size w w' ∧ ∃ c, v = .slice (some ⟨w.heap.size, 0, none⟩) m c ∧ m ≤ c ∧ w'.ownsRow w.heap.size 24 5 (.slice (some ⟨w.heap.size, 0, none⟩) 0 c) 0 [] := by
  obtain ⟨i0, hi0, hz0, hz1, hz2⟩ := info_parts Tryd.infoA
  have hr := zeros_nil (ty := 26) w Tryd.underlying26 Tryd.underlying3 hi0 hz0 (by omega) m h0 (by rw [hz2]; omega) (by omega)
  have hge := grownCap_ge w m 0 24
  have hcm : grownCap w m 0 24 ≤ maxLen := grownCap_le_maxLen w m 0 24 (by unfold maxLen; omega)
  refine ⟨_, _, hr, ?_, _, rfl, hge, rfl, .inr ⟨w.heap.size, _, _, rfl, Nat.le_refl _, heap_alloc_new w.drew _, Nat.zero_le _, hcm, ?_, ?_⟩⟩
  · exact ⟨rfl, rfl, rfl, (below_alloc w.drew _).size, fun k hk => Below.heap_alloc w.drew _ k hk⟩
  · simp only [Array.size_append, size_zeroCells]
    have e : (Value.agg #[.int .i64 0, .int .i64 0, .int .i64 0, .int .i64 0, .bool false]).cells.size = 5 := rfl
    rw [e]; omega
  · simp
/- an append whose run is known, in a region that doesn't draw -/
theorem wpList_append_run {P : Program} {w : World} {ops : Array Oper} {rest : List Oper} {o : Oper} {a : Act} {Q : Exit → Act → World → Prop} (hgd : o.guard = none) (s x : Operand) (ts : Array TypeId)
    (ho : o.op = .call { callee := .builtin .append, args := #[s, x], argTypes := ts }) (v u v' : Value) (w' : World) (hs : a.eval s = v) (hx : a.eval x = u) (hr : (Builtin.append_ ts o.type #[v, u]).run P w = .ok v' w') (h : wpList P ops Q rest (a.put o.dst v') w') :
    wpList P ops Q (o :: rest) a w := by
  refine wpList_plain hgd fun K hK => ?_
  unfold Oper.wp execOp
  simp only [ho, resolve, invoke, builtin, Sem.run_bind, Sem.run_pure, Result.andThen_ok, List.map_toArray, List.map_cons, List.map_nil, hs, hx, hr]
  exact hK _ _ h
def GrowEnd (w : World) (v : Value) (w' : World) : Prop := w'.ownsRow w.heap.size 24 5 v 0 [] ∧ Below w.heap.size w w'
set_option maxRecDepth 20000 in
set_option maxHeartbeats 800000 in
theorem grow_any (m : Nat) (hm : m ≤ 1000000) (w : World) :
    Calls Tryd.prog 26 #[.slice none 0 0, .int .i64 (m : Int)] w fun e w' => ∃ v, e = .returned v ∧ GrowEnd w v w' := by
  have hn : ¬ ((m : Int) < 0) := by omega
  by_cases h0 : m = 0
  · subst h0
    go_enter Tryd.func26, Tryd.ntmps26
    go_wp2
    go_ret
    exact ⟨_, rfl, ⟨rfl, .inl ⟨rfl, rfl⟩⟩, Below.refl _ _⟩
  · have hp : (0 : Int) < (m : Int) := by omega
    have hcut : ∀ W : World, (Instr.slice 26 (.slice none 0 0) none (some (.int .i64 0)) none).run Tryd.prog W = .ok (.slice none 0 0) W := fun W => cut_head W none 0 0 0 (Nat.le_refl _)
    obtain ⟨v, w1, hr, b1, c, hv, hc, hown⟩ := grow_step w m (by omega) hm
    have hcut2 : ∀ W : World, (Instr.slice 26 (.slice (some ⟨w.heap.size, 0, none⟩) m c) none (some (.int .i64 0)) none).run Tryd.prog W = .ok (.slice (some ⟨w.heap.size, 0, none⟩) 0 c) W := fun W => cut_head W (some ⟨w.heap.size, 0, none⟩) m c 0 (by omega)
    subst hv
    obtain ⟨G, hG⟩ : ∃ G, w.heap.size = G := ⟨_, rfl⟩
    rw [hG] at hr hcut2 hown
    have HG := hide hG
    have HO := hide hown
    have HB := hide b1
    have HR := hide hr
    clear hown b1 hc hG hr
    go_enter Tryd.func26, Tryd.ntmps26
    go_wp2_with (at_builtin; refine wpList_append_run rfl _ _ _ rfl _ _ _ _ rfl rfl HR.out ?_)
    go_wp2
    go_ret
    exact ⟨_, rfl, HG.out ▸ HO.out, HB.out⟩
end Go.Proofs.YtigbicggcohcgaaDoor
