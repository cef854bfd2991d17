/-
  append(s, make([]T, m)...) of elements of one cell: what it answers, as a law: the zeros go into the room that there is, or all of it into a new row.
-/
import Derived.Test.YtppdammgmnihgaaDoorSSt
import Derived.Lib.SmallJoins
namespace Go.Proofs.YtppdammgmnihgaaDoor
open Go.RowKit
section
variable {P : Program} (w : World)
theorem zeroCells_one (z : Value) (m : Nat) : Builtin.zeroCells #[z] m = (List.replicate m z).toArray := by
  apply Array.ext
  · simp [Builtin.zeroCells]
  · intro j h1 h2
    simp [Builtin.zeroCells, Nat.mod_one]
/- what is known of the element's type, and of the number's -/
structure OneCell (P : Program) (t ti e : TypeId) (i : TypeInfo) (z : Value) : Prop where
  sl : P.underlying t = some (.slice e)
  nu : P.underlying ti = some (.int .i64)
  inf : P.info? e = some i
  zero : i.zero = some z
  one : i.size = 1
  cell : z.cells = #[z]
  flat : z.oneCell' = true
/- a number of zeros that no machine's room bounds -/
structure Few (i : TypeInfo) (m : Nat) : Prop where
  wrap : IntKind.i64.wrap (m : Int) = (m : Int)
  nonneg : ¬ ((m : Int) < 0)
  fits : ¬ (281474976710656 < (m : Int) * (i.bytes : Int))
theorem few_of {i : TypeInfo} {m : Nat} (h1 : m ≤ 140737488355328) (h2 : m * i.bytes ≤ 140737488355328) : Few i m :=
  ⟨by rw [IntKind.wrap_i64]; omega, by omega, by rw [← Int.natCast_mul]; omega⟩
/- a row that was made just now, its first cells told -/
theorem owns_fresh (base e : Nat) (xs : List Value) (tail : Array Value) (cap : Nat) (hb : base ≤ w.heap.size) (hc : xs.length + tail.size = cap) (hm : cap ≤ maxLen) (cs : Array Value) (hcs : cs = xs.toArray ++ tail) :
    (w.alloc (.cells cs e)).ownsRow base e 1 (.slice (some ⟨w.heap.size, 0, none⟩) xs.length cap) xs.length xs := by
  subst hcs
  refine ⟨(Nat.mul_one _).symm, .inr ⟨w.heap.size, cap, _, rfl, hb, heap_alloc_new _ _, by omega, hm, by simp; omega, ?_⟩⟩
  rw [Nat.mul_one, Array.toList_append, List.take_append_of_le_length (by simp), List.take_of_length_le (by simp)]
variable {t ti ty e : TypeId} {i : TypeInfo} {z : Value}
theorem append_zeros_room (K : OneCell P t ti e i z) (g sLen sCap m : Nat) (cur : Array Value) (hg : w.heap[g]? = some (.cells cur e (0, 0))) (F : Few i m) (hroom : sLen + m ≤ sCap) (hfit : sLen + m ≤ cur.size) :
    (Builtin.append_ #[t, ti] ty #[.slice (some ⟨g, 0, none⟩) sLen sCap, .int .i64 (m : Int)]).run P w =
      .ok (.slice (some ⟨g, 0, none⟩) (sLen + m) sCap) (w.setRow g (splice cur.toList sLen (List.replicate m z)).toArray) := by
  have hst := run_storeCells_at P g sLen e (List.replicate m z) 0 cur w hg (by simpa using hfit) (fun v hv => by rw [(List.mem_replicate.1 hv).2]; exact K.flat)
  simp only [Nat.add_zero, List.append_assoc] at hst
  by_cases h0 : m = 0
  · subst h0
    have e0 : splice cur.toList sLen (List.replicate 0 z) = cur.toList := splice_nil _ _
    rw [e0, show cur.toList.toArray = cur from rfl, setRow_self w g _ _ _ hg]
    simp [Builtin.append_, run_underlying K.sl, run_underlying K.nu, sizeOf, typeInfo, K.inf, asInt, asIntOf, storeCells, show sLen ≤ sCap by omega, show IntKind.i64.wrap 0 = 0 from by decide]
  · simp [Builtin.append_, run_underlying K.sl, run_underlying K.nu, sizeOf, typeInfo, zeroValue, K.inf, K.zero, K.one, K.cell, asInt, asIntOf, F.wrap, F.nonneg, F.fits, h0, hroom, zeroCells_one, Addr.add_lit, hst, splice]
theorem append_zeros_none (K : OneCell P t ti e i z) : (Builtin.append_ #[t, ti] ty #[.slice none 0 0, .int .i64 0]).run P w = .ok (.slice none 0 0) w := by
  simp [Builtin.append_, run_underlying K.sl, run_underlying K.nu, sizeOf, typeInfo, K.inf, asInt, asIntOf, show IntKind.i64.wrap 0 = 0 from by decide]
theorem append_zeros_nil (K : OneCell P t ti e i z) (m : Nat) (h0 : 0 < m) (F : Few i m) (hb : m * i.bytes ≤ 140737488355328) (hm : m ≤ 140737488355328) :
    (Builtin.append_ #[t, ti] ty #[.slice none 0 0, .int .i64 (m : Int)]).run P w =
      .ok (.slice (some ⟨w.heap.size, 0, none⟩) m (grownCap w m 0 e)) (w.drew.alloc (.cells ((List.replicate m z).toArray ++ (List.replicate (grownCap w m 0 e - m) z).toArray) e)) := by
  have big : ¬ (9223372036854775807 < (m : Int)) := by omega
  have room : ¬ (281474976710656 < Builtin.nextslicecap m 0 * i.bytes) := by rw [nextslicecap_zero h0]; omega
  simp [Builtin.append_, run_underlying K.sl, run_underlying K.nu, sizeOf, typeInfo, zeroValue, K.inf, K.zero, K.one, K.cell, asInt, asIntOf, F.wrap, F.nonneg, F.fits, Nat.ne_of_gt h0, big, room, Question.forced, run_firstCells_none, newRow, grownCap, zeroCells_one]
theorem append_zeros_grow (K : OneCell P t ti e i z) (b : Addr) (sLen sCap m : Nat) (olds : List Value) (hlo : olds.length = sLen) (holds : ∀ j v, olds[j]? = some v → w.cell? (b.add j) = some v)
    (hg : sCap < sLen + m) (F : Few i m) (hm : sLen + m ≤ 140737488355328) (hfit : Builtin.nextslicecap (sLen + m) sCap * i.bytes ≤ 281474976710656) :
    (Builtin.append_ #[t, ti] ty #[.slice (some b) sLen sCap, .int .i64 (m : Int)]).run P w =
      .ok (.slice (some ⟨w.heap.size, 0, none⟩) (sLen + m) (grownCap w (sLen + m) sCap e)) (w.drew.alloc (.cells (olds.toArray ++ (List.replicate m z).toArray ++ (List.replicate (grownCap w (sLen + m) sCap e - (sLen + m)) z).toArray) e)) := by
  have full : ¬ (sLen + m ≤ sCap) := by omega
  have big : ¬ (9223372036854775807 < ((sLen : Int) + (m : Int))) := by omega
  have room : ¬ (281474976710656 < Builtin.nextslicecap (sLen + m) sCap * i.bytes) := by omega
  have read := run_firstCells_some (P := P) w.drew 1 sLen b sLen sCap olds (by omega) (by simpa using holds)
  by_cases h0 : m = 0
  · subst h0
    simp [Builtin.append_, run_underlying K.sl, run_underlying K.nu, sizeOf, typeInfo, zeroValue, K.inf, K.zero, K.one, K.cell, asInt, asIntOf, show ¬ (sLen ≤ sCap) by omega, show ¬ (9223372036854775807 < (sLen : Int)) by omega, show ¬ (281474976710656 < Builtin.nextslicecap sLen sCap * i.bytes) from room, Question.forced, read, newRow, grownCap, zeroCells_one, show IntKind.i64.wrap 0 = 0 from by decide]
  · simp [Builtin.append_, run_underlying K.sl, run_underlying K.nu, sizeOf, typeInfo, zeroValue, K.inf, K.zero, K.one, K.cell, asInt, asIntOf, F.wrap, F.nonneg, F.fits, h0, full, big, room, Question.forced, read, newRow, grownCap, zeroCells_one]
/- zeros behind a row that the call owns -/
theorem run_append_zeros (base : Nat) (K : OneCell P t ti e i z) (v : Value) (n : Nat) (xs : List Value) (hown : w.ownsRow base e 1 v n xs) (m : Nat) (h63 : n + m ≤ 140737488355328) (hbytes : (n + m) * i.bytes ≤ 140737488355328) (hbase : base ≤ w.heap.size) :
    ∃ v' w', (Builtin.append_ #[t, ti] ty #[v, .int .i64 (m : Int)]).run P w = .ok v' w' ∧ w'.ownsRow base e 1 v' (n + m) (xs ++ List.replicate m z) ∧ w.grownBy w' v.ownBlock ∧ (v'.ownBlock = v.ownBlock ∨ v'.ownBlock = some w.heap.size) := by
  have F : Few i m := few_of (by omega) (Nat.le_trans (Nat.mul_le_mul_right _ (Nat.le_add_left m n)) hbytes)
  have hx : xs.length = n := by have := hown.1; omega
  have total : (xs ++ List.replicate m z).length = n + m := by rw [List.length_append, List.length_replicate, hx]
  have new : ∀ (old : Nat) (cs : Array Value), cs = (xs ++ List.replicate m z).toArray ++ (List.replicate (grownCap w (n + m) old e - (n + m)) z).toArray → (w.drew.alloc (.cells cs e)).ownsRow base e 1 (.slice (some ⟨w.heap.size, 0, none⟩) (n + m) (grownCap w (n + m) old e)) (n + m) (xs ++ List.replicate m z) := by
    intro old cs hcs
    have ge := grownCap_ge w (n + m) old e
    have le := grownCap_le_maxLen w (n + m) old e (by unfold maxLen; omega)
    have := owns_fresh w.drew base e (xs ++ List.replicate m z) (List.replicate (grownCap w (n + m) old e - (n + m)) z).toArray (grownCap w (n + m) old e) hbase (by rw [total, List.size_toArray, List.length_replicate]; omega) le cs hcs
    rw [total] at this
    exact this
  have far : ∀ (cs : Array Value) (row : Option Nat), w.grownBy (w.drew.alloc (.cells cs e)) row := fun cs row =>
    ⟨rfl, rfl, rfl, (below_alloc w.drew _).size, fun k hk _ => Below.heap_alloc w.drew _ k hk⟩
  rcases hown.2 with ⟨rfl, rfl⟩ | ⟨g, cap, cur, rfl, hbg, hg, hnc, hcm, hcs, htake⟩
  · obtain rfl : xs = [] := List.eq_nil_of_length_eq_zero hx
    by_cases hm : m = 0
    · subst hm
      exact ⟨_, w, append_zeros_none w K, hown, ⟨rfl, rfl, rfl, Nat.le_refl _, fun _ _ _ => rfl⟩, Or.inl rfl⟩
    · refine ⟨_, _, append_zeros_nil w K m (by omega) F (by simpa using hbytes) (by omega), ?_, far _ _, Or.inr rfl⟩
      have := new 0 ((List.replicate m z).toArray ++ (List.replicate (grownCap w m 0 e - m) z).toArray) (by rw [Nat.zero_add]; rfl)
      rw [Nat.zero_add] at this ⊢
      exact this
  · rw [Nat.mul_one] at htake hcs
    by_cases hroom : n + m ≤ cap
    · refine ⟨_, _, append_zeros_room w K g n cap m cur hg F hroom (by omega), ⟨by omega, .inr ⟨g, cap, _, rfl, hbg, setRow_heap w g cur _ e _ hg, hroom, hcm, ?_, ?_⟩⟩, ⟨rfl, rfl, rfl, by simp, fun k _ hk => setRow_other w g k _ (fun e => hk (by rw [e]; rfl))⟩, Or.inl rfl⟩
      · rw [Nat.mul_one, List.size_toArray, length_splice _ _ _ (by rw [List.length_replicate, Array.length_toList]; omega), Array.length_toList]; exact hcs
      · rw [Nat.mul_one]
        simp only [splice]
        rw [htake, ← List.append_assoc, ← total]
        exact List.take_left
    · refine ⟨_, _, append_zeros_grow w K ⟨g, 0, none⟩ n cap m xs hx (hown.cells (g := g) rfl) (by omega) F h63 (growslice_fits (by omega) hbytes), new cap _ (by rw [List.append_toArray xs (List.replicate m z)]), far _ _, Or.inr rfl⟩
theorem wpList_append_zeros {ops : Array Oper} {rest : List Oper} {o : Oper} {a : Act} {Q : Exit → Act → World → Prop} (hgd : o.guard = none) (s x : Operand) (ho : o.op = .call { callee := .builtin .append, args := #[s, x], argTypes := #[t, ti] })
    (base : Nat) (K : OneCell P t ti e i z) (v : Value) (n : Nat) (xs : List Value) (hs : a.eval s = v) (hown : w.ownsRow base e 1 v n xs) (m : Nat) (hx : a.eval x = .int .i64 (m : Int)) (h63 : n + m ≤ 140737488355328) (hbytes : (n + m) * i.bytes ≤ 140737488355328) (hbase : base ≤ w.heap.size)
    (h : ∀ v' w', w'.ownsRow base e 1 v' (n + m) (xs ++ List.replicate m z) → w.grownBy w' v.ownBlock → (v'.ownBlock = v.ownBlock ∨ v'.ownBlock = some w.heap.size) → wpList P ops Q rest (a.put o.dst v') w') :
    wpList P ops Q (o :: rest) a w := by
  refine wpList_plain hgd fun J hJ => ?_
  obtain ⟨v', w', run, own, grown, lies⟩ := run_append_zeros (P := P) (ty := o.type) w base K v n xs hown m h63 hbytes hbase
  unfold Oper.wp execOp
  simp only [ho, resolve, invoke, builtin, Sem.run_bind, Sem.run_pure, Result.andThen_ok, List.map_toArray, List.map_cons, List.map_nil, hs, hx, run]
  exact hJ _ _ (h v' w' own grown lies)
end
theorem Tryd.byteCell : ∃ i, OneCell Tryd.prog 28 3 5 i (.int .u8 0) ∧ i.bytes = 1 := by
  obtain ⟨i0, hi, hz0, hz1, hz2⟩ := info_parts Tryd.info5
  exact ⟨i0, ⟨Tryd.underlying28, Tryd.underlying3, hi, hz0, hz1, rfl, rfl⟩, hz2⟩
end Go.Proofs.YtppdammgmnihgaaDoor
