/-
  A store of segments in memory: its block, its memory of pages, each segment's block and its row of pages; what stays of them when other memory turns.
-/
import Derived.Test.YtppdammgmnihgaaDoorSMath
import Derived.Test.YtppdammgmnihgaaDoorPRead
import Derived.Maps.AppendAt
namespace Go.Proofs.YtppdammgmnihgaaDoor
open Go.RowKit
/- blocks of which P holds are as they were -/
structure Keep (P : Nat → Obj → Prop) (w w' : World) : Prop where
  os : w'.os = w.os
  tape : w'.tape = w.tape
  output : w'.output = w.output
  size : w.heap.size ≤ w'.heap.size
  block : ∀ k o, w.heap[k]? = some o → P k o → w'.heap[k]? = some o
theorem Keep.refl (P : Nat → Obj → Prop) (w : World) : Keep P w w := ⟨rfl, rfl, rfl, Nat.le_refl _, fun _ _ h _ => h⟩
theorem Keep.then {P : Nat → Obj → Prop} {a b c : World} (h : Keep P a b) (k : Keep P b c) : Keep P a c :=
  ⟨k.os.trans h.os, k.tape.trans h.tape, k.output.trans h.output, Nat.le_trans h.size k.size, fun i o e p => k.block i o (h.block i o e p) p⟩
theorem Keep.mono {P P' : Nat → Obj → Prop} {w w' : World} (h : Keep P w w') (hP : ∀ k o, P' k o → P k o) : Keep P' w w' := ⟨h.os, h.tape, h.output, h.size, fun k o e p => h.block k o e (hP k o p)⟩
theorem keep_below {w w' : World} (P : Nat → Obj → Prop) (h : Below w.heap.size w w') : Keep P w w' := ⟨h.os, h.tape, h.output, h.size, fun k o e _ => by rw [h.block k (lt_of_heap e)]; exact e⟩
theorem keep_foot {S : Nat → Prop} {P : Nat → Obj → Prop} {w w' : World} (h : Foot S w w') (hP : ∀ k o, w.heap[k]? = some o → P k o → ¬ S k) : Keep P w w' :=
  ⟨h.os, h.tape, h.output, h.size, fun k o e p => by rw [h.block k (lt_of_heap e) (hP k o e p)]; exact e⟩
theorem Keep.drewN {P : Nat → Obj → Prop} {a w : World} (h : Keep P a w) (q : Nat) : Keep P a (w.drewN q) := ⟨h.os, h.tape, h.output, h.size, h.block⟩
theorem Keep.low {P : Nat → Obj → Prop} {B : Nat} {w w' : World} (h : Keep P w w') (hB : B ≤ w.heap.size) (hP : ∀ k o, k < B → P k o) : Below B w w' :=
  ⟨h.os, h.tape, h.output, h.size, fun k hk => by
    obtain ⟨o, e⟩ : ∃ o, w.heap[k]? = some o := ⟨_, Array.getElem?_eq_getElem (by omega)⟩
    rw [h.block k o e (hP k o hk), e]⟩
/- the types of a store's blocks -/
def StoreTy : Obj → Prop
  | .cells _ t _ => t = 58 ∨ t = 77 ∨ t = 4 ∨ t = 80 ∨ t = 67 ∨ t = 3
  | _ => False
/- what the calls on a store leave as it was: blocks of other types, and all that were there ahead of it -/
def StP (B : Nat) (k : Nat) (o : Obj) : Prop := k < B ∨ ¬ StoreTy o
theorem tyne {w : World} {x y : Nat} {c d : Array Value} {t u : TypeId} {e f : Nat × Nat} (h1 : w.heap[x]? = some (.cells c t e)) (h2 : w.heap[y]? = some (.cells d u f)) (h : t ≠ u) : x ≠ y := by
  intro e; subst e; rw [h1] at h2; cases h2; exact h rfl
theorem ownsRow_keep {w w' : World} {P : Nat → Obj → Prop} (h : Keep P w w') {base e size n : Nat} {v : Value} {xs : List Value} (r : w.ownsRow base e size v n xs) (hP : ∀ g c, base ≤ g → v.ownBlock = some g → P g (.cells c e (0, 0))) : w'.ownsRow base e size v n xs := by
  refine ⟨r.1, ?_⟩
  rcases r.2 with hn | ⟨g, cap, cur, rfl, hb, hgg, rest⟩
  · exact .inl hn
  · exact .inr ⟨g, cap, cur, rfl, hb, h.block g _ hgg (hP g cur hb rfl), rest⟩
/- a row of numbers -/
def numsV (ps : List Nat) : List Value := ps.map fun (p : Nat) => Value.int .i64 (p : Int)
theorem numsV_len (ps : List Nat) : (numsV ps).length = ps.length := by simp [numsV]
theorem numsV_get (ps : List Nat) (j : Nat) (h : j < ps.length) : (numsV ps)[j]? = some (.int .i64 ((ps.getD j 0 : Nat) : Int)) := by
  simp [numsV, List.getElem?_eq_getElem h, List.getD_eq_getElem?_getD]
theorem numsV_append (a b : List Nat) : numsV (a ++ b) = numsV a ++ numsV b := by simp [numsV]
def Cel.at (c : Cel) : Option Addr := c.ro.map fun r => ⟨r, 0, none⟩
def Cel.sl (c : Cel) : Value := .slice c.at c.pgs.length c.cap
theorem Cel.own (c : Cel) : c.sl.ownBlock = c.ro := by
  unfold Cel.sl Cel.at; cases c.ro <;> rfl
/- a segment -/
structure CelAt (w : World) (B : Nat) (c : Cel) : Prop where
  box : w.heap[c.g]? = some (.cells #[.int .i64 (c.size : Int), c.sl] 67 (0, 0))
  row : w.ownsRow B 3 1 c.sl c.pgs.length (numsV c.pgs)
  low : B ≤ c.g
variable {w w' : World} {B st m a b n : Nat} {gl : List Bool} {bs : List UInt8} {c : Cel} {sg : Nat → Option Cel}
theorem CelAt.c0 (x : CelAt w B c) : w.cell? ⟨c.g, 0, none⟩ = some (.int .i64 (c.size : Int)) := by rw [cell_of_row w c.g 0 _ _ _ x.box]; rfl
theorem CelAt.c1 (x : CelAt w B c) : w.cell? ⟨c.g, 1, none⟩ = some (.slice c.at c.pgs.length c.cap) := by rw [cell_of_row w c.g 1 _ _ _ x.box]; rfl
theorem CelAt.z (x : CelAt w B c) (j : Nat) : w.frozen? ⟨c.g, j, none⟩ = false := frozen_of_row w c.g j _ _ x.box
theorem CelAt.page (x : CelAt w B c) (j : Nat) (h : j < c.pgs.length) : ∃ r, c.ro = some r ∧ w.cell? ⟨r, j, none⟩ = some (.int .i64 ((c.pgs.getD j 0 : Nat) : Int)) ∧ c.pgs.length ≤ c.cap ∧ c.cap ≤ maxLen := by
  rcases x.row.2 with ⟨_, e⟩ | ⟨g, cap, cur, e, _, hg, hl, hm, _⟩
  · omega
  · have hr : c.ro = some g := by rw [← c.own, e]; rfl
    have hc : c.cap = cap := (Value.slice.inj e).2.2
    refine ⟨g, hr, ?_, by omega, by omega⟩
    have hy := x.row
    rw [e] at hy
    have := hy.cellAt j (by omega)
    rw [numsV_get _ _ h] at this
    exact this
theorem CelAt.few (x : CelAt w B c) : c.pgs.length ≤ c.cap ∧ c.cap ≤ maxLen := by
  rcases x.row.2 with ⟨e, h⟩ | ⟨g, cap, cur, e, _, hg, hl, hm, _⟩
  · have := (Value.slice.inj e).2.2; rw [h, this]; exact ⟨Nat.zero_le _, Nat.zero_le _⟩
  · have := (Value.slice.inj e).2.2; rw [this]; exact ⟨hl, hm⟩
theorem CelAt.ro_is (x : CelAt w B c) (r : Nat) (h : c.ro = some r) : B ≤ r ∧ ∃ cur, w.heap[r]? = some (.cells cur 3 (0, 0)) := by
  have hh := c.own
  rcases x.row.2 with ⟨e, _⟩ | ⟨g, cap, cur, e, hb, hg, _⟩
  · rw [e, h] at hh; cases hh
  · rw [e, h] at hh; cases hh; exact ⟨hb, cur, hg⟩
theorem CelAt.keep {P : Nat → Obj → Prop} (x : CelAt w B c) (k : Keep P w w') (h1 : ∀ cs, P c.g (.cells cs 67 (0, 0))) (h2 : ∀ r cs, c.ro = some r → P r (.cells cs 3 (0, 0))) : CelAt w' B c :=
  ⟨k.block _ _ x.box (h1 _), ownsRow_keep k x.row (fun g cs _ e => h2 g cs (by rw [← c.own]; exact e)), x.low⟩
theorem MemAt.keep {P : Nat → Obj → Prop} (x : MemAt w m a b n gl bs) (k : Keep P w w') (hm : ∀ cs, P m (.cells cs 77 (0, 0))) (ha : ∀ cs, P a (.cells cs 4 (0, 0))) (hb : ∀ cs, P b (.cells cs 80 (0, 0))) : MemAt w' m a b n gl bs :=
  ⟨k.block _ _ x.box (hm _), k.block _ _ x.giv (ha _), k.block _ _ x.byt (hb _), x.num, x.few, x.len, x.clean⟩
/- the pointers of all segments -/
def ptr (o : Option Cel) : Value := .pointer (o.map fun c => ⟨c.g, 0, none⟩)
def ptrs (sg : Nat → Option Cel) : List Value := (List.range 64).map fun i => ptr (sg i)
def boxS (m : Nat) (sg : Nat → Option Cel) : Array Value := (Value.pointer (some ⟨m, 0, none⟩) :: ptrs sg).toArray
theorem ptrs_upd (sg : Nat → Option Cel) (i : Nat) (o : Option Cel) : ptrs (upd sg i o) = (ptrs sg).set i (ptr o) := by
  apply List.ext_getElem?
  intro j
  unfold ptrs
  by_cases hj : j < 64
  · rw [List.getElem?_set]
    simp only [List.getElem?_map, List.getElem?_range hj, Option.map_some, List.length_map, List.length_range]
    by_cases e : i = j
    · subst e; rw [if_pos rfl, if_pos hj, upd_same]
    · rw [if_neg e, upd_other _ _ _ _ (fun x => e x.symm)]
  · rw [List.getElem?_eq_none (by simp; omega), List.getElem?_eq_none (by simp; omega)]
structure StAt (w : World) (B st m a b n : Nat) (gl : List Bool) (bs : List UInt8) (sg : Nat → Option Cel) : Prop where
  box : w.heap[st]? = some (.cells (boxS m sg) 58 (0, 0))
  mem : MemAt w m a b n gl bs
  cel : ∀ i c, sg i = some c → CelAt w B c
  gs : ∀ i c j d, sg i = some c → sg j = some d → c.g = d.g → i = j
  rs : ∀ i c j d r, sg i = some c → sg j = some d → c.ro = some r → d.ro = some r → i = j
  hst : B ≤ st
  ha : B ≤ a
  hb : B ≤ b
  good : Good n gl bs sg
theorem box_c0 {w : World} {st m : Nat} {sg : Nat → Option Cel} (h : w.heap[st]? = some (.cells (boxS m sg) 58 (0, 0))) : w.cell? ⟨st, 0, none⟩ = some (.pointer (some ⟨m, 0, none⟩)) := by
  rw [cell_of_row w st 0 _ _ _ h]; simp [boxS]
theorem StAt.c0 (x : StAt w B st m a b n gl bs sg) : w.cell? ⟨st, 0, none⟩ = some (.pointer (some ⟨m, 0, none⟩)) := box_c0 x.box
theorem StAt.ci (x : StAt w B st m a b n gl bs sg) (i : Nat) (h : i < 64) : w.cell? ⟨st, 1 + i, none⟩ = some (ptr (sg i)) := by
  rw [cell_of_row w st (1 + i) _ _ _ x.box]
  simp [boxS, ptrs, Nat.add_comm 1 i, List.getElem?_range h]
theorem StAt.z (x : StAt w B st m a b n gl bs sg) (j : Nat) : w.frozen? ⟨st, j, none⟩ = false := frozen_of_row w st j _ _ x.box
theorem box_set {w : World} {st m : Nat} {sg : Nat → Option Cel} (h : w.heap[st]? = some (.cells (boxS m sg) 58 (0, 0))) (i : Nat) (o : Option Cel) : (w.setCell ⟨st, 1 + i, none⟩ (ptr o)).heap[st]? = some (.cells (boxS m (upd sg i o)) 58 (0, 0)) := by
  rw [heap_setCell_same w st (1 + i) _ 58 _ h]
  congr 2
  unfold boxS
  rw [ptrs_upd]
  simp [Nat.add_comm 1 i]
/- blocks outside of the store turn -/
theorem StAt.keep {P : Nat → Obj → Prop} (x : StAt w B st m a b n gl bs sg) (k : Keep P w w') (hP : ∀ k o, StoreTy o → P k o) : StAt w' B st m a b n gl bs sg :=
  ⟨k.block _ _ x.box (hP _ _ (.inl rfl)), x.mem.keep k (fun _ => hP _ _ (.inr (.inl rfl))) (fun _ => hP _ _ (.inr (.inr (.inl rfl)))) (fun _ => hP _ _ (.inr (.inr (.inr (.inl rfl))))), fun i c h => (x.cel i c h).keep k (fun _ => hP _ _ (.inr (.inr (.inr (.inr (.inl rfl)))))) (fun _ _ _ => hP _ _ (.inr (.inr (.inr (.inr (.inr rfl)))))), x.gs, x.rs, x.hst, x.ha, x.hb, x.good⟩
theorem StAt.grow (x : StAt w B st m a b n gl bs sg) (h : Below w.heap.size w w') : StAt w' B st m a b n gl bs sg := x.keep (keep_below (fun _ _ => True) h) fun _ _ _ => trivial
/- a store, told by the bytes of its segments -/
def St (w : World) (B st n : Nat) (L : Nat → Option (List UInt8)) : Prop := ∃ m a b gl bs sg, StAt w B st m a b n gl bs sg ∧ View bs sg L
variable {L : Nat → Option (List UInt8)}
theorem St.keep {P : Nat → Obj → Prop} (x : St w B st n L) (k : Keep P w w') (hP : ∀ k o, StoreTy o → P k o) : St w' B st n L := by
  obtain ⟨m, a, b, gl, bs, sg, x, v⟩ := x; exact ⟨m, a, b, gl, bs, sg, x.keep k hP, v⟩
theorem St.grow (x : St w B st n L) (h : Below w.heap.size w w') : St w' B st n L := by
  obtain ⟨m, a, b, gl, bs, sg, x, v⟩ := x; exact ⟨m, a, b, gl, bs, sg, x.grow h, v⟩
theorem St.top (x : St w B st n L) (i : Nat) (h : 64 ≤ i) : L i = none := by
  obtain ⟨m, a, b, gl, bs, sg, x, v⟩ := x
  rw [v i]
  cases e : sg i with
  | none => rfl
  | some c => have := x.good.top i c e; omega
theorem St.sum (x : St w B st n L) : sumF (fun i => lens (L i)) 64 ≤ n ∧ n ≤ 4096 := by
  obtain ⟨m, a, b, gl, bs, sg, x, v⟩ := x
  have := v.sum x.good; exact ⟨by omega, x.mem.few⟩
theorem St.most (x : St w B st n L) (i : Nat) (l : List UInt8) (h : L i = some l) : l.length ≤ 262144 ∧ i < 64 := by
  obtain ⟨m, a, b, gl, bs, sg, x, v⟩ := x
  rw [v i] at h
  cases e : sg i with
  | none => rw [e] at h; cases h
  | some c =>
    rw [e] at h
    obtain rfl := Option.some.inj h
    exact ⟨by rw [cont_len]; exact x.good.most i c e, x.good.top i c e⟩
end Go.Proofs.YtppdammgmnihgaaDoor
