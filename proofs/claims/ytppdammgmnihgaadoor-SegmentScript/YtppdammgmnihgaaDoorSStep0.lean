/-
  A deed of a script on segments: store, model and deed in one memory; what stays of each when another turns.
-/
import Derived.Test.YtppdammgmnihgaaDoorSModA
namespace Go.Proofs.YtppdammgmnihgaaDoor
open Go.RowKit
/- a deed in a block of its own -/
def ActAt (w : World) (g : Nat) (op id x y : Int) (d : Value) : Prop := w.heap[g]? = some (.cells #[.int .u8 op, .int .i8 id, .int .i16 x, .int .i16 y, d] 35 (0, 0))
variable {w w' : World} {B st mo n g : Nat} {L : Nat → Option (List UInt8)} {sl : Nat → Value} {op id x y : Int} {d : Value}
theorem ActAt.c0 (h : ActAt w g op id x y d) : w.cell? ⟨g, 0, none⟩ = some (.int .u8 op) := by rw [cell_of_row w g 0 _ _ _ h]; rfl
theorem ActAt.c1 (h : ActAt w g op id x y d) : w.cell? ⟨g, 1, none⟩ = some (.int .i8 id) := by rw [cell_of_row w g 1 _ _ _ h]; rfl
theorem ActAt.c2 (h : ActAt w g op id x y d) : w.cell? ⟨g, 2, none⟩ = some (.int .i16 x) := by rw [cell_of_row w g 2 _ _ _ h]; rfl
theorem ActAt.c3 (h : ActAt w g op id x y d) : w.cell? ⟨g, 3, none⟩ = some (.int .i16 y) := by rw [cell_of_row w g 3 _ _ _ h]; rfl
theorem ActAt.c4 (h : ActAt w g op id x y d) : w.cell? ⟨g, 4, none⟩ = some d := by rw [cell_of_row w g 4 _ _ _ h]; rfl
theorem ActAt.grow (h : ActAt w g op id x y d) (b : Below w.heap.size w w') : ActAt w' g op id x y d := (b.block g (lt_of_heap h)).trans h
theorem no_store35 (C : Array Value) (z : Nat × Nat) : ¬ StoreTy (.cells C 35 z) := by
  rintro (h | h | h | h | h | h) <;> exact absurd h (by decide)
theorem ActAt.store {B' : Nat} (h : ActAt w g op id x y d) (k : Keep (StP B') w w') : ActAt w' g op id x y d := k.block _ _ h (.inr (no_store35 _ _))
theorem ActAt.model (h : ActAt w g op id x y d) (M : ModAt w B mo n L sl) (f : Foot (fun k => k = mo) w w') : ActAt w' g op id x y d := (f.block g (lt_of_heap h) (tyne h M.box (by decide))).trans h
/- the model turns, and no store -/
theorem St.model {L' : Nat → Option (List UInt8)} (x : St w B st n L) (M : ModAt w B mo n L' sl) (f : Foot (fun k => k = mo) w w') : St w' B st n L :=
  x.keep (P := fun _ o => StoreTy o) (keep_foot f fun k o ho hs e => by rw [e, M.box] at ho; cases ho; exact no_store31 _ _ hs) fun _ _ h => h
theorem ModAt.below (M : ModAt w B mo n L sl) (f : Foot (fun k => k = mo) w w') (hB : B ≤ w.heap.size) : Below B w w' := f.below hB fun k e => by rw [e]; exact M.low
/- what a deed leaves -/
def Both (w0 : World) (B st mo n : Nat) (w : World) : Prop := ∃ L sl, St w B st n L ∧ ModAt w B mo n L sl ∧ Below B w0 w
/- api.Number of no error, or one -/
theorem number_any (E : Int) (w : World) (hg : Glob w) :
    Calls Tryd.prog 18 #[erS E] w fun e w' => e = .returned (.int .i64 E) ∧ Below w.heap.size w w' := by
  by_cases h : E = 0
  · subst h; exact number_nil w
  · unfold erS; rw [if_neg h]; exact number_errno E w hg
/- bytes that came with the script -/
def Dat (B : Nat) (w : World) (so : Option Addr) (sn sc : Nat) (l : List UInt8) : Prop := Bts w so sn sc l ∧ (0 < sn → ∀ ad, so = some ad → ad.block < B)
theorem Dat.carry {so : Option Addr} {sn sc : Nat} {l : List UInt8} (h : Dat B w so sn sc l) (b : Below B w w') : Dat B w' so sn sc l := by
  refine ⟨⟨h.1.1, h.1.2.1, h.1.2.2.1, h.1.2.2.2.1, fun ad e j hj => ?_⟩, h.2⟩
  rw [b.cell (p := ad.add j) (by rw [add_block]; exact h.2 (by rw [h.1.1]; omega) ad e)]; exact h.1.2.2.2.2 ad e j hj
theorem Dat.off {so : Option Addr} {sn sc : Nat} {l : List UInt8} (h : Dat B w so sn sc l) : 0 < sn → Off B w so := fun h0 => off_low (h.2 h0)
/- all that a deed knows -/
structure Pk (w0 w : World) (B st mo n g : Nat) (L : Nat → Option (List UInt8)) (sl : Nat → Value) (op id x y : Int) (so : Option Addr) (sn sc : Nat) (l : List UInt8) : Prop where
  st : St w B st n L
  mod : ModAt w B mo n L sl
  act : ActAt w g op id x y (.slice so sn sc)
  dat : Dat B w so sn sc l
  glob : Glob w
  bel : Below B w0 w
  pos : 0 < B
  low : B ≤ w0.heap.size
variable {w0 : World} {so : Option Addr} {sn sc : Nat} {l : List UInt8}
theorem Pk.size (p : Pk w0 w B st mo n g L sl op id x y so sn sc l) : B ≤ w.heap.size := Nat.le_trans p.low p.bel.size
theorem Pk.grow (p : Pk w0 w B st mo n g L sl op id x y so sn sc l) (b : Below w.heap.size w w') : Pk w0 w' B st mo n g L sl op id x y so sn sc l :=
  have b' : Below B w w' := b.mono p.size
  ⟨p.st.grow b, p.mod.grow b, p.act.grow b, p.dat.carry b', p.glob.grow b' p.pos, p.bel.trans b', p.pos, p.low⟩
theorem Pk.store {L' : Nat → Option (List UInt8)} (p : Pk w0 w B st mo n g L sl op id x y so sn sc l) (k : Keep (StP B) w w') (s : St w' B st n L') (M : ModAt w' B mo n L' sl) : Pk w0 w' B st mo n g L' sl op id x y so sn sc l :=
  have b' : Below B w w' := k.low p.size (StP.low _)
  ⟨s, M, p.act.store k, p.dat.carry b', p.glob.grow b' p.pos, p.bel.trans b', p.pos, p.low⟩
theorem Pk.end (p : Pk w0 w B st mo n g L sl op id x y so sn sc l) : Both w0 B st mo n w := ⟨L, sl, p.st, p.mod, p.bel⟩
/- the model has turned, the store not yet -/
structure Mid (w0 w : World) (B st mo n g : Nat) (L L' : Nat → Option (List UInt8)) (sl : Nat → Value) (op id x y : Int) (so : Option Addr) (sn sc : Nat) (l : List UInt8) : Prop where
  st : St w B st n L
  mod : ModAt w B mo n L' sl
  act : ActAt w g op id x y (.slice so sn sc)
  dat : Dat B w so sn sc l
  glob : Glob w
  bel : Below B w0 w
  pos : 0 < B
  low : B ≤ w0.heap.size
theorem Pk.model {L' : Nat → Option (List UInt8)} {sl' : Nat → Value} (p : Pk w0 w B st mo n g L sl op id x y so sn sc l) (f : Foot (fun k => k = mo) w w') (M : ModAt w' B mo n L' sl') : Mid w0 w' B st mo n g L L' sl' op id x y so sn sc l :=
  have b' : Below B w w' := p.mod.below f p.size
  ⟨p.st.model p.mod f, M, p.act.model p.mod f, p.dat.carry b', p.glob.grow b' p.pos, p.bel.trans b', p.pos, p.low⟩
theorem Mid.size {L' : Nat → Option (List UInt8)} (p : Mid w0 w B st mo n g L L' sl op id x y so sn sc l) : B ≤ w.heap.size := Nat.le_trans p.low p.bel.size
theorem Mid.store {L' : Nat → Option (List UInt8)} (p : Mid w0 w B st mo n g L L' sl op id x y so sn sc l) (k : Keep (StP B) w w') (s : St w' B st n L') : Pk w0 w' B st mo n g L' sl op id x y so sn sc l :=
  have b' : Below B w w' := k.low p.size (StP.low _)
  ⟨s, p.mod.store k, p.act.store k, p.dat.carry b', p.glob.grow b' p.pos, p.bel.trans b', p.pos, p.low⟩
/- the deed by value, as it comes in -/
def actV (op id x y : Int) (so : Option Addr) (sn sc : Nat) : Value := .agg #[.int .u8 op, .int .i8 id, .int .i16 x, .int .i16 y, .slice so sn sc]
/- what comes in with a deed -/
structure In (w : World) (B st mo n : Nat) (L : Nat → Option (List UInt8)) (sl : Nat → Value) (so : Option Addr) (sn sc : Nat) (l : List UInt8) : Prop where
  st : St w B st n L
  mod : ModAt w B mo n L sl
  dat : Dat B w so sn sc l
  glob : Glob w
  pos : 0 < B
  low : B ≤ w.heap.size
theorem In.box (p : In w B st mo n L sl so sn sc l) (op id x y : Int) (q : Nat) : Pk w ((w.alloc (.cells #[.int .u8 op, .int .i8 id, .int .i16 x, .int .i16 y, .slice so sn sc] 35)).drewN q) B st mo n w.heap.size L sl op id x y so sn sc l := by
  have b : Below w.heap.size w ((w.alloc (.cells #[.int .u8 op, .int .i8 id, .int .i16 x, .int .i16 y, .slice so sn sc] 35)).drewN q) := below_drewN (below_alloc _ _) q
  exact ⟨p.st.grow b, p.mod.grow b, heap_alloc_new _ _, p.dat.carry (b.mono p.low), p.glob.grow b (Nat.lt_of_lt_of_le p.pos p.low), b.mono p.low, p.pos, p.low⟩
structure Nums (id x y : Int) : Prop where
  i0 : -128 ≤ id
  i1 : id ≤ 127
  x0 : -32768 ≤ x
  x1 : x ≤ 32767
  y0 : -32768 ≤ y
  y1 : y ≤ 32767
theorem wrap_small {z : Int} (h0 : -32768 ≤ z) (h1 : z ≤ 32767) : IntKind.i64.wrap z = z := by rw [IntKind.wrap_i64]; omega
end Go.Proofs.YtppdammgmnihgaaDoor
