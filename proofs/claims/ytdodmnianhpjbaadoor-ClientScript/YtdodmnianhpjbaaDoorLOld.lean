/-
  What client's find and older answer, as contracts.
-/
import Derived.Test.YtdodmnianhpjbaaDoorLCalls
namespace Go.Proofs.YtdodmnianhpjbaaDoor
open Go.RowKit
variable {w w' : World} {g : Nat} {rp wt tr : Int} {T L : List Cl}
def findC (T : List Cl) (id : Int) : Cl := if id < 1 ∨ 64 < id then Cl.zero else cl T (id.toNat - 1)
theorem findC_zero (T : List Cl) (id : Int) (h : id < 1 ∨ 64 < id) : findC T id = Cl.zero := if_pos h
theorem findC_nat (T : List Cl) (k : Nat) (h : k < 64) : findC T ((k : Int) + 1) = cl T k := by
  unfold findC; rw [if_neg (by omega), show ((k : Int) + 1).toNat - 1 = k by omega]
theorem findC_nm (T : List Cl) (id : Int) : findC (T.map Cl.nm) id = (findC T id).nm := by
  unfold findC
  split
  · rfl
  · exact cl_nm T _
set_option maxRecDepth 20000 in
set_option maxHeartbeats 3200000 in
theorem find_no (id : Int) (w : World) (h : id < 1 ∨ 64 < id) :
    Calls Tryd.prog 18 #[.pointer (some ⟨g, 0, none⟩), .int .u32 id] w fun e w' => e = .returned (.agg #[.int .i64 0, .int .u64 0, .int .u64 0, .int .u32 0, .int .u16 0, .int .u16 0, .int .u64 0, .int .u32 0, .int .u8 0, .int .u64 0, .int .u64 0, .slice none 0 0, .int .i64 0, .int .i64 0]) ∧ Below w.heap.size w w' := by
  by_cases h1 : id < 1
  · clear h
    go_enter Tryd.func18, Tryd.ntmps18
    go_wp2
    go_returns
    exact ⟨rfl, by go_grown⟩
  · have h2 : 64 < id := by omega
    clear h
    go_enter Tryd.func18, Tryd.ntmps18
    go_wp2
    go_returns
    exact ⟨rfl, by go_grown⟩
set_option maxRecDepth 20000 in
set_option maxHeartbeats 3200000 in
theorem find_at (k : Nat) (w : World) (x : Ct w g rp wt tr T) (hk : k < 64) (y : Cl) (hy : cl T k = y) :
    Calls Tryd.prog 18 #[.pointer (some ⟨g, 0, none⟩), .int .u32 ((k : Int) + 1)] w fun e w' => e = .returned (.agg #[.int .i64 y.s, .int .u64 y.m.ta, .int .u64 y.m.rp, .int .u32 y.m.id, .int .u16 y.m.op, .int .u16 y.m.st, .int .u64 y.m.p, .int .u32 y.m.o, .int .u8 y.m.r, .int .u64 y.m.c, .int .u64 y.m.ar, .slice y.m.so y.m.sn y.m.sc, .int .i64 y.n, .int .i64 y.a]) ∧ Below w.heap.size w w' := by
  obtain ⟨X, hX⟩ : ∃ X, w.alloc (.cells #[.int .i64 0, .int .u64 0, .int .u64 0, .int .u32 0, .int .u16 0, .int .u16 0, .int .u64 0, .int .u32 0, .int .u8 0, .int .u64 0, .int .u64 0, .slice none 0 0, .int .i64 0, .int .i64 0] 60) = X := ⟨_, rfl⟩
  have bX : Below w.heap.size w X := hX ▸ below_alloc w _
  obtain ⟨d0, d1, d2, d3, d4, d5, d6, d7, d8, d9, d10, d11, d12, d13⟩ := (x.grow bX).at k hk y hy
  have h1 : ¬ ((k : Int) + 1 < 1) := by omega
  have h2 : ¬ (64 < (k : Int) + 1) := by omega
  have h3 : (k : Int) < 64 := by omega
  have bz : BoxC X w.heap.size Cl.zero := hX ▸ boxC_new w Cl.zero
  obtain ⟨V, hV⟩ : ∃ V, lay14 X w.heap.size 0 y = V := ⟨_, rfl⟩
  have hbv : BoxC V w.heap.size y := hV ▸ bz.lay y
  have HE : Hid (Below w.heap.size w V) := (below_foot (fun j => j = w.heap.size) bX).then (hV ▸ foot_lay14 X _ 0 y) |>.below (Nat.le_refl _) (fun k e => by omega)
  unfold lay14 at hV
  simp only [Nat.zero_add] at hV
  obtain ⟨v0, v1, v2, v3, v4, v5, v6, v7, v8, v9, v10, v11, v12, v13⟩ := hbv.all
  obtain ⟨y0, y1, y2, y3, y4, y5, y6, y7, y8, y9, y10, y11, y12, y13⟩ := bz.all
  have z0 := bz.z 0
  have z1 := bz.z 1
  have z2 := bz.z 2
  have z3 := bz.z 3
  have z4 := bz.z 4
  have z5 := bz.z 5
  have z6 := bz.z 6
  have z7 := bz.z 7
  have z8 := bz.z 8
  have z9 := bz.z 9
  have z10 := bz.z 10
  have z11 := bz.z 11
  have z12 := bz.z 12
  have z13 := bz.z 13
  clear x bX bz hbv hy hk
  go_enter Tryd.func18, Tryd.ntmps18
  go_wp2
  refine bodyPost_ret (by simp [results, Tryd.results18, go_sem, v0, v1, v2, v3, v4, v5, v6, v7, v8, v9, v10, v11, v12, v13]; rfl) rfl ?_
  exact ⟨rfl, HE.out⟩
end Go.Proofs.YtdodmnianhpjbaaDoor
