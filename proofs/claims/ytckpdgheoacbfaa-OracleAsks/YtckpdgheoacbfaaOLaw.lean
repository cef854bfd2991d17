/-
  The statements' own first steps: the word of a question, the document's example, errors.Is of no error; questions in memory.
-/
import Derived.Test.YtckpdgheoacbfaaOAsk
namespace Go.Proofs.Ytckpdgheoacbfaa
open Go.RowKit
/- the word that is asked, and what is left of it when it is cut -/
def inF (q : Nat) : Nat := q % 5 * 281474976710659
theorem inF_le (q : Nat) : inF q ≤ 18446744073709551615 := by unfold inF; omega
theorem inF_cut (q : Nat) : inF q % 281474976710656 = q % 5 * 3 := by unfold inF; omega
set_option maxHeartbeats 400000 in
theorem in_any (o q : Nat) (w : World) (hq : q ≤ 18446744073709551615) :
    Calls Try.prog 13 #[.agg #[.int .u8 (o : Int), .int .u64 (q : Int)]] w fun e w' => e = .returned (.int .u64 (inF q : Nat)) ∧ Below w.heap.size w w' := by
  go_enter Try.func13, Try.ntmps13
  go_wp2
  go_ret
  exact ⟨ret_int (by unfold inF; omega), below_alloc w _⟩
theorem run_equalIn_nil_iface {P : Program} (w : World) (d : Nat) {ti tn : TypeId} {ms : Array (String × TypeId)} (v : Value) (hi : P.underlying ti = some (.interface ms)) : (Op.equalIn (d + 1) ti .nilIface (.iface tn v)).run P w = .ok false w := by
  simp [Op.equalIn, run_underlying hi]
theorem run_eql_nil_iface {P : Program} (w : World) {ti tn : TypeId} {ms : Array (String × TypeId)} (v : Value) (hi : P.underlying ti = some (.interface ms)) : (binOp .eql ti .nilIface (.iface tn v)).run P w = .ok (.bool false) w := by
  simp only [binOp]
  simp [Op.equal, Op.maxDepth, run_equalIn_nil_iface w 9999 v hi]
set_option maxHeartbeats 400000 in
theorem is_nil (a : Int) (w : World) :
    Calls Try.prog 12 #[.nilIface, .iface 38 (.int .i64 a)] w fun e w' => e = .returned (.bool false) ∧ w' = w := by
  have heq := run_eql_nil_iface (P := Try.prog) (tn := 38) w (.int .i64 a) Try.underlying34
  go_enter Try.func12, Try.ntmps12
  go_wp2
  go_ret
  exact ⟨rfl, rfl⟩
theorem cutN_79 : cutN [7, 9] = [7, 9] := by decide
theorem row_79 (w : World) : RowN (w.alloc (.cells #[.int .u64 7, .int .u64 9] 30)) .u64 30 w.heap.size [7, 9] := heap_alloc_new _ _
theorem u64s_79 (w : World) : U64s (w.alloc (.cells #[.int .u64 7, .int .u64 9] 30)) (some ⟨w.heap.size, 0, none⟩) 2 2 [7, 9] :=
  (row_79 w).u64s (by decide) (fun j => by
    rcases j with _ | _ | j <;> simp)
/- an oracle of a new tape: all its blocks are new -/
structure New2 (w0 w : World) (B g m a h : Nat) : Prop where
  b0 : w0.heap.size ≤ B
  a0 : w0.heap.size ≤ a
  h0 : w0.heap.size ≤ h
  bel : Below w0.heap.size w0 w
  bs : B ≤ w.heap.size
theorem New2.step {w0 w w' : World} {B g m a h : Nat} {tp v : Value} {es : List Ent} (n : New2 w0 w B g m a h) (O : Orc w B g m tp v es) (F : Foot (AskS g m a v) w w') : New2 w0 w' B g m a h :=
  ⟨n.b0, n.a0, n.h0, n.bel.trans (F.below n.bel.size (fun k e => by
    have b0 := n.b0
    have a0 := n.a0
    rcases e with e | e | e | e
    · have := O.bg; omega
    · have := O.bm; omega
    · omega
    · obtain ⟨_, _, h⟩ := owns_block O.row e; omega)), Nat.le_trans n.bs F.size⟩
theorem New2.grow {w0 w w' : World} {B g m a h : Nat} (n : New2 w0 w B g m a h) (b : Below w.heap.size w w') : New2 w0 w' B g m a h := ⟨n.b0, n.a0, n.h0, n.bel.trans (b.mono n.bel.size), Nat.le_trans n.bs b.size⟩
theorem New2.drewN {w0 w : World} {B g m a h : Nat} (n : New2 w0 w B g m a h) (q : Nat) : New2 w0 (w.drewN q) B g m a h := ⟨n.b0, n.a0, n.h0, below_drewN n.bel q, n.bs⟩
theorem Orc.grow {w w' : World} {B g m : Nat} {tp v : Value} {es : List Ent} (O : Orc w B g m tp v es) (b : Below w.heap.size w w') : Orc w' B g m tp v es := O.foot (below_foot (fun _ => False) b) id id (fun _ _ => id)
theorem TapeAt.grow {w w' : World} {g h : Nat} {ws : List Nat} {t k : Nat} (x : TapeAt w g h ws t k) (b : Below w.heap.size w w') : TapeAt w' g h ws t k := x.carry b (lt_of_heap x.box) (lt_of_heap x.row)
set_option maxHeartbeats 1600000 in
theorem awake_any (w : World) :
    Calls Try.prog 7 #[] w fun e w' => e = .returned (.bool true) ∧ Below w.heap.size w w' := by
  go_enter Try.func7, Try.ntmps7
  go_wp2_with fail
  refine (of_any _ _ _ [7, 9] _ (u64s_79 w) (by omega)).mono ?_; rintro e w1 ⟨a, h, k, rfl, T, _, ha, hh, bel⟩
  rw [cutN_79] at T
  have HT := hide T
  have b1 : Below w.heap.size w w1 := (below_alloc w _).trans (bel.mono (below_alloc w _).size)
  have HB := hide b1
  have HA := hide (Nat.le_trans (below_alloc w _).size ha)
  have HH := hide (Nat.le_trans (below_alloc w _).size hh)
  clear T bel b1 ha hh
  go_wp2_with fail
  refine (oof_any _ ⟨_, rfl⟩ _).mono ?_; rintro e w2 ⟨g, m, rfl, O2, bel2⟩
  have HO2 := hide O2
  have HT2 := hide (HT.out.grow bel2)
  have HN2 : Hid (New2 w w2 w1.heap.size g m a h) := ⟨HB.out.size, HA.out, HH.out, HB.out.trans (bel2.mono HB.out.size), bel2.size⟩
  clear O2 bel2 HT HB HA HH
  go_wp2_with fail
  refine (ask_new g m _ a h 0 k 7 _ [] [7, 9] 0 1 _ HO2.out HT2.out (by decide) rfl (by omega) (by omega) rfl (by decide) HN2.out.bs).mono ?_; rintro e w3 ⟨rfl, v3, O3, T3, F3, hv3⟩
  have HO3 := hide O3
  have HT3 := hide T3
  have HN3 := hide (HN2.out.step HO2.out F3)
  clear O3 T3 F3 hv3
  go_wp2_with fail
  refine (ask_known g m _ 0 7 _ v3 _ 0 1 _ HO3.out (by omega) (by omega) rfl rfl).mono ?_; rintro e w4 ⟨rfl, q4, rfl⟩
  go_wp2_with fail
  refine (ask_new g m _ a h 1 k 9 v3 _ [7, 9] 1 1 _ (HO3.out.drewN q4) (HT3.out.drewN q4) (by decide) rfl (by omega) (by omega) rfl (by decide) (HN3.out.drewN q4).bs).mono ?_; rintro e w5 ⟨rfl, v5, O5, T5, F5, hv5⟩
  have HO5 := hide O5
  have HT5 := hide T5
  have HN5 := hide ((HN3.out.drewN q4).step (HO3.out.drewN q4) F5)
  clear O5 T5 F5 hv5
  go_wp2_with fail
  refine (ask_end g m _ a h k v5 _ [7, 9] 1 2 _ HO5.out HT5.out (by omega) (by omega) rfl).mono ?_; rintro e w6 ⟨rfl, q6, rfl⟩
  go_wp2_with fail
  refine (is_same 7 _).mono ?_; rintro e w8 ⟨rfl, rfl⟩
  go_wp2_with fail
  refine (entries_any g m _ _ v5 _ _ (HO5.out.drewN q6) (by decide)).mono ?_; rintro e w9 ⟨ao, cap, rfl, hown, bel9⟩
  have HN9 := hide ((HN5.out.drewN q6).grow bel9)
  clear hown bel9
  go_wp2
  go_ret
  exact ⟨rfl, HN9.out.bel⟩
end Go.Proofs.Ytckpdgheoacbfaa
