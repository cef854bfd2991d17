/-
  What the oracle's functions answer, as contracts; what became of the world.
-/
import Derived.Test.YtgcmompldcnhlaaDoorORow
import Derived.Deep.RegionHeld3
import Derived.Deep.RegionHeldLaw
import Derived.Lib.LazyBuf
namespace Go.Proofs.YtgcmompldcnhlaaDoor
open Go.RowKit
set_option maxHeartbeats 400000 in
theorem oof_any (tp : Value) (ht : ∃ ao, tp = .pointer ao) (w : World) :
    Calls Tryd.prog 10 #[tp] w fun e w' => ∃ g m : Nat, e = .returned (.pointer (some ⟨g, 0, none⟩)) ∧ Orc w' w.heap.size g m tp (.slice none 0 0) [] ∧ Below w.heap.size w w' := by
  obtain ⟨ao, rfl⟩ := ht
  have hmm := @run_makeMap Tryd.prog
  go_enter Tryd.func10, Tryd.ntmps10
  go_wp2
  go_ret
  refine ⟨w.heap.size + 1, w.heap.size, rfl, ⟨?_, World.ownsRow_nil _ _ _ _, ?_, fun x hx => (by cases hx), dist_nil, by omega, Nat.le_refl _⟩, ?_⟩
  · have := heap_alloc_new (w.alloc (.map #[] 0)) (.cells #[.pointer ao, .slice none 0 0, .map (some w.heap.size)] 78)
    simpa using this
  · exact (places_made w).block (Below.heap_alloc _ _ _ (places_made w).lt)
  · exact (below_alloc w _).alloc (below_alloc w _).size _
set_option maxHeartbeats 400000 in
theorem odraw_none (g m B : Nat) (v : Value) (es : List Ent) (w : World) (O : Orc w B g m (.pointer none) v es) :
    Calls Tryd.prog 30 #[.pointer (some ⟨g, 0, none⟩)] w fun e w' => e = .returned (.tuple #[.int .u64 0, .iface 60 (.int .i64 7)]) ∧ w' = w := by
  have c0 := O.c0
  clear O
  go_enter Tryd.func30, Tryd.ntmps30
  go_wp2
  go_ret2
  exact ⟨rfl, rfl⟩
set_option maxHeartbeats 400000 in
theorem odraw_end (g m B a h k : Nat) (v : Value) (es : List Ent) (ws : List Nat) (w : World) (O : Orc w B g m (.pointer (some ⟨a, 0, none⟩)) v es) (T : TapeAt w a h ws ws.length k) :
    Calls Tryd.prog 30 #[.pointer (some ⟨g, 0, none⟩)] w fun e w' => e = .returned (.tuple #[.int .u64 0, .iface 60 (.int .i64 7)]) ∧ ∃ q, w' = w.drewN q := by
  have c0 := O.c0
  have HT := hide T
  clear O T
  go_enter Tryd.func30, Tryd.ntmps30
  go_wp2_with fail
  refine (draw_no a h ws k _ HT.out).mono ?_; rintro e w1 ⟨rfl, q, rfl⟩
  go_wp2
  go_ret2
  exact ⟨rfl, _, rfl⟩
set_option maxHeartbeats 400000 in
theorem odraw_yes (g m B a h t k x : Nat) (v : Value) (es : List Ent) (ws : List Nat) (w : World) (O : Orc w B g m (.pointer (some ⟨a, 0, none⟩)) v es) (T : TapeAt w a h ws t k) (ht : t < ws.length) (hx : ws.getD t 0 = x) :
    Calls Tryd.prog 30 #[.pointer (some ⟨g, 0, none⟩)] w fun e w' => e = .returned (.tuple #[.int .u64 (x : Nat), .nilIface]) ∧ TapeAt w' a h ws (t + 1) k ∧ Touch a w w' := by
  have c0 := O.c0
  have HT := hide T
  have H1 := hide ht
  have H2 := hide hx
  clear O T ht hx
  go_enter Tryd.func30, Tryd.ntmps30
  go_wp2_with fail
  refine (draw_at a h ws t k x _ HT.out H1.out H2.out).mono ?_; rintro e w1 ⟨rfl, T1, t1⟩
  have HT1 := hide T1
  have HX := hide t1
  clear T1 t1
  go_wp2
  go_ret2
  exact ⟨rfl, HT1.out, HX.out⟩
set_option maxHeartbeats 800000 in
theorem known_no (g m B : Nat) (tp v : Value) (es : List Ent) (f : Int) (i : Nat) (w : World) (O : Orc w B g m tp v es) (hf : -9223372036854775808 ≤ f ∧ f ≤ 9223372036854775807) (hi : i ≤ 18446744073709551615) (hn : findE es f (i % 281474976710656) = none) :
    Calls Tryd.prog 51 #[.pointer (some ⟨g, 0, none⟩), .int .i64 f, .int .u64 (i : Int)] w fun e w' => e = .returned (.tuple #[.int .u64 0, .bool false]) ∧ ∃ q, w' = w.drewN q := by
  have c2 := fun q => (O.drewN q).c2
  have lk := fun q => (O.drewN q).map.look_none hf (show i % 281474976710656 ≤ 281474976710655 by omega) hn
  rw [← cutF_nat] at lk
  clear O hn
  go_enter Tryd.func51, Tryd.ntmps51
  go_wp2
  go_quiet ((go_at_call 25; exact Calls.quiet_of_same (cut_any _ _ (by omega) (by omega))))
  go_wp2
  go_ret2
  exact ⟨rfl, _, rfl⟩
set_option maxHeartbeats 800000 in
theorem known_yes (g m B j x : Nat) (tp v : Value) (es : List Ent) (f : Int) (i : Nat) (w : World) (O : Orc w B g m tp v es) (hf : -9223372036854775808 ≤ f ∧ f ≤ 9223372036854775807) (hi : i ≤ 18446744073709551615) (hn : findE es f (i % 281474976710656) = some j) (hx : (es.getD j Ent.zero).o = x) :
    Calls Tryd.prog 51 #[.pointer (some ⟨g, 0, none⟩), .int .i64 f, .int .u64 (i : Int)] w fun e w' => e = .returned (.tuple #[.int .u64 (x : Nat), .bool true]) ∧ ∃ q, w' = w.drewN q := by
  have c2 := fun q => (O.drewN q).c2
  have c1 := fun q => (O.drewN q).c1
  have lk := fun q => (O.drewN q).map.look_some hf (show i % 281474976710656 ≤ 281474976710655 by omega) hn
  rw [← cutF_nat] at lk
  have hj := (findE_some hn).1
  obtain ⟨r, cap, rfl, h1, h2, h3⟩ := O.form hj
  rw [hx] at h3
  have h4 : ∀ q, (w.drewN q).cell? ⟨r, j * 3 + 2, none⟩ = some (.int .u64 (x : Nat)) := fun q => h3
  have hl : es.length ≤ 9223372036854775807 := by unfold maxLen at h2; omega
  clear O hn hx h3 h2
  generalize es.length = n at *
  go_enter Tryd.func51, Tryd.ntmps51
  go_wp2
  go_quiet ((go_at_call 25; exact Calls.quiet_of_same (cut_any _ _ (by omega) (by omega))))
  go_wp2
  go_ret2
  exact ⟨rfl, _, rfl⟩
theorem Tryd.infoE : (Tryd.prog.info? 129).map (fun i => (i.zero, i.size, i.bytes)) = some (some (.agg #[.int .i64 0, .int .u64 0, .int .u64 0]), 3, 24) := by kernel_rfl
end Go.Proofs.YtgcmompldcnhlaaDoor
