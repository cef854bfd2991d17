/-
  What the statements' own want answers of a message that may be, as a contract.
-/
import Derived.Test.YtmgbcnlnikchbaaHEnc
import Derived.Deep.RegionHeld
import Derived.Deep.DrawnRows
namespace Go.Proofs.Ytmgbcnlnikchbaa
open Go.RowKit
theorem hide {p : Prop} (h : p) : Hid p := h
theorem MBox.drew {w : World} {g : Nat} {m : Msg} {D : Value} (h : MBox w g m D) : MBox w.drew g m D := h
theorem Bts.drew {w : World} {ao : Option Addr} {n cap : Nat} {l : List UInt8} (h : Bts w ao n cap l) : Bts w.drew ao n cap l := h
theorem wrap_nat (v : Nat) (h : v ≤ 18446744073709551615) : IntKind.u64.wrap (v : Int) = (v : Int) := by
  have h2 : (v : Int) < 18446744073709551616 := by omega
  show ((v : Int) % 18446744073709551616) = v
  exact Int.emod_eq_of_lt (by omega) h2
theorem put_ex (ao : Option Addr) (n cap v m N : Nat) (l : List UInt8) (w : World) (hb : Bts w ao n cap l) (hN : n + m = N) (hr : n ≤ 140737488421888) (h1 : 1 ≤ m) (h8 : m ≤ 8) (hv : v ≤ 18446744073709551615) :
    Calls Try.prog 20 #[.slice ao n cap, .int .u64 v, .int .i64 m] w fun e w' => ∃ g, e = .returned (.slice (some ⟨g, 0, none⟩) N N) ∧ w.heap.size ≤ g ∧
      w'.ownsRow g 5 1 (.slice (some ⟨g, 0, none⟩) N N) N (cellsB (l ++ putF v m)) ∧ Below w.heap.size w w' :=
  (put_to ao n cap v m N l w hb hN hr h1 h8 hv).mono fun _ _ h => ⟨w.heap.size, h.1, Nat.le_refl _, h.2.1, h.2.2⟩
set_option maxHeartbeats 1600000 in
theorem hwant_yes (m : Msg) (ao : Option Addr) (n cap : Nat) (l : List UInt8) (w : World) (hm : m.good) (hb : Bts w ao n cap l) (hn : n ≤ 4096) :
    Calls Try.prog 10 #[.agg #[.int .u64 m.ta, .int .u64 m.rp, .int .u32 m.id, .int .u16 m.op, .int .u16 m.st, .int .u64 m.p, .int .u32 m.o, .int .u8 m.r, .int .u64 m.c, .int .u64 m.ar, .slice ao n cap]] w fun e w' => ∃ co cc, e = .returned (.slice co (46 + n) cc) ∧ Bts w' co (46 + n) cc (msgF m l) ∧ New w co ∧ Below w.heap.size w w' := by
  obtain ⟨o0, o1, o2, o3, o4, o5, o6, o7, o8, o9⟩ := hm
  have HB : Hid (Bts w ao n cap l) := hb
  clear hb
  obtain ⟨i0, hi, hz0, hz1, hz2⟩ := info_parts Try.info5
  have v2 := wrap_nat m.id (by omega)
  have v3 := wrap_nat m.op (by omega)
  have v4 := wrap_nat m.st (by omega)
  go_enter Try.func10, Try.ntmps10
  go_wp2
  have bb : Below w.heap.size w (w.alloc (.cells #[.int .u64 m.ta, .int .u64 m.rp, .int .u32 m.id, .int .u16 m.op, .int .u16 m.st, .int .u64 m.p, .int .u32 m.o, .int .u8 m.r, .int .u64 m.c, .int .u64 m.ar, .slice ao n cap] 29)).drew := (below_alloc _ _).drew
  have hS : Hid (MBox (w.alloc (.cells #[.int .u64 m.ta, .int .u64 m.rp, .int .u32 m.id, .int .u16 m.op, .int .u16 m.st, .int .u64 m.p, .int .u32 m.o, .int .u8 m.r, .int .u64 m.c, .int .u64 m.ar, .slice ao n cap] 29)).drew w.heap.size m (.slice ao n cap)) := mbox_new w m _
  go_region_held (fun w' => w'.cell? ⟨w.heap.size, 0, none⟩ = some (.int .u64 m.ta) ∧ w'.cell? ⟨w.heap.size, 1, none⟩ = some (.int .u64 m.rp)) (exact ⟨hS.out.1, hS.out.2.1⟩)
    (first
      | (go_at_call_of 20 (Value.int IntKind.u64 (m.ta : Int)); refine (put_ex none 0 0 m.ta 6 6 [] _ (bts_nil _) rfl (by omega) (by omega) (by omega) (by omega)).mono ?_; rintro e wa ⟨ga, rfl, hga, hown, bel⟩; have bb := below_one bb bel; have hlt : w.heap.size < ga := Nat.lt_of_lt_of_le hS.out.lt hga; have hS : Hid (MBox wa w.heap.size m (.slice ao n cap)) := hS.out.carry bel; have hA := hide (owns_at hown); have hO := hide hown; clear bel hown hga)
      | (go_at_call_of 20 (Value.int IntKind.u64 (m.rp : Int)); refine (put_ex _ 6 6 m.rp 6 12 _ _ hA.out rfl (by omega) (by omega) (by omega) (by omega)).mono ?_; rintro e wa ⟨ga, rfl, hga, hown, bel⟩; have bb := below_one bb bel; have hlt : w.heap.size < ga := Nat.lt_of_lt_of_le hS.out.lt hga; have hS : Hid (MBox wa w.heap.size m (.slice ao n cap)) := hS.out.carry bel; have hA := hide (owns_at hown); have hO := hide hown; clear bel hown hga))
  have bb := bb.drew
  have hS := hide hS.out.drew
  have hA := hide hA.out.drew
  clear hO hlt
  go_wp2
  go_region_held (fun w' => w'.cell? ⟨w.heap.size, 2, none⟩ = some (.int .u32 m.id) ∧ w'.cell? ⟨w.heap.size, 3, none⟩ = some (.int .u16 m.op) ∧ w'.cell? ⟨w.heap.size, 4, none⟩ = some (.int .u16 m.st)) (exact ⟨hS.out.2.2.1, hS.out.2.2.2.1, hS.out.2.2.2.2.1⟩)
    (first
      | (go_at_call_of 20 (Value.int IntKind.u64 (m.id : Int)); refine (put_ex _ 12 12 m.id 4 16 _ _ hA.out rfl (by omega) (by omega) (by omega) (by omega)).mono ?_; rintro e wa ⟨ga, rfl, hga, hown, bel⟩; have bb := below_one bb bel; have hlt : w.heap.size < ga := Nat.lt_of_lt_of_le hS.out.lt hga; have hS : Hid (MBox wa w.heap.size m (.slice ao n cap)) := hS.out.carry bel; have hA := hide (owns_at hown); have hO := hide hown; clear bel hown hga)
      | (go_at_call_of 20 (Value.int IntKind.u64 (m.op : Int)); refine (put_ex _ 16 16 m.op 2 18 _ _ hA.out rfl (by omega) (by omega) (by omega) (by omega)).mono ?_; rintro e wa ⟨ga, rfl, hga, hown, bel⟩; have bb := below_one bb bel; have hlt : w.heap.size < ga := Nat.lt_of_lt_of_le hS.out.lt hga; have hS : Hid (MBox wa w.heap.size m (.slice ao n cap)) := hS.out.carry bel; have hA := hide (owns_at hown); have hO := hide hown; clear bel hown hga)
      | (go_at_call_of 20 (Value.int IntKind.u64 (m.st : Int)); refine (put_ex _ 18 18 m.st 2 20 _ _ hA.out rfl (by omega) (by omega) (by omega) (by omega)).mono ?_; rintro e wa ⟨ga, rfl, hga, hown, bel⟩; have bb := below_one bb bel; have hlt : w.heap.size < ga := Nat.lt_of_lt_of_le hS.out.lt hga; have hS : Hid (MBox wa w.heap.size m (.slice ao n cap)) := hS.out.carry bel; have hA := hide (owns_at hown); have hO := hide hown; clear bel hown hga))
  obtain ⟨k0, k1, k2, k3, k4, k5, k6, k7, k8, k9, k10⟩ := hS.out
  go_wp2_with fail
  refine (encode_yes m.p m.o m.r m.c _ o5 o6 o7 o8).mono ?_; rintro e w7 ⟨g, rfl, hg, hown7, bel7⟩
  have b7 : Below w.heap.size w w7 := below_one bb bel7
  have HE7 : Hid (Bts w7 (some ⟨g, 0, none⟩) 16 16 (capF m.p m.o m.r m.c)) := owns_at hown7
  have HO7 := hide (owns_carry hO.out bel7)
  have HX7 : Hid (MBox w7 w.heap.size m (.slice ao n cap)) := hS.out.carry bel7
  have hs7 : ga ≤ w7.heap.size := Nat.le_of_lt (owns_lt HO7.out _ rfl).2
  clear hown7 bel7 hS hO hA hg
  clear k0 k1 k2 k3 k4 k5 k6 k7 k8 k9 k10
  go_wp2_with (at_builtin; refine wpList_append_own _ rfl _ _ 27 rfl ga 5 i0 (.int .u8 0) 1 1 Try.underlying27 hi hz0 hz1 hz2 rfl (by decide) _ 20 _ rfl HO7.out ⟨g, 0, none⟩ 16 16 (cellsB (capF m.p m.o m.r m.c)) rfl (by rw [cellsB_len, capF_len]) ?c1 (cellsB_one _) (by unfold maxLen; omega) (by omega) hs7 ?_)
  case c1 => exact HE7.out.news _ rfl
  intro v' w8 hown8 hgrow8 _
  rw [← cellsB_append] at hown8
  have b8 : Below w.heap.size w w8 := b7.grown hgrow8 b7.size (fun k e => by cases e; exact Nat.le_of_lt hlt)
  have HX8 : Hid (MBox w8 w.heap.size m (.slice ao n cap)) := HX7.out.grown hgrow8 (by intro e; have e' : w.heap.size = ga := Option.some.inj e; omega)
  obtain ⟨co, cc, rfl, hb8⟩ := owns_bts hown8
  have HB8 : Hid (Bts w8 co 36 cc ([] ++ putF m.ta 6 ++ putF m.rp 6 ++ putF m.id 4 ++ putF m.op 2 ++ putF m.st 2 ++ capF m.p m.o m.r m.c)) := hb8
  clear hown8 hgrow8 hb8 HX7 b7 HO7 HE7
  have bb := b8.drew
  have hS := hide HX8.out.drew
  have hA := hide HB8.out.drew
  clear HX8 HB8 hlt b8 hs7
  go_wp2
  go_region_held (fun w' => w'.cell? ⟨w.heap.size, 9, none⟩ = some (.int .u64 m.ar) ∧ w'.cell? ⟨w.heap.size, 10, none⟩ = some (.slice ao n cap)) (exact ⟨hS.out.2.2.2.2.2.2.2.2.2.1, hS.out.2.2.2.2.2.2.2.2.2.2⟩)
    (first
      | (go_at_call 20; refine (put_ex co 36 cc m.ar 8 44 _ _ hA.out rfl (by omega) (by omega) (by omega) (by omega)).mono ?_; rintro e wa ⟨ga, rfl, hga, hown, bel⟩; have bb := below_one bb bel; have hS : Hid (MBox wa w.heap.size m (.slice ao n cap)) := hS.out.carry bel; have hA := hide (owns_at hown); clear bel hown hga)
      | (go_at_call 22; refine (putBytes_yes _ 44 44 _ ao n cap l _ hA.out (HB.out.carry bb) (by omega) (by omega)).mono ?_; rintro e wz ⟨co2, cc2, rfl, hb10, hn10, bel⟩; have hW : Hid (New w co2) := hn10.le bb.size; have bb := below_one bb bel; have hS : Hid (MBox wz w.heap.size m (.slice ao n cap)) := hS.out.carry bel; have hR := hide hb10; clear bel hb10 hn10))
  have HR : Hid (Bts wz co2 (46 + n) cc2 (msgF m l)) := by
    have e1 : n = l.length := HB.out.1
    have h := hR.out
    rw [show 44 + 2 + n = 46 + n from by omega] at h
    unfold msgF; rw [← e1]; exact h
  go_wp2
  go_ret
  exact ⟨co2, cc2, by rw [show 44 + 2 + n = 46 + n from by omega]; rfl, HR.out, hW.out, bb⟩
end Go.Proofs.Ytmgbcnlnikchbaa
