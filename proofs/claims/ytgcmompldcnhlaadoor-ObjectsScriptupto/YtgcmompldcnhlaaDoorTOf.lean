/-
  What Of answers, as a contract: a tape of the entries, each cut, none taken.
-/
import Derived.Test.YtgcmompldcnhlaaDoorTAgain
namespace Go.Proofs.YtgcmompldcnhlaaDoor
open Go.RowKit
theorem Tryd.tinfo22 : (Tryd.prog.info? 22).map (fun i => (i.zero, i.size, i.bytes)) = some (some (.int .u64 0), 1, 8) := by kernel_rfl
/- the words when k of them are laid -/
def fillW (us : List Nat) (k : Nat) : List Nat := (cutN us).take k ++ List.replicate (us.length - k) 0
theorem fillW_len (us : List Nat) (k : Nat) (h : k ≤ us.length) : (fillW us k).length = us.length := by
  simp [fillW, cutN_len]; omega
theorem fillW_zero (us : List Nat) : fillW us 0 = List.replicate us.length 0 := by simp [fillW]
theorem fillW_all (us : List Nat) : fillW us us.length = cutN us := by
  simp only [fillW, Nat.sub_self, List.replicate_zero, List.append_nil]
  exact List.take_of_length_le (by rw [cutN_len]; exact Nat.le_refl _)
theorem fillW_set (us : List Nat) (k : Nat) (h : k < us.length) : (fillW us k).set k (us.getD k 0 % 281474976710656) = fillW us (k + 1) := by
  have hl : ((cutN us).take k).length = k := by rw [List.length_take, cutN_len]; omega
  have hk : k < (cutN us).length := by rw [cutN_len]; exact h
  have hg : (cutN us)[k] = us.getD k 0 % 281474976710656 := by
    rw [← cutN_get, List.getD_eq_getElem?_getD, List.getElem?_eq_getElem hk]; rfl
  unfold fillW
  rw [List.set_append_right _ _ (by omega), hl, Nat.sub_self, show us.length - k = (us.length - (k + 1)) + 1 from by omega, List.replicate_succ, List.set_cons_zero, List.take_succ_eq_append_getElem hk, hg, List.append_assoc]; rfl
def OfRel (w : World) (us : List Nat) (gk : Nat) (i : Value) (wr : World) : Prop :=
  ∃ k : Nat, k + gk = us.length ∧ i = .int .i64 k ∧ Hid (RowN wr .u64 22 w.heap.size (fillW us k)) ∧ Hid (Below w.heap.size w wr)
theorem cutF_nat (u : Nat) : cutF (u : Int) = ((u % 281474976710656 : Nat) : Int) := by unfold cutF; omega
set_option maxHeartbeats 800000 in
theorem of_any (ao : Option Addr) (n cap : Nat) (us : List Nat) (w : World) (hu : U64s w ao n cap us) (hb : n ≤ 17592186043904) :
    Calls Tryd.prog 11 #[.slice ao n cap] w fun e w' => ∃ g h k : Nat, e = .returned (.pointer (some ⟨g, 0, none⟩)) ∧ TapeAt w' g h (cutN us) 0 k ∧ Again (cutN us) k ∧ w.heap.size ≤ g ∧ w.heap.size ≤ h ∧ Below w.heap.size w w' := by
  have HU := hide hu
  have hun := hu.1
  have HUN := hide hun
  have hcm : cap ≤ 9223372036854775807 := hu.2.2.1
  have hmk := run_make_row' (P := Tryd.prog) 23 22 (.int .u64 0) 8 Tryd.underlying23 Tryd.tinfo22 rfl .i64 .i64 n (by omega) (by omega)
  clear hu hun
  go_enter Tryd.func11, Tryd.ntmps11
  go_wp2
  go_loopg [11] n (fun gk i wr => OfRel w us gk i wr)
  case atStart => exact ⟨0, by have := HUN.out; omega, rfl, by rw [fillW_zero, ← HUN.out]; exact row_made w .u64 22 n, below_alloc w _⟩
  case round =>
    obtain ⟨k, hk, rfl, HR, HB⟩ := hrel
    have hkn : k + gk = n := by have := HUN.out; omega
    have HK := hide hk
    clear hk
    cases gk with
    | zero =>
      have hlt : ¬ ((k : Int) < (n : Int)) := by omega
      have hkl : k = us.length := by have := HUN.out; omega
      have hr : RowN wr .u64 22 w.heap.size (cutN us) := by have := HR.out; rw [hkl, fillW_all] at this; exact this
      clear hkl
      have HR2 := hide hr
      clear hr
      go_wp2_with fail
      refine (again_any w.heap.size (cutN us) n (2 * n + 1) _ HR2.out (by rw [cutN_len]; exact HUN.out.symm) hb rfl (cutN_le us)).mono ?_; rintro e w1 ⟨j, rfl, hj, bel⟩
      have HJ := hide hj
      have BL := hide bel
      clear hj bel
      go_wp2
      go_ret
      have r1 := HR2.out.carry BL.out HR2.out.lt
      have b0 : Below w.heap.size w w1 := HB.out.trans (BL.out.mono HB.out.size)
      have hlen : (cutN us).length = n := by rw [cutN_len]; exact HUN.out.symm
      refine ⟨w1.heap.size, w.heap.size, j, rfl, ⟨?_, r1.alloc _, ?_, by omega, cutN_le us, by omega, HJ.out.1⟩, HJ.out, b0.size, Nat.le_refl _, b0.alloc b0.size _⟩
      · rw [hlen]; exact heap_alloc_new _ _
      · have := r1.lt; omega
    | succ g1 =>
      have hlt : (k : Int) < (n : Int) := by omega
      have hkl : k < us.length := by have := HUN.out; omega
      have hu1 := HU.out.2.2.2.2.2 k
      cases ao with
      | none => have := HU.out.2.2.2.1 rfl; have := HU.out.2.1; omega
      | some ad =>
        have hce := (HU.out.carry HB.out).2.2.2.2.1 ad rfl k hkl
        have zs := HR.out.frozen k
        have HS := hide (HR.out.set k (us.getD k 0 % 281474976710656))
        rw [fillW_set us k hkl] at HS
        have cw := HR.out.cell k (by rw [fillW_len us k (by omega)]; exact hkl)
        generalize (fillW us k).getD k 0 = z at cw
        generalize us.getD k 0 = u at hu1 hce HS
        obtain ⟨v, ev⟩ : ∃ v, u % 281474976710656 = v := ⟨_, rfl⟩
        rw [ev] at HS
        have HV := hide ev
        clear ev
        go_wp2_with fail
        refine (cut_any _ _ (by omega) (by omega)).mono ?_; rintro e w1 ⟨rfl, rfl⟩
        rw [cutF_nat, HV.out]
        go_wp2
        go_roundg g1
        case measure => omega
        case rel => exact ⟨k + 1, by have := HUN.out; omega, by go_num, HS, HB.out.setCell (Nat.le_refl _) _⟩
end Go.Proofs.YtgcmompldcnhlaaDoor
