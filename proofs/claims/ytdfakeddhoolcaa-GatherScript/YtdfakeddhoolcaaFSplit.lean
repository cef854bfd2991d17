/-
  What Split answers, as a contract.
-/
import Derived.Test.YtdfakeddhoolcaaFCalls
import Derived.Lib.MinMax
namespace Go.Proofs.Ytdfakeddhoolcaa
open Go.RowKit
/- these are a message's packets, the first k of them -/
def SplK (f t i : Int) (s : Nat) (l : List UInt8) (c k : Nat) (L : List Pa) : Prop := L.length = c ∧ ∀ j, j < k → (L.getD j Pa.zero).f = f ∧ (L.getD j Pa.zero).t = t ∧ (L.getD j Pa.zero).i = i ∧ (L.getD j Pa.zero).x = (j : Int) ∧ (L.getD j Pa.zero).c = (c : Int) ∧ (L.getD j Pa.zero).l = pcF l s j
def Spl (f t i : Int) (s : Nat) (l : List UInt8) (c : Nat) (L : List Pa) : Prop := SplK f t i s l c c L
def NewK (w : World) (L : List Pa) : Prop := ∀ x ∈ L, New w x.so
def SpEnd (f t i : Int) (s : Nat) (l : List UInt8) (c : Nat) (w : World) (e : Ending) (w' : World) : Prop :=
  ∃ L, e = .returned (.tuple #[.slice (some ⟨w.heap.size, 0, none⟩) c c, .nilIface]) ∧ Pks w' (some ⟨w.heap.size, 0, none⟩) c c L ∧ Spl f t i s l c L ∧ NewK w L ∧ Below w.heap.size w w'
set_option maxHeartbeats 800000 in
theorem split_arg (ao : Option Addr) (n cap : Nat) (f t i z : Int) (w : World) (hz : z < 1 ∨ 32768 < z) :
    Calls Try.prog 13 #[.slice ao n cap, .int .i64 f, .int .i64 t, .int .u64 i, .int .i64 z] w fun e w' => e = .returned (.tuple #[.slice none 0 0, .iface 57 (.int .i64 4)]) ∧ w' = w := by
  by_cases h : z < 1
  · go_enter Try.func13, Try.ntmps13
    go_wp2
    go_ret2
    exact ⟨rfl, rfl⟩
  · have h2 : 32768 < z := by omega
    clear hz
    go_enter Try.func13, Try.ntmps13
    go_wp2
    go_ret2
    exact ⟨rfl, rfl⟩
set_option maxHeartbeats 800000 in
theorem split_bounds (ao : Option Addr) (n cap : Nat) (f t i : Int) (s : Nat) (w : World) (hs : 1 ≤ s) (hs2 : s ≤ 32768) (hn : s * 256 < n) :
    Calls Try.prog 13 #[.slice ao n cap, .int .i64 f, .int .i64 t, .int .u64 i, .int .i64 (s : Int)] w fun e w' => e = .returned (.tuple #[.slice none 0 0, .iface 57 (.int .i64 13)]) ∧ w' = w := by
  have h1 : ¬ ((s : Int) < 1) := by omega
  have h2 : ¬ (32768 < (s : Int)) := by omega
  have h3 : (s : Int) * 256 < (n : Int) := by omega
  go_enter Try.func13, Try.ntmps13
  go_wp2
  go_ret2
  exact ⟨rfl, rfl⟩
def SpRel (f t i : Int) (s : Nat) (l : List UInt8) (c g : Nat) (w w1 : World) (gk : Nat) (vi : Value) (wq : World) : Prop :=
  ∃ (k : Nat) (L : List Pa), k + gk = c ∧ vi = .int .i64 (k : Int) ∧ RowK wq g L ∧ SplK f t i s l c k L ∧ (∀ x ∈ L, x.has wq) ∧ NewK w1 L ∧ Below w.heap.size w wq ∧ w1.heap.size ≤ wq.heap.size
theorem set_getK (L : List Pa) (k j : Nat) (y : Pa) (hk : k < L.length) : (L.set k y).getD j Pa.zero = if k = j then y else L.getD j Pa.zero := by
  simp only [List.getD_eq_getElem?_getD, List.getElem?_set]
  by_cases h : k = j
  · subst h; simp [hk]
  · simp [h]
theorem set_memK {L : List Pa} {k : Nat} {y x : Pa} (h : x ∈ L.set k y) : x = y ∨ x ∈ L := by
  rcases List.mem_or_eq_of_mem_set h with h | h
  · exact .inr h
  · exact .inl h
theorem SplK.put {f t i : Int} {s c k : Nat} {l : List UInt8} {L : List Pa} (h : SplK f t i s l c k L) (hk : k < c) (y : Pa) (hy : y.f = f ∧ y.t = t ∧ y.i = i ∧ y.x = (k : Int) ∧ y.c = (c : Int) ∧ y.l = pcF l s k) : SplK f t i s l c (k + 1) (L.set k y) := by
  refine ⟨by rw [List.length_set]; exact h.1, fun j hj => ?_⟩
  rw [set_getK L k j y (by rw [h.1]; exact hk)]
  by_cases e : k = j
  · subst e; rw [if_pos rfl]; exact hy
  · rw [if_neg e]; exact h.2 j (by omega)
set_option maxRecDepth 20000 in
set_option maxHeartbeats 3200000 in
theorem split_yes (ao : Option Addr) (n cap : Nat) (l : List UInt8) (f t i : Int) (s : Nat) (w : World) (hb : Bts w ao n cap l) (hs : 1 ≤ s) (hs2 : s ≤ 32768) (hn : n ≤ s * 256) :
    Calls Try.prog 13 #[.slice ao n cap, .int .i64 f, .int .i64 t, .int .u64 i, .int .i64 (s : Int)] w fun e w' => SpEnd f t i s l (cntF n s) w e w' := by
  have HB := hide hb
  have HL := hide hb.1
  have hcap := hb.2.1
  have hcapm : cap ≤ 9223372036854775807 := hb.2.2.1
  have h1 : ¬ ((s : Int) < 1) := by omega
  have h2 : ¬ (32768 < (s : Int)) := by omega
  have h3 : ¬ ((s : Int) * 256 < (n : Int)) := by omega
  have hn8 : n ≤ 8388608 := by omega
  obtain ⟨c, hc⟩ : ∃ c, cntF n s = c := ⟨_, rfl⟩
  have hcp : 1 ≤ c := hc ▸ cnt_pos n s
  have hc2 : c ≤ 256 := hc ▸ cnt_le n s hs hn
  have HC := hide hc
  have hq : (((n : Int) + (s : Int) - 1) / (s : Int)) = (((n + s - 1) / s : Nat) : Int) := by
    rw [Int.natCast_ediv, Int.natCast_sub (by omega)]; simp
  have hq2 : ((n : Int) + (s : Int) - 1).tdiv (s : Int) = (((n + s - 1) / s : Nat) : Int) := by
    rw [Int.tdiv_eq_ediv_of_nonneg (by omega)]; exact hq
  have hmx : max 1 (((n + s - 1) / s : Nat) : Int) = (c : Int) := by
    rw [← hc]; unfold cntF; omega
  obtain ⟨q, hqq⟩ : ∃ q, (n + s - 1) / s = q := ⟨_, rfl⟩
  rw [hqq] at hq hq2 hmx
  have hs0 : ¬ ((s : Int) = 0) := by omega
  rw [hc]
  clear hb hc hqq
  have hmk := make_pks c (by omega)
  obtain ⟨X, hX⟩ : ∃ X, w.alloc (.cells (cellsK (List.replicate c Pa.zero)).toArray 35) = X := ⟨_, rfl⟩
  have HRK : Hid (RowK X w.heap.size (List.replicate c Pa.zero)) := hX ▸ heap_alloc_new _ _
  have HBX : Hid (Below w.heap.size w X) := hX ▸ below_alloc _ _
  have HSX : Hid (w.heap.size + 1 ≤ X.heap.size) := by show _ ≤ _; rw [← hX]; simp
  have hmk2 := hmk w
  rw [hX] at hmk2
  clear hmk hX
  go_enter Try.func13, Try.ntmps13
  go_wp2
  go_loopg [41] c (fun gk vi wq => SpRel f t i s l c w.heap.size w X gk vi wq)
  case atStart => exact ⟨0, _, by omega, rfl, HRK.out, ⟨by simp, fun j hj => by omega⟩, fun x hx => by obtain rfl := List.eq_of_mem_replicate hx; exact bts_nil _, fun x hx => by obtain rfl := List.eq_of_mem_replicate hx; exact new_none _, HBX.out, Nat.le_refl _⟩
  case round =>
    obtain ⟨k, L, hk, rfl, hrow, hsp, hhas, hnew, b, hX2⟩ := hrel
    have HROW := hide hrow
    have HSP := hide hsp
    have HHAS := hide hhas
    have HNEW := hide hnew
    have HB2 := hide b
    have HX2 := hide hX2
    clear hrow hsp hhas hnew b hX2 hmk2 hmx hq hq2
    cases gk with
    | zero =>
      obtain rfl : k = c := by omega
      have hlt : ¬ ((k : Int) < (k : Int)) := by omega
      go_wp2
      go_ret2
      exact ⟨L, rfl, ⟨HROW.out.lies k HSP.out.1.symm (by omega), HHAS.out⟩, HSP.out, fun x hx => (HNEW.out x hx).le HBX.out.size, HB2.out⟩
    | succ g1 =>
      have hkc : k < c := by omega
      have hlt : (k : Int) < (c : Int) := by omega
      obtain ⟨p, hp⟩ : ∃ p, k * s = p := ⟨_, rfl⟩
      have hpn : p ≤ n := hp ▸ cnt_in n s k hs (by rw [HC.out]; exact hkc)
      have hpi : (k : Int) * (s : Int) = (p : Int) := by rw [← hp, Int.natCast_mul]
      obtain ⟨m, hm⟩ : ∃ m, min (p + s) n = m := ⟨_, rfl⟩
      have hmi : min ((p : Int) + (s : Int)) (n : Int) = (m : Int) := by omega
      have hpm : p ≤ m := by omega
      have hmn : m ≤ n := by omega
      have hcut := fun (w : World) => cut_lh8 w ao n cap p m hpm (by omega)
      have hpart := HB.out.part p m hpm hmn
      rw [← hp, pc_part l s k m (by rw [← hm, HL.out, hp]) (by rw [hp, ← HL.out]; exact hpn), hp] at hpart
      have HPART := hide hpart
      obtain ⟨ta, hta⟩ : ∃ ta, tailA ao p cap = ta := ⟨_, rfl⟩
      obtain ⟨d, hd⟩ : ∃ d, m - p = d := ⟨_, rfl⟩
      obtain ⟨cd, hcd⟩ : ∃ cd, cap - p = cd := ⟨_, rfl⟩
      rw [hta, hd, hcd] at HPART
      simp only [hta, hd, hcd] at hcut
      have hd8 : d ≤ 8388608 := by omega
      clear hpart hp hm hta hd hcd
      go_wp2_with fail
      refine (clone_any ta d cd (pcF l s k) _ (HPART.out.over HB2.out (Nat.le_refl _)) (by omega)).mono ?_; rintro e w2 ⟨co, cc, rfl, hbt, hnw, b2⟩
      obtain ⟨y, hy⟩ : ∃ y : Pa, (⟨f, t, i, (k : Int), (c : Int), co, d, cc, pcF l s k⟩ : Pa) = y := ⟨_, rfl⟩
      have hyv : y.f = f ∧ y.t = t ∧ y.i = i ∧ y.x = (k : Int) ∧ y.c = (c : Int) ∧ y.l = pcF l s k := by rw [← hy]; exact ⟨rfl, rfl, rfl, rfl, rfl, rfl⟩
      have hyb : y.has w2 := by rw [← hy]; exact hbt
      have hyn : New X y.so := by rw [← hy]; exact hnw.le HX2.out
      have hrow2 := HROW.out.carry b2 (Nat.le_refl _)
      have hkl : k < L.length := by rw [HSP.out.1]; exact hkc
      obtain ⟨c0, c1, c2, c3, c4, c5⟩ : _ ∧ _ ∧ _ ∧ _ ∧ _ ∧ _ := ⟨hrow2.cell k 0 hkl (by omega), hrow2.cell k 1 hkl (by omega), hrow2.cell k 2 hkl (by omega), hrow2.cell k 3 hkl (by omega), hrow2.cell k 4 hkl (by omega), hrow2.cell k 5 hkl (by omega)⟩
      simp only [Pa.cells, List.getElem?_cons_zero, List.getElem?_cons_succ, Nat.add_zero] at c0 c1 c2 c3 c4 c5
      obtain ⟨z0, z1, z2, z3, z4, z5⟩ : _ ∧ _ ∧ _ ∧ _ ∧ _ ∧ _ := ⟨hrow2.z (k * 6), hrow2.z (k * 6 + 1), hrow2.z (k * 6 + 2), hrow2.z (k * 6 + 3), hrow2.z (k * 6 + 4), hrow2.z (k * 6 + 5)⟩
      obtain ⟨Y, hY⟩ : ∃ Y, layK w2 w.heap.size k y = Y := ⟨_, rfl⟩
      have hfoot : Foot (fun j => j = w.heap.size) w2 Y := hY ▸ foot_layK w2 w.heap.size k y
      have HROW3 : Hid (RowK Y w.heap.size (L.set k y)) := hY ▸ hrow2.lay k hkl y
      have HSP3 := hide (HSP.out.put hkc y hyv)
      have hb2 : Below w.heap.size w w2 := HB2.out.trans (b2.mono HB2.out.size)
      have HB3 : Hid (Below w.heap.size w Y) := hb2.trans (hfoot.below hb2.size (fun j e => by omega))
      have far : ∀ x : Pa, x.has w2 → New X x.so → x.has Y := fun x hx hn => Bts.foot hx hfoot fun ad e _ e2 => by
        have := hn ad e; have := HSX.out; omega
      have HHAS3 : Hid (∀ x ∈ L.set k y, x.has Y) := fun x hx => by
        rcases set_memK hx with rfl | hx
        · exact far _ hyb hyn
        · exact far _ (Bts.carry (HHAS.out x hx) b2) (HNEW.out x hx)
      have HNEW3 : Hid (NewK X (L.set k y)) := fun x hx => by
        rcases set_memK hx with rfl | hx
        · exact hyn
        · exact HNEW.out x hx
      have HX3 : Hid (X.heap.size ≤ Y.heap.size) := Nat.le_trans HX2.out (Nat.le_trans b2.size hfoot.size)
      unfold layK at hY
      rw [← hy] at hY
      simp only at hY
      clear hfoot hb2 far hyv hyb hyn hrow2 hbt hnw b2 hy HROW HSP HHAS HNEW HB2 HX2 HPART hcut
      go_wp2
      go_roundg g1
      case measure => omega
      case rel => exact ⟨k + 1, _, by omega, by go_num, HROW3.out, HSP3.out, HHAS3.out, HNEW3.out, HB3.out, HX3.out⟩
end Go.Proofs.Ytdfakeddhoolcaa
