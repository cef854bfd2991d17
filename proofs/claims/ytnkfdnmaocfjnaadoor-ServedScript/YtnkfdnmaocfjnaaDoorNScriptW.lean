/-
  The walk of ServedScript.
-/
import Derived.Test.YtnkfdnmaocfjnaaDoorNMod
import Derived.Test.YtnkfdnmaocfjnaaDoorYTill
import Derived.Test.YtnkfdnmaocfjnaaDoorKAlike
import Derived.Deep.RegionLaw
import Derived.Deep.RegionHeld
import Derived.Deep.CutBlock
namespace Go.Proofs.YtnkfdnmaocfjnaaDoor
open Go.RowKit
def actO (x : Ac) : Obj := .cells #[.int .u8 (x.o : Nat), .int .u8 (x.n : Nat), .int .u64 x.m.ta, .int .u64 x.m.rp, .int .u32 x.m.id, .int .u16 x.m.op, .int .u16 x.m.st, .int .u64 x.m.p, .int .u32 x.m.o, .int .u8 x.m.r, .int .u64 x.m.c, .int .u64 x.m.ar, .slice x.m.so x.m.sn x.m.sc] 40 (0, 0)
theorem act_all {W : World} {b : Nat} {x : Ac} (h : W.heap[b]? = some (actO x)) : W.cell? ⟨b, 0, none⟩ = some (.int .u8 (x.o : Nat)) ∧ W.cell? ⟨b, 1, none⟩ = some (.int .u8 (x.n : Nat)) ∧ W.cell? ⟨b, 2, none⟩ = some (.int .u64 x.m.ta) ∧ W.cell? ⟨b, 3, none⟩ = some (.int .u64 x.m.rp) ∧ W.cell? ⟨b, 4, none⟩ = some (.int .u32 x.m.id) ∧ W.cell? ⟨b, 5, none⟩ = some (.int .u16 x.m.op) ∧ W.cell? ⟨b, 6, none⟩ = some (.int .u16 x.m.st) ∧ W.cell? ⟨b, 7, none⟩ = some (.int .u64 x.m.p) ∧ W.cell? ⟨b, 8, none⟩ = some (.int .u32 x.m.o) ∧ W.cell? ⟨b, 9, none⟩ = some (.int .u8 x.m.r) ∧ W.cell? ⟨b, 10, none⟩ = some (.int .u64 x.m.c) ∧ W.cell? ⟨b, 11, none⟩ = some (.int .u64 x.m.ar) ∧ W.cell? ⟨b, 12, none⟩ = some (.slice x.m.so x.m.sn x.m.sc) := by
  unfold actO at h
  refine ⟨?_, ?_, ?_, ?_, ?_, ?_, ?_, ?_, ?_, ?_, ?_, ?_, ?_⟩ <;> (rw [cell_of_row W b _ _ _ _ h]; rfl)
def MRel (w : World) (g n gk : Nat) (vv vi : Value) (wq : World) : Prop :=
  ∃ (i : Nat) (K : List En), i + gk = n ∧ vi = .int .i64 (i : Int) ∧ Sc w wq g vv (K.map toRq) K ∧ Inv w K
def AtRel (Y : World) (K : List En) (q n gk : Nat) (va vi : Value) (wq : World) : Prop :=
  ∃ (j : Nat) (a : Int), j + gk = n ∧ vi = .int .i64 (j : Int) ∧ va = .int .i64 a ∧ AtE K q j a ∧ Y = wq
def BkRel (Z : World) (K : List En) (gk : Nat) (va vk : Value) (wq : World) : Prop :=
  ∃ (a k : Int), k + 1 = (gk : Int) ∧ va = .int .i64 a ∧ vk = .int .i64 k ∧ gk ≤ K.length ∧ AtB K gk a ∧ Z = wq
theorem atB_from (K : List En) : ∀ s, s ≤ K.length → ∃ a, AtB K (K.length - s) a := by
  intro s
  induction s with
  | zero => intro _; exact ⟨-1, atB_nil K⟩
  | succ s ih =>
    intro h
    obtain ⟨a, ha⟩ := ih (by omega)
    rw [show K.length - s = K.length - (s + 1) + 1 by omega] at ha
    by_cases e : (en K (K.length - (s + 1))).d = true
    · exact ⟨_, atB_yes (by omega) e⟩
    · exact ⟨a, atB_no ha (by simpa using e)⟩
theorem atB_ex (K : List En) : ∃ a, AtB K 0 a := by
  obtain ⟨a, h⟩ := atB_from K K.length (Nat.le_refl _)
  rw [Nat.sub_self] at h
  exact ⟨a, h⟩
theorem atB_none {K : List En} {a : Int} (h : AtB K 0 a) (k : ∀ j, j < K.length → (en K j).d = false) : a = -1 := by
  rcases h with ⟨e, _⟩ | ⟨i, _, _, h2, h3, _⟩
  · exact e
  · rw [k i h2] at h3; cases h3
theorem atB_some {K : List En} {a : Int} {i : Nat} (h : AtB K 0 a) (hi : i < K.length) (hd : (en K i).d = true) (hn : ∀ j, j < i → (en K j).d = false) : a = (i : Int) := by
  rcases h with ⟨_, h⟩ | ⟨k, e, _, h2, h3, h4⟩
  · rw [h i (Nat.zero_le _) hi] at hd; cases hd
  · have h5 : ¬ k < i := fun x => by rw [hn k x] at h3; cases h3
    have h6 : ¬ i < k := fun x => by rw [h4 i (Nat.zero_le _) x] at hd; cases hd
    omega
theorem map_snoc (K : List En) (n : Nat) : K.map toRq ++ [⟨(reqM n).rp, (reqM n).id, false, Ms.zero⟩] = (K ++ [(⟨n, false, Ms.zero⟩ : En)]).map toRq := by
  rw [List.map_append]; rfl
theorem map_erase (K : List En) (k : Nat) : (K.map toRq).eraseIdx k = (K.eraseIdx k).map toRq := by
  rw [List.eraseIdx_eq_take_drop_succ, List.eraseIdx_eq_take_drop_succ, List.map_append, List.map_take, List.map_drop]
theorem map_reply (K : List En) (k : Nat) (p : Ms) : (K.map toRq).set k ⟨(rq (K.map toRq) k).p, (rq (K.map toRq) k).i, true, p.nm⟩ = (K.set k ⟨(en K k).w, true, p⟩).map toRq := by
  rw [List.map_set, rq_of]; rfl
set_option maxRecDepth 20000 in
set_option maxHeartbeats 25600000 in
theorem walk_script (ao : Option Addr) (n cap : Nat) (xs : List Ac) (w : World) (hA : Acts w ao n cap xs) (hs : ∀ y ∈ xs, y.sn ≤ 140737488351232) (hg : Glob w) :
    Calls Tryd.prog 3 #[.slice ao n cap] w fun e w' => e = .returned (.bool true) ∧ Below w.heap.size w w' := by
  have hz := Tryd.zeroServed
  have HG := hide hg
  have HA := hide hA
  have HSZ : Hid (∀ y ∈ xs, y.m.sn ≤ 140737488355328) := fun y hy => by have := hs y hy; unfold Ac.sn at this; omega
  have HN := hide hA.1
  have hnc := hA.2.1
  have hcm : cap ≤ 9223372036854775807 := hA.2.2.1
  clear hg hA hs
  go_enter Tryd.func3, Tryd.ntmps3
  go_wp2_with fail
  refine (awake_any _).mono ?_; rintro e Wa ⟨rfl, b1⟩
  obtain ⟨g, hgs⟩ : ∃ g, Wa.heap.size = g := ⟨_, rfl⟩
  obtain ⟨X, hX⟩ : ∃ X, Wa.alloc (.cells zeroC.toArray 37) = X := ⟨_, rfl⟩
  have HSC : Hid (Sc w X g (.slice none 0 0) [] []) := by
    rw [← hX, ← hgs]
    exact ⟨new_ok Wa, owns_nil _ _ _ _, below_one b1 (below_alloc Wa _), b1.size⟩
  clear b1
  go_wp2
  clear hX hgs hz
  go_loopg [4, 23] n (fun gk vv vi wq => MRel w g n gk vv vi wq)
  case atStart => exact ⟨0, [], by omega, rfl, HSC.out, inv_nil w⟩
  case round =>
    obtain ⟨i, K, hi, rfl, sc, inv⟩ := hrel
    have HI := hide hi
    have HS := hide sc
    have HINV := hide inv
    clear sc hi HSC inv
    obtain ⟨va, vc, hva, hvl⟩ := owns_lies HS.out.own
    subst hva
    obtain ⟨kn, hkn⟩ : ∃ kn, K.length = kn := ⟨_, rfl⟩
    have HKN := hide hkn
    have hkc := hvl.2.1
    have hkm : vc ≤ 9223372036854775807 := hvl.2.2.1
    have hk32 : kn ≤ 32 := by have := HS.out.st.few; rw [List.length_map, hkn] at this; exact this
    rw [hkn] at hkc HS
    rw [hkn]
    clear hkn hvl
    cases gk with
    | zero =>
      obtain rfl : i = n := by have := HI.out; omega
      have hlt : ¬ ((i : Int) < (i : Int)) := by omega
      go_wp2_with fail
      refine (len_any HS.out.st).mono ?_; rintro e w7 ⟨rfl, b7⟩
      rw [show (((List.map toRq K).length : Nat) : Int) = ((kn : Nat) : Int) from congrArg Nat.cast ((List.length_map _).trans HKN.out)]
      have HB7 := hide (below_one HS.out.bel b7)
      clear b7
      go_wp2
      go_ret
      exact ⟨rfl, HB7.out⟩
    | succ g1 =>
      have hin : i < n := by have := HI.out; omega
      have hlt : (i : Int) < (n : Int) := by omega
      obtain ⟨ad, hao⟩ : ∃ ad, ao = some ad := by
        cases ao with
        | none => have := HA.out.2.2.2.1 rfl; omega
        | some ad => exact ⟨ad, rfl⟩
      subst hao
      have hat := HA.out.2.2.2.2 ad rfl i hin
      obtain ⟨x, hx⟩ : ∃ x, xs.getD i Ac.zero = x := ⟨_, rfl⟩
      rw [hx] at hat
      have hmem : x ∈ xs := by rw [← hx, List.getD_eq_getElem?_getD, List.getElem?_eq_getElem (by rw [← HN.out]; exact hin)]; exact List.getElem_mem _
      have HPX : Hid (x.m.has w ∧ x.m.sn ≤ 140737488355328) := ⟨hat.2.1, HSZ.out x hmem⟩
      obtain ⟨ho, hno, _⟩ := hat.1
      obtain ⟨q0, q1, q2, q3, q4, q5, q6, q7, q8, q9, q10, q11, q12⟩ := hat.all HS.out.bel
      obtain ⟨Y, hY⟩ : ∃ Y, wr.alloc (.cells #[.int .u8 (x.o : Nat), .int .u8 (x.n : Nat), .int .u64 x.m.ta, .int .u64 x.m.rp, .int .u32 x.m.id, .int .u16 x.m.op, .int .u16 x.m.st, .int .u64 x.m.p, .int .u32 x.m.o, .int .u8 x.m.r, .int .u64 x.m.c, .int .u64 x.m.ar, .slice x.m.so x.m.sn x.m.sc] 40) = Y := ⟨_, rfl⟩
      have bY : Below wr.heap.size wr Y := hY ▸ below_alloc wr _
      have hba : Y.heap[wr.heap.size]? = some (actO x) := by rw [← hY]; exact heap_alloc_new _ _
      have HBA := hide hba
      have HSY := hide (HS.out.grow bY)
      obtain ⟨q, hq⟩ : ∃ q, x.n % 48 = q := ⟨_, rfl⟩
      have hqi : (x.n : Int) % 48 = (q : Int) := by omega
      have hq48 : q < 48 := by omega
      obtain ⟨d, hd⟩ : ∃ d, x.o % 2 = d := ⟨_, rfl⟩
      have hdi : (x.o : Int) % 2 = (d : Int) := by omega
      have hd2 : d < 2 := by omega
      obtain ⟨m0, m1, m2, m3, m4, m5, m6, m7, m8, m9, m10, m11, m12⟩ := act_all hba
      clear hat hx hmem bY hba hd hq
      go_wp2
      clear q0 q1 q2 q3 q4 q5 q6 q7 q8 q9 q10 q11 q12 hY
      go_loopg [8, 32] kn (fun gk va vi wq => AtRel Y K q kn gk va vi wq)
      case atStart => exact ⟨0, -1, by omega, rfl, rfl, .inl ⟨rfl, fun j hj => absurd hj (Nat.not_lt_zero _)⟩, rfl⟩
      case round =>
        rename World => wq
        obtain ⟨j, a, hj, rfl, rfl, hat, hwq⟩ := hrel
        subst hwq
        have HJ := hide hj
        have HAT := hide hat
        clear hj hat
        cases gk with
        | succ g2 =>
          have hjn : j < kn := by have := HJ.out; omega
          have hlt2 : (j : Int) < (kn : Int) := by omega
          obtain ⟨hh, ac, hvv, hac1, hac2⟩ := HSY.out.own.elem (by rw [HKN.out]; omega)
          obtain ⟨rfl, _⟩ : va = some ⟨hh, 0, none⟩ ∧ True := by injection hvv with h1; exact ⟨h1, trivial⟩
          have hc0 := HSY.out.own.cell j 0 (by rw [HKN.out]; exact hjn) (by omega)
          obtain ⟨y, hy⟩ : ∃ y, en K j = y := ⟨_, rfl⟩
          rw [hy] at hc0
          have c0 : Y.cell? ⟨hh, j * 13, none⟩ = some (.int .u8 (y.w : Int)) := hc0
          have HY := hide hy
          clear hvv hac1 hac2 hc0 hy m0 m1 m2 m3 m4 m5 m6 m7 m8 m9 m10 m11 m12
          by_cases he : y.w = q
          · rw [he] at c0
            have HE := hide he
            clear he
            as_aux_lemma =>
              go_wp2
              go_roundg g2
              case measure => have := HJ.out; omega
              case rel => exact ⟨j + 1, (j : Int), by have := HJ.out; omega, by go_num, by go_num, AtE.yes (by rw [HY.out]; exact HE.out), rfl⟩
          · have hei : ¬ ((y.w : Int) = (q : Int)) := by omega
            have HE := hide he
            clear he
            as_aux_lemma =>
              go_wp2
              go_roundg g2
              case measure => have := HJ.out; omega
              case rel => exact ⟨j + 1, a, by have := HJ.out; omega, by go_num, by go_num, HAT.out.no (by rw [HY.out]; exact HE.out), rfl⟩
        | zero =>
          obtain rfl : j = kn := by have := HJ.out; omega
          have hlt2 : ¬ ((j : Int) < (j : Int)) := by omega
          obtain ⟨kn, hkn2⟩ : ∃ kn, kn = j := ⟨_, rfl⟩
          subst hkn2
          clear HJ
          obtain rfl | rfl : d = 1 ∨ d = 0 := by omega
          · rcases HAT.out with ⟨rfl, hno2⟩ | ⟨k, hk, rfl, hkw⟩
            · have HNR : Hid (∀ j, j < (K.map toRq).length → isR (reqM q).rp (reqM q).id (rq (K.map toRq) j) = false) := fun j hj => by
                rw [List.length_map, HKN.out] at hj
                rw [rq_of]
                exact isR_no (hno2 j hj)
              clear hno2 HAT
              have HSD : Hid (Sc w Y.drew g (.slice va kn vc) (K.map toRq) K) := HSY.out.grow (below_d Y 1)
              have HBD : Hid (Y.drew.heap[wr.heap.size]? = some (actO x)) := HBA.out
              go_upto_region 18 with fail
              go_region_held (fun w' => (w'.cell? ⟨wr.heap.size, 2, none⟩ = some (.int .u64 x.m.ta) ∧ w'.cell? ⟨wr.heap.size, 3, none⟩ = some (.int .u64 x.m.rp) ∧ w'.cell? ⟨wr.heap.size, 4, none⟩ = some (.int .u32 x.m.id) ∧ w'.cell? ⟨wr.heap.size, 5, none⟩ = some (.int .u16 x.m.op) ∧ w'.cell? ⟨wr.heap.size, 6, none⟩ = some (.int .u16 x.m.st) ∧ w'.cell? ⟨wr.heap.size, 7, none⟩ = some (.int .u64 x.m.p) ∧ w'.cell? ⟨wr.heap.size, 8, none⟩ = some (.int .u32 x.m.o) ∧ w'.cell? ⟨wr.heap.size, 9, none⟩ = some (.int .u8 x.m.r) ∧ w'.cell? ⟨wr.heap.size, 10, none⟩ = some (.int .u64 x.m.c) ∧ w'.cell? ⟨wr.heap.size, 11, none⟩ = some (.int .u64 x.m.ar) ∧ w'.cell? ⟨wr.heap.size, 12, none⟩ = some (.slice x.m.so x.m.sn x.m.sc))) (first | exact (act_all HB5.out).2.2 | exact (act_all HB4.out).2.2 | exact (act_all HBD.out).2.2) (first | (go_at_call 7; refine (request_any q _ hq48).mono ?_; rintro e w4 ⟨rfl, b4⟩; have HS4 := hide (HSD.out.grow b4); have HB4 : Hid (w4.heap[wr.heap.size]? = some (actO x)) := ((b4.block _ (lt_of_heap HBD.out)).trans HBD.out); clear b4) | (go_at_call 6; refine (reply_none (reqM q) x.m HS4.out.st HNR.out).mono ?_; rintro e w5 ⟨rfl, b5⟩; have HS5 := hide (HS4.out.grow b5); have HB5 : Hid (w5.heap[wr.heap.size]? = some (actO x)) := ((b5.block _ (lt_of_heap HB4.out)).trans HB4.out); clear b5))
              all_goals
                go_wp2
                go_roundg g1
                case measure => have := HI.out; omega
                case rel => exact ⟨i + 1, K, by have := HI.out; omega, by go_num, HS5.out, HINV.out⟩
            · obtain ⟨⟨q', dd, ym⟩, hy⟩ : ∃ y, en K k = y := ⟨_, rfl⟩
              rw [hy] at hkw
              obtain rfl : q = q' := hkw.symm
              have HK : Hid (k < K.length) := by show _ < _; rw [HKN.out]; exact hk
              have HY := hide hy
              have HF : Hid (∀ j, j < k → isR (reqM q).rp (reqM q).id (rq (K.map toRq) j) = false) := fun j hj => by
                rw [rq_of]
                refine isR_no (fun e => ?_)
                have := HINV.out.ne hj HK.out
                rw [HY.out] at this
                exact this e
              have HQ : Hid (isR (reqM q).rp (reqM q).id (rq (K.map toRq) k) = true) := by
                show _ = _
                rw [rq_of, HY.out]; exact isR_yes rfl
              have HR : Hid (rq (K.map toRq) k = ⟨((q % 2 : Nat) : Int), ((q / 2 : Nat) : Int), dd, ym.nm⟩) := by
                show _ = _
                rw [rq_of, HY.out]; rfl
              obtain ⟨hh, ac, hvv, hac1, hac2⟩ := HSY.out.own.elem (by rw [HKN.out]; omega)
              obtain ⟨rfl, _⟩ : va = some ⟨hh, 0, none⟩ ∧ True := by injection hvv with h1; exact ⟨h1, trivial⟩
              have hge : (0 : Int) ≤ (k : Int) := by omega
              have hlk : (k : Int) < (kn : Int) := by omega
              clear hvv hac1 hac2 hy HAT
              cases dd with
              | true =>
                have e1 := HSY.out.own.all k HK.out _ HY.out |>.2.1
                dsimp only at e1
                have HSD : Hid (Sc w Y.drew g (.slice (some ⟨hh, 0, none⟩) kn vc) (K.map toRq) K) := HSY.out.grow (below_d Y 1)
                have HBD : Hid (Y.drew.heap[wr.heap.size]? = some (actO x)) := HBA.out
                go_upto_region 18 with fail
                go_region_held (fun w' => (w'.cell? ⟨wr.heap.size, 2, none⟩ = some (.int .u64 x.m.ta) ∧ w'.cell? ⟨wr.heap.size, 3, none⟩ = some (.int .u64 x.m.rp) ∧ w'.cell? ⟨wr.heap.size, 4, none⟩ = some (.int .u32 x.m.id) ∧ w'.cell? ⟨wr.heap.size, 5, none⟩ = some (.int .u16 x.m.op) ∧ w'.cell? ⟨wr.heap.size, 6, none⟩ = some (.int .u16 x.m.st) ∧ w'.cell? ⟨wr.heap.size, 7, none⟩ = some (.int .u64 x.m.p) ∧ w'.cell? ⟨wr.heap.size, 8, none⟩ = some (.int .u32 x.m.o) ∧ w'.cell? ⟨wr.heap.size, 9, none⟩ = some (.int .u8 x.m.r) ∧ w'.cell? ⟨wr.heap.size, 10, none⟩ = some (.int .u64 x.m.c) ∧ w'.cell? ⟨wr.heap.size, 11, none⟩ = some (.int .u64 x.m.ar) ∧ w'.cell? ⟨wr.heap.size, 12, none⟩ = some (.slice x.m.so x.m.sn x.m.sc))) (first | exact (act_all HB5.out).2.2 | exact (act_all HB4.out).2.2 | exact (act_all HBD.out).2.2) (first | (go_at_call 7; refine (request_any q _ hq48).mono ?_; rintro e w4 ⟨rfl, b4⟩; have HS4 := hide (HSD.out.grow b4); have HB4 : Hid (w4.heap[wr.heap.size]? = some (actO x)) := ((b4.block _ (lt_of_heap HBD.out)).trans HBD.out); clear b4) | (go_at_call 6; refine (reply_done (reqM q) x.m HS4.out.st k (by rw [List.length_map]; exact HK.out) HQ.out HF.out (by rw [HR.out])).mono ?_; rintro e w5 ⟨rfl, b5⟩; have HS5 := hide (HS4.out.grow b5); have HB5 : Hid (w5.heap[wr.heap.size]? = some (actO x)) := ((b5.block _ (lt_of_heap HB4.out)).trans HB4.out); clear b5))
                all_goals
                  go_wp2
                  go_roundg g1
                  case measure => have := HI.out; omega
                  case rel => exact ⟨i + 1, K, by have := HI.out; omega, by go_num, HS5.out, HINV.out⟩
              | false =>
                have e1 := HSY.out.own.all k HK.out _ HY.out |>.2.1
                dsimp only at e1
                have HSD : Hid (Sc w Y.drew g (.slice (some ⟨hh, 0, none⟩) kn vc) (K.map toRq) K) := HSY.out.grow (below_d Y 1)
                have HBD : Hid (Y.drew.heap[wr.heap.size]? = some (actO x)) := HBA.out
                go_upto_region 18 with fail
                go_region_held (fun w' => (w'.cell? ⟨wr.heap.size, 2, none⟩ = some (.int .u64 x.m.ta) ∧ w'.cell? ⟨wr.heap.size, 3, none⟩ = some (.int .u64 x.m.rp) ∧ w'.cell? ⟨wr.heap.size, 4, none⟩ = some (.int .u32 x.m.id) ∧ w'.cell? ⟨wr.heap.size, 5, none⟩ = some (.int .u16 x.m.op) ∧ w'.cell? ⟨wr.heap.size, 6, none⟩ = some (.int .u16 x.m.st) ∧ w'.cell? ⟨wr.heap.size, 7, none⟩ = some (.int .u64 x.m.p) ∧ w'.cell? ⟨wr.heap.size, 8, none⟩ = some (.int .u32 x.m.o) ∧ w'.cell? ⟨wr.heap.size, 9, none⟩ = some (.int .u8 x.m.r) ∧ w'.cell? ⟨wr.heap.size, 10, none⟩ = some (.int .u64 x.m.c) ∧ w'.cell? ⟨wr.heap.size, 11, none⟩ = some (.int .u64 x.m.ar) ∧ w'.cell? ⟨wr.heap.size, 12, none⟩ = some (.slice x.m.so x.m.sn x.m.sc))) (first | exact (act_all HB5.out).2.2 | exact (act_all HB4.out).2.2 | exact (act_all HBD.out).2.2) (first | (go_at_call 7; refine (request_any q _ hq48).mono ?_; rintro e w4 ⟨rfl, b4⟩; have HS4 := hide (HSD.out.grow b4); have HB4 : Hid (w4.heap[wr.heap.size]? = some (actO x)) := ((b4.block _ (lt_of_heap HBD.out)).trans HBD.out); clear b4) | (go_at_call 6; refine (reply_yes (reqM q) x.m HS4.out.st k (by rw [List.length_map]; exact HK.out) HQ.out HF.out (by rw [HR.out]) (Bts.carry HPX.out.1 HS4.out.bel) (OffG.of HPX.out.1 HS4.out.gl) HPX.out.2).mono ?_; rintro e w5 ⟨rfl, E5⟩; have HS5 : Hid (Sc w w5 g (.slice (some ⟨hh, 0, none⟩) kn vc) ((K.set k ⟨q, true, x.m⟩).map toRq) K) := (by have s5 := HS4.out.deed E5; rw [map_reply, HY.out] at s5; exact s5); have HB5 : Hid (w5.heap[wr.heap.size]? = some (actO x)) := HS4.out.varD E5 (by decide) HB4.out; clear E5))
                all_goals
                  obtain ⟨p0, p1, p2, p3, p4, p5, p6, p7, p8, p9, p10, p11, p12⟩ := act_all HB5.out
                  have hex := HS5.out.own.all k HK.out _ HY.out
                  dsimp only at hex
                  obtain ⟨t0, t1, t2, t3, t4, t5, t6, t7, t8, t9, t10, t11, t12⟩ := hex
                  have fz1 := HS5.out.own.z (by rw [HKN.out]; omega) (k * 13 + 1)
                  have fz2 := HS5.out.own.z (by rw [HKN.out]; omega) (k * 13 + 2)
                  have fz3 := HS5.out.own.z (by rw [HKN.out]; omega) (k * 13 + 3)
                  have fz4 := HS5.out.own.z (by rw [HKN.out]; omega) (k * 13 + 4)
                  have fz5 := HS5.out.own.z (by rw [HKN.out]; omega) (k * 13 + 5)
                  have fz6 := HS5.out.own.z (by rw [HKN.out]; omega) (k * 13 + 6)
                  have fz7 := HS5.out.own.z (by rw [HKN.out]; omega) (k * 13 + 7)
                  have fz8 := HS5.out.own.z (by rw [HKN.out]; omega) (k * 13 + 8)
                  have fz9 := HS5.out.own.z (by rw [HKN.out]; omega) (k * 13 + 9)
                  have fz10 := HS5.out.own.z (by rw [HKN.out]; omega) (k * 13 + 10)
                  have fz11 := HS5.out.own.z (by rw [HKN.out]; omega) (k * 13 + 11)
                  have fz12 := HS5.out.own.z (by rw [HKN.out]; omega) (k * 13 + 12)
                  have hdone := OwnE.done k HK.out HY.out HS5.out.own x.m
                  obtain ⟨D, hD⟩ : ∃ D, layE w5 hh k x.m = D := ⟨_, rfl⟩
                  have fD : Foot (fun j => j = hh) w5 D := hD ▸ foot_layE w5 hh k x.m
                  rw [hD] at hdone
                  have HSE := hide (HS5.out.row fD hdone)
                  have HIE : Hid (Inv w (K.set k ⟨q, true, x.m⟩)) := by
                    have := HINV.out.set HK.out x.m HPX.out.1
                    rw [HY.out] at this
                    exact this
                  simp only [layE] at hD
                  clear hdone fD m0 m1 m2 m3 m4 m5 m6 m7 m8 m9 m10 m11 m12 e1
                  go_upto_region 21 with fail
                  go_cut [] from 67 to 76 (fun wx => wx = D.drew)
                  case first =>
                    go_region_with (fail)
                    all_goals (go_wp2_with fail; go_meet; rfl)
                  case rest =>
                    subst hcut
                    have HSG := hide (HSE.out.grow (below_d D 1))
                    clear p0 p1 p2 p3 p4 p5 p6 p7 p8 p9 p10 p11 p12 t0 t1 t2 t3 t4 t5 t6 t7 t8 t9 t10 t11 t12 fz1 fz2 fz3 fz4 fz5 fz6 fz7 fz8 fz9 fz10 fz11 fz12 hD
                    go_wp2
                    go_roundg g1
                    case measure => have := HI.out; omega
                    case rel => exact ⟨i + 1, _, by have := HI.out; omega, by go_num, HSG.out, HIE.out⟩
          · rcases HAT.out with ⟨rfl, hno2⟩ | ⟨k, hk, rfl, hkw⟩
            · have HNO : Hid (∀ j, j < kn → (en K j).w ≠ q) := hno2
              have HNR : Hid (∀ j, j < (K.map toRq).length → isR (reqM q).rp (reqM q).id (rq (K.map toRq) j) = false) := fun j hj => by
                rw [List.length_map, HKN.out] at hj
                rw [rq_of]
                exact isR_no (HNO.out j hj)
              clear hno2 HAT
              by_cases h32 : kn = 32
              · obtain ⟨a0, ha0⟩ := atB_ex K
                rcases ha0 with ⟨_, hno3⟩ | ⟨i0, _, _, hi0, hdi0, hno3⟩
                · have HND : Hid (∀ j, j < K.length → (en K j).d = false) := fun j hj => hno3 j (Nat.zero_le _) hj
                  clear hno3
                  go_wp2_with fail
                  refine (request_any q _ hq48).mono ?_; rintro e w4 ⟨rfl, b4⟩
                  have HS4 := hide (HSY.out.grow b4)
                  clear b4 m0 m1 m2 m3 m4 m5 m6 m7 m8 m9 m10 m11 m12
                  go_wp2_with fail
                  refine (take_full (reqM q) HS4.out.st (by rw [List.length_map, HKN.out]; exact h32) HNR.out (fun j hj => by rw [List.length_map] at hj; rw [rq_of]; exact HND.out j hj)).mono ?_; rintro e w5 ⟨rfl, b5⟩
                  rw [erN_not (by decide)]
                  have HSV : Hid (Sc w (w5.alloc (.cells #[.int .u64 0, .int .u64 0, .int .u32 0, .int .u16 0, .int .u16 0, .int .u64 0, .int .u32 0, .int .u8 0, .int .u64 0, .int .u64 0, .slice none 0 0] 32)) g (.slice va kn vc) (K.map toRq) K) := (HS4.out.grow b5).grow (below_alloc w5 _)
                  clear b5
                  go_wp2_with fail
                  refine (same_yes Ms.zero Ms.zero _ (has_zero _) (has_zero _) rfl).mono ?_; rintro e w6 ⟨rfl, b6⟩
                  have HS6 := hide (HSV.out.grow b6)
                  clear b6
                  subst h32
                  go_wp2
                  go_loopg [15, 16] 32 (fun gk va vk wq => BkRel w6 K gk va vk wq)
                  case atStart => exact ⟨-1, 31, by omega, rfl, rfl, by rw [HKN.out]; exact Nat.le_refl _, (by have := atB_nil K; rw [HKN.out] at this; exact this), rfl⟩
                  case round =>
                    rename World => wz
                    obtain ⟨a, k, hk, rfl, rfl, hle, hat, hwz⟩ := hrel
                    subst hwz
                    have HAT2 := hide hat
                    rw [HKN.out] at hle
                    clear hat
                    cases gk with
                    | succ g2 =>
                      obtain rfl : k = (g2 : Int) := by omega
                      have hg2 : g2 < 32 := by omega
                      have hge : (0 : Int) ≤ (g2 : Int) := by omega
                      have hlt3 : (g2 : Int) < 32 := by omega
                      obtain ⟨hh, ac, hvv, hac1, hac2⟩ := HS6.out.own.elem (by rw [HKN.out]; omega)
                      obtain ⟨rfl, _⟩ : va = some ⟨hh, 0, none⟩ ∧ True := by injection hvv with h1; exact ⟨h1, trivial⟩
                      obtain ⟨y, hy⟩ : ∃ y, en K g2 = y := ⟨_, rfl⟩
                      have c1 := (HS6.out.own.all g2 (by rw [HKN.out]; exact hg2) y hy).2.1
                      obtain ⟨b, hb⟩ : ∃ b, y.d = b := ⟨_, rfl⟩
                      have HQB : Hid ((en K g2).d = b) := by show _ = _; rw [hy]; exact hb
                      rw [hb] at c1
                      clear hvv hac1 hac2 hy hb hk hle
                      cases b with
                      | true =>
                       as_aux_lemma =>
                        go_wp2
                        go_roundg g2
                        case measure => omega
                        case rel => exact ⟨(g2 : Int), (g2 : Int) - 1, by omega, by go_num, by go_num, by rw [HKN.out]; omega, atB_yes (by rw [HKN.out]; exact hg2) HQB.out, rfl⟩
                      | false =>
                       as_aux_lemma =>
                        go_wp2
                        go_roundg g2
                        case measure => omega
                        case rel => exact ⟨a, (g2 : Int) - 1, by omega, by go_num, by go_num, by rw [HKN.out]; omega, atB_no HAT2.out HQB.out, rfl⟩
                    | zero =>
                      obtain rfl : k = -1 := by omega
                      clear hk hle
                      obtain rfl := atB_none HAT2.out HND.out
                      go_wp2_with fail
                      refine (number_errno 5 _ (HG.out.grow HS6.out.bel HG.out.lt)).mono ?_; rintro e w7 ⟨rfl, b7⟩
                      have HS7 := hide (HS6.out.grow b7)
                      clear b7
                      go_wp2
                      go_roundg g1
                      case measure => have := HI.out; omega
                      case rel => exact ⟨i + 1, K, by have := HI.out; omega, by go_num, HS7.out, HINV.out⟩
                · have HI0 : Hid (i0 < K.length ∧ (en K i0).d = true ∧ ∀ j, j < i0 → (en K j).d = false) := ⟨hi0, hdi0, fun j hj => hno3 j (Nat.zero_le _) hj⟩
                  have hki : i0 < kn := by rw [← HKN.out]; exact hi0
                  clear hi0 hdi0 hno3
                  go_wp2_with fail
                  refine (request_any q _ hq48).mono ?_; rintro e w4 ⟨rfl, b4⟩
                  have HS4 := hide (HSY.out.grow b4)
                  clear b4 m0 m1 m2 m3 m4 m5 m6 m7 m8 m9 m10 m11 m12
                  go_wp2_with fail
                  refine (take_old (reqM q) HS4.out.st (by rw [List.length_map, HKN.out]; exact h32) HNR.out i0 (by rw [List.length_map]; exact HI0.out.1) (by rw [rq_of]; exact HI0.out.2.1) (fun j hj => by rw [rq_of]; exact HI0.out.2.2 j hj)).mono ?_; rintro e w5 ⟨rfl, E5⟩
                  rw [map_erase] at E5
                  have HSV : Hid (Sc w (w5.alloc (.cells #[.int .u64 0, .int .u64 0, .int .u32 0, .int .u16 0, .int .u16 0, .int .u64 0, .int .u32 0, .int .u8 0, .int .u64 0, .int .u64 0, .slice none 0 0] 32)) g (.slice va kn vc) ((K.eraseIdx i0).map toRq ++ [⟨(reqM q).rp, (reqM q).id, false, Ms.zero⟩]) K) := (HS4.out.deed E5).grow (below_alloc w5 _)
                  clear E5
                  go_wp2_with fail
                  refine (same_yes Ms.zero Ms.zero _ (has_zero _) (has_zero _) rfl).mono ?_; rintro e w6 ⟨rfl, b6⟩
                  have HS6 := hide (HSV.out.grow b6)
                  clear b6
                  subst h32
                  go_wp2
                  go_loopg [15, 16] 32 (fun gk va vk wq => BkRel w6 K gk va vk wq)
                  case atStart => exact ⟨-1, 31, by omega, rfl, rfl, by rw [HKN.out]; exact Nat.le_refl _, (by have := atB_nil K; rw [HKN.out] at this; exact this), rfl⟩
                  case round =>
                    rename World => wz
                    obtain ⟨a, k, hk, rfl, rfl, hle, hat, hwz⟩ := hrel
                    subst hwz
                    have HAT2 := hide hat
                    rw [HKN.out] at hle
                    clear hat
                    cases gk with
                    | succ g2 =>
                      obtain rfl : k = (g2 : Int) := by omega
                      have hg2 : g2 < 32 := by omega
                      have hge : (0 : Int) ≤ (g2 : Int) := by omega
                      have hlt3 : (g2 : Int) < 32 := by omega
                      obtain ⟨hh, ac, hvv, hac1, hac2⟩ := HS6.out.own.elem (by rw [HKN.out]; omega)
                      obtain ⟨rfl, _⟩ : va = some ⟨hh, 0, none⟩ ∧ True := by injection hvv with h1; exact ⟨h1, trivial⟩
                      obtain ⟨y, hy⟩ : ∃ y, en K g2 = y := ⟨_, rfl⟩
                      have c1 := (HS6.out.own.all g2 (by rw [HKN.out]; exact hg2) y hy).2.1
                      obtain ⟨b, hb⟩ : ∃ b, y.d = b := ⟨_, rfl⟩
                      have HQB : Hid ((en K g2).d = b) := by show _ = _; rw [hy]; exact hb
                      rw [hb] at c1
                      clear hvv hac1 hac2 hy hb hk hle
                      cases b with
                      | true =>
                       as_aux_lemma =>
                        go_wp2
                        go_roundg g2
                        case measure => omega
                        case rel => exact ⟨(g2 : Int), (g2 : Int) - 1, by omega, by go_num, by go_num, by rw [HKN.out]; omega, atB_yes (by rw [HKN.out]; exact hg2) HQB.out, rfl⟩
                      | false =>
                       as_aux_lemma =>
                        go_wp2
                        go_roundg g2
                        case measure => omega
                        case rel => exact ⟨a, (g2 : Int) - 1, by omega, by go_num, by go_num, by rw [HKN.out]; omega, atB_no HAT2.out HQB.out, rfl⟩
                    | zero =>
                      obtain rfl : k = -1 := by omega
                      clear hk hle
                      obtain rfl := atB_some HAT2.out HI0.out.1 HI0.out.2.1 HI0.out.2.2
                      have hge : ¬ ((i0 : Int) < 0) := by omega
                      have hlt4 : (i0 : Int) < 32 := by omega
                      obtain ⟨hh, ac, hvv, hac1, hac2⟩ := HS6.out.own.elem (by rw [HKN.out]; omega)
                      obtain ⟨rfl, _⟩ : va = some ⟨hh, 0, none⟩ ∧ True := by injection hvv with h1; exact ⟨h1, trivial⟩
                      obtain ⟨ae, hae⟩ : ∃ ae : Addr, (⟨hh, 0, none⟩ : Addr) = ae := ⟨_, rfl⟩
                      rw [hae] at HS6
                      rw [hae]
                      clear hvv hac1 hac2 HAT2
                      go_wp2_with fail
                      have HRV := hide (HS6.out.grow (below_d w6 1))
                      obtain ⟨v1, w9a, bo, c9, w9, r1, r2, s9⟩ := HRV.out.cut (k := i0) hki HKN.out (by omega)
                      have hww : IntKind.i64.wrap ((i0 : Int) + 1) = (i0 : Int) + 1 := by rw [IntKind.wrap_i64]; omega
                      have hc1 := fun W : World => cutG_head Tryd.underlying38 Tryd.sizeOfE W (some ae) 32 vc i0 (by omega)
                      have hc2 := fun W : World => cutG_tail Tryd.underlying38 Tryd.sizeOfE W (some ae) 32 vc (i0 + 1) (by omega)
                      obtain ⟨ua, hta⟩ : ∃ X, tailG 13 (some ae) (i0 + 1) vc = X := ⟨_, rfl⟩
                      obtain ⟨un, htn⟩ : ∃ X, 32 - (i0 + 1) = X := ⟨_, rfl⟩
                      obtain ⟨uc, htc'⟩ : ∃ X, vc - (i0 + 1) = X := ⟨_, rfl⟩
                      rw [hta, htn, htc'] at hc2 r2
                      have hc2' : ∀ W : World, (Instr.slice 38 (.slice (some ae) 32 vc) (some (.int .i64 ((i0 : Int) + 1))) none none).run Tryd.prog W = .ok (.slice ua un uc) W := fun W => by rw [← hc2 W]; rfl
                      obtain ⟨d9, hd9⟩ : ∃ d, 32 - 1 = d := ⟨_, rfl⟩
                      rw [hd9] at r2 s9
                      have HRN1 := hide r1
                      have HRN2 := hide r2
                      have HSC9 := hide s9
                      have HD9 := hide hd9
                      clear r1 r2 s9 hc2 hta htn htc' hd9 HRV
                      refine region_till (fun _ => True) 9 (by kernel_rfl) ?_
                      refine till_take [0, 9] (i := 0) (oi := { dst := some 138, op := Op.move (Operand.tmp 4), type := 38, pos := "law.go:92", after := #[], guard := none }) (v := (.slice (some ae) 32 vc)) rfl (by kernel_rfl) (by kernel_rfl) (by kernel_rfl) (by kernel_rfl) (fun _ _ _ h => h) (Or.inl ⟨by kernel_rfl, fun w hC => by go_simp⟩) trivial ?_
                      simp only [Act.put, List.setIfInBounds_toArray, List.set_cons_zero, List.set_cons_succ]
                      refine till_take [1, 9] (i := 1) (oi := { dst := some 139, op := Op.move (Operand.tmp 15), type := 3, pos := "law.go:92", after := #[], guard := none }) (v := (.int .i64 (i0 : Int))) rfl (by kernel_rfl) (by kernel_rfl) (by kernel_rfl) (by kernel_rfl) (fun _ _ _ h => h) (Or.inl ⟨by kernel_rfl, fun w hC => by go_simp⟩) trivial ?_
                      simp only [Act.put, List.setIfInBounds_toArray, List.set_cons_zero, List.set_cons_succ]
                      refine till_take [2, 9] (i := 2) (oi := { dst := some 140, op := Op.slice 38 (Operand.tmp 138) none (some (Operand.tmp 139)) none, type := 38, pos := "law.go:92", after := #[{ on := 0, ground := Ground.data }, { on := 1, ground := Ground.data }], guard := none }) (v := (.slice (some ae) i0 vc)) rfl (by kernel_rfl) (by kernel_rfl) (by kernel_rfl) (by kernel_rfl) (fun _ _ _ h => h) (Or.inl ⟨by kernel_rfl, fun w hC => by go_simp⟩) trivial ?_
                      simp only [Act.put, List.setIfInBounds_toArray, List.set_cons_zero, List.set_cons_succ]
                      refine till_take [4, 9] (i := 4) (oi := { dst := some 142, op := Op.move (Operand.tmp 4), type := 38, pos := "law.go:92", after := #[], guard := none }) (v := (.slice (some ae) 32 vc)) rfl (by kernel_rfl) (by kernel_rfl) (by kernel_rfl) (by kernel_rfl) (fun _ _ _ h => h) (Or.inl ⟨by kernel_rfl, fun w hC => by go_simp⟩) trivial ?_
                      simp only [Act.put, List.setIfInBounds_toArray, List.set_cons_zero, List.set_cons_succ]
                      refine till_take [5, 9] (i := 5) (oi := { dst := some 143, op := Op.move (Operand.tmp 15), type := 3, pos := "law.go:92", after := #[], guard := none }) (v := (.int .i64 (i0 : Int))) rfl (by kernel_rfl) (by kernel_rfl) (by kernel_rfl) (by kernel_rfl) (fun _ _ _ h => h) (Or.inl ⟨by kernel_rfl, fun w hC => by go_simp⟩) trivial ?_
                      simp only [Act.put, List.setIfInBounds_toArray, List.set_cons_zero, List.set_cons_succ]
                      refine till_take [6, 9] (i := 6) (oi := { dst := some 144, op := Op.binOp BinOp.add 3 (Operand.tmp 143) (Operand.const (Value.int IntKind.i64 1)) 3, type := 3, pos := "law.go:92", after := #[{ on := 5, ground := Ground.data }], guard := none }) (v := (.int .i64 ((i0 : Int) + 1))) rfl (by kernel_rfl) (by kernel_rfl) (by kernel_rfl) (by kernel_rfl) (fun _ _ _ h => h) (Or.inl ⟨by kernel_rfl, fun w hC => by go_simp⟩) trivial ?_
                      simp only [Act.put, List.setIfInBounds_toArray, List.set_cons_zero, List.set_cons_succ]
                      refine till_take [7, 9] (i := 7) (oi := { dst := some 145, op := Op.slice 38 (Operand.tmp 142) (some (Operand.tmp 144)) none none, type := 38, pos := "law.go:92", after := #[{ on := 4, ground := Ground.data }, { on := 6, ground := Ground.data }], guard := none }) (v := (.slice ua un uc)) rfl (by kernel_rfl) (by kernel_rfl) (by kernel_rfl) (by kernel_rfl) (fun _ _ _ h => h) (Or.inl ⟨by kernel_rfl, fun w hC => by go_simp⟩) trivial ?_
                      simp only [Act.put, List.setIfInBounds_toArray, List.set_cons_zero, List.set_cons_succ]
                      refine till_ready (rs := [3]) (by kernel_rfl) (by simp) ?_
                      refine AllTill.cons (o := { dst := some 141, op := Op.call { callee := Callee.builtin Builtin.append, args := #[Operand.const (Value.slice none 0 0), Operand.tmp 140], argTypes := #[38, 38] }, type := 38, pos := "law.go:92", after := #[{ on := 2, ground := Ground.data }], guard := none }) rfl (fun KX hK => ?_) AllTill.nil
                      refine step_run rfl _ _ _ rfl (.slice none 0 0) (.slice (some ae) i0 vc) v1 w9a rfl rfl HRN1.out ?_
                      refine hK.out _ _ (fun _ => trivial) ?_
                      simp only [Act.put, List.setIfInBounds_toArray, List.set_cons_zero, List.set_cons_succ]
                      refine till_ready (rs := [8]) (by kernel_rfl) (by simp) ?_
                      refine AllTill.cons (o := { dst := some 146, op := Op.call { callee := Callee.builtin Builtin.append, args := #[Operand.tmp 141, Operand.tmp 145], argTypes := #[38, 38] }, type := 38, pos := "law.go:92", after := #[{ on := 3, ground := Ground.data }, { on := 7, ground := Ground.data }, { on := 3, ground := Ground.chain }], guard := none }) rfl (fun KX hK => ?_) AllTill.nil
                      refine step_run rfl _ _ _ rfl v1 (.slice ua un uc) (.slice bo d9 c9) w9 rfl rfl HRN2.out ?_
                      refine hK.out _ _ (fun _ => trivial) ?_
                      simp only [Act.put, List.setIfInBounds_toArray, List.set_cons_zero, List.set_cons_succ]
                      refine till_ready (rs := [9]) (by kernel_rfl) (by simp) ?_
                      refine AllTill.cons (o := { dst := some 4, op := Op.assign (Operand.tmp 146), type := 38, pos := "law.go:92", after := #[{ on := 8, ground := Ground.data }, { on := 8, ground := Ground.chain }, { on := 0, ground := Ground.phase }, { on := 1, ground := Ground.phase }, { on := 2, ground := Ground.phase }, { on := 3, ground := Ground.phase }, { on := 4, ground := Ground.phase }, { on := 5, ground := Ground.phase }, { on := 6, ground := Ground.phase }, { on := 7, ground := Ground.phase }, { on := 8, ground := Ground.phase }], guard := none }) rfl (fun KX hK => ?_) AllTill.nil
                      go_simp
                      refine hK.out _ _ (fun _ => trivial) ?_
                      refine till_done (by kernel_rfl) ?_ _
                      obtain rfl : d9 = 31 := by have := HD9.out; omega
                      have HLE : Hid ((K.eraseIdx i0).length = 31) := by show _ = _; rw [List.length_eraseIdx, if_pos HI0.out.1, HKN.out]
                      have HLL : Hid (((((K.eraseIdx i0).map toRq ++ [(⟨(reqM q).rp, (reqM q).id, false, Ms.zero⟩ : Rq)]).length : Nat) : Int) = ((32 : Nat) : Int)) := by
                        show _ = _
                        rw [List.length_append, List.length_map, HLE.out]; rfl
                      obtain ⟨ba, bc, w8, r8, s8⟩ := HSC9.out.app ⟨q, false, Ms.zero⟩ (by rw [HLE.out]; omega)
                      rw [HLE.out] at r8 s8
                      dsimp only [Ms.zero] at r8
                      have HS8 := hide s8
                      have HR8 := hide r8
                      clear s8 r8
                      go_upto_region 42 with fail
                      go_wp2_with (first | (at_builtin; refine wpList_append_run rfl _ _ _ rfl _ _ _ _ rfl rfl HR8.out ?_) | fail)
                      refine (len_any HS8.out.st).mono ?_; rintro e w9 ⟨rfl, b9⟩
                      rw [HLL.out]
                      have HS9 := hide (HS8.out.grow b9)
                      clear b9
                      go_wp2
                      go_roundg g1
                      case measure => have := HI.out; omega
                      case rel => exact ⟨i + 1, (K.eraseIdx i0) ++ [⟨q, false, Ms.zero⟩], by have := HI.out; omega, by go_num, (by have := HS9.out; rw [map_snoc] at this; exact this), (HINV.out.erase i0).snoc q (none_erase (fun j hj => HNO.out j (by rw [← HKN.out]; exact hj)))⟩
              · have hn32 : ¬ ((kn : Int) = 32) := by omega
                go_wp2_with fail
                refine (request_any q _ hq48).mono ?_; rintro e w4 ⟨rfl, b4⟩
                have HS4 := hide (HSY.out.grow b4)
                clear b4 m0 m1 m2 m3 m4 m5 m6 m7 m8 m9 m10 m11 m12
                go_wp2_with fail
                refine (take_new (reqM q) HS4.out.st (by rw [List.length_map, HKN.out]; omega) HNR.out).mono ?_; rintro e w5 ⟨rfl, E5⟩
                have HSV : Hid (Sc w (w5.alloc (.cells #[.int .u64 0, .int .u64 0, .int .u32 0, .int .u16 0, .int .u16 0, .int .u64 0, .int .u32 0, .int .u8 0, .int .u64 0, .int .u64 0, .slice none 0 0] 32)) g (.slice va kn vc) (K.map toRq ++ [⟨(reqM q).rp, (reqM q).id, false, Ms.zero⟩]) K) := (HS4.out.deed E5).grow (below_alloc w5 _)
                clear E5
                go_wp2_with fail
                refine (same_yes Ms.zero Ms.zero _ (has_zero _) (has_zero _) rfl).mono ?_; rintro e w6 ⟨rfl, b6⟩
                have HS6 := hide (HSV.out.grow b6)
                clear b6
                have HLL : Hid ((((K.map toRq ++ [(⟨(reqM q).rp, (reqM q).id, false, Ms.zero⟩ : Rq)]).length : Nat) : Int) = (((kn + 1 : Nat)) : Int)) := by
                  show _ = _
                  rw [List.length_append, List.length_map, HKN.out]; rfl
                obtain ⟨ba, bc, w8, r8, s8⟩ := HS6.out.app ⟨q, false, Ms.zero⟩ (by rw [HKN.out]; omega)
                rw [HKN.out] at r8 s8
                dsimp only [Ms.zero] at r8
                have HS8 := hide s8
                have HR8 := hide r8
                clear s8 r8
                go_upto_region 42 with fail
                go_wp2_with (first | (at_builtin; refine wpList_append_run rfl _ _ _ rfl _ _ _ _ rfl rfl HR8.out ?_) | fail)
                refine (len_any HS8.out.st).mono ?_; rintro e w9 ⟨rfl, b9⟩
                rw [HLL.out]
                have HS9 := hide (HS8.out.grow b9)
                clear b9
                go_wp2
                go_roundg g1
                case measure => have := HI.out; omega
                case rel => exact ⟨i + 1, K ++ [⟨q, false, Ms.zero⟩], by have := HI.out; omega, by go_num, (by have := HS9.out; rw [map_snoc] at this; exact this), HINV.out.snoc q (fun j hj => HNO.out j (by rw [← HKN.out]; exact hj))⟩
            · obtain ⟨⟨q', dd, ym⟩, hy⟩ : ∃ y, en K k = y := ⟨_, rfl⟩
              rw [hy] at hkw
              obtain rfl : q = q' := hkw.symm
              have HK : Hid (k < K.length) := by show _ < _; rw [HKN.out]; exact hk
              have HY := hide hy
              have HF : Hid (∀ j, j < k → isR (reqM q).rp (reqM q).id (rq (K.map toRq) j) = false) := fun j hj => by
                rw [rq_of]
                refine isR_no (fun e => ?_)
                have := HINV.out.ne hj HK.out
                rw [HY.out] at this
                exact this e
              have HQ : Hid (isR (reqM q).rp (reqM q).id (rq (K.map toRq) k) = true) := by
                show _ = _
                rw [rq_of, HY.out]; exact isR_yes rfl
              have HR : Hid (rq (K.map toRq) k = ⟨((q % 2 : Nat) : Int), ((q / 2 : Nat) : Int), dd, ym.nm⟩) := by
                show _ = _
                rw [rq_of, HY.out]; rfl
              obtain ⟨hh, ac, hvv, hac1, hac2⟩ := HSY.out.own.elem (by rw [HKN.out]; omega)
              obtain ⟨rfl, _⟩ : va = some ⟨hh, 0, none⟩ ∧ True := by injection hvv with h1; exact ⟨h1, trivial⟩
              have hge : (0 : Int) ≤ (k : Int) := by omega
              have hlk : (k : Int) < (kn : Int) := by omega
              clear hvv hac1 hac2 hy HAT
              cases dd with
              | true =>
                have e1 := HSY.out.own.all k HK.out _ HY.out |>.2.1
                dsimp only at e1
                go_wp2_with fail
                refine (request_any q _ hq48).mono ?_; rintro e w4 ⟨rfl, b4⟩
                have HS4 := hide (HSY.out.grow b4)
                clear b4 e1 m0 m1 m2 m3 m4 m5 m6 m7 m8 m9 m10 m11 m12
                go_wp2_with fail
                refine (take_known (reqM q) HS4.out.st k (by rw [List.length_map]; exact HK.out) HQ.out HF.out (fun h => by rw [HR.out] at h ⊢; cases h) 2 (by rw [HR.out]; rfl)).mono ?_; rintro e w5 ⟨z5, rfl, hp5, hs5, hh5, ho5, hw5, b5⟩
                rw [HR.out] at hp5
                have hn5 : z5.nm = ym.nm := hp5
                obtain ⟨V, hV⟩ : ∃ V, w5.alloc (.cells #[.int .u64 z5.ta, .int .u64 z5.rp, .int .u32 z5.id, .int .u16 z5.op, .int .u16 z5.st, .int .u64 z5.p, .int .u32 z5.o, .int .u8 z5.r, .int .u64 z5.c, .int .u64 z5.ar, .slice z5.so z5.sn z5.sc] 32) = V := ⟨_, rfl⟩
                have bV : Below w5.heap.size w5 V := hV ▸ below_alloc w5 _
                have bp : BoxM V w5.heap.size z5 := hV ▸ boxM_new w5 z5
                have HSV := hide ((HS4.out.grow b5).grow bV)
                have HP5 : Hid (z5.nm = ym.nm ∧ z5.has V) := ⟨hn5, Bts.carry hh5 bV⟩
                have HYM : Hid (ym.has w) := by
                  have := HINV.out.has _ (en_mem K k HK.out)
                  rw [HY.out] at this
                  exact this
                have hex := HSV.out.own.all k HK.out _ HY.out
                dsimp only at hex
                obtain ⟨t0, t1, t2, t3, t4, t5, t6, t7, t8, t9, t10, t11, t12⟩ := hex
                obtain ⟨p0, p1, p2, p3, p4, p5, p6, p7, p8, p9, p10⟩ := bp.all
                have HBPV := hide bp
                clear hp5 hs5 hh5 ho5 hw5 b5 hn5 bV bp
                have HSVD : Hid (Sc w V.drew g (.slice (some ⟨hh, 0, none⟩) kn vc) (K.map toRq) K) := HSV.out.grow (below_d V 1)
                have bpd : BoxM V.drew w5.heap.size z5 := HBPV.out
                have hexd := HSVD.out.own.all k HK.out _ HY.out
                dsimp only at hexd
                have HSS : Hid ((V.drew.cell? ⟨w5.heap.size, 0, none⟩ = some (.int .u64 z5.ta) ∧ V.drew.cell? ⟨w5.heap.size, 1, none⟩ = some (.int .u64 z5.rp) ∧ V.drew.cell? ⟨w5.heap.size, 2, none⟩ = some (.int .u32 z5.id) ∧ V.drew.cell? ⟨w5.heap.size, 3, none⟩ = some (.int .u16 z5.op) ∧ V.drew.cell? ⟨w5.heap.size, 4, none⟩ = some (.int .u16 z5.st) ∧ V.drew.cell? ⟨w5.heap.size, 5, none⟩ = some (.int .u64 z5.p) ∧ V.drew.cell? ⟨w5.heap.size, 6, none⟩ = some (.int .u32 z5.o) ∧ V.drew.cell? ⟨w5.heap.size, 7, none⟩ = some (.int .u8 z5.r) ∧ V.drew.cell? ⟨w5.heap.size, 8, none⟩ = some (.int .u64 z5.c) ∧ V.drew.cell? ⟨w5.heap.size, 9, none⟩ = some (.int .u64 z5.ar) ∧ V.drew.cell? ⟨w5.heap.size, 10, none⟩ = some (.slice z5.so z5.sn z5.sc)) ∧ (V.drew.cell? ⟨hh, k * 13 + 2, none⟩ = some (.int .u64 ym.ta) ∧ V.drew.cell? ⟨hh, k * 13 + 3, none⟩ = some (.int .u64 ym.rp) ∧ V.drew.cell? ⟨hh, k * 13 + 4, none⟩ = some (.int .u32 ym.id) ∧ V.drew.cell? ⟨hh, k * 13 + 5, none⟩ = some (.int .u16 ym.op) ∧ V.drew.cell? ⟨hh, k * 13 + 6, none⟩ = some (.int .u16 ym.st) ∧ V.drew.cell? ⟨hh, k * 13 + 7, none⟩ = some (.int .u64 ym.p) ∧ V.drew.cell? ⟨hh, k * 13 + 8, none⟩ = some (.int .u32 ym.o) ∧ V.drew.cell? ⟨hh, k * 13 + 9, none⟩ = some (.int .u8 ym.r) ∧ V.drew.cell? ⟨hh, k * 13 + 10, none⟩ = some (.int .u64 ym.c) ∧ V.drew.cell? ⟨hh, k * 13 + 11, none⟩ = some (.int .u64 ym.ar) ∧ V.drew.cell? ⟨hh, k * 13 + 12, none⟩ = some (.slice ym.so ym.sn ym.sc))) := ⟨bpd.all, hexd.2.2⟩
                have HPD : Hid (z5.has V.drew) := Bts.carry HP5.out.2 (below_d V 1)
                have HBPD := hide bpd
                clear bpd hexd
                go_upto_region 27 with fail
                clear t0 t1 t2 t3 t4 t5 t6 t7 t8 t9 t10 t11 t12 p0 p1 p2 p3 p4 p5 p6 p7 p8 p9 p10 hV
                go_region_held (fun w' => (w'.cell? ⟨w5.heap.size, 0, none⟩ = some (.int .u64 z5.ta) ∧ w'.cell? ⟨w5.heap.size, 1, none⟩ = some (.int .u64 z5.rp) ∧ w'.cell? ⟨w5.heap.size, 2, none⟩ = some (.int .u32 z5.id) ∧ w'.cell? ⟨w5.heap.size, 3, none⟩ = some (.int .u16 z5.op) ∧ w'.cell? ⟨w5.heap.size, 4, none⟩ = some (.int .u16 z5.st) ∧ w'.cell? ⟨w5.heap.size, 5, none⟩ = some (.int .u64 z5.p) ∧ w'.cell? ⟨w5.heap.size, 6, none⟩ = some (.int .u32 z5.o) ∧ w'.cell? ⟨w5.heap.size, 7, none⟩ = some (.int .u8 z5.r) ∧ w'.cell? ⟨w5.heap.size, 8, none⟩ = some (.int .u64 z5.c) ∧ w'.cell? ⟨w5.heap.size, 9, none⟩ = some (.int .u64 z5.ar) ∧ w'.cell? ⟨w5.heap.size, 10, none⟩ = some (.slice z5.so z5.sn z5.sc)) ∧ (w'.cell? ⟨hh, k * 13 + 2, none⟩ = some (.int .u64 ym.ta) ∧ w'.cell? ⟨hh, k * 13 + 3, none⟩ = some (.int .u64 ym.rp) ∧ w'.cell? ⟨hh, k * 13 + 4, none⟩ = some (.int .u32 ym.id) ∧ w'.cell? ⟨hh, k * 13 + 5, none⟩ = some (.int .u16 ym.op) ∧ w'.cell? ⟨hh, k * 13 + 6, none⟩ = some (.int .u16 ym.st) ∧ w'.cell? ⟨hh, k * 13 + 7, none⟩ = some (.int .u64 ym.p) ∧ w'.cell? ⟨hh, k * 13 + 8, none⟩ = some (.int .u32 ym.o) ∧ w'.cell? ⟨hh, k * 13 + 9, none⟩ = some (.int .u8 ym.r) ∧ w'.cell? ⟨hh, k * 13 + 10, none⟩ = some (.int .u64 ym.c) ∧ w'.cell? ⟨hh, k * 13 + 11, none⟩ = some (.int .u64 ym.ar) ∧ w'.cell? ⟨hh, k * 13 + 12, none⟩ = some (.slice ym.so ym.sn ym.sc))) (first | exact HS7.out | exact HSS.out) (first | (go_at_call 9; refine (same_yes z5 ym _ HPD.out (Bts.carry HYM.out HSVD.out.bel) HP5.out.1).mono ?_; rintro e w6 ⟨rfl, b6⟩; have HS6 := hide (HSVD.out.grow b6); have hex6 := HS6.out.own.all k HK.out _ HY.out; dsimp only at hex6; have HS7 : Hid ((w6.cell? ⟨w5.heap.size, 0, none⟩ = some (.int .u64 z5.ta) ∧ w6.cell? ⟨w5.heap.size, 1, none⟩ = some (.int .u64 z5.rp) ∧ w6.cell? ⟨w5.heap.size, 2, none⟩ = some (.int .u32 z5.id) ∧ w6.cell? ⟨w5.heap.size, 3, none⟩ = some (.int .u16 z5.op) ∧ w6.cell? ⟨w5.heap.size, 4, none⟩ = some (.int .u16 z5.st) ∧ w6.cell? ⟨w5.heap.size, 5, none⟩ = some (.int .u64 z5.p) ∧ w6.cell? ⟨w5.heap.size, 6, none⟩ = some (.int .u32 z5.o) ∧ w6.cell? ⟨w5.heap.size, 7, none⟩ = some (.int .u8 z5.r) ∧ w6.cell? ⟨w5.heap.size, 8, none⟩ = some (.int .u64 z5.c) ∧ w6.cell? ⟨w5.heap.size, 9, none⟩ = some (.int .u64 z5.ar) ∧ w6.cell? ⟨w5.heap.size, 10, none⟩ = some (.slice z5.so z5.sn z5.sc)) ∧ (w6.cell? ⟨hh, k * 13 + 2, none⟩ = some (.int .u64 ym.ta) ∧ w6.cell? ⟨hh, k * 13 + 3, none⟩ = some (.int .u64 ym.rp) ∧ w6.cell? ⟨hh, k * 13 + 4, none⟩ = some (.int .u32 ym.id) ∧ w6.cell? ⟨hh, k * 13 + 5, none⟩ = some (.int .u16 ym.op) ∧ w6.cell? ⟨hh, k * 13 + 6, none⟩ = some (.int .u16 ym.st) ∧ w6.cell? ⟨hh, k * 13 + 7, none⟩ = some (.int .u64 ym.p) ∧ w6.cell? ⟨hh, k * 13 + 8, none⟩ = some (.int .u32 ym.o) ∧ w6.cell? ⟨hh, k * 13 + 9, none⟩ = some (.int .u8 ym.r) ∧ w6.cell? ⟨hh, k * 13 + 10, none⟩ = some (.int .u64 ym.c) ∧ w6.cell? ⟨hh, k * 13 + 11, none⟩ = some (.int .u64 ym.ar) ∧ w6.cell? ⟨hh, k * 13 + 12, none⟩ = some (.slice ym.so ym.sn ym.sc))) := ⟨(HBPD.out.grow b6).all, hex6.2.2⟩; clear b6 hex6))
                all_goals
                  go_wp2
                  go_roundg g1
                  case measure => have := HI.out; omega
                  case rel => exact ⟨i + 1, K, by have := HI.out; omega, by go_num, HS6.out, HINV.out⟩
              | false =>
                have e1 := HSY.out.own.all k HK.out _ HY.out |>.2.1
                dsimp only at e1
                go_wp2_with fail
                refine (request_any q _ hq48).mono ?_; rintro e w4 ⟨rfl, b4⟩
                have HS4 := hide (HSY.out.grow b4)
                clear b4 e1 m0 m1 m2 m3 m4 m5 m6 m7 m8 m9 m10 m11 m12
                go_wp2_with fail
                refine (take_known (reqM q) HS4.out.st k (by rw [List.length_map]; exact HK.out) HQ.out HF.out (fun h => by rw [HR.out] at h ⊢; have := HINV.out.bl _ (en_mem K k HK.out) (by rw [HY.out]); rw [HY.out] at this; show ym.nm = _; rw [show ym = Ms.zero from this]; rfl) 1 (by rw [HR.out]; rfl)).mono ?_; rintro e w5 ⟨z5, rfl, hp5, hs5, hh5, ho5, hw5, b5⟩
                rw [HR.out] at hp5
                have hn5 : z5.nm = ym.nm := hp5
                obtain ⟨V, hV⟩ : ∃ V, w5.alloc (.cells #[.int .u64 z5.ta, .int .u64 z5.rp, .int .u32 z5.id, .int .u16 z5.op, .int .u16 z5.st, .int .u64 z5.p, .int .u32 z5.o, .int .u8 z5.r, .int .u64 z5.c, .int .u64 z5.ar, .slice z5.so z5.sn z5.sc] 32) = V := ⟨_, rfl⟩
                have bV : Below w5.heap.size w5 V := hV ▸ below_alloc w5 _
                have bp : BoxM V w5.heap.size z5 := hV ▸ boxM_new w5 z5
                have HSV := hide ((HS4.out.grow b5).grow bV)
                have HP5 : Hid (z5.nm = ym.nm ∧ z5.has V) := ⟨hn5, Bts.carry hh5 bV⟩
                have HYM : Hid (ym.has w) := by
                  have := HINV.out.has _ (en_mem K k HK.out)
                  rw [HY.out] at this
                  exact this
                have hex := HSV.out.own.all k HK.out _ HY.out
                dsimp only at hex
                obtain ⟨t0, t1, t2, t3, t4, t5, t6, t7, t8, t9, t10, t11, t12⟩ := hex
                obtain ⟨p0, p1, p2, p3, p4, p5, p6, p7, p8, p9, p10⟩ := bp.all
                have HBPV := hide bp
                clear hp5 hs5 hh5 ho5 hw5 b5 hn5 bV bp
                have HSVD : Hid (Sc w V.drew g (.slice (some ⟨hh, 0, none⟩) kn vc) (K.map toRq) K) := HSV.out.grow (below_d V 1)
                have bpd : BoxM V.drew w5.heap.size z5 := HBPV.out
                have hexd := HSVD.out.own.all k HK.out _ HY.out
                dsimp only at hexd
                have HSS : Hid ((V.drew.cell? ⟨w5.heap.size, 0, none⟩ = some (.int .u64 z5.ta) ∧ V.drew.cell? ⟨w5.heap.size, 1, none⟩ = some (.int .u64 z5.rp) ∧ V.drew.cell? ⟨w5.heap.size, 2, none⟩ = some (.int .u32 z5.id) ∧ V.drew.cell? ⟨w5.heap.size, 3, none⟩ = some (.int .u16 z5.op) ∧ V.drew.cell? ⟨w5.heap.size, 4, none⟩ = some (.int .u16 z5.st) ∧ V.drew.cell? ⟨w5.heap.size, 5, none⟩ = some (.int .u64 z5.p) ∧ V.drew.cell? ⟨w5.heap.size, 6, none⟩ = some (.int .u32 z5.o) ∧ V.drew.cell? ⟨w5.heap.size, 7, none⟩ = some (.int .u8 z5.r) ∧ V.drew.cell? ⟨w5.heap.size, 8, none⟩ = some (.int .u64 z5.c) ∧ V.drew.cell? ⟨w5.heap.size, 9, none⟩ = some (.int .u64 z5.ar) ∧ V.drew.cell? ⟨w5.heap.size, 10, none⟩ = some (.slice z5.so z5.sn z5.sc)) ∧ (V.drew.cell? ⟨hh, k * 13 + 2, none⟩ = some (.int .u64 ym.ta) ∧ V.drew.cell? ⟨hh, k * 13 + 3, none⟩ = some (.int .u64 ym.rp) ∧ V.drew.cell? ⟨hh, k * 13 + 4, none⟩ = some (.int .u32 ym.id) ∧ V.drew.cell? ⟨hh, k * 13 + 5, none⟩ = some (.int .u16 ym.op) ∧ V.drew.cell? ⟨hh, k * 13 + 6, none⟩ = some (.int .u16 ym.st) ∧ V.drew.cell? ⟨hh, k * 13 + 7, none⟩ = some (.int .u64 ym.p) ∧ V.drew.cell? ⟨hh, k * 13 + 8, none⟩ = some (.int .u32 ym.o) ∧ V.drew.cell? ⟨hh, k * 13 + 9, none⟩ = some (.int .u8 ym.r) ∧ V.drew.cell? ⟨hh, k * 13 + 10, none⟩ = some (.int .u64 ym.c) ∧ V.drew.cell? ⟨hh, k * 13 + 11, none⟩ = some (.int .u64 ym.ar) ∧ V.drew.cell? ⟨hh, k * 13 + 12, none⟩ = some (.slice ym.so ym.sn ym.sc))) := ⟨bpd.all, hexd.2.2⟩
                have HPD : Hid (z5.has V.drew) := Bts.carry HP5.out.2 (below_d V 1)
                have HBPD := hide bpd
                clear bpd hexd
                go_upto_region 27 with fail
                clear t0 t1 t2 t3 t4 t5 t6 t7 t8 t9 t10 t11 t12 p0 p1 p2 p3 p4 p5 p6 p7 p8 p9 p10 hV
                go_region_held (fun w' => (w'.cell? ⟨w5.heap.size, 0, none⟩ = some (.int .u64 z5.ta) ∧ w'.cell? ⟨w5.heap.size, 1, none⟩ = some (.int .u64 z5.rp) ∧ w'.cell? ⟨w5.heap.size, 2, none⟩ = some (.int .u32 z5.id) ∧ w'.cell? ⟨w5.heap.size, 3, none⟩ = some (.int .u16 z5.op) ∧ w'.cell? ⟨w5.heap.size, 4, none⟩ = some (.int .u16 z5.st) ∧ w'.cell? ⟨w5.heap.size, 5, none⟩ = some (.int .u64 z5.p) ∧ w'.cell? ⟨w5.heap.size, 6, none⟩ = some (.int .u32 z5.o) ∧ w'.cell? ⟨w5.heap.size, 7, none⟩ = some (.int .u8 z5.r) ∧ w'.cell? ⟨w5.heap.size, 8, none⟩ = some (.int .u64 z5.c) ∧ w'.cell? ⟨w5.heap.size, 9, none⟩ = some (.int .u64 z5.ar) ∧ w'.cell? ⟨w5.heap.size, 10, none⟩ = some (.slice z5.so z5.sn z5.sc)) ∧ (w'.cell? ⟨hh, k * 13 + 2, none⟩ = some (.int .u64 ym.ta) ∧ w'.cell? ⟨hh, k * 13 + 3, none⟩ = some (.int .u64 ym.rp) ∧ w'.cell? ⟨hh, k * 13 + 4, none⟩ = some (.int .u32 ym.id) ∧ w'.cell? ⟨hh, k * 13 + 5, none⟩ = some (.int .u16 ym.op) ∧ w'.cell? ⟨hh, k * 13 + 6, none⟩ = some (.int .u16 ym.st) ∧ w'.cell? ⟨hh, k * 13 + 7, none⟩ = some (.int .u64 ym.p) ∧ w'.cell? ⟨hh, k * 13 + 8, none⟩ = some (.int .u32 ym.o) ∧ w'.cell? ⟨hh, k * 13 + 9, none⟩ = some (.int .u8 ym.r) ∧ w'.cell? ⟨hh, k * 13 + 10, none⟩ = some (.int .u64 ym.c) ∧ w'.cell? ⟨hh, k * 13 + 11, none⟩ = some (.int .u64 ym.ar) ∧ w'.cell? ⟨hh, k * 13 + 12, none⟩ = some (.slice ym.so ym.sn ym.sc))) (first | exact HS7.out | exact HSS.out) (first | (go_at_call 9; refine (same_yes z5 ym _ HPD.out (Bts.carry HYM.out HSVD.out.bel) HP5.out.1).mono ?_; rintro e w6 ⟨rfl, b6⟩; have HS6 := hide (HSVD.out.grow b6); have hex6 := HS6.out.own.all k HK.out _ HY.out; dsimp only at hex6; have HS7 : Hid ((w6.cell? ⟨w5.heap.size, 0, none⟩ = some (.int .u64 z5.ta) ∧ w6.cell? ⟨w5.heap.size, 1, none⟩ = some (.int .u64 z5.rp) ∧ w6.cell? ⟨w5.heap.size, 2, none⟩ = some (.int .u32 z5.id) ∧ w6.cell? ⟨w5.heap.size, 3, none⟩ = some (.int .u16 z5.op) ∧ w6.cell? ⟨w5.heap.size, 4, none⟩ = some (.int .u16 z5.st) ∧ w6.cell? ⟨w5.heap.size, 5, none⟩ = some (.int .u64 z5.p) ∧ w6.cell? ⟨w5.heap.size, 6, none⟩ = some (.int .u32 z5.o) ∧ w6.cell? ⟨w5.heap.size, 7, none⟩ = some (.int .u8 z5.r) ∧ w6.cell? ⟨w5.heap.size, 8, none⟩ = some (.int .u64 z5.c) ∧ w6.cell? ⟨w5.heap.size, 9, none⟩ = some (.int .u64 z5.ar) ∧ w6.cell? ⟨w5.heap.size, 10, none⟩ = some (.slice z5.so z5.sn z5.sc)) ∧ (w6.cell? ⟨hh, k * 13 + 2, none⟩ = some (.int .u64 ym.ta) ∧ w6.cell? ⟨hh, k * 13 + 3, none⟩ = some (.int .u64 ym.rp) ∧ w6.cell? ⟨hh, k * 13 + 4, none⟩ = some (.int .u32 ym.id) ∧ w6.cell? ⟨hh, k * 13 + 5, none⟩ = some (.int .u16 ym.op) ∧ w6.cell? ⟨hh, k * 13 + 6, none⟩ = some (.int .u16 ym.st) ∧ w6.cell? ⟨hh, k * 13 + 7, none⟩ = some (.int .u64 ym.p) ∧ w6.cell? ⟨hh, k * 13 + 8, none⟩ = some (.int .u32 ym.o) ∧ w6.cell? ⟨hh, k * 13 + 9, none⟩ = some (.int .u8 ym.r) ∧ w6.cell? ⟨hh, k * 13 + 10, none⟩ = some (.int .u64 ym.c) ∧ w6.cell? ⟨hh, k * 13 + 11, none⟩ = some (.int .u64 ym.ar) ∧ w6.cell? ⟨hh, k * 13 + 12, none⟩ = some (.slice ym.so ym.sn ym.sc))) := ⟨(HBPD.out.grow b6).all, hex6.2.2⟩; clear b6 hex6))
                all_goals
                  go_wp2
                  go_roundg g1
                  case measure => have := HI.out; omega
                  case rel => exact ⟨i + 1, K, by have := HI.out; omega, by go_num, HS6.out, HINV.out⟩
end Go.Proofs.YtnkfdnmaocfjnaaDoor
