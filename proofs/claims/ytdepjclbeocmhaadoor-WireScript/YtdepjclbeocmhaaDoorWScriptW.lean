/-
  The walk of WireScript.
-/
import Derived.Test.YtdepjclbeocmhaaDoorWScr
import Derived.Test.YtdepjclbeocmhaaDoorQNum
import Derived.Test.YtdepjclbeocmhaaDoorYTill
namespace Go.Proofs.YtdepjclbeocmhaaDoor
open Go.RowKit
def pkA (i : Nat) (x : Ac) : Pa := ⟨(x.f : Int) % 3, (x.f : Int) / 3 % 3, (i : Int), x.p, (i : Int), x.so, x.sn, x.sc, x.l⟩
def MRel (w : World) (g n gk : Nat) (vr vi : Value) (wq : World) : Prop :=
  ∃ (i m : Nat) (R : List Pa), i + gk = n ∧ vi = .int .i64 (i : Int) ∧ Sc w wq g vr m R (R.map Pa.nm)
/- the row has no more than the wire -/
theorem Sc.few {w0 w : World} {g m : Nat} {v : Value} {R : List Pa} (x : Sc w0 w g v m R (R.map Pa.nm)) : m ≤ 1024 := by
  have := x.st.few
  rw [List.length_map, ← x.len] at this; exact this
theorem Sc.to {w0 w : World} {g m : Nat} {v : Value} {R L L' : List Pa} (x : Sc w0 w g v m R L) (e : L = L') : Sc w0 w g v m R L' := e ▸ x
def LRel (w : World) (g : Nat) (vr : Value) (m : Nat) (R : List Pa) (gk : Nat) (vi : Value) (wq : World) : Prop :=
  ∃ i : Nat, i + gk = m ∧ vi = .int .i64 (i : Int) ∧ Sc w wq g vr m R ((R.drop i).map Pa.nm)
def CRel (W : World) (node : Int) (R : List Pa) (m gk : Nat) (vs vi : Value) (wr : World) : Prop :=
  ∃ i : Nat, i + gk = m ∧ vi = .int .i64 (i : Int) ∧ wr.ownsRow W.heap.size 33 6 vs (cutF node (R.take i)).length (cellsK (cutF node (R.take i))) ∧ Below W.heap.size W wr
theorem same_nm (p q : Pa) (w : World) (hp : p.has w) (hq : q.has w) (h : p.nm = q.nm) :
    Calls Tryd.prog 10 #[.agg #[.int .i64 p.f, .int .i64 p.t, .int .u64 p.i, .int .i64 p.x, .int .i64 p.c, .slice p.so p.sn p.sc], .agg #[.int .i64 q.f, .int .i64 q.t, .int .u64 q.i, .int .i64 q.x, .int .i64 q.c, .slice q.so q.sn q.sc]] w fun e w' => e = .returned (.bool true) ∧ Below w.heap.size w w' := by
  have e : p.f = q.f ∧ p.t = q.t ∧ p.i = q.i ∧ p.x = q.x ∧ p.c = q.c ∧ p.l = q.l := by
    unfold Pa.nm at h
    injection h with h1 h2 h3 h4 h5 h6 h7 h8 h9
    exact ⟨h1, h2, h3, h4, h5, h9⟩
  exact same_yes p q w hp hq e.1 e.2.1 e.2.2.1 e.2.2.2.1 e.2.2.2.2.1 e.2.2.2.2.2
set_option maxRecDepth 20000 in
set_option maxHeartbeats 12800000 in
theorem walk_script (ao : Option Addr) (n cap : Nat) (xs : List Ac) (w : World) (ha : Acts w ao n cap xs) (hs : ∀ y ∈ xs, y.sn ≤ 140737488351232) (hg : Glob w) :
    Calls Tryd.prog 3 #[.slice ao n cap] w fun e w' => e = .returned (.bool true) ∧ Below w.heap.size w w' := by
  have HA := hide ha
  have HGL := hide hg
  have hcap : cap ≤ 9223372036854775807 := ha.2.2.1
  have hnc := ha.2.1
  have HSZ : Hid (∀ y ∈ xs, y.sn ≤ 140737488351232) := hs
  clear ha hg hs
  go_enter Tryd.func3, Tryd.ntmps3
  go_wp2_with fail
  refine (awake_any _).mono ?_; rintro e W ⟨rfl, b1⟩
  obtain ⟨X, hX⟩ : ∃ X, W.alloc (.cells #[.slice none 0 0] 27) = X := ⟨_, rfl⟩
  obtain ⟨g, hgg⟩ : ∃ g, W.heap.size = g := ⟨_, rfl⟩
  have HSC : Hid (Sc w X g (.slice none 0 0) 0 [] []) := by
    refine ⟨?_, owns_nil _ _ _ _, (fun _ h => by cases h), below_one b1 (hX ▸ below_alloc W _), by rw [← hgg]; exact b1.size⟩
    rw [← hX, ← hgg]; exact st_new W _
  clear b1
  go_wp2
  clear hX hgg
  go_loopg [4, 30] n (fun gk vr vi wq => MRel w g n gk vr vi wq)
  case atStart => exact ⟨0, 0, [], by omega, rfl, HSC.out⟩
  case round =>
    obtain ⟨i, m, R, hi, rfl, sc⟩ := hrel
    have HS := hide sc
    have hfew := sc.few
    have HM := hide sc.len
    obtain ⟨ro, rc, rfl, pk⟩ := sc.sl
    have HP := hide pk
    have hrc : rc ≤ 9223372036854775807 := pk.1.2.2.1
    have hmc := pk.1.2.1
    clear sc pk HSC
    cases gk with
    | zero =>
      as_aux_lemma =>
        obtain rfl : i = n := by omega
        have hlt : ¬ ((i : Int) < (i : Int)) := by omega
        clear hi
        go_wp2_with fail
        go_loopg [211] m (fun gk vi wq => LRel w g (.slice ro m rc) m R gk vi wq)
        case atStart => exact ⟨0, by omega, rfl, HS.out⟩
        case round =>
          rename World => wq
          clear HS HP
          obtain ⟨j, hj, rfl, sc⟩ := hrel
          have HS := hide sc
          clear sc
          cases gk with
          | zero =>
            obtain rfl : j = m := by omega
            have hlt : ¬ ((j : Int) < (j : Int)) := by omega
            have HE : Hid ((R.drop j).map Pa.nm = []) := by show _ = _; rw [HM.out, List.drop_length]; rfl
            clear hj
            go_wp2_with fail
            refine (len_any _ HS.out.st).mono ?_; rintro e w3 ⟨rfl, rfl⟩
            rw [HE.out, List.length_nil]
            go_wp2
            go_ret
            exact ⟨rfl, HS.out.bel⟩
          | succ g1 =>
            have hjm : j < m := by omega
            have hlt : (j : Int) < (m : Int) := by omega
            obtain ⟨ro', rc', e0, pk⟩ := HS.out.sl
            cases e0
            obtain ⟨ad, rfl⟩ := pk.there hjm
            have e1 := pk.elem j hjm
            have hmem := getK_mem R j (by rw [← HM.out]; exact hjm)
            have hdr := dropK_cons R j (by rw [← HM.out]; exact hjm)
            obtain ⟨p, hp⟩ : ∃ p, R.getD j Pa.zero = p := ⟨_, rfl⟩
            rw [hp] at e1 hmem hdr
            obtain ⟨k0, k1, k2, k3, k4, k5⟩ := e1
            obtain ⟨Y, hY⟩ : ∃ Y, wq.alloc (.cells #[.int .i64 p.f, .int .i64 p.t, .int .u64 p.i, .int .i64 p.x, .int .i64 p.c, .slice p.so p.sn p.sc] 33) = Y := ⟨_, rfl⟩
            have bY : Below wq.heap.size wq Y := hY ▸ below_alloc wq _
            have HBP : Hid (BoxK Y wq.heap.size p) := hY ▸ boxK_new wq p
            have HSY := hide (HS.out.grow bY)
            have HMEM := hide hmem
            have HLEN : Hid (0 < ((R.drop j).map Pa.nm).length) := by show _ < _; rw [hdr]; simp
            have HDR := hide hdr
            obtain ⟨r, hr⟩ : ∃ r, wq.heap.size = r := ⟨_, rfl⟩
            rw [hr] at HBP
            clear pk bY hmem hp hdr
            go_wp2_with fail
            refine (arrive_any 0 _ HSY.out.st HSY.out.lt HLEN.out).mono ?_; rintro e w4 ⟨y, rfl, E4⟩
            have hk : placeF 0 ((R.drop j).map Pa.nm).length = 0 := by unfold placeF; simp
            rw [hk] at E4
            have s4 := HSY.out.wire E4.st E4.ft
            have b4 := boxK_wire HSY.out HBP.out E4.ft
            have HNM : Hid (y.nm = p.nm) := by show _ = _; rw [E4.nm, HDR.out]; rfl
            obtain ⟨Z, hZ⟩ : ∃ Z, w4.alloc (.cells #[.int .i64 y.f, .int .i64 y.t, .int .u64 y.i, .int .i64 y.x, .int .i64 y.c, .slice y.so y.sn y.sc] 33) = Z := ⟨_, rfl⟩
            have bZ : Below w4.heap.size w4 Z := hZ ▸ below_alloc w4 _
            have b5 : BoxK Z w4.heap.size y := hZ ▸ boxK_new w4 y
            have HSZ2 := hide (s4.grow bZ)
            have b6 := b4.carry bZ (Nat.le_refl _)
            have HHY : Hid (y.has Z) := Bts.carry E4.has bZ
            obtain ⟨p0, p1, p2, p3, p4, p5⟩ := b6.six (Below.refl _ _)
            obtain ⟨q0, q1, q2, q3, q4, q5⟩ := b5.six (Below.refl _ _)
            clear hk E4 s4 b4 bZ b5 b6 k0 k1 k2 k3 k4 k5
            go_wp2_with fail
            refine (same_nm y p _ HHY.out (HSZ2.out.has HMEM.out) HNM.out).mono ?_; rintro e w5 ⟨rfl, b5⟩
            have HS5 := hide (HSZ2.out.grow b5)
            clear b5
            go_wp2
            go_roundg g1
            case measure => omega
            case rel => exact ⟨j + 1, by omega, by go_num, HS5.out.to (by rw [HDR.out]; rfl)⟩
    | succ g1 =>
      have hin : i < n := by omega
      have hlt : (i : Int) < (n : Int) := by omega
      obtain ⟨ad, had⟩ : ∃ ad, ao = some ad := by
        cases ao with
        | none => have := HA.out.2.2.2.1 rfl; omega
        | some ad => exact ⟨ad, rfl⟩
      subst had
      have at0 := (HA.out.carry HS.out.bel).2.2.2.2 ad rfl i hin
      have at1 := HA.out.2.2.2.2 ad rfl i hin
      have hsn := HSZ.out (xs.getD i Ac.zero) (by
        rw [List.getD_eq_getElem?_getD, List.getElem?_eq_getElem (by rw [← HA.out.1]; exact hin)]; exact List.getElem_mem _)
      obtain ⟨x, hx⟩ : ∃ x, xs.getD i Ac.zero = x := ⟨_, rfl⟩
      rw [hx] at at0 at1 hsn
      obtain ⟨⟨ho, hf⟩, hbt0, k0, k1, k2, k3⟩ := at0
      clear hbt0
      have HBT : Hid (Bts w x.so x.sn x.sc x.l) := at1.2.1
      have HSN : Hid (x.sn ≤ 140737488351232) := hsn
      obtain ⟨Y, hY⟩ : ∃ Y, wr.alloc (.cells #[.int .u8 (x.o : Nat), .int .i64 x.p, .int .u8 (x.f : Nat), .slice x.so x.sn x.sc] 30) = Y := ⟨_, rfl⟩
      have bY : Below wr.heap.size wr Y := hY ▸ below_alloc wr _
      have hbx : BoxA Y wr.heap.size x := hY ▸ heap_alloc_new wr _
      have HWY := hide bY
      have HRD : Hid (Rd w Y g (.slice ro m rc) m R (R.map Pa.nm) wr.heap.size x) := ⟨HS.out.grow bY, hbx⟩
      obtain ⟨y0, y1, y2, y3⟩ := hbx.four
      replace k1 : wr.cell? { block := (ad.add (i * 4)).block, off := (ad.add (i * 4)).off + 1 } = some (.int .i64 x.p) := by rw [addS _ 0] at k1; exact k1
      replace k2 : wr.cell? { block := (ad.add (i * 4)).block, off := (ad.add (i * 4)).off + 2 } = some (.int .u8 (x.f : Nat)) := by rw [addS _ 1] at k2; exact k2
      replace k3 : wr.cell? { block := (ad.add (i * 4)).block, off := (ad.add (i * 4)).off + 3 } = some (.slice x.so x.sn x.sc) := by rw [addS _ 2] at k3; exact k3
      obtain ⟨b, hb⟩ : ∃ b, wr.heap.size = b := ⟨_, rfl⟩
      rw [hb] at HRD y0 y1 y2 y3
      have h6 : x.o % 6 = 0 ∨ x.o % 6 = 1 ∨ x.o % 6 = 2 ∨ x.o % 6 = 3 ∨ x.o % 6 = 4 ∨ x.o % 6 = 5 := by omega
      clear bY hbx hx at1 hsn
      rcases h6 with d6 | d6 | d6 | d6 | d6 | d6
      · have d : (x.o : Int) % 6 = 0 := by omega
        obtain ⟨Y1, hY1⟩ : ∃ Y1, Y.alloc (.cells #[.int .i64 ((x.f : Int) % 3), .int .i64 ((x.f : Int) / 3 % 3), .int .u64 (i : Int), .int .i64 x.p, .int .i64 (i : Int), .slice x.so x.sn x.sc] 33) = Y1 := ⟨_, rfl⟩
        have bY1 : Below Y.heap.size Y Y1 := hY1 ▸ below_alloc Y _
        have HBP : Hid (BoxK Y1 Y.heap.size (pkA i x)) := hY1 ▸ boxK_new Y (pkA i x)
        have HR1 := hide (HRD.out.grow bY1)
        obtain ⟨c0, c1, c2, c3, c4, c5⟩ := HBP.out.six (Below.refl _ _)
        simp only [pkA] at c0 c1 c2 c3 c4 c5
        have HHP : Hid ((pkA i x).has w) := HBT.out
        have HSP : Hid ((pkA i x).sn ≤ 140737488355328) := Nat.le_trans HSN.out (by decide)
        obtain ⟨r, hr⟩ : ∃ r, Y.heap.size = r := ⟨_, rfl⟩
        rw [hr] at HBP c0 c1 c2 c3 c4 c5
        clear bY1
        go_wp2_with fail
        refine (send_any (pkA i x) _ HR1.out.sc.st HR1.out.sc.lt (Bts.carry HHP.out HR1.out.sc.bel) HSP.out).mono ?_; rintro e w2 ⟨rfl, s2, f2⟩
        have r2 := HR1.out.wire s2 f2
        have HB2 := hide (boxK_wire HR1.out.sc HBP.out f2)
        by_cases hm : 1024 ≤ m
        · have hmi : (1024 : Int) ≤ (m : Int) := by omega
          have hl : 1024 ≤ (R.map Pa.nm).length := by rw [List.length_map, ← HM.out]; exact hm
          have hE : sendE (R.map Pa.nm) = 5 := by unfold sendE; rw [if_pos hl]
          have hL : sendL (R.map Pa.nm) (pkA i x).nm = R.map Pa.nm := by unfold sendL; rw [if_pos hl]
          rw [hL] at r2
          have HR2 := hide r2
          rw [hE]
          clear s2 f2 r2 hl hE hL c0 c1 c2 c3 c4 c5 hY1 hY y0 y1 y2 y3 k0 k1 k2 k3
          as_aux_lemma =>
            go_wp2_with fail
            refine (number_any 5 _ (HGL.out.carry HR2.out.sc.bel)).mono ?_; rintro e w3 ⟨rfl, b3⟩
            have HR3 := hide (HR2.out.grow b3)
            clear b3
            go_wp2
            go_roundg g1
            case measure => omega
            case rel => exact ⟨i + 1, _, _, by omega, by go_num, HR3.out.sc⟩
        · have hmi : ¬ ((1024 : Int) ≤ (m : Int)) := by omega
          have hl : ¬ 1024 ≤ (R.map Pa.nm).length := by rw [List.length_map, ← HM.out]; exact hm
          have hE : sendE (R.map Pa.nm) = 0 := by unfold sendE; rw [if_neg hl]
          have hL : sendL (R.map Pa.nm) (pkA i x).nm = (R ++ [pkA i x]).map Pa.nm := by unfold sendL; rw [if_neg hl, List.map_append]; rfl
          rw [hL] at r2
          have HR2 := hide r2
          rw [hE, erN_zero]
          obtain ⟨c0, c1, c2, c3, c4, c5⟩ := HB2.out.six (Below.refl _ _)
          simp only [pkA] at c0 c1 c2 c3 c4 c5
          obtain ⟨so2, sc2, w3, hrun, r3⟩ := r2.app (pkA i x) HHP.out HSP.out (by omega)
          simp only [pkA] at hrun
          have HRUN := hide hrun
          have HR3 := hide r3
          clear s2 f2 r2 hl hE hL hY1 hY y0 y1 y2 y3 k0 k1 k2 k3 hrun r3
          go_wp2_with (at_builtin; refine wpList_append_run rfl _ _ _ rfl _ _ _ _ rfl rfl HRUN.out ?_)
          as_aux_lemma =>
            go_wp2_with fail
            refine (len_any _ HR3.out.sc.st).mono ?_; rintro e w9 ⟨rfl, rfl⟩
            rw [List.length_map, ← HR3.out.sc.len]
            go_wp2
            go_roundg g1
            case measure => omega
            case rel => exact ⟨i + 1, _, _, by omega, by go_num, HR3.out.sc⟩
      · have d : (x.o : Int) % 6 = 1 := by omega
        obtain ⟨Y1, hY1⟩ : ∃ Y1, Y.alloc (.cells #[.int .i64 ((x.f : Int) % 3), .int .i64 ((x.f : Int) / 3 % 3), .int .u64 (i : Int), .int .i64 x.p, .int .i64 (i : Int), .slice x.so x.sn x.sc] 33) = Y1 := ⟨_, rfl⟩
        have bY1 : Below Y.heap.size Y Y1 := hY1 ▸ below_alloc Y _
        have HBP : Hid (BoxK Y1 Y.heap.size (pkA i x)) := hY1 ▸ boxK_new Y (pkA i x)
        have HR1 := hide (HRD.out.grow bY1)
        obtain ⟨c0, c1, c2, c3, c4, c5⟩ := HBP.out.six (Below.refl _ _)
        simp only [pkA] at c0 c1 c2 c3 c4 c5
        have HHP : Hid ((pkA i x).has w) := HBT.out
        have HSP : Hid ((pkA i x).sn ≤ 140737488355328) := Nat.le_trans HSN.out (by decide)
        obtain ⟨r, hr⟩ : ∃ r, Y.heap.size = r := ⟨_, rfl⟩
        rw [hr] at HBP c0 c1 c2 c3 c4 c5
        clear bY1
        go_wp2_with fail
        refine (send_any (pkA i x) _ HR1.out.sc.st HR1.out.sc.lt (Bts.carry HHP.out HR1.out.sc.bel) HSP.out).mono ?_; rintro e w2 ⟨rfl, s2, f2⟩
        have r2 := HR1.out.wire s2 f2
        have HB2 := hide (boxK_wire HR1.out.sc HBP.out f2)
        by_cases hm : 1024 ≤ m
        · have hmi : (1024 : Int) ≤ (m : Int) := by omega
          have hl : 1024 ≤ (R.map Pa.nm).length := by rw [List.length_map, ← HM.out]; exact hm
          have hE : sendE (R.map Pa.nm) = 5 := by unfold sendE; rw [if_pos hl]
          have hL : sendL (R.map Pa.nm) (pkA i x).nm = R.map Pa.nm := by unfold sendL; rw [if_pos hl]
          rw [hL] at r2
          have HR2 := hide r2
          rw [hE]
          clear s2 f2 r2 hl hE hL c0 c1 c2 c3 c4 c5 hY1 hY y0 y1 y2 y3 k0 k1 k2 k3
          as_aux_lemma =>
            go_wp2_with fail
            refine (number_any 5 _ (HGL.out.carry HR2.out.sc.bel)).mono ?_; rintro e w3 ⟨rfl, b3⟩
            have HR3 := hide (HR2.out.grow b3)
            clear b3
            go_wp2
            go_roundg g1
            case measure => omega
            case rel => exact ⟨i + 1, _, _, by omega, by go_num, HR3.out.sc⟩
        · have hmi : ¬ ((1024 : Int) ≤ (m : Int)) := by omega
          have hl : ¬ 1024 ≤ (R.map Pa.nm).length := by rw [List.length_map, ← HM.out]; exact hm
          have hE : sendE (R.map Pa.nm) = 0 := by unfold sendE; rw [if_neg hl]
          have hL : sendL (R.map Pa.nm) (pkA i x).nm = (R ++ [pkA i x]).map Pa.nm := by unfold sendL; rw [if_neg hl, List.map_append]; rfl
          rw [hL] at r2
          have HR2 := hide r2
          rw [hE, erN_zero]
          obtain ⟨c0, c1, c2, c3, c4, c5⟩ := HB2.out.six (Below.refl _ _)
          simp only [pkA] at c0 c1 c2 c3 c4 c5
          obtain ⟨so2, sc2, w3, hrun, r3⟩ := r2.app (pkA i x) HHP.out HSP.out (by omega)
          simp only [pkA] at hrun
          have HRUN := hide hrun
          have HR3 := hide r3
          clear s2 f2 r2 hl hE hL hY1 hY y0 y1 y2 y3 k0 k1 k2 k3 hrun r3
          go_wp2_with (at_builtin; refine wpList_append_run rfl _ _ _ rfl _ _ _ _ rfl rfl HRUN.out ?_)
          as_aux_lemma =>
            go_wp2_with fail
            refine (len_any _ HR3.out.sc.st).mono ?_; rintro e w9 ⟨rfl, rfl⟩
            rw [List.length_map, ← HR3.out.sc.len]
            go_wp2
            go_roundg g1
            case measure => omega
            case rel => exact ⟨i + 1, _, _, by omega, by go_num, HR3.out.sc⟩
      · have d : (x.o : Int) % 6 = 2 := by omega
        by_cases hm : m = 0
        · as_aux_lemma =>
            have hR : R = [] := List.eq_nil_of_length_eq_zero (by rw [← HM.out]; exact hm)
            subst hR
            subst hm
            have st0 : St Y g (fun k => (Value.slice ro 0 rc).ownBlock = some k) [] := HRD.out.sc.st
            have HST0 := hide st0
            clear st0
            go_wp2_with fail
            refine (arrive_no x.p _ HST0.out).mono ?_; rintro e w1 ⟨rfl, b1⟩
            have r2 := HRD.out.grow (below_one b1 (below_alloc w1 (.cells #[.int .i64 0, .int .i64 0, .int .u64 0, .int .i64 0, .int .i64 0, .slice none 0 0] 33)))
            have z1 := (HRD.out.grow b1).box.four.2.1
            have z2 := r2.box.four.2.1
            have HR2 := hide r2
            have st2 : St (w1.alloc (.cells #[.int .i64 0, .int .i64 0, .int .u64 0, .int .i64 0, .int .i64 0, .slice none 0 0] 33)) g (fun k => (Value.slice ro 0 rc).ownBlock = some k) [] := r2.sc.st
            have HST2 := hide st2
            clear b1 r2 st2 y0 y1 y2 y3 hY k0 k1 k2 k3
            go_wp2_with fail
            refine (lose_any x.p _ HST2.out HR2.out.sc.lt).mono ?_; rintro e w3 ⟨rfl, s3, f3⟩
            have HR3 := hide (HR2.out.sc.wire (L' := []) s3 f3)
            rw [show decide (0 < ([] : List Pa).length) = false from rfl]
            clear s3 f3
            go_wp2
            go_roundg g1
            case measure => omega
            case rel => exact ⟨i + 1, 0, [], by omega, by go_num, HR3.out⟩

        · have hmi : ¬ ((m : Int) = 0) := by omega
          have hk := placeF_lt x.p m (by omega)
          obtain ⟨k, hkk⟩ : ∃ k, placeF x.p m = k := ⟨_, rfl⟩
          have HK := hide hkk
          rw [hkk] at hk
          obtain ⟨ar, rfl⟩ := HP.out.there (k := k) hk
          have hki : (k : Int) < (m : Int) := by omega
          have pkY := HRD.out.sc.sl
          obtain ⟨ro', rc', e0, pkY⟩ := pkY
          cases e0
          have e1 := pkY.elem k hk
          have hmem := getK_mem R k (by rw [← HM.out]; exact hk)
          obtain ⟨p, hp⟩ : ∃ p, R.getD k Pa.zero = p := ⟨_, rfl⟩
          rw [hp] at e1 hmem
          have HPE := hide hp
          have HMEM := hide hmem
          obtain ⟨j0, j1, j2, j3, j4, j5⟩ := e1
          obtain ⟨Y2, hY2⟩ : ∃ Y2, Y.alloc (.cells #[.int .i64 p.f, .int .i64 p.t, .int .u64 p.i, .int .i64 p.x, .int .i64 p.c, .slice p.so p.sn p.sc] 33) = Y2 := ⟨_, rfl⟩
          have bY2 : Below Y.heap.size Y Y2 := hY2 ▸ below_alloc Y _
          have HBP : Hid (BoxK Y2 Y.heap.size p) := hY2 ▸ boxK_new Y p
          have HR2 := hide (HRD.out.grow bY2)
          obtain ⟨r, hr⟩ : ∃ r, Y.heap.size = r := ⟨_, rfl⟩
          rw [hr] at HBP
          clear hkk pkY hmem hp bY2
          go_wp2_with fail
          refine (place_law x.p m _ (by omega) (by omega)).mono ?_; rintro e w1 ⟨rfl, rfl⟩
          rw [HK.out]
          go_wp2_with fail
          have HRV := hide (HR2.out.grow (below_d Y2 1))
          obtain ⟨v1, w9a, bo, c9, w9, r1, r2, b9, s9⟩ := HRV.out.sc.cut hk (by omega)
          have hww : IntKind.i64.wrap ((k : Int) + 1) = (k : Int) + 1 := by rw [IntKind.wrap_i64]; omega
          have hc1 := fun W : World => cutG_head Tryd.underlying25 Tryd.sizeOfP W (some ar) m rc k (by omega)
          have hc2 := fun W : World => cutG_tail Tryd.underlying25 Tryd.sizeOfP W (some ar) m rc (k + 1) (by omega)
          obtain ⟨ta, hta⟩ : ∃ X, tailG 6 (some ar) (k + 1) rc = X := ⟨_, rfl⟩
          obtain ⟨tn, htn⟩ : ∃ X, m - (k + 1) = X := ⟨_, rfl⟩
          obtain ⟨tc, htc⟩ : ∃ X, rc - (k + 1) = X := ⟨_, rfl⟩
          rw [hta, htn, htc] at hc2 r2
          have hc2' : ∀ W : World, (Instr.slice 25 (.slice (some ar) m rc) (some (.int .i64 ((k : Int) + 1))) none none).run Tryd.prog W = .ok (.slice ta tn tc) W := fun W => by rw [← hc2 W]; rfl
          obtain ⟨d9, hd9⟩ : ∃ d, m - 1 = d := ⟨_, rfl⟩
          rw [hd9] at r2 s9
          have HRN1 := hide r1
          have HRN2 := hide r2
          have HR9 : Hid (Rd w w9 g (.slice bo d9 c9) d9 (R.eraseIdx k) (R.map Pa.nm) b x) := ⟨s9, HRV.out.box.grow b9⟩
          have HBP9 := hide (HBP.out.carry (below_one (below_d Y2 1) b9) (Nat.le_refl _))
          have HLM : Hid ((R.map Pa.nm).length = m) := by show _ = _; rw [List.length_map]; exact HM.out.symm
          have HD9 := hide hd9
          clear r1 r2 b9 s9 hc2 hta htn htc hd9 HRV hY2 hY y0 y1 y2 y3 j0 j1 j2 j3 j4 j5 k0 k1 k2 k3
          refine region_till (fun _ => True) 9 (by kernel_rfl) ?_
          refine till_take [0, 9] (i := 0) (oi := { dst := some 137, op := Op.move (Operand.tmp 4), type := 25, pos := "law.go:72", after := #[], guard := none }) (v := (.slice (some ar) m rc)) rfl (by kernel_rfl) (by kernel_rfl) (by kernel_rfl) (by kernel_rfl) (fun _ _ _ h => h) (Or.inl ⟨by kernel_rfl, fun w hC => by go_simp⟩) trivial ?_
          simp only [Act.put, List.setIfInBounds_toArray, List.set_cons_zero, List.set_cons_succ]
          refine till_take [1, 9] (i := 1) (oi := { dst := some 138, op := Op.move (Operand.tmp 11), type := 3, pos := "law.go:72", after := #[], guard := none }) (v := (.int .i64 (k : Int))) rfl (by kernel_rfl) (by kernel_rfl) (by kernel_rfl) (by kernel_rfl) (fun _ _ _ h => h) (Or.inl ⟨by kernel_rfl, fun w hC => by go_simp⟩) trivial ?_
          simp only [Act.put, List.setIfInBounds_toArray, List.set_cons_zero, List.set_cons_succ]
          refine till_take [2, 9] (i := 2) (oi := { dst := some 139, op := Op.slice 25 (Operand.tmp 137) none (some (Operand.tmp 138)) none, type := 25, pos := "law.go:72", after := #[{ on := 0, ground := Ground.data }, { on := 1, ground := Ground.data }], guard := none }) (v := (.slice (some ar) k rc)) rfl (by kernel_rfl) (by kernel_rfl) (by kernel_rfl) (by kernel_rfl) (fun _ _ _ h => h) (Or.inl ⟨by kernel_rfl, fun w hC => by go_simp⟩) trivial ?_
          simp only [Act.put, List.setIfInBounds_toArray, List.set_cons_zero, List.set_cons_succ]
          refine till_take [4, 9] (i := 4) (oi := { dst := some 141, op := Op.move (Operand.tmp 4), type := 25, pos := "law.go:72", after := #[], guard := none }) (v := (.slice (some ar) m rc)) rfl (by kernel_rfl) (by kernel_rfl) (by kernel_rfl) (by kernel_rfl) (fun _ _ _ h => h) (Or.inl ⟨by kernel_rfl, fun w hC => by go_simp⟩) trivial ?_
          simp only [Act.put, List.setIfInBounds_toArray, List.set_cons_zero, List.set_cons_succ]
          refine till_take [5, 9] (i := 5) (oi := { dst := some 142, op := Op.move (Operand.tmp 11), type := 3, pos := "law.go:72", after := #[], guard := none }) (v := (.int .i64 (k : Int))) rfl (by kernel_rfl) (by kernel_rfl) (by kernel_rfl) (by kernel_rfl) (fun _ _ _ h => h) (Or.inl ⟨by kernel_rfl, fun w hC => by go_simp⟩) trivial ?_
          simp only [Act.put, List.setIfInBounds_toArray, List.set_cons_zero, List.set_cons_succ]
          refine till_take [6, 9] (i := 6) (oi := { dst := some 143, op := Op.binOp BinOp.add 3 (Operand.tmp 142) (Operand.const (Value.int IntKind.i64 1)) 3, type := 3, pos := "law.go:72", after := #[{ on := 5, ground := Ground.data }], guard := none }) (v := (.int .i64 ((k : Int) + 1))) rfl (by kernel_rfl) (by kernel_rfl) (by kernel_rfl) (by kernel_rfl) (fun _ _ _ h => h) (Or.inl ⟨by kernel_rfl, fun w hC => by go_simp⟩) trivial ?_
          simp only [Act.put, List.setIfInBounds_toArray, List.set_cons_zero, List.set_cons_succ]
          refine till_take [7, 9] (i := 7) (oi := { dst := some 144, op := Op.slice 25 (Operand.tmp 141) (some (Operand.tmp 143)) none none, type := 25, pos := "law.go:72", after := #[{ on := 4, ground := Ground.data }, { on := 6, ground := Ground.data }], guard := none }) (v := (.slice ta tn tc)) rfl (by kernel_rfl) (by kernel_rfl) (by kernel_rfl) (by kernel_rfl) (fun _ _ _ h => h) (Or.inl ⟨by kernel_rfl, fun w hC => by go_simp⟩) trivial ?_
          simp only [Act.put, List.setIfInBounds_toArray, List.set_cons_zero, List.set_cons_succ]
          refine till_ready (rs := [3]) (by kernel_rfl) (by simp) ?_
          refine AllTill.cons (o := { dst := some 140, op := Op.call { callee := Callee.builtin Builtin.append, args := #[Operand.const (Value.slice none 0 0), Operand.tmp 139], argTypes := #[25, 25] }, type := 25, pos := "law.go:72", after := #[{ on := 2, ground := Ground.data }], guard := none }) rfl (fun K hK => ?_) AllTill.nil
          refine step_run rfl _ _ _ rfl (.slice none 0 0) (.slice (some ar) k rc) v1 w9a rfl rfl HRN1.out ?_
          refine hK.out _ _ (fun _ => trivial) ?_
          simp only [Act.put, List.setIfInBounds_toArray, List.set_cons_zero, List.set_cons_succ]
          refine till_ready (rs := [8]) (by kernel_rfl) (by simp) ?_
          refine AllTill.cons (o := { dst := some 145, op := Op.call { callee := Callee.builtin Builtin.append, args := #[Operand.tmp 140, Operand.tmp 144], argTypes := #[25, 25] }, type := 25, pos := "law.go:72", after := #[{ on := 3, ground := Ground.data }, { on := 7, ground := Ground.data }, { on := 3, ground := Ground.chain }], guard := none }) rfl (fun K hK => ?_) AllTill.nil
          refine step_run rfl _ _ _ rfl v1 (.slice ta tn tc) (.slice bo d9 c9) w9 rfl rfl HRN2.out ?_
          refine hK.out _ _ (fun _ => trivial) ?_
          simp only [Act.put, List.setIfInBounds_toArray, List.set_cons_zero, List.set_cons_succ]
          refine till_ready (rs := [9]) (by kernel_rfl) (by simp) ?_
          refine AllTill.cons (o := { dst := some 4, op := Op.assign (Operand.tmp 145), type := 25, pos := "law.go:72", after := #[{ on := 8, ground := Ground.data }, { on := 8, ground := Ground.chain }, { on := 0, ground := Ground.phase }, { on := 1, ground := Ground.phase }, { on := 2, ground := Ground.phase }, { on := 3, ground := Ground.phase }, { on := 4, ground := Ground.phase }, { on := 5, ground := Ground.phase }, { on := 6, ground := Ground.phase }, { on := 7, ground := Ground.phase }, { on := 8, ground := Ground.phase }], guard := none }) rfl (fun K hK => ?_) AllTill.nil
          go_simp
          refine hK.out _ _ (fun _ => trivial) ?_
          refine till_done (by kernel_rfl) ?_ _

          obtain ⟨y0, y1, y2, y3⟩ := HR9.out.box.four
          as_aux_lemma =>
            go_wp2_with fail
            refine (arrive_any x.p _ HR9.out.sc.st HR9.out.sc.lt (by rw [HLM.out]; omega)).mono ?_; rintro e w4 ⟨q, rfl, E4⟩
            have s4 := E4.st
            rw [HLM.out, HK.out, ← map_erase] at s4
            have r4 := HR9.out.wire s4 E4.ft
            have b4 := boxK_wire HR9.out.sc HBP9.out E4.ft
            have HNM : Hid (q.nm = p.nm) := by show _ = _; rw [E4.nm, HLM.out, HK.out, getD_nm, HPE.out]
            obtain ⟨Z, hZ⟩ : ∃ Z, w4.alloc (.cells #[.int .i64 q.f, .int .i64 q.t, .int .u64 q.i, .int .i64 q.x, .int .i64 q.c, .slice q.so q.sn q.sc] 33) = Z := ⟨_, rfl⟩
            have bZ : Below w4.heap.size w4 Z := hZ ▸ below_alloc w4 _
            have b5 : BoxK Z w4.heap.size q := hZ ▸ boxK_new w4 q
            have HR5 := hide (r4.grow bZ)
            have b6 := b4.carry bZ (Nat.le_refl _)
            have HHY : Hid (q.has Z) := Bts.carry E4.has bZ
            have HHP : Hid (p.has Z) := Bts.carry (HS.out.low p HMEM.out).1 HR5.out.sc.bel
            obtain ⟨p0, p1, p2, p3, p4, p5⟩ := b6.six (Below.refl _ _)
            obtain ⟨q0, q1, q2, q3, q4, q5⟩ := b5.six (Below.refl _ _)
            clear E4 s4 r4 b4 bZ b5 b6 y0 y1 y2 y3
            go_wp2_with fail
            refine (same_nm q p _ HHY.out HHP.out HNM.out).mono ?_; rintro e w5 ⟨rfl, b5⟩
            have HR6 := hide (HR5.out.grow b5)
            clear b5 p0 p1 p2 p3 p4 p5 q0 q1 q2 q3 q4 q5

            go_wp2_with fail
            refine (len_any _ HR6.out.sc.st).mono ?_; rintro e w9 ⟨rfl, rfl⟩
            rw [List.length_map, ← HR6.out.sc.len]
            go_wp2
            go_roundg g1
            case measure => omega
            case rel => exact ⟨i + 1, _, _, by omega, by go_num, HR6.out.sc⟩
      · have d : (x.o : Int) % 6 = 3 := by omega
        by_cases hm : m = 0
        · as_aux_lemma =>
            have hR : R = [] := List.eq_nil_of_length_eq_zero (by rw [← HM.out]; exact hm)
            subst hR
            subst hm
            have st0 : St Y g (fun k => (Value.slice ro 0 rc).ownBlock = some k) [] := HRD.out.sc.st
            have HST0 := hide st0
            clear st0
            go_wp2_with fail
            refine (arrive_no x.p _ HST0.out).mono ?_; rintro e w1 ⟨rfl, b1⟩
            have r2 := HRD.out.grow (below_one b1 (below_alloc w1 (.cells #[.int .i64 0, .int .i64 0, .int .u64 0, .int .i64 0, .int .i64 0, .slice none 0 0] 33)))
            have z1 := (HRD.out.grow b1).box.four.2.1
            have z2 := r2.box.four.2.1
            have HR2 := hide r2
            have st2 : St (w1.alloc (.cells #[.int .i64 0, .int .i64 0, .int .u64 0, .int .i64 0, .int .i64 0, .slice none 0 0] 33)) g (fun k => (Value.slice ro 0 rc).ownBlock = some k) [] := r2.sc.st
            have HST2 := hide st2
            clear b1 r2 st2 y0 y1 y2 y3 hY k0 k1 k2 k3
            go_wp2_with fail
            refine (lose_any x.p _ HST2.out HR2.out.sc.lt).mono ?_; rintro e w3 ⟨rfl, s3, f3⟩
            have HR3 := hide (HR2.out.sc.wire (L' := []) s3 f3)
            rw [show decide (0 < ([] : List Pa).length) = false from rfl]
            clear s3 f3
            go_wp2
            go_roundg g1
            case measure => omega
            case rel => exact ⟨i + 1, 0, [], by omega, by go_num, HR3.out⟩

        · have hmi : ¬ ((m : Int) = 0) := by omega
          have hk := placeF_lt x.p m (by omega)
          obtain ⟨k, hkk⟩ : ∃ k, placeF x.p m = k := ⟨_, rfl⟩
          have HK := hide hkk
          rw [hkk] at hk
          obtain ⟨ar, rfl⟩ := HP.out.there (k := k) hk
          have hki : (k : Int) < (m : Int) := by omega
          have pkY := HRD.out.sc.sl
          obtain ⟨ro', rc', e0, pkY⟩ := pkY
          cases e0
          have e1 := pkY.elem k hk
          have hmem := getK_mem R k (by rw [← HM.out]; exact hk)
          obtain ⟨p, hp⟩ : ∃ p, R.getD k Pa.zero = p := ⟨_, rfl⟩
          rw [hp] at e1 hmem
          have HPE := hide hp
          have HMEM := hide hmem
          obtain ⟨j0, j1, j2, j3, j4, j5⟩ := e1
          obtain ⟨Y2, hY2⟩ : ∃ Y2, Y.alloc (.cells #[.int .i64 p.f, .int .i64 p.t, .int .u64 p.i, .int .i64 p.x, .int .i64 p.c, .slice p.so p.sn p.sc] 33) = Y2 := ⟨_, rfl⟩
          have bY2 : Below Y.heap.size Y Y2 := hY2 ▸ below_alloc Y _
          have HBP : Hid (BoxK Y2 Y.heap.size p) := hY2 ▸ boxK_new Y p
          have HR2 := hide (HRD.out.grow bY2)
          obtain ⟨r, hr⟩ : ∃ r, Y.heap.size = r := ⟨_, rfl⟩
          rw [hr] at HBP
          clear hkk pkY hmem hp bY2
          go_wp2_with fail
          refine (place_law x.p m _ (by omega) (by omega)).mono ?_; rintro e w1 ⟨rfl, rfl⟩
          rw [HK.out]
          go_wp2_with fail
          have HRV := hide (HR2.out.grow (below_d Y2 1))
          obtain ⟨v1, w9a, bo, c9, w9, r1, r2, b9, s9⟩ := HRV.out.sc.cut hk (by omega)
          have hww : IntKind.i64.wrap ((k : Int) + 1) = (k : Int) + 1 := by rw [IntKind.wrap_i64]; omega
          have hc1 := fun W : World => cutG_head Tryd.underlying25 Tryd.sizeOfP W (some ar) m rc k (by omega)
          have hc2 := fun W : World => cutG_tail Tryd.underlying25 Tryd.sizeOfP W (some ar) m rc (k + 1) (by omega)
          obtain ⟨ta, hta⟩ : ∃ X, tailG 6 (some ar) (k + 1) rc = X := ⟨_, rfl⟩
          obtain ⟨tn, htn⟩ : ∃ X, m - (k + 1) = X := ⟨_, rfl⟩
          obtain ⟨tc, htc⟩ : ∃ X, rc - (k + 1) = X := ⟨_, rfl⟩
          rw [hta, htn, htc] at hc2 r2
          have hc2' : ∀ W : World, (Instr.slice 25 (.slice (some ar) m rc) (some (.int .i64 ((k : Int) + 1))) none none).run Tryd.prog W = .ok (.slice ta tn tc) W := fun W => by rw [← hc2 W]; rfl
          obtain ⟨d9, hd9⟩ : ∃ d, m - 1 = d := ⟨_, rfl⟩
          rw [hd9] at r2 s9
          have HRN1 := hide r1
          have HRN2 := hide r2
          have HR9 : Hid (Rd w w9 g (.slice bo d9 c9) d9 (R.eraseIdx k) (R.map Pa.nm) b x) := ⟨s9, HRV.out.box.grow b9⟩
          have HBP9 := hide (HBP.out.carry (below_one (below_d Y2 1) b9) (Nat.le_refl _))
          have HLM : Hid ((R.map Pa.nm).length = m) := by show _ = _; rw [List.length_map]; exact HM.out.symm
          have HD9 := hide hd9
          clear r1 r2 b9 s9 hc2 hta htn htc hd9 HRV hY2 hY y0 y1 y2 y3 j0 j1 j2 j3 j4 j5 k0 k1 k2 k3
          refine region_till (fun _ => True) 9 (by kernel_rfl) ?_
          refine till_take [0, 9] (i := 0) (oi := { dst := some 137, op := Op.move (Operand.tmp 4), type := 25, pos := "law.go:72", after := #[], guard := none }) (v := (.slice (some ar) m rc)) rfl (by kernel_rfl) (by kernel_rfl) (by kernel_rfl) (by kernel_rfl) (fun _ _ _ h => h) (Or.inl ⟨by kernel_rfl, fun w hC => by go_simp⟩) trivial ?_
          simp only [Act.put, List.setIfInBounds_toArray, List.set_cons_zero, List.set_cons_succ]
          refine till_take [1, 9] (i := 1) (oi := { dst := some 138, op := Op.move (Operand.tmp 11), type := 3, pos := "law.go:72", after := #[], guard := none }) (v := (.int .i64 (k : Int))) rfl (by kernel_rfl) (by kernel_rfl) (by kernel_rfl) (by kernel_rfl) (fun _ _ _ h => h) (Or.inl ⟨by kernel_rfl, fun w hC => by go_simp⟩) trivial ?_
          simp only [Act.put, List.setIfInBounds_toArray, List.set_cons_zero, List.set_cons_succ]
          refine till_take [2, 9] (i := 2) (oi := { dst := some 139, op := Op.slice 25 (Operand.tmp 137) none (some (Operand.tmp 138)) none, type := 25, pos := "law.go:72", after := #[{ on := 0, ground := Ground.data }, { on := 1, ground := Ground.data }], guard := none }) (v := (.slice (some ar) k rc)) rfl (by kernel_rfl) (by kernel_rfl) (by kernel_rfl) (by kernel_rfl) (fun _ _ _ h => h) (Or.inl ⟨by kernel_rfl, fun w hC => by go_simp⟩) trivial ?_
          simp only [Act.put, List.setIfInBounds_toArray, List.set_cons_zero, List.set_cons_succ]
          refine till_take [4, 9] (i := 4) (oi := { dst := some 141, op := Op.move (Operand.tmp 4), type := 25, pos := "law.go:72", after := #[], guard := none }) (v := (.slice (some ar) m rc)) rfl (by kernel_rfl) (by kernel_rfl) (by kernel_rfl) (by kernel_rfl) (fun _ _ _ h => h) (Or.inl ⟨by kernel_rfl, fun w hC => by go_simp⟩) trivial ?_
          simp only [Act.put, List.setIfInBounds_toArray, List.set_cons_zero, List.set_cons_succ]
          refine till_take [5, 9] (i := 5) (oi := { dst := some 142, op := Op.move (Operand.tmp 11), type := 3, pos := "law.go:72", after := #[], guard := none }) (v := (.int .i64 (k : Int))) rfl (by kernel_rfl) (by kernel_rfl) (by kernel_rfl) (by kernel_rfl) (fun _ _ _ h => h) (Or.inl ⟨by kernel_rfl, fun w hC => by go_simp⟩) trivial ?_
          simp only [Act.put, List.setIfInBounds_toArray, List.set_cons_zero, List.set_cons_succ]
          refine till_take [6, 9] (i := 6) (oi := { dst := some 143, op := Op.binOp BinOp.add 3 (Operand.tmp 142) (Operand.const (Value.int IntKind.i64 1)) 3, type := 3, pos := "law.go:72", after := #[{ on := 5, ground := Ground.data }], guard := none }) (v := (.int .i64 ((k : Int) + 1))) rfl (by kernel_rfl) (by kernel_rfl) (by kernel_rfl) (by kernel_rfl) (fun _ _ _ h => h) (Or.inl ⟨by kernel_rfl, fun w hC => by go_simp⟩) trivial ?_
          simp only [Act.put, List.setIfInBounds_toArray, List.set_cons_zero, List.set_cons_succ]
          refine till_take [7, 9] (i := 7) (oi := { dst := some 144, op := Op.slice 25 (Operand.tmp 141) (some (Operand.tmp 143)) none none, type := 25, pos := "law.go:72", after := #[{ on := 4, ground := Ground.data }, { on := 6, ground := Ground.data }], guard := none }) (v := (.slice ta tn tc)) rfl (by kernel_rfl) (by kernel_rfl) (by kernel_rfl) (by kernel_rfl) (fun _ _ _ h => h) (Or.inl ⟨by kernel_rfl, fun w hC => by go_simp⟩) trivial ?_
          simp only [Act.put, List.setIfInBounds_toArray, List.set_cons_zero, List.set_cons_succ]
          refine till_ready (rs := [3]) (by kernel_rfl) (by simp) ?_
          refine AllTill.cons (o := { dst := some 140, op := Op.call { callee := Callee.builtin Builtin.append, args := #[Operand.const (Value.slice none 0 0), Operand.tmp 139], argTypes := #[25, 25] }, type := 25, pos := "law.go:72", after := #[{ on := 2, ground := Ground.data }], guard := none }) rfl (fun K hK => ?_) AllTill.nil
          refine step_run rfl _ _ _ rfl (.slice none 0 0) (.slice (some ar) k rc) v1 w9a rfl rfl HRN1.out ?_
          refine hK.out _ _ (fun _ => trivial) ?_
          simp only [Act.put, List.setIfInBounds_toArray, List.set_cons_zero, List.set_cons_succ]
          refine till_ready (rs := [8]) (by kernel_rfl) (by simp) ?_
          refine AllTill.cons (o := { dst := some 145, op := Op.call { callee := Callee.builtin Builtin.append, args := #[Operand.tmp 140, Operand.tmp 144], argTypes := #[25, 25] }, type := 25, pos := "law.go:72", after := #[{ on := 3, ground := Ground.data }, { on := 7, ground := Ground.data }, { on := 3, ground := Ground.chain }], guard := none }) rfl (fun K hK => ?_) AllTill.nil
          refine step_run rfl _ _ _ rfl v1 (.slice ta tn tc) (.slice bo d9 c9) w9 rfl rfl HRN2.out ?_
          refine hK.out _ _ (fun _ => trivial) ?_
          simp only [Act.put, List.setIfInBounds_toArray, List.set_cons_zero, List.set_cons_succ]
          refine till_ready (rs := [9]) (by kernel_rfl) (by simp) ?_
          refine AllTill.cons (o := { dst := some 4, op := Op.assign (Operand.tmp 145), type := 25, pos := "law.go:72", after := #[{ on := 8, ground := Ground.data }, { on := 8, ground := Ground.chain }, { on := 0, ground := Ground.phase }, { on := 1, ground := Ground.phase }, { on := 2, ground := Ground.phase }, { on := 3, ground := Ground.phase }, { on := 4, ground := Ground.phase }, { on := 5, ground := Ground.phase }, { on := 6, ground := Ground.phase }, { on := 7, ground := Ground.phase }, { on := 8, ground := Ground.phase }], guard := none }) rfl (fun K hK => ?_) AllTill.nil
          go_simp
          refine hK.out _ _ (fun _ => trivial) ?_
          refine till_done (by kernel_rfl) ?_ _

          obtain ⟨y0, y1, y2, y3⟩ := HR9.out.box.four
          as_aux_lemma =>
            go_wp2_with fail
            refine (lose_any x.p _ HR9.out.sc.st HR9.out.sc.lt).mono ?_; rintro e w3 ⟨rfl, s3, f3⟩
            rw [HLM.out, HK.out, ← map_erase] at s3
            have HR3 := hide (HR9.out.sc.wire s3 f3)
            rw [HLM.out, decide_eq_true (by omega)]
            clear s3 f3
            go_wp2
            go_roundg g1
            case measure => omega
            case rel => exact ⟨i + 1, _, _, by omega, by go_num, HR3.out⟩
      · have d : (x.o : Int) % 6 = 4 := by omega
        go_wp2_with fail
        refine (double_any x.p _ HRD.out.sc.st HRD.out.sc.lt).mono ?_; rintro e w2 ⟨rfl, s2, f2⟩
        have r2 := HRD.out.wire s2 f2
        have hlm : (R.map Pa.nm).length = m := by rw [List.length_map]; exact HM.out.symm
        clear s2 f2 hY y0 y1 y2 y3 k0 k1 k2 k3
        by_cases hm : m = 0
        · have hE : dblE (R.map Pa.nm) = 12 := by unfold dblE; rw [if_pos (by rw [hlm]; exact hm)]
          have hL : dblL (R.map Pa.nm) x.p = R.map Pa.nm := by unfold dblL; rw [if_pos (by rw [hlm]; exact hm)]
          rw [hL] at r2
          rw [hE]
          have HR2 := hide r2
          clear r2 hlm hE hL
          subst hm
          as_aux_lemma =>
            go_wp2_with fail
            refine (number_any 12 _ (HGL.out.carry HR2.out.sc.bel)).mono ?_; rintro e w3 ⟨rfl, b3⟩
            have HR3 := hide (HR2.out.grow b3)
            clear b3

            go_wp2_with fail
            refine (len_any _ HR3.out.sc.st).mono ?_; rintro e w9 ⟨rfl, rfl⟩
            rw [List.length_map, ← HR3.out.sc.len]
            go_wp2
            go_roundg g1
            case measure => omega
            case rel => exact ⟨i + 1, _, _, by omega, by go_num, HR3.out.sc⟩

        · have hmi : ¬ ((m : Int) = 0) := by omega
          have hE1 : dblE (R.map Pa.nm) = sendE (R.map Pa.nm) := by unfold dblE; rw [if_neg (by rw [hlm]; exact hm)]
          have hL1 : dblL (R.map Pa.nm) x.p = sendL (R.map Pa.nm) ((R.map Pa.nm).getD (placeF x.p m) Pa.zero) := by unfold dblL; rw [if_neg (by rw [hlm]; exact hm), hlm]
          by_cases hf2 : 1024 ≤ m
          · have hfi : (1024 : Int) ≤ (m : Int) := by omega
            have hE : sendE (R.map Pa.nm) = 5 := by unfold sendE; rw [if_pos (by rw [hlm]; exact hf2)]
            have hL : sendL (R.map Pa.nm) ((R.map Pa.nm).getD (placeF x.p m) Pa.zero) = R.map Pa.nm := by unfold sendL; rw [if_pos (by rw [hlm]; exact hf2)]
            rw [hL1, hL] at r2
            rw [hE1, hE]
            have HR2 := hide r2
            clear r2 hlm hE hL hE1 hL1
            as_aux_lemma =>
              go_wp2_with fail
              refine (number_any 5 _ (HGL.out.carry HR2.out.sc.bel)).mono ?_; rintro e w3 ⟨rfl, b3⟩
              have HR3 := hide (HR2.out.grow b3)
              clear b3

              go_wp2_with fail
              refine (len_any _ HR3.out.sc.st).mono ?_; rintro e w9 ⟨rfl, rfl⟩
              rw [List.length_map, ← HR3.out.sc.len]
              go_wp2
              go_roundg g1
              case measure => omega
              case rel => exact ⟨i + 1, _, _, by omega, by go_num, HR3.out.sc⟩

          · have hfi : ¬ ((1024 : Int) ≤ (m : Int)) := by omega
            have hk := placeF_lt x.p m (by omega)
            obtain ⟨k, hkk⟩ : ∃ k, placeF x.p m = k := ⟨_, rfl⟩
            rw [hkk] at hk hL1
            have hmem := getK_mem R k (by rw [← HM.out]; exact hk)
            have hE : sendE (R.map Pa.nm) = 0 := by unfold sendE; rw [if_neg (by rw [hlm]; exact hf2)]
            have hL : sendL (R.map Pa.nm) ((R.map Pa.nm).getD k Pa.zero) = (R ++ [R.getD k Pa.zero]).map Pa.nm := by unfold sendL; rw [if_neg (by rw [hlm]; exact hf2), getD_nm, List.map_append]; rfl
            rw [hL1, hL] at r2
            rw [hE1, hE, erN_zero]
            obtain ⟨ro', rc', e0, pkY⟩ := r2.sc.sl
            cases e0
            obtain ⟨ar, rfl⟩ := pkY.there hk
            have e1 := pkY.elem k hk
            obtain ⟨p, hp⟩ : ∃ p, R.getD k Pa.zero = p := ⟨_, rfl⟩
            rw [hp] at e1 hmem r2
            obtain ⟨j0, j1, j2, j3, j4, j5⟩ := e1
            obtain ⟨y0, y1, y2, y3⟩ := r2.box.four
            obtain ⟨so2, sc2, w3, hrun, r3⟩ := r2.app p (HS.out.low p hmem).1 (HS.out.low p hmem).2 (by omega)
            have HRUN := hide hrun
            have HR3 := hide r3
            have HK := hide hkk
            have hki : (k : Int) < (m : Int) := by omega
            clear r2 hlm hE hL hE1 hL1 pkY hp hmem hkk hrun r3
            go_wp2_with fail
            refine (place_law x.p m _ (by omega) (by omega)).mono ?_; rintro e w9 ⟨rfl, rfl⟩
            rw [HK.out]
            go_wp2_with (at_builtin; refine wpList_append_run rfl _ _ _ rfl _ _ _ _ rfl rfl HRUN.out ?_)
            as_aux_lemma =>
              go_wp2_with fail
              refine (len_any _ HR3.out.sc.st).mono ?_; rintro e w9 ⟨rfl, rfl⟩
              rw [List.length_map, ← HR3.out.sc.len]
              go_wp2
              go_roundg g1
              case measure => omega
              case rel => exact ⟨i + 1, _, _, by omega, by go_num, HR3.out.sc⟩
      · have d : (x.o : Int) % 6 = 5 := by omega
        obtain ⟨nd, hnd⟩ : ∃ nd : Int, (x.f : Int) % 4 = nd := ⟨_, rfl⟩
        go_wp2
        clear d d6 hnd hY y0 y1 y2 y3 k0 k1 k2 k3 ho hf
        go_loopg [17, 44] m (fun gk vs vi wq => CRel Y nd R m gk vs vi wq)
        case atStart => exact ⟨0, by omega, rfl, owns_nil _ _ _ _, Below.refl _ _⟩
        case round =>
          rename World => wq
          obtain ⟨j, hj, rfl, own, bb⟩ := hrel
          have HO := hide own
          have HB := hide bb
          obtain ⟨so, sc, rfl, _⟩ := owns_lies own
          have hle := cutF_len nd (R.take j)
          rw [List.length_take] at hle
          obtain ⟨s, hs⟩ : ∃ s, (cutF nd (R.take j)).length = s := ⟨_, rfl⟩
          have HSL := hide hs
          rw [hs] at HO hle ⊢
          have hs2 : s ≤ j := by omega
          clear own bb hs hle
          cases gk with
          | zero =>
            obtain rfl : j = m := by omega
            have hlt : ¬ ((j : Int) < (j : Int)) := by omega
            have HT : Hid (R.take j = R) := by show _ = _; rw [HM.out, List.take_length]
            rw [HT.out] at HO HSL
            have sc1 := HRD.out.sc.fresh HB.out HO.out (fun p hp => cutF_mem hp)
            have HR1 : Hid (Rd w wq g (.slice so s sc) s (cutF nd R) (R.map Pa.nm) b x) := ⟨sc1, HRD.out.box.grow HB.out⟩
            have HLM : Hid ((R.map Pa.nm).length = j) := by show _ = _; rw [List.length_map]; exact HM.out.symm
            have HCM : Hid ((cutF nd (R.map Pa.nm)).length = s) := by show _ = _; rw [← cutF_nm, List.length_map]; exact HSL.out
            clear hj sc1
            as_aux_lemma =>
              go_wp2_with fail
              refine (cut_any nd _ HR1.out.sc.st HR1.out.sc.lt).mono ?_; rintro e w2 ⟨rfl, s2, f2⟩
              rw [HLM.out, HCM.out]
              rw [← cutF_nm] at s2
              have HR3 := hide (HR1.out.wire s2 f2)
              clear s2 f2
              go_wp2_with fail
              refine (len_any _ HR3.out.sc.st).mono ?_; rintro e w9 ⟨rfl, rfl⟩
              rw [List.length_map, ← HR3.out.sc.len]
              go_wp2
              go_roundg g1
              case measure => omega
              case rel => exact ⟨i + 1, _, _, by omega, by go_num, HR3.out.sc⟩

          | succ g2 =>
            have hjm : j < m := by omega
            have hlt : (j : Int) < (m : Int) := by omega
            have HPW := hide (HP.out.carry (below_one (show Below wr.heap.size wr Y from HWY.out) HB.out))
            obtain ⟨ar, rfl⟩ := HPW.out.there hjm
            have e1 := HPW.out.elem j hjm
            have HSN2 := hide (cutF_snoc nd R j (by rw [← HM.out]; exact hjm))
            obtain ⟨p, hp⟩ : ∃ p, R.getD j Pa.zero = p := ⟨_, rfl⟩
            rw [hp] at e1 HSN2
            obtain ⟨j0, j1, j2, j3, j4, j5⟩ := e1
            obtain ⟨Z, hZ⟩ : ∃ Z, wq.alloc (.cells #[.int .i64 p.f, .int .i64 p.t, .int .u64 p.i, .int .i64 p.x, .int .i64 p.c, .slice p.so p.sn p.sc] 33) = Z := ⟨_, rfl⟩
            have bZ : Below wq.heap.size wq Z := hZ ▸ below_alloc wq _
            have hbx : BoxK Z wq.heap.size p := hZ ▸ boxK_new wq p
            obtain ⟨z0, z1, z2, z3, z4, z5⟩ := hbx.six (Below.refl _ _)
            have HBZ := hide (below_one HB.out bZ)
            have HOZ := hide (owns_carry HO.out bZ)
            clear hp hbx
            cases hst : stays nd p with
            | false =>
              have HF2 : Hid (cutF nd (R.take (j + 1)) = cutF nd (R.take j)) := by show _ = _; rw [HSN2.out, hst]; simp
              unfold stays at hst
              clear bZ
              by_cases q1 : p.f = nd
              · clear hst
                subst q1
                as_aux_lemma =>
                  go_wp2
                  go_roundg g2
                  case measure => omega
                  case rel =>
                    refine ⟨j + 1, by omega, by go_num, ?_, HBZ.out⟩
                    rw [HF2.out, HSL.out]; exact HOZ.out
              · have q2 : p.t = nd := by
                  by_cases h : p.t = nd
                  · exact h
                  · rw [bne_iff_ne.2 q1, bne_iff_ne.2 h] at hst; cases hst
                clear hst
                subst q2
                as_aux_lemma =>
                  go_wp2
                  go_roundg g2
                  case measure => omega
                  case rel =>
                    refine ⟨j + 1, by omega, by go_num, ?_, HBZ.out⟩
                    rw [HF2.out, HSL.out]; exact HOZ.out
            | true =>
              have HF2 : Hid (cutF nd (R.take (j + 1)) = cutF nd (R.take j) ++ [p]) := by show _ = _; rw [HSN2.out, hst]; simp
              unfold stays at hst
              rw [Bool.and_eq_true] at hst
              obtain ⟨q1, q2⟩ := hst
              obtain ⟨ao4, c4, w4, hr, ho4, hg4⟩ := app_one p HOZ.out (by omega) HBZ.out.size
              have HRUN := hide hr
              have HO4 := hide ho4
              have HB4 := hide (below_grown (below_one HBZ.out (below_alloc Z _)) (below_one HBZ.out (below_alloc Z (.cells #[.int .i64 p.f, .int .i64 p.t, .int .u64 p.i, .int .i64 p.x, .int .i64 p.c, .slice p.so p.sn p.sc] 33))).size (owns_carry HOZ.out (below_alloc Z (.cells #[.int .i64 p.f, .int .i64 p.t, .int .u64 p.i, .int .i64 p.x, .int .i64 p.c, .slice p.so p.sn p.sc] 33))) hg4)
              clear bZ hr ho4 hg4
              go_wp2_with (at_builtin; refine wpList_append_run rfl _ _ _ rfl _ _ _ _ rfl rfl HRUN.out ?_)
              as_aux_lemma =>
                go_wp2
                go_roundg g2
                case measure => omega
                case rel =>
                  refine ⟨j + 1, by omega, by go_num, ?_, HB4.out⟩
                  rw [HF2.out, cellsK_append, List.length_append, HSL.out]
                  exact HO4.out
end Go.Proofs.YtdepjclbeocmhaaDoor
