/-
  What Write answers of a store of segments, as a contract; what became of the world.
-/
import Derived.Test.YtppdammgmnihgaaDoorSRead
namespace Go.Proofs.YtppdammgmnihgaaDoor
open Go.RowKit
variable {w w' : World} {B st m a b n : Nat} {gl : List Bool} {bs : List UInt8} {c : Cel} {sg : Nat → Option Cel} {L : Nat → Option (List UInt8)}
/- bytes of a slice that no call on the store turns -/
def Off (B : Nat) (w : World) (ao : Option Addr) : Prop := ∀ ad o, ao = some ad → w.heap[ad.block]? = some o → StP B ad.block o
theorem Bts.keep {P : Nat → Obj → Prop} {ao : Option Addr} {n cap : Nat} {l : List UInt8} (h : Bts w ao n cap l) (k : Keep P w w') (hP : ∀ ad o, ao = some ad → w.heap[ad.block]? = some o → P ad.block o) : Bts w' ao n cap l := by
  refine ⟨h.1, h.2.1, h.2.2.1, h.2.2.2.1, fun ad e j hj => ?_⟩
  have hc := h.2.2.2.2 ad e j hj
  have hl := lt_of_cell hc
  rw [add_block] at hl
  obtain ⟨o, ho⟩ : ∃ o, w.heap[ad.block]? = some o := ⟨_, Array.getElem?_eq_getElem hl⟩
  have := k.block _ _ ho (hP ad o e ho)
  rw [← hc]; unfold World.cell?; rw [add_block, this, ho]
theorem Off.keep {ao : Option Addr} (h : Off B w ao) (k : Keep (StP B) w w') (hl : ∀ ad, ao = some ad → ad.block < w.heap.size) : Off B w' ao := by
  intro ad o e ho
  obtain ⟨o2, ho2⟩ : ∃ o, w.heap[ad.block]? = some o := ⟨_, Array.getElem?_eq_getElem (hl ad e)⟩
  have := k.block _ _ ho2 (h ad o2 e ho2)
  rw [this] at ho; cases ho; exact h ad _ e ho2
theorem off_low {ao : Option Addr} (h : ∀ ad, ao = some ad → ad.block < B) : Off B w ao := fun ad _ e _ => .inl (h ad e)
/- a slice's head and tail -/
def tailA (ao : Option Addr) (k cap : Nat) : Option Addr := if cap = k then ao else ao.map (·.add k)
theorem cut_tail (w : World) (ao : Option Addr) (n cap k : Nat) (h : k ≤ n) : (Instr.slice 28 (.slice ao n cap) (some (.int .i64 (k : Int))) none none).run Tryd.prog w = .ok (.slice (tailA ao k cap) (n - k) (cap - k)) w := by
  have ht : Tryd.prog.underlying 28 = some (.slice (Tryd.prog.elem 28)) := by simp [Program.elem, Tryd.underlying28]
  have he : Tryd.prog.elem 28 = 5 := by simp [Program.elem, Tryd.underlying28]
  rw [run_slice_l (P := Tryd.prog) w 28 ao n cap ht .i64 (k : Int) (by omega) (by omega), he, Tryd.sizeByte]
  simp [Result.andThen, sliced, tailA]
theorem cut_head (w : World) (ao : Option Addr) (n cap k : Nat) (h : k ≤ cap) : (Instr.slice 28 (.slice ao n cap) none (some (.int .i64 (k : Int))) none).run Tryd.prog w = .ok (.slice ao k cap) w := by
  have ht : Tryd.prog.underlying 28 = some (.slice (Tryd.prog.elem 28)) := by simp [Program.elem, Tryd.underlying28]
  have he : Tryd.prog.elem 28 = 5 := by simp [Program.elem, Tryd.underlying28]
  rw [run_slice_h (P := Tryd.prog) w 28 ao n cap ht .i64 (k : Int) (by omega) (by omega), he, Tryd.sizeByte]
  have hz : ao.map (fun x => x.add 0) = ao := by cases ao <;> simp [Addr.add]
  simp [Result.andThen, sliced, hz]
theorem add_add (ad : Addr) (j k : Nat) : (ad.add j).add k = ad.add (j + k) := by
  unfold Addr.add
  by_cases h1 : j = 0
  · subst h1; simp
  · by_cases h2 : k = 0
    · subst h2; simp
    · simp [h1, h2]; omega
theorem Bts.tail {ao : Option Addr} {n cap : Nat} {l : List UInt8} (h : Bts w ao n cap l) (k : Nat) (hk : k ≤ n) : Bts w (tailA ao k cap) (n - k) (cap - k) (l.drop k) := by
  have h1 := h.1
  have h2 := h.2.1
  have h3 := h.2.2.1
  refine ⟨by rw [List.length_drop]; omega, by omega, by omega, fun e => ?_, fun ad e j hj => ?_⟩
  · unfold tailA at e
    split at e
    · omega
    · have := h.2.2.2.1 (by cases ao <;> simp_all); omega
  · rw [List.length_drop] at hj
    unfold tailA at e
    rw [if_neg (by omega)] at e
    obtain ⟨a0, rfl, rfl⟩ := Option.map_eq_some_iff.1 e
    rw [add_add, h.2.2.2.2 a0 rfl (k + j) (by omega)]
    unfold bt
    simp [List.getD_eq_getElem?_getD, List.getElem?_drop]
theorem Bts.head {ao : Option Addr} {n cap : Nat} {l : List UInt8} (h : Bts w ao n cap l) (k : Nat) (hk : k ≤ n) : Bts w ao k cap (l.take k) := by
  have h1 := h.1
  have h2 := h.2.1
  refine ⟨by rw [List.length_take]; omega, by omega, h.2.2.1, h.2.2.2.1, fun ad e j hj => ?_⟩
  rw [List.length_take] at hj
  rw [h.2.2.2.2 ad e j (by omega)]
  unfold bt
  simp only [List.getD_eq_getElem?_getD, List.getElem?_take, if_pos (show j < k by omega)]
theorem tailA_block {ao : Option Addr} {k cap : Nat} {ad : Addr} (h : tailA ao k cap = some ad) : ∃ a0, ao = some a0 ∧ ad.block = a0.block := by
  unfold tailA at h
  split at h
  · exact ⟨ad, h, rfl⟩
  · obtain ⟨a0, rfl, rfl⟩ := Option.map_eq_some_iff.1 h; exact ⟨a0, rfl, add_block _ _⟩
theorem Off.tail {ao : Option Addr} (h : Off B w ao) (k cap : Nat) : Off B w (tailA ao k cap) := by
  intro ad o e ho
  obtain ⟨a0, e0, e1⟩ := tailA_block e
  rw [e1] at ho ⊢; exact h a0 o e0 ho
/- the memory of pages of a store is laid anew -/
theorem StAt.remem {w2 : World} {gl2 : List Bool} {bs2 : List UInt8} (x : StAt w B st m a b n gl bs sg) (F : Foot (MemS a b) w w2) (M : MemAt w2 m a b n gl2 bs2) (G : Good n gl2 bs2 sg) : StAt w2 B st m a b n gl2 bs2 sg ∧ Keep (StP B) w w2 := by
  have hne : ¬ MemS a b st := by
    rintro (h | h)
    · exact tyne x.box x.mem.giv (by decide) h
    · exact tyne x.box x.mem.byt (by decide) h
  refine ⟨⟨(F.block _ (lt_of_heap x.box) hne).trans x.box, M, fun j e h => (x.cel j e h).memS x.mem F, x.gs, x.rs, x.hst, x.ha, x.hb, G⟩, keep_foot F fun q o ho hp hS => ?_⟩
  have ty : B ≤ q ∧ StoreTy o := by
    rcases hS with rfl | rfl
    · rw [x.mem.giv] at ho; cases ho; exact ⟨x.ha, .inr (.inr (.inl rfl))⟩
    · rw [x.mem.byt] at ho; cases ho; exact ⟨x.hb, .inr (.inr (.inr (.inl rfl)))⟩
  rcases hp with hp | hp
  · omega
  · exact hp ty.2
theorem splice_more (C l : List UInt8) (p q t : Nat) (h : p + l.length ≤ C.length) (hq : q + t ≤ l.length) : splice (splice C p (l.take q)) (p + q) ((l.drop q).take t) = splice C p (l.take (q + t)) := by
  have l1 : (l.take q).length = q := by rw [List.length_take]; omega
  have l2 : ((l.drop q).take t).length = t := by rw [List.length_take, List.length_drop]; omega
  have l3 : (l.take (q + t)).length = q + t := by rw [List.length_take]; omega
  have s1 : (splice C p (l.take q)).length = C.length := length_splice _ _ _ (by omega)
  refine same_row _ _ (by rw [length_splice _ _ _ (by omega), s1, length_splice C _ _ (by omega)]) fun i hi => ?_
  rw [splice_get _ _ _ _ _ (by omega), splice_get C _ _ _ _ (by omega), splice_get C _ _ _ _ (by omega), l1, l2, l3]
  by_cases h1 : p + q ≤ i ∧ i < p + q + t
  · rw [if_pos h1, if_pos (by omega)]
    simp only [List.getD_eq_getElem?_getD, List.getElem?_take, List.getElem?_drop]
    rw [if_pos (by omega), if_pos (by omega)]; congr 2; omega
  · rw [if_neg h1]
    by_cases h2 : p ≤ i ∧ i < p + q
    · rw [if_pos h2, if_pos (by omega)]
      simp only [List.getD_eq_getElem?_getD, List.getElem?_take]
      rw [if_pos (by omega), if_pos (by omega)]
    · rw [if_neg h2, if_neg (by omega)]
set_option maxHeartbeats 800000 in
theorem swrite_none (id p : Int) (so : Option Addr) (sn sc : Nat) (w : World) (x : StAt w B st m a b n gl bs sg) (_hs : sn ≤ maxLen) (hn : pickF sg id = none) :
    Calls Tryd.prog 14 #[.pointer (some ⟨st, 0, none⟩), .int .i64 id, .int .i64 p, .slice so sn sc] w fun e w' => e = .returned (errV 12) ∧ w' = w := by
  have H := hide x
  have HN := hide hn
  unfold maxLen at _hs
  clear x hn
  unfold errV
  go_enter Tryd.func14, Tryd.ntmps14
  go_wp2_with fail
  refine (piece_none id p sn _ H.out HN.out).mono ?_; rintro e w1 ⟨rfl, rfl⟩
  unfold errV
  go_wp2
  go_ret
  exact ⟨rfl, rfl⟩
set_option maxHeartbeats 800000 in
theorem swrite_no (i : Nat) (p : Int) (so : Option Addr) (sn sc : Nat) (w : World) (x : StAt w B st m a b n gl bs sg) (_hs : sn ≤ maxLen) (hi : sg i = some c) (hp : -9223372036854775808 ≤ p ∧ p ≤ 9223372036854775807) (hn : inS c.size p sn = false) :
    Calls Tryd.prog 14 #[.pointer (some ⟨st, 0, none⟩), .int .i64 (i : Int), .int .i64 p, .slice so sn sc] w fun e w' => e = .returned (errV 13) ∧ w' = w := by
  have H := hide x
  have HI := hide hi
  have HN := hide hn
  unfold maxLen at _hs
  clear x hn hi
  unfold errV
  go_enter Tryd.func14, Tryd.ntmps14
  go_wp2_with fail
  refine (piece_no i c p sn _ H.out HI.out hp HN.out).mono ?_; rintro e w1 ⟨rfl, rfl⟩
  unfold errV
  go_wp2
  go_ret
  exact ⟨rfl, rfl⟩
theorem write_loads {wx : World} {i rb X P len cap : Nat} (x : StAt w B st m a b n gl bs sg) (hi : sg i = some c) (hr : c.ro = some rb) (h : Loads st m c.g rb X P len cap w.drew) (F : Foot (MemS a b) w.drew wx) : Loads st m c.g rb X P len cap wx := by
  have C := x.cel i c hi
  obtain ⟨_, cur, hrr⟩ := C.ro_is rb hr
  refine ⟨(F.cell _ (lt_of_cell h.1) ?_).trans h.1, (F.cell _ (lt_of_cell h.2.1) ?_).trans h.2.1, (F.cell _ (lt_of_cell h.2.2) ?_).trans h.2.2⟩
  · rintro (h | h)
    · exact tyne x.box x.mem.giv (by decide) h
    · exact tyne x.box x.mem.byt (by decide) h
  · rintro (h | h)
    · exact tyne C.box x.mem.giv (by decide) h
    · exact tyne C.box x.mem.byt (by decide) h
  · rintro (h | h)
    · exact tyne hrr x.mem.giv (by decide) h
    · exact tyne hrr x.mem.byt (by decide) h
/- what Write leaves -/
def WrEnd (w : World) (B st m a b n : Nat) (gl : List Bool) (bs : List UInt8) (sg : Nat → Option Cel) (c : Cel) (i p : Nat) (l : List UInt8) (w' : World) : Prop :=
  ∃ bs', StAt w' B st m a b n gl bs' sg ∧ cont bs' c.pgs c.size = splice (cont bs c.pgs c.size) p l ∧ (∀ j e, j ≠ i → sg j = some e → cont bs' e.pgs e.size = cont bs e.pgs e.size) ∧ Keep (StP B) w w'
theorem WrEnd.drewN {i p : Nat} {l : List UInt8} (h : WrEnd w B st m a b n gl bs sg c i p l w') (q : Nat) : WrEnd w B st m a b n gl bs sg c i p l (w'.drewN q) := by
  obtain ⟨bs', x, h1, h2, k⟩ := h; exact ⟨bs', x.grow (below_drewN (Below.refl _ _) q), h1, h2, k.drewN q⟩
def WrRel (w : World) (B st m a b n : Nat) (gl : List Bool) (bs : List UInt8) (sg : Nat → Option Cel) (c : Cel) (i p : Nat) (l : List UInt8) (sn gk : Nat) (va vb : Value) (wr : World) : Prop :=
  ∃ (q : Nat) (ao : Option Addr) (cap : Nat), q + gk = sn ∧ va = .int .i64 ((p + q : Nat) : Int) ∧ vb = .slice ao gk cap ∧ Hid (Bts wr ao gk cap (l.drop q)) ∧ Hid (0 < gk → Off B wr ao) ∧ Hid (WrEnd w B st m a b n gl bs sg c i p (l.take q) wr)
set_option maxRecDepth 20000 in
set_option maxHeartbeats 1600000 in
theorem swrite_yes (i p : Nat) (so : Option Addr) (sn sc : Nat) (l : List UInt8) (w : World) (x : StAt w B st m a b n gl bs sg) (hi : sg i = some c) (hb : Bts w so sn sc l) (ho : 0 < sn → Off B w so) (hn : p + sn ≤ c.size) :
    Calls Tryd.prog 14 #[.pointer (some ⟨st, 0, none⟩), .int .i64 (i : Int), .int .i64 (p : Int), .slice so sn sc] w fun e w' => e = .returned .nilIface ∧ WrEnd w B st m a b n gl bs sg c i p l w' := by
  have H := hide x
  have HI := hide hi
  have HC := hide (x.cel i c hi)
  have HN := hide hn
  have HB := hide hb
  have HOF := hide ho
  have c1 := HC.out.c1
  have hcap : c.cap ≤ 9223372036854775807 := HC.out.few.2
  have hpc : c.pgs.length ≤ c.cap := HC.out.few.1
  have hsz := x.good.most i c hi
  have hl4 : c.pgs.length ≤ 4096 := by rw [x.good.num i c hi]; unfold need; omega
  have HNUM := hide (x.good.num i c hi)
  have HSN := hide hb.1
  have hp2 : p + sn ≤ 262144 := by omega
  have hsc : sc ≤ 9223372036854775807 := hb.2.2.1
  obtain ⟨len, hlen⟩ : ∃ len, c.pgs.length = len := ⟨_, rfl⟩
  have HLEN := hide hlen
  rw [hlen] at c1 hpc hl4
  obtain ⟨ao, hao⟩ : ∃ ao, c.at = ao := ⟨_, rfl⟩
  rw [hao] at c1
  have HAO := hide hao
  have hn4 : n ≤ 4096 := x.mem.few
  clear x hi hlen hao hn hsz hb ho
  go_enter Tryd.func14, Tryd.ntmps14
  go_wp2_with fail
  refine (piece_yes i c p sn _ H.out HI.out HN.out).mono ?_; rintro e w1 ⟨rfl, rfl⟩
  go_wp2_with fail
  go_loopg [2, 3] sn (fun gk va vb wr => WrRel w1 B st m a b n gl bs sg c i p l sn gk va vb wr)
  case atStart => exact ⟨0, so, sc, by omega, rfl, rfl, HB, HOF, bs, H.out, by rw [List.take_zero, splice_nil], fun _ _ _ _ => rfl, Keep.refl _ _⟩
  case round =>
    obtain ⟨q, bo, bcap, hq, rfl, rfl, HBr, HOr, HE⟩ := hrel
    have hbc : bcap ≤ 9223372036854775807 := HBr.out.2.2.1
    have hbg : gk ≤ bcap := HBr.out.2.1
    cases gk with
    | zero =>
      obtain rfl : q = sn := by omega
      have hlt : ¬ ((0 : Int) < 0) := by omega
      have HE2 : Hid (WrEnd w1 B st m a b n gl bs sg c i p l wr) := by
        have := HE.out
        rw [List.take_of_length_le (by rw [← HSN.out]; omega)] at this
        exact this
      go_wp2
      go_ret
      exact ⟨rfl, HE2.out⟩
    | succ g1 =>
      have hlt : (0 : Int) < ((g1 + 1 : Nat) : Int) := by omega
      obtain ⟨s, hs⟩ : ∃ s, p + q = s := ⟨_, rfl⟩
      rw [hs]
      obtain ⟨r, hr⟩ : ∃ r, g1 + 1 = r := ⟨_, rfl⟩
      rw [hr] at hlt hq hbg HBr HOr ⊢
      obtain ⟨t, ht⟩ : ∃ t, inPage s r = t := ⟨_, rfl⟩
      have HT := hide ht
      obtain ⟨X, hX⟩ : ∃ X, s / 64 = X := ⟨_, rfl⟩
      obtain ⟨o, ho⟩ : ∃ o, s % 64 = o := ⟨_, rfl⟩
      have ht1 : 1 ≤ t ∧ t ≤ r ∧ o + t ≤ 64 := by rw [← ht, ← ho]; unfold inPage; omega
      have hX1 : (s : Int) / 64 = (X : Int) := by rw [← hX]; omega
      have hX2 : (s : Int).tdiv 64 = (X : Int) := by rw [← hX]; rfl
      have ho1 : (s : Int) % 64 = (o : Int) := by rw [← ho]; omega
      have ho2 : (s : Int).tmod 64 = (o : Int) := by rw [← ho]; rfl
      have hXs : X * 64 + o = s := by omega
      have hXl : X < c.pgs.length := by rw [HNUM.out]; unfold need; have := HN.out; omega
      have hXl2 : X < len := by rw [← HLEN.out]; exact hXl
      have hin := HN.out
      clear ht hX ho
      obtain ⟨bs2, S2, hct, hoth, K2⟩ := HE.out
      have r0 := S2.c0
      have CC := S2.cel i c HI.out
      have r1 := CC.c1
      rw [HLEN.out, HAO.out] at r1
      obtain ⟨rb, hrb, hcell, _, _⟩ := CC.page X hXl
      obtain ⟨P, hP⟩ : ∃ P, c.pgs.getD X 0 = P := ⟨_, rfl⟩
      rw [hP] at hcell
      have hat : ao = some ⟨rb, 0, none⟩ := by rw [← HAO.out, Cel.at, hrb]; rfl
      have hgv := H.out.good.giv i c HI.out X hXl
      rw [hP] at hgv
      have HGV := hide hgv
      have hPn : P < n := hgv.1
      have HP := hide hP
      have HS2 := hide S2
      have HCT := hide hct
      have HOT := hide hoth
      have HK2 := hide K2
      have HXL := hide hXl
      have HRB := hide hrb
      clear hP hrb hgv hXl S2 hct hoth K2 CC
      subst hat
      have hcut := cut_head wr bo r bcap t (by omega)
      have hcut1 : ∀ W : World, (Instr.slice 28 (.slice bo r bcap) none (some (.int .i64 (t : Int))) none).run Tryd.prog W = .ok (.slice bo t bcap) W := fun W => cut_head W bo r bcap t (by omega)
      have hcut2 : ∀ W : World, (Instr.slice 28 (.slice bo r bcap) (some (.int .i64 (t : Int))) none none).run Tryd.prog W = .ok (.slice (tailA bo t bcap) (r - t) (bcap - t)) W := fun W => cut_tail W bo r bcap t (by omega)
      obtain ⟨ta, hta⟩ : ∃ x, tailA bo t bcap = x := ⟨_, rfl⟩
      rw [hta] at hcut2
      have HTA := hide hta
      clear hta hcut
      go_wp2_with fail
      refine (within_any s r _).mono ?_; rintro e w2 ⟨rfl, rfl⟩
      rw [HT.out]
      have hXi : (X : Int) < (len : Int) := by omega
      have hX0 : (0 : Int) ≤ (X : Int) := by omega
      have hw1 : IntKind.i64.wrap (X : Int) = (X : Int) := by rw [IntKind.wrap_i64]; omega
      have hw2 : IntKind.i64.wrap (o : Int) = (o : Int) := by rw [IntKind.wrap_i64]; omega
      have hL : Hid (Loads st m c.g rb X P len c.cap w2.drew) := ⟨r0, r1, hcell⟩
      have hS : Hid (MemAt w2.drew m a b n gl bs2) := HS2.out.mem.drewN 1
      have hBB : Hid (Bts w2.drew bo t bcap ((l.drop q).take t)) := (HBr.out.head t ht1.2.1).drewN 1
      go_wp2_with fail
      go_region_held (fun W => W.cell? ⟨st, 0, none⟩ = some (.pointer (some ⟨m, 0, none⟩)) ∧ W.cell? ⟨c.g, 1, none⟩ = some (.slice (some ⟨rb, 0, none⟩) len c.cap) ∧ W.cell? ⟨rb, X, none⟩ = some (.int .i64 (P : Int))) (exact hL.out) (first | (go_at_call 28; refine (write_yes m a b n P o gl bs2 bo t bcap _ _ hS.out hPn HGV.out.2 hBB.out ht1.2.2).mono ?_; rintro e wx ⟨rfl, Mx, Fx⟩; have HMx := hide Mx; have HFx := hide Fx; have hL := hide (write_loads HS2.out HI.out HRB.out hL.out HFx.out); clear Mx Fx))
      have HW : Hid (WrEnd w1 B st m a b n gl bs sg c i p (l.take (q + t)) wx ∧ Keep (StP B) w2 wx) := by
        have hpl : ((l.drop q).take t).length = t := hBB.out.1.symm
        obtain ⟨G3, hc3, ho3⟩ := HS2.out.good.lay HS2.out.mem.len i c HI.out X o ((l.drop q).take t) (by rw [hpl]; exact ht1.2.2) (by rw [hpl]; omega) HXL.out
        rw [HP.out] at G3 hc3 ho3
        obtain ⟨S3, K3⟩ := (HS2.out.grow (below_drewN (Below.refl _ _) 1)).remem HFx.out HMx.out G3
        have KK : Keep (StP B) w2 wx := (((Keep.refl (StP B) w2).drewN 1)).then K3
        refine ⟨⟨_, S3, ?_, fun j e hj h => by rw [ho3 j e hj h]; exact HOT.out j e hj h, HK2.out.then KK⟩, KK⟩
        rw [hc3, HCT.out, hXs, ← hs]
        exact splice_more _ l p q t (by rw [cont_len, ← HSN.out]; exact hin) (by rw [← HSN.out]; omega)
      have HB3 : Hid (Bts wx ta (r - t) (bcap - t) (l.drop (q + t))) := by
        have := (HBr.out.tail t ht1.2.1)
        rw [HTA.out, List.drop_drop] at this
        refine this.keep HW.out.2 fun ad o e ho => ?_
        have := (HOr.out (by omega)).tail t bcap
        rw [HTA.out] at this
        exact this ad o e ho
      have HO3 : Hid (0 < r - t → Off B wx ta) := fun _ => by
        have := (HOr.out (by omega)).tail t bcap
        rw [HTA.out] at this
        refine this.keep HW.out.2 fun ad e => ?_
        obtain ⟨a0, e0, e1⟩ := tailA_block (HTA.out.trans e)
        rw [e1]
        have := lt_of_cell (HBr.out.2.2.2.2 a0 e0 0 (by rw [← HBr.out.1]; omega))
        rw [add_block] at this; exact this
      have hst : (s : Int) + (t : Int) = ((p + (q + t) : Nat) : Int) := by omega
      have hrt : ((r - t : Nat) : Int) = (r : Int) - (t : Int) := by omega
      have hbt : bcap - t ≤ 9223372036854775807 := by omega
      clear hL hS hBB HMx HFx r0 r1 hcell hcut1 hXi hX0 hw1 hw2
      go_wp2_with fail
      go_quiet (fail)
      go_wp2
      go_roundg (r - t)
      case measure => omega
      case rel => exact ⟨q + t, ta, bcap - t, by omega, by go_num, rfl, HB3.out.drewN _, HO3.out, HW.out.1.drewN _⟩
end Go.Proofs.YtppdammgmnihgaaDoor
