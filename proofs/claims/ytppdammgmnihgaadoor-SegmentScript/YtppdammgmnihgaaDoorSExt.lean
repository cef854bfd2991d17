/-
  What extend answers of a segment in a store, as contracts; what became of the world.
-/
import Derived.Test.YtppdammgmnihgaaDoorSCalls
namespace Go.Proofs.YtppdammgmnihgaaDoor
open Go.RowKit
variable {w w' : World} {B st m a b n : Nat} {gl : List Bool} {bs : List UInt8} {c : Cel} {sg : Nat → Option Cel}
theorem Tryd.infoI : (Tryd.prog.info? 3).map (fun i => (i.zero, i.size, i.bytes)) = some (some (.int .i64 0), 1, 8) := by kernel_rfl
theorem leftF_4096 {w : World} (M : MemAt w m a b n gl bs) : leftF gl ≤ 4096 := by have := leftF_le gl; have := M.num; have := M.few; omega
set_option maxHeartbeats 800000 in
theorem extend_no (size k : Nat) (w : World) (hx : w.heap[st]? = some (.cells (boxS m sg) 58 (0, 0))) (M : MemAt w m a b n gl bs) (C : CelAt w B c) (hs : size ≤ 262144) (hk : c.pgs.length + k = need size) (hl : leftF gl < k) :
    Calls Tryd.prog 27 #[.pointer (some ⟨st, 0, none⟩), .pointer (some ⟨c.g, 0, none⟩), .int .i64 (size : Int)] w fun e w' => e = .returned (errV 6) ∧ w' = w := by
  have H := hide M
  have s0 := box_c0 hx
  have c1 := C.c1
  have hcap : c.cap ≤ 9223372036854775807 := C.few.2
  have hpc : c.pgs.length ≤ c.cap := C.few.1
  have h4 := leftF_4096 M
  obtain ⟨z, hz⟩ : ∃ z, leftF gl = z := ⟨_, rfl⟩
  obtain ⟨len, hlen⟩ : ∃ len, c.pgs.length = len := ⟨_, rfl⟩
  rw [hlen] at c1 hk hpc
  obtain ⟨ao, hao⟩ : ∃ ao, c.at = ao := ⟨_, rfl⟩
  rw [hao] at c1
  rw [hz] at hl h4
  have HZ := hide hz
  have hq : ((size : Int) + 64 - 1) / 64 = ((len + k : Nat) : Int) := by rw [hk]; unfold need; omega
  have hqt : ((size : Int) + 64 - 1).tdiv 64 = ((len + k : Nat) : Int) := by rw [Int.tdiv_eq_ediv_of_nonneg (by omega)]; exact hq
  have hkk : ((len + k : Nat) : Int) - (len : Int) = (k : Int) := by omega
  have hk5 : len + k ≤ 4096 := by rw [hk]; unfold need; omega
  have hgt : ((z : Int) < (k : Int)) := by omega
  clear M hx C hz hlen hao hk
  unfold errV
  go_enter Tryd.func27, Tryd.ntmps27
  go_wp2_with fail
  refine (left_any m a b n gl bs _ H.out).mono ?_; rintro e w1 ⟨rfl, rfl⟩
  rw [HZ.out]
  go_wp2
  go_ret
  exact ⟨rfl, rfl⟩
/- what extend may turn -/
def ExtS (a b : Nat) (c : Cel) (k : Nat) : Prop := k = a ∨ k = b ∨ k = c.g ∨ c.ro = some k
def Cel.more (c : Cel) (ps : List Nat) (ro : Option Nat) (cap : Nat) : Cel := ⟨c.g, c.size, c.pgs ++ ps, ro, cap⟩
def ExtRel (w : World) (B m a b n : Nat) (gl : List Bool) (bs : List UInt8) (c : Cel) (K gk : Nat) (i : Value) (wr : World) : Prop :=
  ∃ (k : Nat) (ro : Option Nat) (cap : Nat), k + gk = K ∧ i = .int .i64 k ∧ Hid (MemAt wr m a b n (takeG gl k) bs) ∧ Hid (CelAt wr B (c.more (takeP gl k) ro cap)) ∧ Hid (ro = c.ro ∨ ∃ r, ro = some r ∧ w.heap.size ≤ r) ∧ Hid (Foot (ExtS a b c) w wr)
/- what extend leaves -/
def ExtEnd (w : World) (B m a b n : Nat) (gl : List Bool) (bs : List UInt8) (c : Cel) (size k : Nat) (w' : World) : Prop :=
  ∃ ro cap, MemAt w' m a b n (takeG gl k) bs ∧ CelAt w' B ⟨c.g, size, c.pgs ++ takeP gl k, ro, cap⟩ ∧ (ro = c.ro ∨ ∃ r, ro = some r ∧ w.heap.size ≤ r) ∧ Foot (ExtS a b c) w w'
theorem ext_ne (M : MemAt w m a b n gl bs) (C : CelAt w B c) (hx : w.heap[st]? = some (.cells (boxS m sg) 58 (0, 0))) : ¬ ExtS a b c st := by
  rintro (h | h | h | h)
  · exact tyne hx M.giv (by decide) h
  · exact tyne hx M.byt (by decide) h
  · exact tyne hx C.box (by decide) h
  · obtain ⟨_, cur, hr⟩ := C.ro_is st h; exact tyne hx hr (by decide) rfl
theorem ext_nem (M : MemAt w m a b n gl bs) (C : CelAt w B c) : ¬ ExtS a b c m := by
  rintro (h | h | h | h)
  · exact M.ma h
  · exact M.mb h
  · exact tyne M.box C.box (by decide) h
  · obtain ⟨_, cur, hr⟩ := C.ro_is m h; exact tyne M.box hr (by decide) rfl
theorem foot_grown {w w' : World} {row : Option Nat} (h : w.grownBy w' row) : Foot (fun k => row = some k) w w' := ⟨h.os, h.tape, h.output, h.size, fun k hk hn => h.block k hk fun e => hn e.symm⟩
theorem foot_keep {S : Nat → Prop} (f : Foot S w w') : Keep (fun k _ => ¬ S k) w w' := keep_foot f fun _ _ _ h => h
theorem MemAt.off {S : Nat → Prop} (x : MemAt w m a b n gl bs) (f : Foot S w w') (hS : ∀ k o, S k → w.heap[k]? = some o → ∃ cs t z, o = .cells cs t z ∧ t ≠ 77 ∧ t ≠ 4 ∧ t ≠ 80) : MemAt w' m a b n gl bs :=
  x.foot f (fun h => by obtain ⟨_, _, _, e, h1, _⟩ := hS _ _ h x.box; cases e; exact h1 rfl) (fun h => by obtain ⟨_, _, _, e, _, h1, _⟩ := hS _ _ h x.giv; cases e; exact h1 rfl) (fun h => by obtain ⟨_, _, _, e, _, _, h1⟩ := hS _ _ h x.byt; cases e; exact h1 rfl)
/- a page's number is laid behind those of a segment -/
theorem ext_round {w4 w6 : World} {d : Cel} {p : Nat} {v' : Value} (M : MemAt w4 m a b n gl bs) (C : CelAt w4 B d) (hown : w6.ownsRow B 3 1 v' (d.pgs.length + 1) (numsV d.pgs ++ [.int .i64 (p : Int)])) (hgrow : (w4.alloc (.cells #[.int .i64 (p : Int)] 3)).grownBy w6 d.ro) (hat : v'.ownBlock = d.ro ∨ v'.ownBlock = some (w4.alloc (.cells #[.int .i64 (p : Int)] 3)).heap.size) :
    ∃ g' cap', v' = .slice (some ⟨g', 0, none⟩) (d.pgs.length + 1) cap' ∧ MemAt (w6.setCell ⟨d.g, 1, none⟩ v') m a b n gl bs ∧ CelAt (w6.setCell ⟨d.g, 1, none⟩ v') B (d.more [p] (some g') cap') ∧ (d.ro = some g' ∨ w4.heap.size ≤ g') ∧ Foot (fun k => k = d.g ∨ d.ro = some k) w4 (w6.setCell ⟨d.g, 1, none⟩ v') ∧ w6.cell? ⟨d.g, 1, none⟩ = some (.slice d.at d.pgs.length d.cap) ∧ w6.frozen? ⟨d.g, 1, none⟩ = false := by
  have F6 : Foot (fun k => d.ro = some k) w4 w6 := (foot_alloc _ _ _).then (foot_grown hgrow)
  have hne : d.ro ≠ some d.g := fun e => by obtain ⟨_, cur, hr⟩ := C.ro_is _ e; exact tyne C.box hr (by decide) rfl
  have hbx : w6.heap[d.g]? = some (.cells #[.int .i64 (d.size : Int), d.sl] 67 (0, 0)) := (F6.block _ (lt_of_heap C.box) hne).trans C.box
  have FF : Foot (fun k => k = d.g ∨ d.ro = some k) w4 (w6.setCell ⟨d.g, 1, none⟩ v') := (F6.mono fun _ e => .inr e).then ((foot_set w6 ⟨d.g, 1, none⟩ v').mono fun _ e => .inl e)
  rcases hown.2 with ⟨_, e⟩ | ⟨g', cap', cur, rfl, hb, hg, hl, hm, h1, h2⟩
  · omega
  · have hgg : g' ≠ d.g := tyne hg hbx (by decide)
    refine ⟨g', cap', rfl, ?_, ⟨?_, ?_, C.low⟩, ?_, FF, ?_, ?_⟩
    · refine M.off FF fun k o hk ho => ?_
      rcases hk with rfl | hk
      · rw [C.box] at ho; cases ho; exact ⟨_, _, _, rfl, by decide, by decide, by decide⟩
      · obtain ⟨_, cur2, hr⟩ := C.ro_is k hk; rw [hr] at ho; cases ho; exact ⟨_, _, _, rfl, by decide, by decide, by decide⟩
    · rw [show (d.more [p] (some g') cap').g = d.g from rfl, heap_setCell_same w6 d.g 1 _ 67 _ hbx]
      simp [Cel.more, Cel.sl, Cel.at]
    · have e1 : (d.more [p] (some g') cap').sl = .slice (some ⟨g', 0, none⟩) (d.pgs.length + 1) cap' := by simp [Cel.more, Cel.sl, Cel.at]
      have e2 : (d.more [p] (some g') cap').pgs.length = d.pgs.length + 1 := by simp [Cel.more]
      rw [e1, e2, show numsV (d.more [p] (some g') cap').pgs = numsV d.pgs ++ [.int .i64 (p : Int)] from numsV_append _ _]
      exact ⟨hown.1, .inr ⟨g', cap', cur, rfl, hb, by rw [heap_setCell_other _ _ _ _ hgg]; exact hg, hl, hm, h1, h2⟩⟩
    · rcases hat with h | h
      · exact .inl (by rw [← h]; rfl)
      · have := Option.some.inj h
        exact .inr (by rw [show g' = (w4.alloc (.cells #[.int .i64 (p : Int)] 3)).heap.size from this, size_alloc]; omega)
    · rw [cell_of_row w6 d.g 1 _ _ _ hbx]; rfl
    · exact frozen_of_row w6 d.g 1 _ _ hbx
theorem CelAt.sized (x : CelAt w B c) (size : Nat) : CelAt (w.setCell ⟨c.g, 0, none⟩ (.int .i64 (size : Int))) B ⟨c.g, size, c.pgs, c.ro, c.cap⟩ := by
  refine ⟨?_, ?_, x.low⟩
  · rw [heap_setCell_same w c.g 0 _ 67 _ x.box]; simp [Cel.sl, Cel.at]
  · refine ownsRow_keep (foot_keep (foot_set w ⟨c.g, 0, none⟩ _)) x.row fun r cs _ e => ?_
    rw [Cel.own] at e
    change c.ro = some r at e
    obtain ⟨_, cur, hr⟩ := x.ro_is r e
    exact tyne hr x.box (by decide)
theorem CelAt.memS (x : CelAt w B c) (M : MemAt w m a b n gl bs) (f : Foot (MemS a b) w w') : CelAt w' B c := by
  refine x.keep (foot_keep f) (fun _ h => ?_) (fun r _ e h => ?_)
  · rcases h with h | h
    · exact tyne x.box M.giv (by decide) h
    · exact tyne x.box M.byt (by decide) h
  · obtain ⟨_, cur, hr⟩ := x.ro_is r e
    rcases h with h | h
    · exact tyne hr M.giv (by decide) h
    · exact tyne hr M.byt (by decide) h
set_option maxRecDepth 20000 in
set_option maxHeartbeats 1600000 in
theorem extend_yes (size k : Nat) (w : World) (hx : w.heap[st]? = some (.cells (boxS m sg) 58 (0, 0))) (M : MemAt w m a b n gl bs) (C : CelAt w B c) (hB : B ≤ w.heap.size) (hs : size ≤ 262144) (hk : c.pgs.length + k = need size) (hl : k ≤ leftF gl) :
    Calls Tryd.prog 27 #[.pointer (some ⟨st, 0, none⟩), .pointer (some ⟨c.g, 0, none⟩), .int .i64 (size : Int)] w fun e w' =>
      e = .returned .nilIface ∧ ExtEnd w B m a b n gl bs c size k w' := by
  have H := hide M
  have HC := hide C
  have HX := hide hx
  have s0 := box_c0 hx
  have c1 := C.c1
  have hcap : c.cap ≤ 9223372036854775807 := C.few.2
  have hpc : c.pgs.length ≤ c.cap := C.few.1
  have h4 := leftF_4096 M
  have HNE := hide (ext_ne M C hx)
  have HNM := hide (ext_nem M C)
  obtain ⟨z, hz⟩ : ∃ z, leftF gl = z := ⟨_, rfl⟩
  obtain ⟨len, hlen⟩ : ∃ len, c.pgs.length = len := ⟨_, rfl⟩
  rw [hlen] at c1 hk hpc
  obtain ⟨ao, hao⟩ : ∃ ao, c.at = ao := ⟨_, rfl⟩
  rw [hao] at c1
  rw [hz] at hl h4
  have HZ := hide hz
  have HLEN := hide hlen
  have hq : ((size : Int) + 64 - 1) / 64 = ((len + k : Nat) : Int) := by rw [hk]; unfold need; omega
  have hqt : ((size : Int) + 64 - 1).tdiv 64 = ((len + k : Nat) : Int) := by rw [Int.tdiv_eq_ediv_of_nonneg (by omega)]; exact hq
  have hkk : ((len + k : Nat) : Int) - (len : Int) = (k : Int) := by omega
  have hk5 : len + k ≤ 4096 := by rw [hk]; unfold need; omega
  have hgt : ¬ ((z : Int) < (k : Int)) := by omega
  clear M hx C hz hlen hao hk
  obtain ⟨i0, hi0, hz0, hz1, hz2⟩ := info_parts Tryd.infoI
  go_enter Tryd.func27, Tryd.ntmps27
  go_wp2_with fail
  refine (left_any m a b n gl bs _ H.out).mono ?_; rintro e w1 ⟨rfl, rfl⟩
  rw [HZ.out]
  go_wp2_with fail
  go_loopg [29] k (fun gk i wr => ExtRel w1 B m a b n gl bs c k gk i wr)
  case atStart => exact ⟨0, c.ro, c.cap, by omega, rfl, H, by show CelAt _ _ _; rw [show c.more (takeP gl 0) c.ro c.cap = c by simp [Cel.more, takeP]]; exact HC.out, .inl rfl, Foot.refl _ _⟩
  case round =>
    obtain ⟨q, ro, cap, hqk, rfl, HM, HCr, HR, HF⟩ := hrel
    cases gk with
    | zero =>
      obtain rfl : q = k := by omega
      have hlt : ¬ ((q : Int) < (q : Int)) := by omega
      have z0 := HCr.out.z 0
      have k0 := HCr.out.c0
      rw [show (c.more (takeP gl q) ro cap).g = c.g from rfl] at z0 k0
      have HE : Hid (CelAt (wr.setCell ⟨c.g, 0, none⟩ (.int .i64 (size : Int))) B ⟨c.g, size, c.pgs ++ takeP gl q, ro, cap⟩) := HCr.out.sized size
      have HME : Hid (MemAt (wr.setCell ⟨c.g, 0, none⟩ (.int .i64 (size : Int))) m a b n (takeG gl q) bs) := HM.out.off (foot_set _ _ _) fun x o hx ho => by
        rw [hx] at ho; rw [show (wr.heap[c.g]?) = _ from HCr.out.box] at ho; cases ho; exact ⟨_, _, _, rfl, by decide, by decide, by decide⟩
      have HFE : Hid (Foot (ExtS a b c) w1 (wr.setCell ⟨c.g, 0, none⟩ (.int .i64 (size : Int)))) := HF.out.then ((foot_set _ _ _).mono fun _ e => .inr (.inr (.inl e)))
      go_wp2
      go_ret
      exact ⟨rfl, ro, cap, HME.out, HE.out, HR.out, HFE.out⟩
    | succ g1 =>
      have hlt : ((q : Int) < (k : Int)) := by omega
      have r0 : wr.cell? ⟨st, 0, none⟩ = some (.pointer (some ⟨m, 0, none⟩)) := (HF.out.cell ⟨st, 0, none⟩ (lt_of_heap HX.out) HNE.out).trans s0
      obtain ⟨p, hp⟩ : ∃ p, lowF (takeG gl q) = p := ⟨_, rfl⟩
      have HP := hide hp
      have hpn : p < n := by rw [← hp, ← H.out.num]; exact takeG_low gl q (by rw [HZ.out]; omega)
      have hn4 : n ≤ 4096 := H.out.few
      clear hp
      go_wp2_with fail
      refine (alloc_yes m a b n p _ bs _ HM.out HP.out hpn).mono ?_; rintro e w4 ⟨rfl, M4, F4⟩
      have C4 := HCr.out.memS HM.out F4
      obtain ⟨d, hd⟩ : ∃ d, c.more (takeP gl q) ro cap = d := ⟨_, rfl⟩
      rw [hd] at C4
      have hdg : d.g = c.g := by rw [← hd]; rfl
      have hdl : d.pgs.length = len + q := by rw [← hd, ← HLEN.out]; simp [Cel.more, takeP_len]
      have d1 := C4.c1
      have dcap : d.cap ≤ 9223372036854775807 := C4.few.2
      have dfew : len + q ≤ d.cap := by rw [← hdl]; exact C4.few.1
      have HD := hide hd
      have HM4 := hide M4
      have HC4 := hide C4
      have HF4 := hide (HF.out.then (F4.mono fun _ e => by rcases e with e | e; exact .inl e; exact .inr (.inl e)))
      have hs4 : B ≤ w4.heap.size := Nat.le_trans hB HF4.out.size
      obtain ⟨dat, hdat⟩ : ∃ x, d.at = x := ⟨_, rfl⟩
      obtain ⟨dl, hdll⟩ : ∃ x, d.pgs.length = x := ⟨_, rfl⟩
      rw [hdat, hdll] at d1
      rw [hdg] at d1
      have hdl' : dl = len + q := by rw [← hdll]; exact hdl
      have HDL := hide hdll
      have HDG := hide hdg
      have HDT := hide hdat
      have HSL : Hid (d.sl = .slice dat dl d.cap) := by show _ = _; rw [Cel.sl, hdat, hdll]
      have hdl4 : dl + 1 ≤ 4097 := by omega
      clear M4 C4 F4 hd hdg hdl hdll hdat dfew hdl'
      obtain ⟨dc, hdc⟩ : ∃ x, d.cap = x := ⟨_, rfl⟩
      rw [hdc] at d1 dcap HSL
      have HDC := hide hdc
      clear hdc
      go_wp2_with (at_builtin; refine wpList_append_own_at _ rfl _ _ 65 rfl B 3 i0 (.int .i64 0) 1 8 Tryd.underlying65 hi0 hz0 hz1 hz2 rfl (by decide) (.slice dat dl dc) dl (numsV d.pgs) rfl ?c1 ⟨w4.heap.size, 0, none⟩ 1 1 [.int .i64 (p : Int)] rfl rfl ?c2 ?c3 (by unfold maxLen; omega) (by omega) ?c5 ?_)
      case c1 => rw [← HSL.out, ← HDL.out]; exact (HC4.out.keep (keep_below (fun _ _ => True) (below_alloc w4 _)) (fun _ => trivial) fun _ _ _ => trivial).row
      case c2 =>
        intro j u hj
        cases j with
        | zero => cases hj; rw [add0, cell_of_row _ w4.heap.size 0 _ _ _ (heap_alloc_new _ _)]; rfl
        | succ j => simp at hj
      case c3 => intro u hu; obtain rfl := List.mem_singleton.1 hu; rfl
      case c5 => rw [size_alloc]; omega
      intro v' w6 hown hgrow _ hat
      rw [← HSL.out, Cel.own] at hgrow hat
      rw [← HDL.out] at hown
      obtain ⟨g', cap', rfl, M7, C7, hro, F7, k1, z1⟩ := ext_round HM4.out HC4.out hown hgrow (by rw [size_alloc]; exact hat)
      have hdro : d.ro = ro := by rw [← HD.out]; rfl
      have HF7 : Hid (Foot (ExtS a b c) w1 (w6.setCell ⟨d.g, 1, none⟩ (.slice (some ⟨g', 0, none⟩) (d.pgs.length + 1) cap'))) := HF4.out.trans F7 fun j hj => by
        rcases hj with hj | hj
        · exact .inl (.inr (.inr (.inl (by rw [hj, HDG.out]))))
        · rw [hdro] at hj
          rcases HR.out with hr | ⟨r, hr, hr2⟩
          · exact .inl (.inr (.inr (.inr (by rw [← hr]; exact hj))))
          · rw [hj] at hr; cases hr; exact .inr hr2
      have HR7 : Hid (some g' = c.ro ∨ ∃ r, some g' = some r ∧ w1.heap.size ≤ r) := by
        rcases hro with h | h
        · rw [hdro] at h; rw [← h]; exact HR.out
        · exact .inr ⟨g', rfl, Nat.le_trans HF4.out.size h⟩
      have HM7 := hide M7
      have HC7 : Hid (CelAt (w6.setCell ⟨d.g, 1, none⟩ (.slice (some ⟨g', 0, none⟩) (d.pgs.length + 1) cap')) B (c.more (takeP gl (q + 1)) (some g') cap')) := by
        have e : d.more [p] (some g') cap' = c.more (takeP gl (q + 1)) (some g') cap' := by rw [← HD.out]; simp [Cel.more, takeP, HP.out]
        rw [← e]; exact C7
      rw [HDG.out, HDL.out] at HF7 HM7 HC7
      rw [HDG.out] at k1 z1
      clear hown hgrow hat M7 C7 hro F7 hdro
      rw [HDT.out, HDL.out, HDC.out] at k1
      rw [HDL.out]
      obtain ⟨X, hX⟩ : ∃ X, w6.setCell ⟨c.g, 1, none⟩ (.slice (some ⟨g', 0, none⟩) (dl + 1) cap') = X := ⟨_, rfl⟩
      rw [hX] at HF7 HM7 HC7
      go_wp2
      go_roundg g1
      case measure => omega
      case rel => exact ⟨q + 1, some g', cap', by omega, by go_num, by show MemAt _ _ _ _ _ _ _; rw [takeG, HP.out]; exact HM7.out, HC7, HR7, HF7⟩
end Go.Proofs.YtppdammgmnihgaaDoor
