/-
  What Grow and Delete answer of a store of segments, and all deeds told by the segments' bytes, as contracts.
-/
import Derived.Test.YtppdammgmnihgaaDoorSDeeds
namespace Go.Proofs.YtppdammgmnihgaaDoor
open Go.RowKit
variable {w w' : World} {B st m a b n : Nat} {gl : List Bool} {bs : List UInt8} {c : Cel} {sg : Nat → Option Cel} {L : Nat → Option (List UInt8)}
set_option maxHeartbeats 800000 in
theorem grow_none (id size : Int) (w : World) (x : StAt w B st m a b n gl bs sg) (hn : pickF sg id = none) :
    Calls Tryd.prog 16 #[.pointer (some ⟨st, 0, none⟩), .int .i64 id, .int .i64 size] w fun e w' => e = .returned (errV 12) ∧ w' = w := by
  have H := hide x
  have HN := hide hn
  clear x hn
  unfold errV
  go_enter Tryd.func16, Tryd.ntmps16
  go_wp2_with fail
  refine (find_no id _ H.out HN.out).mono ?_; rintro e w1 ⟨rfl, rfl⟩
  unfold errV
  go_wp2
  go_ret
  exact ⟨rfl, rfl⟩
set_option maxHeartbeats 800000 in
theorem grow_arg (i : Nat) (size : Int) (w : World) (x : StAt w B st m a b n gl bs sg) (hi : sg i = some c) (hs : size < (c.size : Int) ∨ 262144 < size) :
    Calls Tryd.prog 16 #[.pointer (some ⟨st, 0, none⟩), .int .i64 (i : Int), .int .i64 size] w fun e w' => e = .returned (errV 4) ∧ w' = w := by
  have H := hide x
  have HI := hide hi
  have c0 := (x.cel i c hi).c0
  obtain ⟨z, hz⟩ : ∃ z, c.size = z := ⟨_, rfl⟩
  rw [hz] at c0 hs
  clear x hi hz
  unfold errV
  by_cases h0 : size < (z : Int)
  · clear hs
    go_enter Tryd.func16, Tryd.ntmps16
    go_wp2_with fail
    refine (find_yes i c _ H.out HI.out).mono ?_; rintro e w1 ⟨rfl, rfl⟩
    go_wp2
    go_ret
    exact ⟨rfl, rfl⟩
  · have h1 : 262144 < size := by omega
    clear hs
    go_enter Tryd.func16, Tryd.ntmps16
    go_wp2_with fail
    refine (find_yes i c _ H.out HI.out).mono ?_; rintro e w1 ⟨rfl, rfl⟩
    go_wp2
    go_ret
    exact ⟨rfl, rfl⟩
set_option maxHeartbeats 800000 in
theorem grow_mem (i size k : Nat) (w : World) (x : StAt w B st m a b n gl bs sg) (hi : sg i = some c) (hs : c.size ≤ size) (hm : size ≤ 262144) (hk : c.pgs.length + k = need size) (hl : leftF gl < k) :
    Calls Tryd.prog 16 #[.pointer (some ⟨st, 0, none⟩), .int .i64 (i : Int), .int .i64 (size : Int)] w fun e w' => e = .returned (errV 6) ∧ w' = w := by
  have H := hide x
  have HI := hide hi
  have HC := hide (x.cel i c hi)
  have c0 := (x.cel i c hi).c0
  have HK := hide hk
  have HL := hide hl
  obtain ⟨z, hz⟩ : ∃ z, c.size = z := ⟨_, rfl⟩
  rw [hz] at c0 hs
  clear x hi hz hk hl
  unfold errV
  have h0 : ¬ ((size : Int) < (z : Int)) := by omega
  go_enter Tryd.func16, Tryd.ntmps16
  go_wp2_with fail
  refine (find_yes i c _ H.out HI.out).mono ?_; rintro e w1 ⟨rfl, rfl⟩
  go_wp2_with fail
  refine (extend_no size k _ H.out.box H.out.mem HC.out hm HK.out HL.out).mono ?_; rintro e w2 ⟨rfl, rfl⟩
  unfold errV
  go_wp2
  go_ret
  exact ⟨rfl, rfl⟩
def GroEnd (w : World) (B st m a b n : Nat) (gl : List Bool) (bs : List UInt8) (sg : Nat → Option Cel) (c : Cel) (i size k : Nat) (w' : World) : Prop :=
  ∃ d, StAt w' B st m a b n (takeG gl k) bs (upd sg i (some d)) ∧ cont bs d.pgs d.size = cont bs c.pgs c.size ++ zeros (size - c.size) ∧ Keep (StP B) w w'
set_option maxHeartbeats 800000 in
theorem grow_yes (i size k : Nat) (w : World) (x : StAt w B st m a b n gl bs sg) (hB : B ≤ w.heap.size) (hi : sg i = some c) (hs : c.size ≤ size) (hm : size ≤ 262144) (hk : c.pgs.length + k = need size) (hl : k ≤ leftF gl) :
    Calls Tryd.prog 16 #[.pointer (some ⟨st, 0, none⟩), .int .i64 (i : Int), .int .i64 (size : Int)] w fun e w' => e = .returned .nilIface ∧ GroEnd w B st m a b n gl bs sg c i size k w' := by
  have H := hide x
  have HI := hide hi
  have HC := hide (x.cel i c hi)
  have c0 := (x.cel i c hi).c0
  have HK := hide hk
  have HL := hide hl
  have HS := hide hs
  obtain ⟨z, hz⟩ : ∃ z, c.size = z := ⟨_, rfl⟩
  rw [hz] at c0 hs
  clear x hi hz hk hl
  have h0 : ¬ ((size : Int) < (z : Int)) := by omega
  go_enter Tryd.func16, Tryd.ntmps16
  go_wp2_with fail
  refine (find_yes i c _ H.out HI.out).mono ?_; rintro e w1 ⟨rfl, rfl⟩
  go_wp2_with fail
  refine (extend_yes size k _ H.out.box H.out.mem HC.out hB hm HK.out HL.out).mono ?_; rintro e w2 ⟨rfl, E2⟩
  have HE : Hid (GroEnd w1 B st m a b n gl bs sg c i size k w2) := by
    obtain ⟨d, D⟩ := H.out.ext (H.out.good.top i c HI.out) (St.base H.out HI.out) HC.out HS.out hm HK.out HL.out E2
    refine ⟨d, D.st w2 ?_ (Foot.refl _ _), D.cont, D.keep⟩
    rw [boxS_same m sg i c d HI.out D.g]; exact D.box
  clear E2
  go_wp2
  go_ret
  exact ⟨rfl, HE.out⟩
set_option maxHeartbeats 800000 in
theorem delete_none (id : Int) (w : World) (x : StAt w B st m a b n gl bs sg) (hn : pickF sg id = none) :
    Calls Tryd.prog 15 #[.pointer (some ⟨st, 0, none⟩), .int .i64 id] w fun e w' => e = .returned (errV 12) ∧ w' = w := by
  have H := hide x
  have HN := hide hn
  clear x hn
  unfold errV
  go_enter Tryd.func15, Tryd.ntmps15
  go_wp2_with fail
  refine (find_no id _ H.out HN.out).mono ?_; rintro e w1 ⟨rfl, rfl⟩
  unfold errV
  go_wp2
  go_ret
  exact ⟨rfl, rfl⟩
def DelEnd (w : World) (B st m a b n : Nat) (gl : List Bool) (bs : List UInt8) (sg : Nat → Option Cel) (c : Cel) (i : Nat) (w' : World) : Prop :=
  StAt w' B st m a b n (backG gl c.pgs c.pgs.length) (backB bs c.pgs c.pgs.length) (upd sg i none) ∧ (∀ j e, j ≠ i → sg j = some e → cont (backB bs c.pgs c.pgs.length) e.pgs e.size = cont bs e.pgs e.size) ∧ Keep (StP B) w w'
theorem StAt.del {w2 : World} {i : Nat} (x : StAt w B st m a b n gl bs sg) (hi : sg i = some c) (F : Foot (MemS a b) w w2) (M : MemAt w2 m a b n (backG gl c.pgs c.pgs.length) (backB bs c.pgs c.pgs.length)) : DelEnd w B st m a b n gl bs sg c i (w2.setCell ⟨st, 1 + i, none⟩ (.pointer none)) := by
  obtain ⟨G, hc⟩ := x.good.del x.mem.num x.mem.len i c hi
  have hne : ¬ MemS a b st := by
    rintro (h | h)
    · exact tyne x.box x.mem.giv (by decide) h
    · exact tyne x.box x.mem.byt (by decide) h
  have hbox : w2.heap[st]? = some (.cells (boxS m sg) 58 (0, 0)) := (F.block _ (lt_of_heap x.box) hne).trans x.box
  have F3 := foot_set w2 ⟨st, 1 + i, none⟩ (.pointer none)
  have M3 : MemAt (w2.setCell ⟨st, 1 + i, none⟩ (.pointer none)) m a b n (backG gl c.pgs c.pgs.length) (backB bs c.pgs c.pgs.length) := M.off F3 fun q o hq ho => by
    rw [hq] at ho; rw [show w2.heap[st]? = _ from hbox] at ho; cases ho; exact ⟨_, _, _, rfl, by decide, by decide, by decide⟩
  have cel3 : ∀ d, CelAt w2 B d → CelAt (w2.setCell ⟨st, 1 + i, none⟩ (.pointer none)) B d := fun d D => D.keep (foot_keep F3) (fun _ h => tyne D.box hbox (by decide) h) (fun r _ e h => by obtain ⟨_, cur, hr⟩ := D.ro_is r e; exact tyne hr hbox (by decide) h)
  have pick : ∀ j e, upd sg i none j = some e → (j ≠ i ∧ sg j = some e) := by
    intro j e h
    by_cases hj : j = i
    · subst hj; rw [upd_same] at h; cases h
    · rw [upd_other _ _ _ _ hj] at h; exact ⟨hj, h⟩
  refine ⟨⟨box_set hbox i none, M3, fun j e h => cel3 _ ((x.cel j e (pick j e h).2).memS x.mem F), fun j e j' e' h h' => x.gs j e j' e' (pick j e h).2 (pick j' e' h').2, fun j e j' e' r h h' => x.rs j e j' e' r (pick j e h).2 (pick j' e' h').2, x.hst, x.ha, x.hb, G⟩, hc, ?_⟩
  refine (keep_foot F fun q o ho hp hS => ?_).then (keep_foot F3 fun q o ho hp hS => ?_)
  · have ty : B ≤ q ∧ StoreTy o := by
      rcases hS with rfl | rfl
      · rw [x.mem.giv] at ho; cases ho; exact ⟨x.ha, .inr (.inr (.inl rfl))⟩
      · rw [x.mem.byt] at ho; cases ho; exact ⟨x.hb, .inr (.inr (.inr (.inl rfl)))⟩
    rcases hp with hp | hp
    · omega
    · exact hp ty.2
  · rw [hS] at ho; rw [show w2.heap[st]? = _ from hbox] at ho; cases ho
    rcases hp with hp | hp
    · have := x.hst; rw [hS] at hp; exact absurd this (by simpa using hp)
    · exact hp (.inl rfl)
def DelRel (w : World) (m a b n : Nat) (gl : List Bool) (bs : List UInt8) (c : Cel) (K gk : Nat) (i : Value) (wr : World) : Prop :=
  ∃ q : Nat, q + gk = K ∧ i = .int .i64 q ∧ Hid (MemAt wr m a b n (backG gl c.pgs q) (backB bs c.pgs q)) ∧ Hid (Foot (MemS a b) w wr)
set_option maxRecDepth 20000 in
set_option maxHeartbeats 1600000 in
theorem delete_yes (i : Nat) (w : World) (x : StAt w B st m a b n gl bs sg) (hi : sg i = some c) :
    Calls Tryd.prog 15 #[.pointer (some ⟨st, 0, none⟩), .int .i64 (i : Int)] w fun e w' => e = .returned .nilIface ∧ DelEnd w B st m a b n gl bs sg c i w' := by
  have H := hide x
  have HI := hide hi
  have HC := hide (x.cel i c hi)
  have s0 := x.c0
  have hi64 := x.good.top i c hi
  have c1 := HC.out.c1
  have hcap : c.cap ≤ 9223372036854775807 := HC.out.few.2
  have hpc : c.pgs.length ≤ c.cap := HC.out.few.1
  have hl4 : c.pgs.length ≤ 4096 := by rw [x.good.num i c hi]; have := x.good.most i c hi; unfold need; omega
  obtain ⟨len, hlen⟩ : ∃ len, c.pgs.length = len := ⟨_, rfl⟩
  have HLEN := hide hlen
  have hne : Hid (¬ MemS a b st) := by
    rintro (h | h)
    · exact tyne x.box x.mem.giv (by decide) h
    · exact tyne x.box x.mem.byt (by decide) h
  rw [hlen] at c1 hpc hl4
  obtain ⟨ao, hao⟩ : ∃ ao, c.at = ao := ⟨_, rfl⟩
  rw [hao] at c1
  have HAO := hide hao
  clear x hi hlen hao
  go_enter Tryd.func15, Tryd.ntmps15
  go_wp2_with fail
  refine (find_yes i c _ H.out HI.out).mono ?_; rintro e w1 ⟨rfl, rfl⟩
  go_wp2_with fail
  go_loopg [23] len (fun gk i wr => DelRel w1 m a b n gl bs c len gk i wr)
  case atStart => exact ⟨0, by omega, rfl, H.out.mem, Foot.refl _ _⟩
  case round =>
    obtain ⟨q, hq, rfl, HM, HF⟩ := hrel
    cases gk with
    | zero =>
      obtain rfl : q = len := by omega
      have hlt : ¬ ((q : Int) < (q : Int)) := by omega
      have hbox : wr.heap[st]? = some (.cells (boxS m sg) 58 (0, 0)) := (HF.out.block _ (lt_of_heap H.out.box) hne.out).trans H.out.box
      have z1 : wr.frozen? ⟨st, 1 + i, none⟩ = false := frozen_of_row wr st _ _ _ hbox
      have k1 : wr.cell? ⟨st, 1 + i, none⟩ = some (.pointer (some ⟨c.g, 0, none⟩)) := by
        rw [cell_of_row wr st (1 + i) _ _ _ hbox]
        simp [boxS, ptrs, Nat.add_comm 1 i, List.getElem?_range hi64, HI.out, ptr]
      have HE : Hid (DelEnd w1 B st m a b n gl bs sg c i (wr.setCell ⟨st, 1 + i, none⟩ (.pointer none))) := by
        refine H.out.del HI.out HF.out ?_
        rw [HLEN.out]; exact HM.out
      clear hbox
      go_wp2
      go_ret
      exact ⟨rfl, HE.out⟩
    | succ g1 =>
      have hlt : ((q : Int) < (len : Int)) := by omega
      have hql : q < c.pgs.length := by rw [HLEN.out]; omega
      have r0 : wr.cell? ⟨st, 0, none⟩ = some (.pointer (some ⟨m, 0, none⟩)) := (HF.out.cell ⟨st, 0, none⟩ (lt_of_heap H.out.box) hne.out).trans s0
      obtain ⟨r, hr, hcell, _, _⟩ := (HC.out.memS H.out.mem HF.out).page q hql
      obtain ⟨p, hp⟩ : ∃ p, c.pgs.getD q 0 = p := ⟨_, rfl⟩
      rw [hp] at hcell
      have hgv := H.out.good.giv i c HI.out q hql
      rw [hp] at hgv
      have HP := hide hp
      have hpn : p < n := hgv.1
      have hn4 : n ≤ 4096 := H.out.mem.few
      have HG : Hid ((backG gl c.pgs q).getD p true = true) := by
        show _ = _
        rw [backG_other gl c.pgs q p (fun y hy e => by have := (H.out.good.one i c i c HI.out HI.out y q (by omega) hql (by rw [e, hp])).2; omega)]; exact hgv.2
      have hat : ao = some ⟨r, 0, none⟩ := by rw [← HAO.out, Cel.at, hr]; rfl
      clear hp hr hgv hql
      subst hat
      go_wp2_with fail
      refine (free_yes m a b n p _ _ _ HM.out hpn HG.out).mono ?_; rintro e w4 ⟨rfl, M4, F4⟩
      have HM4 : Hid (MemAt w4 m a b n (backG gl c.pgs (q + 1)) (backB bs c.pgs (q + 1))) := by show MemAt _ _ _ _ _ _ _; rw [backG, backB, HP.out]; exact M4
      have HF4 := hide (HF.out.then F4)
      clear M4 F4
      go_wp2
      go_roundg g1
      case measure => omega
      case rel => exact ⟨q + 1, by omega, by go_num, HM4, HF4⟩
end Go.Proofs.YtppdammgmnihgaaDoor
