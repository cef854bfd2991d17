/-
  What Create, Grow and Delete answer of a store of segments, as contracts; what became of the world.
-/
import Derived.Test.YtppdammgmnihgaaDoorSExt
namespace Go.Proofs.YtppdammgmnihgaaDoor
open Go.RowKit
variable {w w' : World} {B st m a b n : Nat} {gl : List Bool} {bs : List UInt8} {c : Cel} {sg : Nat → Option Cel} {L : Nat → Option (List UInt8)}
theorem boxS_same (m : Nat) (sg : Nat → Option Cel) (i : Nat) (c d : Cel) (h : sg i = some c) (hg : d.g = c.g) : boxS m (upd sg i (some d)) = boxS m sg := by
  unfold boxS
  have : ptrs (upd sg i (some d)) = ptrs sg := by
    unfold ptrs
    apply List.map_congr_left
    intro j _
    by_cases e : j = i
    · subst e; rw [upd_same, h]; simp [ptr, hg]
    · rw [upd_other _ _ _ _ e]
  rw [this]
/- what a segment that is new, or is there, has -/
structure Base (B : Nat) (sg : Nat → Option Cel) (i : Nat) (c : Cel) : Prop where
  is : sg i = some c ∨ (sg i = none ∧ c.pgs = [] ∧ c.size = 0)
  ro : sg i = none → c.ro = none
  far : ∀ j d, j ≠ i → sg j = some d → d.g ≠ c.g
  rar : ∀ j d r, j ≠ i → sg j = some d → d.ro = some r → c.ro ≠ some r
/- what stands of a store when a segment was extended, and its number is laid into the store's block -/
structure Extd (w1 w2 : World) (B st m a b n : Nat) (gl : List Bool) (bs : List UInt8) (sg : Nat → Option Cel) (i : Nat) (c d : Cel) (size k : Nat) : Prop where
  g : d.g = c.g
  box : w2.heap[st]? = some (.cells (boxS m sg) 58 (0, 0))
  st : ∀ w3, w3.heap[st]? = some (.cells (boxS m (upd sg i (some d))) 58 (0, 0)) → Foot (fun k => k = st) w2 w3 → StAt w3 B st m a b n (takeG gl k) bs (upd sg i (some d))
  cont : cont bs d.pgs d.size = cont bs c.pgs c.size ++ zeros (size - c.size)
  keep : Keep (StP B) w1 w2
theorem StAt.ext {w1 w2 : World} {size k i : Nat} (x : StAt w1 B st m a b n gl bs sg) (hi : i < 64) (b0 : Base B sg i c) (C : CelAt w1 B c) (hs : c.size ≤ size) (hm : size ≤ 262144) (hk : c.pgs.length + k = need size) (hl : k ≤ leftF gl) (E : ExtEnd w1 B m a b n gl bs c size k w2) : ∃ d, Extd w1 w2 B st m a b n gl bs sg i c d size k := by
  obtain ⟨ro, cap, M2, C2, hro, F⟩ := E
  obtain ⟨G2, hcont⟩ := x.good.grow x.mem.num x.mem.clean i hi c ⟨c.g, size, c.pgs ++ takeP gl k, ro, cap⟩ b0.is hs hm k hk hl rfl
  have hbox : w2.heap[st]? = some (.cells (boxS m sg) 58 (0, 0)) := (F.block _ (lt_of_heap x.box) (ext_ne x.mem C x.box)).trans x.box
  have others : ∀ j d, j ≠ i → sg j = some d → CelAt w2 B d := by
    intro j d hj hd
    have D := x.cel j d hd
    refine D.keep (foot_keep F) (fun _ h => ?_) (fun r _ e h => ?_)
    · rcases h with h | h | h | h
      · exact tyne D.box x.mem.giv (by decide) h
      · exact tyne D.box x.mem.byt (by decide) h
      · exact b0.far j d hj hd h
      · obtain ⟨_, cur, hr⟩ := C.ro_is _ h; exact tyne D.box hr (by decide) rfl
    · obtain ⟨_, cur, hr⟩ := D.ro_is r e
      rcases h with h | h | h | h
      · exact tyne hr x.mem.giv (by decide) h
      · exact tyne hr x.mem.byt (by decide) h
      · exact tyne hr C.box (by decide) h
      · exact b0.rar j d r hj hd e h
  have rofar : ∀ j d r, j ≠ i → sg j = some d → d.ro = some r → ro ≠ some r := by
    intro j d r hj hd e h
    rcases hro with h2 | ⟨r', h2, h3⟩
    · exact b0.rar j d r hj hd e (by rw [← h2]; exact h)
    · rw [h] at h2; cases h2
      obtain ⟨_, cur, hr⟩ := (x.cel j d hd).ro_is r e
      have := lt_of_heap hr; omega
  refine ⟨⟨c.g, size, c.pgs ++ takeP gl k, ro, cap⟩, rfl, hbox, ?_, hcont, ?_⟩
  · intro w3 hb3 F3
    have M3 : MemAt w3 m a b n (takeG gl k) bs := M2.off F3 fun q o hq ho => by
      rw [hq] at ho; rw [hbox] at ho; cases ho; exact ⟨_, _, _, rfl, by decide, by decide, by decide⟩
    have cel3 : ∀ d, CelAt w2 B d → CelAt w3 B d := fun d D => D.keep (foot_keep F3) (fun _ h => tyne D.box hbox (by decide) h) (fun r _ e h => by obtain ⟨_, cur, hr⟩ := D.ro_is r e; exact tyne hr hbox (by decide) h)
    have pick : ∀ j e, upd sg i (some ⟨c.g, size, c.pgs ++ takeP gl k, ro, cap⟩) j = some e → (j = i ∧ e = ⟨c.g, size, c.pgs ++ takeP gl k, ro, cap⟩) ∨ (j ≠ i ∧ sg j = some e) := by
      intro j e h
      by_cases hj : j = i
      · subst hj; rw [upd_same] at h; exact .inl ⟨rfl, (Option.some.inj h).symm⟩
      · rw [upd_other _ _ _ _ hj] at h; exact .inr ⟨hj, h⟩
    refine ⟨hb3, M3, ?_, ?_, ?_, x.hst, x.ha, x.hb, G2⟩
    · intro j e h
      rcases pick j e h with ⟨rfl, rfl⟩ | ⟨hj, h⟩
      · exact cel3 _ C2
      · exact cel3 _ (others j e hj h)
    · intro j e j' e' h h' he
      rcases pick j e h with ⟨rfl, rfl⟩ | ⟨hj, h5⟩
      · rcases pick j' e' h' with ⟨rfl, rfl⟩ | ⟨hj', h'⟩
        · rfl
        · exact absurd he.symm (b0.far j' e' hj' h')
      · rcases pick j' e' h' with ⟨rfl, rfl⟩ | ⟨hj', h'⟩
        · exact absurd he (b0.far j e hj h5)
        · exact x.gs j e j' e' h5 h' he
    · intro j e j' e' r h h' he he'
      rcases pick j e h with ⟨rfl, rfl⟩ | ⟨hj, h5⟩
      · rcases pick j' e' h' with ⟨rfl, rfl⟩ | ⟨hj', h'⟩
        · rfl
        · exact absurd he (rofar j' e' r hj' h' he')
      · rcases pick j' e' h' with ⟨rfl, rfl⟩ | ⟨hj', h'⟩
        · exact absurd he' (rofar j e r hj h5 he)
        · exact x.rs j e j' e' r h5 h' he he'
  · refine keep_foot F fun q o ho hp hS => ?_
    have ty : B ≤ q ∧ StoreTy o := by
      rcases hS with rfl | rfl | rfl | h
      · rw [x.mem.giv] at ho; cases ho; exact ⟨x.ha, .inr (.inr (.inl rfl))⟩
      · rw [x.mem.byt] at ho; cases ho; exact ⟨x.hb, .inr (.inr (.inr (.inl rfl)))⟩
      · rw [C.box] at ho; cases ho; exact ⟨C.low, .inr (.inr (.inr (.inr (.inl rfl))))⟩
      · obtain ⟨h1, cur, hr⟩ := C.ro_is q h; rw [hr] at ho; cases ho; exact ⟨h1, .inr (.inr (.inr (.inr (.inr rfl))))⟩
    rcases hp with hp | hp
    · omega
    · exact hp ty.2
theorem St.base {i : Nat} (x : StAt w B st m a b n gl bs sg) (h : sg i = some c) : Base B sg i c :=
  ⟨.inl h, (fun e => by rw [h] at e; cases e), fun j d hj hd e => hj (x.gs j d i c hd h e), fun j d r hj hd e e2 => hj (x.rs j d i c r hd h e e2)⟩
/- what Create answers -/
def createE (n : Nat) (L : Nat → Option (List UInt8)) (size : Int) : Int := if size < 0 ∨ 262144 < size then 4 else if lowS L = 64 then 5 else if leftL n L < need size.toNat then 6 else 0
set_option maxHeartbeats 800000 in
theorem create_arg (size : Int) (w : World) (hs : size < 0 ∨ 262144 < size) :
    Calls Tryd.prog 13 #[.pointer (some ⟨st, 0, none⟩), .int .i64 size] w fun e w' => e = .returned (.tuple #[.int .i64 0, errV 4]) ∧ w' = w := by
  unfold errV
  by_cases h0 : size < 0
  · clear hs
    go_enter Tryd.func13, Tryd.ntmps13
    go_wp2
    go_ret2
    exact ⟨rfl, rfl⟩
  · have h1 : 262144 < size := by omega
    clear hs
    go_enter Tryd.func13, Tryd.ntmps13
    go_wp2
    go_ret2
    exact ⟨rfl, rfl⟩
theorem cut_all (w : World) (st : Nat) : (Instr.sliceAt 56 (.pointer (some ⟨st, 1, none⟩)) none none none).run Tryd.prog w = .ok (.slice (some ⟨st, 1, none⟩) 64 64) w := by
  have ht : Tryd.prog.underlying 56 = some (.array (Tryd.prog.arrayLen 56) (Tryd.prog.elem 56)) := by simp [Program.arrayLen, Program.elem, Tryd.underlying56]
  have h64 : Tryd.prog.arrayLen 56 = 64 := by simp [Program.arrayLen, Tryd.underlying56]
  have he : Tryd.prog.elem 56 = 55 := by simp [Program.elem, Tryd.underlying56]
  have hz : (sizeOf 55).run Tryd.prog w = .ok 1 w := by kernel_rfl
  rw [run_sliceAt_array_all (P := Tryd.prog) w 56 ⟨st, 1, none⟩ ht, he, hz]
  simp [Result.andThen, slicedAt, h64, addN]
set_option maxRecDepth 20000 in
set_option maxHeartbeats 800000 in
theorem create_full (size : Nat) (w : World) (x : StAt w B st m a b n gl bs sg) (hs : size ≤ 262144) (hl : lowC sg = 64) :
    Calls Tryd.prog 13 #[.pointer (some ⟨st, 0, none⟩), .int .i64 (size : Int)] w fun e w' => e = .returned (.tuple #[.int .i64 0, errV 5]) ∧ w' = w := by
  have H := hide x
  have HL := hide (show (if lowC sg < 64 then (lowC sg : Int) else -1) = -1 from if_neg (by omega))
  have hcut := cut_all w st
  clear x hl
  unfold errV
  go_enter Tryd.func13, Tryd.ntmps13
  go_wp2_with fail
  refine (sindex_any _ H.out).mono ?_; rintro e w1 ⟨rfl, rfl⟩
  rw [HL.out]
  go_wp2
  go_ret2
  exact ⟨rfl, rfl⟩
/- a segment that was made just now -/
def newCel (w : World) : Cel := ⟨w.heap.size, 0, [], none, 0⟩
theorem newCel_at (w : World) (hB : B ≤ w.heap.size) : CelAt (w.alloc (.cells #[.int .i64 0, .slice none 0 0] 67)) B (newCel w) :=
  ⟨heap_alloc_new _ _, World.ownsRow_nil _ _ _ _, hB⟩
set_option maxRecDepth 20000 in
set_option maxHeartbeats 800000 in
theorem create_mem (size : Nat) (w : World) (x : StAt w B st m a b n gl bs sg) (hB : B ≤ w.heap.size) (hs : size ≤ 262144) (hl : lowC sg < 64) (hk : leftF gl < need size) :
    Calls Tryd.prog 13 #[.pointer (some ⟨st, 0, none⟩), .int .i64 (size : Int)] w fun e w' => e = .returned (.tuple #[.int .i64 0, errV 6]) ∧ Below w.heap.size w w' := by
  obtain ⟨i, hi⟩ : ∃ i, lowC sg = i := ⟨_, rfl⟩
  have H := hide x
  have HL := hide (show (if lowC sg < 64 then (lowC sg : Int) else -1) = (i : Int) by rw [if_pos hl, hi])
  have HK := hide hk
  have hcut := cut_all w st
  have hi64 : i < 64 := by omega
  have X1 := hide (x.grow (below_alloc w (.cells #[.int .i64 0, .slice none 0 0] 67)))
  have C1 := hide (newCel_at (B := B) w hB)
  clear x hl hk hi
  unfold errV
  go_enter Tryd.func13, Tryd.ntmps13
  go_wp2_with fail
  refine (sindex_any _ H.out).mono ?_; rintro e w1 ⟨rfl, rfl⟩
  rw [HL.out]
  go_wp2_with fail
  refine (extend_no size (need size) _ X1.out.box X1.out.mem C1.out hs (Nat.zero_add _) HK.out).mono ?_; rintro e w2 ⟨rfl, rfl⟩
  unfold errV
  go_wp2
  go_ret2
  exact ⟨rfl, below_alloc _ _⟩
def CreEnd (w : World) (B st m a b n : Nat) (gl : List Bool) (bs : List UInt8) (sg : Nat → Option Cel) (i size : Nat) (w' : World) : Prop :=
  ∃ d, StAt w' B st m a b n (takeG gl (need size)) bs (upd sg i (some d)) ∧ cont bs d.pgs d.size = zeros size ∧ Keep (StP B) w w'
set_option maxRecDepth 20000 in
set_option maxHeartbeats 1600000 in
theorem create_yes (size i : Nat) (w : World) (x : StAt w B st m a b n gl bs sg) (hB : B ≤ w.heap.size) (hs : size ≤ 262144) (hl : lowC sg = i) (h64 : i < 64) (hn : sg i = none) (hk : need size ≤ leftF gl) :
    Calls Tryd.prog 13 #[.pointer (some ⟨st, 0, none⟩), .int .i64 (size : Int)] w fun e w' => e = .returned (.tuple #[.int .i64 (i : Int), .nilIface]) ∧ CreEnd w B st m a b n gl bs sg i size w' := by
  have H := hide x
  have HL := hide (show (if lowC sg < 64 then (lowC sg : Int) else -1) = (i : Int) by rw [hl, if_pos h64])
  have HK := hide hk
  have HN := hide hn
  have hcut := cut_all w st
  have X1 := hide (x.grow (below_alloc w (.cells #[.int .i64 0, .slice none 0 0] 67)))
  have C1 := hide (newCel_at (B := B) w hB)
  have hg : (newCel w).g = w.heap.size := rfl
  clear x hl hk hn
  go_enter Tryd.func13, Tryd.ntmps13
  go_wp2_with fail
  refine (sindex_any _ H.out).mono ?_; rintro e w1 ⟨rfl, rfl⟩
  rw [HL.out]
  go_wp2_with fail
  refine (extend_yes size (need size) _ X1.out.box X1.out.mem C1.out (by rw [size_alloc]; omega) hs (Nat.zero_add _) HK.out).mono ?_; rintro e w2 ⟨rfl, E2⟩
  have b0 : Base B sg i (newCel w1) := ⟨.inr ⟨HN.out, rfl, rfl⟩, fun _ => rfl, fun j d _ hd e => by
    have := lt_of_heap (H.out.cel j d hd).box; rw [e] at this; exact Nat.lt_irrefl _ this, fun _ _ _ _ _ _ e => by cases e⟩
  obtain ⟨d, D⟩ := X1.out.ext h64 b0 C1.out (Nat.zero_le _) hs (Nat.zero_add _) HK.out E2
  have hbox := D.box
  have z1 : w2.frozen? ⟨st, 1 + i, none⟩ = false := frozen_of_row w2 st _ _ _ hbox
  have k1 : w2.cell? ⟨st, 1 + i, none⟩ = some (.pointer none) := by
    rw [cell_of_row w2 st (1 + i) _ _ _ hbox]
    simp [boxS, ptrs, Nat.add_comm 1 i, List.getElem?_range h64, HN.out, ptr]
  have HE : Hid (CreEnd w1 B st m a b n gl bs sg i size (w2.setCell ⟨st, 1 + i, none⟩ (.pointer (some ⟨w1.heap.size, 0, none⟩)))) := by
    have hp : ptr (some d) = .pointer (some ⟨w1.heap.size, 0, none⟩) := by simp [ptr, D.g, newCel]
    have hb3 := box_set hbox i (some d)
    rw [hp] at hb3
    refine ⟨d, D.st _ hb3 (foot_set w2 ⟨st, 1 + i, none⟩ _), ?_, ?_⟩
    · rw [D.cont]; rfl
    · refine (keep_below _ (below_alloc _ _)).then (D.keep.then (keep_foot (foot_set w2 ⟨st, 1 + i, none⟩ _) fun q o ho hP e => ?_))
      rw [e] at ho
      rw [show w2.heap[st]? = _ from hbox] at ho
      cases ho
      rcases hP with hP | hP
      · have := H.out.hst; rw [e] at hP; exact absurd this (by simpa using hP)
      · exact hP (.inl rfl)
  clear E2 b0 D hbox
  go_wp2
  go_ret2
  exact ⟨rfl, HE.out⟩
end Go.Proofs.YtppdammgmnihgaaDoor
