/-
  The walk of MatchPorts.
-/
import Derived.Test.YtfjchchjdjjepaaJSame
import Derived.Test.YtfjchchjdjjepaaJSeq
import Derived.Test.YtfjchchjdjjepaaJMsg
namespace Go.Proofs.Ytfjchchjdjjepaa
open Go.RowKit
/- the same message to another port -/
def Ms.to (x : Ms) (b : Int) : Ms := ⟨b, x.rp, x.id, x.op, x.st, x.p, x.o, x.r, x.c, x.ar, x.so, x.sn, x.sc, x.l⟩
theorem BoxM.put0 {w : World} {g : Nat} {x : Ms} (h : BoxM w g x) (b : Int) : BoxM (w.setCell ⟨g, 0, none⟩ (.int .u64 b)) g (x.to b) := by
  unfold BoxM
  rw [heap_setCell_same w g 0 _ _ _ h]; rfl
set_option maxRecDepth 20000 in
set_option maxHeartbeats 6400000 in
theorem walk_ports (a b : Int) (p : Ms) (w : World) (hp : p.has w) (hs : p.sn ≤ 140737488351232) :
    Calls Try.prog 5 #[.int .u64 a, .int .u64 b, .agg #[.int .u64 p.ta, .int .u64 p.rp, .int .u32 p.id, .int .u16 p.op, .int .u16 p.st, .int .u64 p.p, .int .u32 p.o, .int .u8 p.r, .int .u64 p.c, .int .u64 p.ar, .slice p.so p.sn p.sc]] w fun e w' => e = .returned (.bool true) ∧ Below w.heap.size w w' := by
  obtain ⟨X0, hX0⟩ : ∃ X, w.alloc (.cells #[.int .u64 p.ta, .int .u64 p.rp, .int .u32 p.id, .int .u16 p.op, .int .u16 p.st, .int .u64 p.p, .int .u32 p.o, .int .u8 p.r, .int .u64 p.c, .int .u64 p.ar, .slice p.so p.sn p.sc] 35) = X := ⟨_, rfl⟩
  have HB0 : Hid (Below w.heap.size w X0) := hX0 ▸ below_alloc w _
  have HBX0 : Hid (BoxM X0 w.heap.size p) := hX0 ▸ boxM_new w p
  have HP := hide hp
  obtain ⟨S, hSd⟩ : ∃ S : Nat → Prop, (fun k => k = w.heap.size) = S := ⟨_, rfl⟩
  have HSK : Hid (∀ k, S k ↔ k = w.heap.size) := fun k => by rw [← hSd]
  have HM : Hid ((p.to b).sn ≤ 140737488355328) := by show p.sn ≤ _; omega
  have HOF : Hid (OffO (fun k => w.heap.size ≤ k) (p.to b).sn (p.to b).so) := fun hn ad e x => by have := Bts.lt hp hn ad e; omega
  clear hp hSd
  go_enter Try.func5, Try.ntmps5
  go_wp2_with fail
  refine (awake_any _).mono ?_; rintro e W ⟨rfl, b1⟩
  obtain ⟨X, hX⟩ : ∃ X, W.alloc (.cells #[.slice none 0 0, .slice none 0 0] 28) = X := ⟨_, rfl⟩
  have bX : Below W.heap.size W X := hX ▸ below_alloc W _
  obtain ⟨g, hg⟩ : ∃ g, W.heap.size = g := ⟨_, rfl⟩
  have HST : Hid (St X g S [] []) := by
    show St _ _ _ _ _
    rw [← hX, ← hg]; exact st_new W S
  have HBX1 := hide ((HBX0.out.grow b1).grow bX)
  have HG : Hid (w.heap.size < g) := by
    have := lt_of_heap HBX0.out
    have := b1.size
    show _ < _
    omega
  have HB1 := hide (below_one HB0.out (below_one b1 bX))
  have HSX : Hid (∀ k, S k → k < X.heap.size) := fun k h => by rw [(HSK.out k).1 h]; exact lt_of_heap HBX1.out
  clear b1 bX hX0
  go_wp2_with fail
  refine (get_wait a 1 _ HST.out HSX.out rfl rfl (by decide)).mono ?_; rintro e w1 ⟨rfl, E1⟩
  have bz := below_alloc w1 (.cells #[.int .u64 0, .int .u64 0, .int .u32 0, .int .u16 0, .int .u16 0, .int .u64 0, .int .u32 0, .int .u8 0, .int .u64 0, .int .u64 0, .slice none 0 0] 35)
  have hb1 := foot_on HB1.out (Nat.le_of_lt HG.out) E1.2
  have hx1 : BoxM w1 w.heap.size p := HBX1.out.foot E1.2 (by have := HG.out; omega)
  obtain ⟨Z, hZ⟩ : ∃ Z, w1.alloc (.cells #[.int .u64 0, .int .u64 0, .int .u32 0, .int .u16 0, .int .u16 0, .int .u64 0, .int .u32 0, .int .u8 0, .int .u64 0, .int .u64 0, .slice none 0 0] 35) = Z := ⟨_, rfl⟩
  rw [hZ] at bz
  have hxz := hx1.grow bz
  obtain ⟨V, hV⟩ : ∃ V, Z.setCell ⟨w.heap.size, 0, none⟩ (.int .u64 b) = V := ⟨_, rfl⟩
  have fV : Foot (fun k => k = w.heap.size) Z V := hV ▸ foot_set Z ⟨w.heap.size, 0, none⟩ _
  have hxv : BoxM V w.heap.size (p.to b) := hV ▸ hxz.put0 b
  have hbz := below_one hb1 bz
  have hsz : Z.heap.size ≤ V.heap.size := fV.size
  have HSV : Hid (St V g S [⟨a, 1⟩] []) := (show St Z g S [⟨a, 1⟩] [] from E1.1.grow bz).part fV (fun k h => (HSK.out k).2 h) (by have := HG.out; omega)
  have HBV : Hid (Below w.heap.size w V) := hbz.trans (fV.below hbz.size (fun k e => by omega))
  have HPV : Hid ((p.to b).has V) := Bts.footN (Bts.carry HP.out hbz) fV (fun hn ad e => by have := Bts.lt HP.out hn ad e; omega)
  have HXV := hide hxv
  have HSL : Hid (∀ k, S k → k < V.heap.size) := fun k h => by rw [(HSK.out k).1 h]; exact lt_of_heap hxv
  rw [← hZ] at hV hxz
  have y0 := hxz.all.1
  have z0 := hxz.z 0
  obtain ⟨k0, k1, k2, k3, k4, k5, k6, k7, k8, k9, k10⟩ := hxv.all
  clear E1 bz hb1 hx1 hxz hxv hbz hsz fV hZ
  obtain ⟨p', hp'⟩ : ∃ p', p.to b = p' := ⟨_, rfl⟩
  have hta : p'.ta = b := by rw [← hp']; rfl
  rw [hp'] at HM HOF HXV HPV k0 k1 k2 k3 k4 k5 k6 k7 k8 k9 k10
  have HTA := hide hta
  clear hp' hta
  by_cases hab : a = b
  · subst hab
    go_wp2_with fail
    refine (offer_hit p' 0 _ HSV.out HSL.out (first_head _ _ _ _ (by rw [HTA.out]; exact isP_self _ _))).mono ?_; rintro e w2 ⟨rfl, E2⟩
    have HB2 := hide (foot_on HBV.out (Nat.le_of_lt HG.out) E2.2)
    rw [show (([⟨a, 1⟩] : List Wt).getD 0 Wt.zero).t = 1 from rfl]
    clear E2
    go_wp2
    go_ret
    exact ⟨rfl, HB2.out⟩
  · go_wp2_with fail
    refine (offer_wait p' _ HSV.out HSL.out HPV.out HM.out (by rw [HTA.out]; show (isP b ⟨a, 1⟩ || false) = false; unfold isP; simp [hab]) (by decide)).mono ?_; rintro e w2 ⟨rfl, E2⟩
    have HB2 := hide (foot_on HBV.out (Nat.le_of_lt HG.out) E2.2)
    have HS2 := hide (show St w2 g S [⟨a, 1⟩] [p'.nm] from E2.1)
    have hx2 : BoxM w2 w.heap.size p' := HXV.out.foot E2.2 (by have := HG.out; omega)
    have HX2 := hide hx2
    have HSL2 : Hid (∀ k, S k → k < w2.heap.size) := fun k h => by rw [(HSK.out k).1 h]; exact lt_of_heap hx2
    have HP2 : Hid (p'.has w2) := Bts.footN HPV.out E2.2 (fun hn ad e x => HOF.out hn ad e (by have := HG.out; omega))
    clear E2 hx2 y0 z0 k0 k1 k2 k3 k4 k5 k6 k7 k8 k9 k10
    go_wp2_with fail
    refine (get_hit b 2 0 _ HS2.out HSL2.out rfl (first_head _ _ _ _ (by show isTo b p'.nm = true; unfold isTo; show (p'.ta == b) = true; rw [HTA.out]; simp))).mono ?_; rintro e w3 ⟨q, rfl, hq, hqh, _, E3⟩
    have hb3 := foot_on HB2.out (Nat.le_of_lt HG.out) E3.2
    obtain ⟨Y, hY⟩ : ∃ Y, w3.alloc (.cells #[.int .u64 q.ta, .int .u64 q.rp, .int .u32 q.id, .int .u16 q.op, .int .u16 q.st, .int .u64 q.p, .int .u32 q.o, .int .u8 q.r, .int .u64 q.c, .int .u64 q.ar, .slice q.so q.sn q.sc] 35) = Y := ⟨_, rfl⟩
    have bY : Below w3.heap.size w3 Y := hY ▸ below_alloc w3 _
    have hbq : BoxM Y w3.heap.size q := hY ▸ boxM_new w3 q
    have hbp : BoxM Y w.heap.size p' := (HX2.out.foot E3.2 (by have := HG.out; omega)).grow bY
    have HS3 := hide ((show St w3 g S [⟨a, 1⟩] [] from E3.1).grow bY)
    have HB3 := hide (below_one hb3 bY)
    have HQ3 := hide (Bts.carry hqh bY)
    have HP3 : Hid (p'.has Y) := Bts.carry (Bts.footN HP2.out E3.2 (fun hn ad e x => HOF.out hn ad e (by have := HG.out; omega))) bY
    have HQN : Hid (q.nm = p'.nm) := hq
    obtain ⟨q0, q1, q2, q3, q4, q5, q6, q7, q8, q9, q10⟩ := hbq.all
    obtain ⟨k0, k1, k2, k3, k4, k5, k6, k7, k8, k9, k10⟩ := hbp.all
    clear E3 bY hbq hbp hq hqh hb3
    go_wp2_with fail
    refine (same_yes q p' _ HQ3.out HP3.out HQN.out).mono ?_; rintro e w4 ⟨rfl, b4⟩
    have HS4 := hide (HS3.out.grow b4)
    have HB4 := hide (below_one HB3.out b4)
    clear b4 q0 q1 q2 q3 q4 q5 q6 q7 q8 q9 q10 k0 k1 k2 k3 k4 k5 k6 k7 k8 k9 k10
    go_wp2_with fail
    refine (waits_any 1 _ HS4.out).mono ?_; rintro e w5 ⟨rfl, b5⟩
    rw [show waitsF [⟨a, 1⟩] 1 = true from rfl]
    have HS5 := hide (HS4.out.grow b5)
    have HB5 := hide (below_one HB4.out b5)
    clear b5
    go_wp2_with fail
    refine (waits_any 2 _ HS5.out).mono ?_; rintro e w6 ⟨rfl, b6⟩
    rw [show waitsF [⟨a, 1⟩] 2 = false from rfl]
    have HB6 := hide (below_one HB5.out b6)
    clear b6
    go_wp2
    go_ret
    exact ⟨rfl, HB6.out⟩
end Go.Proofs.Ytfjchchjdjjepaa
