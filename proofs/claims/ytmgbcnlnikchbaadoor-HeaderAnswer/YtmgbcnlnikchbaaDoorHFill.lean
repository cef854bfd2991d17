/-
  Two messages' variables, made and laid in whatever order: what is there behind it.
-/
import Derived.Test.YtmgbcnlnikchbaaDoorHMake
namespace Go.Proofs.YtmgbcnlnikchbaaDoor
open Go.RowKit
def fillM (w : World) (g : Nat) (m : Msg) (D : Value) : World :=
  ((((((((((w.setCell ⟨g, 0, none⟩ (.int .u64 m.ta)).setCell ⟨g, 1, none⟩ (.int .u64 m.rp)).setCell ⟨g, 2, none⟩ (.int .u32 m.id)).setCell ⟨g, 3, none⟩ (.int .u16 m.op)).setCell ⟨g, 4, none⟩ (.int .u16 m.st)).setCell ⟨g, 5, none⟩ (.int .u64 m.p)).setCell ⟨g, 6, none⟩ (.int .u32 m.o)).setCell ⟨g, 7, none⟩ (.int .u8 m.r)).setCell ⟨g, 8, none⟩ (.int .u64 m.c)).setCell ⟨g, 9, none⟩ (.int .u64 m.ar)).setCell ⟨g, 10, none⟩ D
theorem fill_box {w : World} {g : Nat} {m n : Msg} {D E : Value} (h : MBox w g n E) : MBox (fillM w g m D) g m D := by
  obtain ⟨k0, k1, k2, k3, k4, k5, k6, k7, k8, k9, k10⟩ := h
  unfold fillM
  refine ⟨?_, ?_, ?_, ?_, ?_, ?_, ?_, ?_, ?_, ?_, ?_⟩ <;> simp [go_sem, k0, k1, k2, k3, k4, k5, k6, k7, k8, k9, k10]
theorem fill_far {w : World} {g b : Nat} {m n : Msg} {D E : Value} (h : MBox w g n E) (hne : b ≠ g) : MBox (fillM w b m D) g n E :=
  ((((((((((h.setFar hne _).setFar hne _).setFar hne _).setFar hne _).setFar hne _).setFar hne _).setFar hne _).setFar hne _).setFar hne _).setFar hne _).setFar hne _
theorem Bts.set' {w : World} {ao : Option Addr} {n cap : Nat} {l : List UInt8} (h : Bts w ao n cap l) (p : Addr) (v : Value) (hp : ∀ ad, ao = some ad → l ≠ [] → ad.block ≠ p.block) : Bts (w.setCell p v) ao n cap l := by
  by_cases hl : l = []
  · subst hl; exact ⟨h.1, h.2.1, h.2.2.1, h.2.2.2.1, fun ad e j hj => by simp at hj⟩
  · exact h.set p v (fun ad e => hp ad e hl)
theorem fill_bts {w : World} {g : Nat} {m : Msg} {D : Value} {ao : Option Addr} {n cap : Nat} {l : List UInt8} (h : Bts w ao n cap l) (hp : ∀ ad, ao = some ad → l ≠ [] → ad.block ≠ g) : Bts (fillM w g m D) ao n cap l :=
  ((((((((((h.set' _ _ hp).set' _ _ hp).set' _ _ hp).set' _ _ hp).set' _ _ hp).set' _ _ hp).set' _ _ hp).set' _ _ hp).set' _ _ hp).set' _ _ hp).set' _ _ hp
theorem fill_below {B : Nat} {a w : World} {g : Nat} {m : Msg} {D : Value} (h : Below B a w) (hg : B ≤ g) : Below B a (fillM w g m D) :=
  ((((((((((h.setCell hg _).setCell hg _).setCell hg _).setCell hg _).setCell hg _).setCell hg _).setCell hg _).setCell hg _).setCell hg _).setCell hg _).setCell hg _
theorem fill_size (w : World) (g : Nat) (m : Msg) (D : Value) : (fillM w g m D).heap.size = w.heap.size := by simp [fillM]
/- bytes that were made between two worlds lie in no block that was there before, or came behind -/
theorem apart {W wx : World} {ao : Option Addr} {n cap : Nat} {l : List UInt8} (h : Bts wx ao n cap l) (hn : New W ao) : ∀ g, (g < W.heap.size ∨ wx.heap.size ≤ g) → ∀ ad, ao = some ad → l ≠ [] → ad.block ≠ g := by
  intro g hg ad e hl hb
  have h1 := hn ad e
  have h2 : ad.block < wx.heap.size := by
    have hc := h.2.2.2.2 ad e 0 (List.length_pos_iff.2 hl)
    have := lt_of_cell hc
    have hb' : (ad.add 0).block = ad.block := by unfold Addr.add; split <;> rfl
    rw [hb'] at this; exact this
  omega
def TwoRel (w : World) (m k : Msg) (l r : List UInt8) (nl nr : Nat) (x y : Value) (wx : World) : Prop :=
  ∃ gx gy cx ccx cy ccy, x = .pointer (some ⟨gx, 0, none⟩) ∧ y = .pointer (some ⟨gy, 0, none⟩) ∧ Hid (MBox wx gx m (.slice cx nl ccx)) ∧ Hid (MBox wx gy k (.slice cy nr ccy)) ∧ Hid (Bts wx cx nl ccx l) ∧ Hid (Bts wx cy nr ccy r) ∧ Hid (Below w.heap.size w wx)
theorem rel1 {w w1 wy : World} {m k : Msg} {l r : List UInt8} {nl nr : Nat} {cx cy : Option Addr} {ccx ccy : Nat} (b1 : Below w.heap.size w w1) (bw : Below w1.heap.size w1 wy) (hx : Bts wy cx nl ccx l) (hy : Bts wy cy nr ccy r) :
    TwoRel w m k l r nl nr (.pointer (some ⟨wy.heap.size, 0, none⟩)) (.pointer (some ⟨wy.heap.size + 1, 0, none⟩)) ((wy.alloc (.cells #[.int .u64 m.ta, .int .u64 m.rp, .int .u32 m.id, .int .u16 m.op, .int .u16 m.st, .int .u64 m.p, .int .u32 m.o, .int .u8 m.r, .int .u64 m.c, .int .u64 m.ar, .slice cx nl ccx] 29)).alloc (.cells #[.int .u64 k.ta, .int .u64 k.rp, .int .u32 k.id, .int .u16 k.op, .int .u16 k.st, .int .u64 k.p, .int .u32 k.o, .int .u8 k.r, .int .u64 k.c, .int .u64 k.ar, .slice cy nr ccy] 29)) := by
  have hs : (wy.alloc (.cells #[.int .u64 m.ta, .int .u64 m.rp, .int .u32 m.id, .int .u16 m.op, .int .u16 m.st, .int .u64 m.p, .int .u32 m.o, .int .u8 m.r, .int .u64 m.c, .int .u64 m.ar, .slice cx nl ccx] 29)).heap.size = wy.heap.size + 1 := by simp
  have h2 := mbox_new (wy.alloc (.cells #[.int .u64 m.ta, .int .u64 m.rp, .int .u32 m.id, .int .u16 m.op, .int .u16 m.st, .int .u64 m.p, .int .u32 m.o, .int .u8 m.r, .int .u64 m.c, .int .u64 m.ar, .slice cx nl ccx] 29)) k (.slice cy nr ccy)
  rw [hs] at h2
  have bb := below_one (below_alloc wy (.cells #[.int .u64 m.ta, .int .u64 m.rp, .int .u32 m.id, .int .u16 m.op, .int .u16 m.st, .int .u64 m.p, .int .u32 m.o, .int .u8 m.r, .int .u64 m.c, .int .u64 m.ar, .slice cx nl ccx] 29)) (below_alloc _ (.cells #[.int .u64 k.ta, .int .u64 k.rp, .int .u32 k.id, .int .u16 k.op, .int .u16 k.st, .int .u64 k.p, .int .u32 k.o, .int .u8 k.r, .int .u64 k.c, .int .u64 k.ar, .slice cy nr ccy] 29))
  exact ⟨_, _, cx, ccx, cy, ccy, rfl, rfl, (mbox_new wy m _).carry (below_alloc _ _), h2, hx.carry bb, hy.carry bb, below_one (below_one b1 bw) bb⟩
theorem rel2 {w w1 wy : World} {m k : Msg} {l r : List UInt8} {nl nr : Nat} {cx cy : Option Addr} {ccx ccy : Nat} (b1 : Below w.heap.size w w1) (bw : Below w1.heap.size w1 wy) (hx : Bts wy cx nl ccx l) (hy : Bts wy cy nr ccy r) :
    TwoRel w m k l r nl nr (.pointer (some ⟨wy.heap.size + 1, 0, none⟩)) (.pointer (some ⟨wy.heap.size, 0, none⟩)) ((wy.alloc (.cells #[.int .u64 k.ta, .int .u64 k.rp, .int .u32 k.id, .int .u16 k.op, .int .u16 k.st, .int .u64 k.p, .int .u32 k.o, .int .u8 k.r, .int .u64 k.c, .int .u64 k.ar, .slice cy nr ccy] 29)).alloc (.cells #[.int .u64 m.ta, .int .u64 m.rp, .int .u32 m.id, .int .u16 m.op, .int .u16 m.st, .int .u64 m.p, .int .u32 m.o, .int .u8 m.r, .int .u64 m.c, .int .u64 m.ar, .slice cx nl ccx] 29)) := by
  have hs : (wy.alloc (.cells #[.int .u64 k.ta, .int .u64 k.rp, .int .u32 k.id, .int .u16 k.op, .int .u16 k.st, .int .u64 k.p, .int .u32 k.o, .int .u8 k.r, .int .u64 k.c, .int .u64 k.ar, .slice cy nr ccy] 29)).heap.size = wy.heap.size + 1 := by simp
  have h2 := mbox_new (wy.alloc (.cells #[.int .u64 k.ta, .int .u64 k.rp, .int .u32 k.id, .int .u16 k.op, .int .u16 k.st, .int .u64 k.p, .int .u32 k.o, .int .u8 k.r, .int .u64 k.c, .int .u64 k.ar, .slice cy nr ccy] 29)) m (.slice cx nl ccx)
  rw [hs] at h2
  have bb := below_one (below_alloc wy (.cells #[.int .u64 k.ta, .int .u64 k.rp, .int .u32 k.id, .int .u16 k.op, .int .u16 k.st, .int .u64 k.p, .int .u32 k.o, .int .u8 k.r, .int .u64 k.c, .int .u64 k.ar, .slice cy nr ccy] 29)) (below_alloc _ (.cells #[.int .u64 m.ta, .int .u64 m.rp, .int .u32 m.id, .int .u16 m.op, .int .u16 m.st, .int .u64 m.p, .int .u32 m.o, .int .u8 m.r, .int .u64 m.c, .int .u64 m.ar, .slice cx nl ccx] 29))
  exact ⟨_, _, cx, ccx, cy, ccy, rfl, rfl, h2, (mbox_new wy k _).carry (below_alloc _ _), hx.carry bb, hy.carry bb, below_one (below_one b1 bw) bb⟩
theorem rel3 {w w1 wy : World} {m k : Msg} {l r : List UInt8} {nl nr : Nat} {cx cy : Option Addr} {ccx ccy : Nat} (g : Nat) (b1 : Below w.heap.size w w1) (bw : Below w1.heap.size w1 wy) (hx : Bts wy cx nl ccx l) (hy : Bts wy cy nr ccy r) (hb : MBox wy g Msg.zero (.slice none 0 0)) (hg : w1.heap.size ≤ g)
    (px : ∀ ad, cx = some ad → l ≠ [] → ad.block ≠ g) (py : ∀ ad, cy = some ad → r ≠ [] → ad.block ≠ g) :
    TwoRel w m k l r nl nr (.pointer (some ⟨g, 0, none⟩)) (.pointer (some ⟨wy.heap.size, 0, none⟩)) ((fillM wy g m (.slice cx nl ccx)).alloc (.cells #[.int .u64 k.ta, .int .u64 k.rp, .int .u32 k.id, .int .u16 k.op, .int .u16 k.st, .int .u64 k.p, .int .u32 k.o, .int .u8 k.r, .int .u64 k.c, .int .u64 k.ar, .slice cy nr ccy] 29)) := by
  have h2 := mbox_new (fillM wy g m (.slice cx nl ccx)) k (.slice cy nr ccy)
  rw [fill_size] at h2
  have bb := below_alloc (fillM wy g m (.slice cx nl ccx)) (.cells #[.int .u64 k.ta, .int .u64 k.rp, .int .u32 k.id, .int .u16 k.op, .int .u16 k.st, .int .u64 k.p, .int .u32 k.o, .int .u8 k.r, .int .u64 k.c, .int .u64 k.ar, .slice cy nr ccy] 29)
  exact ⟨_, _, cx, ccx, cy, ccy, rfl, rfl, (fill_box hb).carry bb, h2, (fill_bts hx px).carry bb, (fill_bts hy py).carry bb, below_one (below_one b1 (fill_below bw hg)) bb⟩
theorem rel5 {w w1 wy : World} {m k : Msg} {l r : List UInt8} {nl nr : Nat} {cx cy : Option Addr} {ccx ccy : Nat} (g : Nat) (b1 : Below w.heap.size w w1) (bw : Below w1.heap.size w1 wy) (hx : Bts wy cx nl ccx l) (hy : Bts wy cy nr ccy r) (hb : MBox wy g Msg.zero (.slice none 0 0)) (hg : w1.heap.size ≤ g)
    (px : ∀ ad, cx = some ad → l ≠ [] → ad.block ≠ g) (py : ∀ ad, cy = some ad → r ≠ [] → ad.block ≠ g) :
    TwoRel w m k l r nl nr (.pointer (some ⟨wy.heap.size, 0, none⟩)) (.pointer (some ⟨g, 0, none⟩)) ((fillM wy g k (.slice cy nr ccy)).alloc (.cells #[.int .u64 m.ta, .int .u64 m.rp, .int .u32 m.id, .int .u16 m.op, .int .u16 m.st, .int .u64 m.p, .int .u32 m.o, .int .u8 m.r, .int .u64 m.c, .int .u64 m.ar, .slice cx nl ccx] 29)) := by
  have h2 := mbox_new (fillM wy g k (.slice cy nr ccy)) m (.slice cx nl ccx)
  rw [fill_size] at h2
  have bb := below_alloc (fillM wy g k (.slice cy nr ccy)) (.cells #[.int .u64 m.ta, .int .u64 m.rp, .int .u32 m.id, .int .u16 m.op, .int .u16 m.st, .int .u64 m.p, .int .u32 m.o, .int .u8 m.r, .int .u64 m.c, .int .u64 m.ar, .slice cx nl ccx] 29)
  exact ⟨_, _, cx, ccx, cy, ccy, rfl, rfl, h2, (fill_box hb).carry bb, (fill_bts hx px).carry bb, (fill_bts hy py).carry bb, below_one (below_one b1 (fill_below bw hg)) bb⟩
theorem rel4 {w w1 wy : World} {m k : Msg} {l r : List UInt8} {nl nr : Nat} {cx cy : Option Addr} {ccx ccy : Nat} (g h : Nat) (b1 : Below w.heap.size w w1) (bw : Below w1.heap.size w1 wy) (hx : Bts wy cx nl ccx l) (hy : Bts wy cy nr ccy r) (hb : MBox wy g Msg.zero (.slice none 0 0)) (hc : MBox wy h Msg.zero (.slice none 0 0)) (hne : g ≠ h) (hg : w1.heap.size ≤ g) (hh : w1.heap.size ≤ h)
    (px : ∀ ad, cx = some ad → l ≠ [] → ad.block ≠ g) (py : ∀ ad, cy = some ad → r ≠ [] → ad.block ≠ g) (qx : ∀ ad, cx = some ad → l ≠ [] → ad.block ≠ h) (qy : ∀ ad, cy = some ad → r ≠ [] → ad.block ≠ h) :
    TwoRel w m k l r nl nr (.pointer (some ⟨g, 0, none⟩)) (.pointer (some ⟨h, 0, none⟩)) (fillM (fillM wy g m (.slice cx nl ccx)) h k (.slice cy nr ccy)) :=
  ⟨_, _, cx, ccx, cy, ccy, rfl, rfl, fill_far (fill_box hb) (fun e => hne e.symm), fill_box (fill_far hc hne), fill_bts (fill_bts hx px) qx, fill_bts (fill_bts hy py) qy, below_one b1 (fill_below (fill_below bw hg) hh)⟩
end Go.Proofs.YtmgbcnlnikchbaaDoor
