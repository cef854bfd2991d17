/-
  What the statements' own Make answers of a message, as a contract.
-/
import Derived.Test.YtmgbcnlnikchbaaDoorHSame
import Derived.Deep.RegionWith
import Derived.Deep.CutRange
namespace Go.Proofs.YtmgbcnlnikchbaaDoor
open Go.RowKit
def Msg.made (m : Msg) : Msg := ⟨m.ta % 281474976710656, m.rp % 281474976710656, m.id, m.op, m.st, m.p % 281474976710656, m.o % 16777216, m.r, m.c % 281474976710656, m.ar⟩
theorem Msg.made_good {m : Msg} (h : m.ok) : m.made.good := by
  obtain ⟨o0, o1, o2, o3, o4, o5, o6, o7, o8, o9⟩ := h
  exact ⟨show m.ta % 281474976710656 ≤ _ by omega, show m.rp % 281474976710656 ≤ _ by omega, o2, o3, o4, show m.p % 281474976710656 ≤ _ by omega, show m.o % 16777216 ≤ _ by omega, o7, show m.c % 281474976710656 ≤ _ by omega, o9⟩
theorem make_rel (w : World) (m : Msg) (D : Value) (b c : Obj) : Hid (MBox ((((w.alloc (.cells #[.int .u64 m.ta, .int .u64 m.rp, .int .u32 m.id, .int .u16 m.op, .int .u16 m.st, .int .u64 m.p, .int .u32 m.o, .int .u8 m.r, .int .u64 m.c, .int .u64 m.ar, D] 29)).alloc (.cells #[.int .u64 0, .int .u64 0, .int .u32 0, .int .u16 0, .int .u16 0, .int .u64 0, .int .u32 0, .int .u8 0, .int .u64 0, .int .u64 0, .slice none 0 0] 29)).alloc b).alloc c).drew w.heap.size m D) ∧
    Hid (MFree ((((w.alloc (.cells #[.int .u64 m.ta, .int .u64 m.rp, .int .u32 m.id, .int .u16 m.op, .int .u16 m.st, .int .u64 m.p, .int .u32 m.o, .int .u8 m.r, .int .u64 m.c, .int .u64 m.ar, D] 29)).alloc (.cells #[.int .u64 0, .int .u64 0, .int .u32 0, .int .u16 0, .int .u16 0, .int .u64 0, .int .u32 0, .int .u8 0, .int .u64 0, .int .u64 0, .slice none 0 0] 29)).alloc b).alloc c).drew w.heap.size) ∧
    Hid (MBox ((((w.alloc (.cells #[.int .u64 m.ta, .int .u64 m.rp, .int .u32 m.id, .int .u16 m.op, .int .u16 m.st, .int .u64 m.p, .int .u32 m.o, .int .u8 m.r, .int .u64 m.c, .int .u64 m.ar, D] 29)).alloc (.cells #[.int .u64 0, .int .u64 0, .int .u32 0, .int .u16 0, .int .u16 0, .int .u64 0, .int .u32 0, .int .u8 0, .int .u64 0, .int .u64 0, .slice none 0 0] 29)).alloc b).alloc c).drew (w.heap.size + 1) Msg.zero (.slice none 0 0)) ∧
    Hid (MFree ((((w.alloc (.cells #[.int .u64 m.ta, .int .u64 m.rp, .int .u32 m.id, .int .u16 m.op, .int .u16 m.st, .int .u64 m.p, .int .u32 m.o, .int .u8 m.r, .int .u64 m.c, .int .u64 m.ar, D] 29)).alloc (.cells #[.int .u64 0, .int .u64 0, .int .u32 0, .int .u16 0, .int .u16 0, .int .u64 0, .int .u32 0, .int .u8 0, .int .u64 0, .int .u64 0, .slice none 0 0] 29)).alloc b).alloc c).drew (w.heap.size + 1)) ∧
    Hid (Below w.heap.size w ((((w.alloc (.cells #[.int .u64 m.ta, .int .u64 m.rp, .int .u32 m.id, .int .u16 m.op, .int .u16 m.st, .int .u64 m.p, .int .u32 m.o, .int .u8 m.r, .int .u64 m.c, .int .u64 m.ar, D] 29)).alloc (.cells #[.int .u64 0, .int .u64 0, .int .u32 0, .int .u16 0, .int .u16 0, .int .u64 0, .int .u32 0, .int .u8 0, .int .u64 0, .int .u64 0, .slice none 0 0] 29)).alloc b).alloc c).drew) := by
  have x0 := mbox_new w m D
  have f0 := mfree_new w #[.int .u64 m.ta, .int .u64 m.rp, .int .u32 m.id, .int .u16 m.op, .int .u16 m.st, .int .u64 m.p, .int .u32 m.o, .int .u8 m.r, .int .u64 m.c, .int .u64 m.ar, D]
  have b0 := below_alloc w (.cells #[.int .u64 m.ta, .int .u64 m.rp, .int .u32 m.id, .int .u16 m.op, .int .u16 m.st, .int .u64 m.p, .int .u32 m.o, .int .u8 m.r, .int .u64 m.c, .int .u64 m.ar, D] 29)
  have hsz : (w.alloc (.cells #[.int .u64 m.ta, .int .u64 m.rp, .int .u32 m.id, .int .u16 m.op, .int .u16 m.st, .int .u64 m.p, .int .u32 m.o, .int .u8 m.r, .int .u64 m.c, .int .u64 m.ar, D] 29)).heap.size = w.heap.size + 1 := by simp
  generalize w.alloc (.cells #[.int .u64 m.ta, .int .u64 m.rp, .int .u32 m.id, .int .u16 m.op, .int .u16 m.st, .int .u64 m.p, .int .u32 m.o, .int .u8 m.r, .int .u64 m.c, .int .u64 m.ar, D] 29) = w1 at *
  have x1 := zero_new w1
  have f1 := mfree_new w1 #[.int .u64 0, .int .u64 0, .int .u32 0, .int .u16 0, .int .u16 0, .int .u64 0, .int .u32 0, .int .u8 0, .int .u64 0, .int .u64 0, .slice none 0 0]
  have b1 := below_alloc w1 (.cells #[.int .u64 0, .int .u64 0, .int .u32 0, .int .u16 0, .int .u16 0, .int .u64 0, .int .u32 0, .int .u8 0, .int .u64 0, .int .u64 0, .slice none 0 0] 29)
  rw [hsz] at x1 f1
  generalize w1.alloc (.cells #[.int .u64 0, .int .u64 0, .int .u32 0, .int .u16 0, .int .u16 0, .int .u64 0, .int .u32 0, .int .u8 0, .int .u64 0, .int .u64 0, .slice none 0 0] 29) = w2 at *
  have b2 : Below w2.heap.size w2 ((w2.alloc b).alloc c).drew := (below_one (below_alloc _ _) (below_alloc _ _)).drew
  exact ⟨(x0.carry b1).carry b2, (f0.carry x0.lt b1).carry (x0.carry b1).lt b2, x1.carry b2, f1.carry x1.lt b2, below_one (below_one b0 b1) b2⟩
theorem own_nil (w : World) (base : Nat) : w.ownsRow base 5 1 (.slice none 0 0) 0 [] := ⟨rfl, Or.inl ⟨rfl, rfl⟩⟩
theorem MBox.setData {w : World} {g : Nat} {m : Msg} {D : Value} (h : MBox w g m D) (E : Value) : MBox (w.setCell ⟨g, 10, none⟩ E) g m E := by
  obtain ⟨k0, k1, k2, k3, k4, k5, k6, k7, k8, k9, k10⟩ := h
  refine ⟨?_, ?_, ?_, ?_, ?_, ?_, ?_, ?_, ?_, ?_, ?_⟩
  all_goals first | exact World.cell?_setCell_same' _ _ _ (by rw [k10]; rfl) | (refine (World.cell?_setCell_other _ _ _ _ (by simp)).trans ?_; assumption)
theorem MBox.setFar {w : World} {g b i : Nat} {m : Msg} {D : Value} (h : MBox w g m D) (hne : b ≠ g) (E : Value) : MBox (w.setCell ⟨b, i, none⟩ E) g m D := by
  obtain ⟨k0, k1, k2, k3, k4, k5, k6, k7, k8, k9, k10⟩ := h
  refine ⟨?_, ?_, ?_, ?_, ?_, ?_, ?_, ?_, ?_, ?_, ?_⟩
  all_goals (refine (World.cell?_setCell_other _ _ _ _ (fun e => hne (congrArg Addr.block e))).trans ?_; assumption)
theorem MFree.set {w : World} {g : Nat} (h : MFree w g) (a : Addr) (E : Value) : MFree (w.setCell a E) g := by
  obtain ⟨z0, z1, z2, z3, z4, z5, z6, z7, z8, z9, z10⟩ := h
  refine ⟨?_, ?_, ?_, ?_, ?_, ?_, ?_, ?_, ?_, ?_, ?_⟩
  all_goals (rw [World.frozen?_setCell]; assumption)
end Go.Proofs.YtmgbcnlnikchbaaDoor
