/-
  What the statements' own Make answers of a message, as a contract.
-/
import Derived.Test.YtmgbcnlnikchbaaHSame
import Derived.Deep.RegionWith
import Derived.Deep.CutRange
namespace Go.Proofs.Ytmgbcnlnikchbaa
open Go.RowKit
def Msg.made (m : Msg) : Msg := ⟨m.ta % 281474976710656, m.rp % 281474976710656, m.id, m.op, m.st, m.p % 281474976710656, m.o % 16777216, m.r, m.c % 281474976710656, m.ar⟩
theorem Msg.made_good {m : Msg} (h : m.ok) : m.made.good := by
  obtain ⟨o0, o1, o2, o3, o4, o5, o6, o7, o8, o9⟩ := h
  exact ⟨show m.ta % 281474976710656 ≤ _ by omega, show m.rp % 281474976710656 ≤ _ by omega, o2, o3, o4, show m.p % 281474976710656 ≤ _ by omega, show m.o % 16777216 ≤ _ by omega, o7, show m.c % 281474976710656 ≤ _ by omega, o9⟩
theorem make_is (p o r c p' o' c' : Nat) (w : World) (hp : p ≤ 18446744073709551615) (ho : o ≤ 4294967295) (hr : r ≤ 255) (hc : c ≤ 18446744073709551615) (ep : p % 281474976710656 = p') (eo : o % 16777216 = o') (ec : c % 281474976710656 = c') :
    Calls Try.prog 19 #[.agg #[.int .u64 p, .int .u32 o, .int .u8 r, .int .u64 c]] w fun e w' => e = .returned (.agg #[.int .u64 p', .int .u32 o', .int .u8 r, .int .u64 c']) ∧
      w' = (w.alloc (.cells #[.int .u64 p, .int .u32 o, .int .u8 r, .int .u64 c] 26)).alloc (.cells #[.int .u64 p', .int .u32 o', .int .u8 r, .int .u64 c'] 26) := by
  subst ep; subst eo; subst ec; exact make_any p o r c w hp ho hr hc
theorem make_rel (w : World) (m : Msg) (D : Value) (b c : Obj) : Hid (MBox ((((w.alloc (.cells #[.int .u64 m.ta, .int .u64 m.rp, .int .u32 m.id, .int .u16 m.op, .int .u16 m.st, .int .u64 m.p, .int .u32 m.o, .int .u8 m.r, .int .u64 m.c, .int .u64 m.ar, D] 29)).alloc (.cells #[.int .u64 0, .int .u64 0, .int .u32 0, .int .u16 0, .int .u16 0, .int .u64 0, .int .u32 0, .int .u8 0, .int .u64 0, .int .u64 0, .slice none 0 0] 29)).alloc b).alloc c).drew w.heap.size m D) ∧
    Hid (MFree ((((w.alloc (.cells #[.int .u64 m.ta, .int .u64 m.rp, .int .u32 m.id, .int .u16 m.op, .int .u16 m.st, .int .u64 m.p, .int .u32 m.o, .int .u8 m.r, .int .u64 m.c, .int .u64 m.ar, D] 29)).alloc (.cells #[.int .u64 0, .int .u64 0, .int .u32 0, .int .u16 0, .int .u16 0, .int .u64 0, .int .u32 0, .int .u8 0, .int .u64 0, .int .u64 0, .slice none 0 0] 29)).alloc b).alloc c).drew w.heap.size) ∧
    Hid (MBox ((((w.alloc (.cells #[.int .u64 m.ta, .int .u64 m.rp, .int .u32 m.id, .int .u16 m.op, .int .u16 m.st, .int .u64 m.p, .int .u32 m.o, .int .u8 m.r, .int .u64 m.c, .int .u64 m.ar, D] 29)).alloc (.cells #[.int .u64 0, .int .u64 0, .int .u32 0, .int .u16 0, .int .u16 0, .int .u64 0, .int .u32 0, .int .u8 0, .int .u64 0, .int .u64 0, .slice none 0 0] 29)).alloc b).alloc c).drew (w.heap.size + 1) Msg.zero (.slice none 0 0)) ∧
    Hid (MFree ((((w.alloc (.cells #[.int .u64 m.ta, .int .u64 m.rp, .int .u32 m.id, .int .u16 m.op, .int .u16 m.st, .int .u64 m.p, .int .u32 m.o, .int .u8 m.r, .int .u64 m.c, .int .u64 m.ar, D] 29)).alloc (.cells #[.int .u64 0, .int .u64 0, .int .u32 0, .int .u16 0, .int .u16 0, .int .u64 0, .int .u32 0, .int .u8 0, .int .u64 0, .int .u64 0, .slice none 0 0] 29)).alloc b).alloc c).drew (w.heap.size + 1)) ∧
    Hid (Below w.heap.size w ((((w.alloc (.cells #[.int .u64 m.ta, .int .u64 m.rp, .int .u32 m.id, .int .u16 m.op, .int .u16 m.st, .int .u64 m.p, .int .u32 m.o, .int .u8 m.r, .int .u64 m.c, .int .u64 m.ar, D] 29)).alloc (.cells #[.int .u64 0, .int .u64 0, .int .u32 0, .int .u16 0, .int .u16 0, .int .u64 0, .int .u32 0, .int .u8 0, .int .u64 0, .int .u64 0, .slice none 0 0] 29)).alloc b).alloc c).drew) := by
  have x0 := mbox_new w m D
  have f0 := mfree_new w #[.int .u64 m.ta, .int .u64 m.rp, .int .u32 m.id, .int .u16 m.op, .int .u16 m.st, .int .u64 m.p, .int .u32 m.o, .int .u8 m.r, .int .u64 m.c, .int .u64 m.ar, D]
  have b0 := below_alloc w (.cells #[.int .u64 m.ta, .int .u64 m.rp, .int .u32 m.id, .int .u16 m.op, .int .u16 m.st, .int .u64 m.p, .int .u32 m.o, .int .u8 m.r, .int .u64 m.c, .int .u64 m.ar, D] 29)
  have hsz : (w.alloc (.cells #[.int .u64 m.ta, .int .u64 m.rp, .int .u32 m.id, .int .u16 m.op, .int .u16 m.st, .int .u64 m.p, .int .u32 m.o, .int .u8 m.r, .int .u64 m.c, .int .u64 m.ar, D] 29)).heap.size = w.heap.size + 1 := by simp
  generalize w.alloc (.cells #[.int .u64 m.ta, .int .u64 m.rp, .int .u32 m.id, .int .u16 m.op, .int .u16 m.st, .int .u64 m.p, .int .u32 m.o, .int .u8 m.r, .int .u64 m.c, .int .u64 m.ar, D] 29) = w1 at *
  have x1 := zero_new w1
  have f1 := mfree_new w1 #[.int .u64 0, .int .u64 0, .int .u32 0, .int .u16 0, .int .u16 0, .int .u64 0, .int .u32 0, .int .u8 0, .int .u64 0, .int .u64 0, .slice none 0 0]
  have b1 := below_alloc w1 (.cells #[.int .u64 0, .int .u64 0, .int .u32 0, .int .u16 0, .int .u16 0, .int .u64 0, .int .u32 0, .int .u8 0, .int .u64 0, .int .u64 0, .slice none 0 0] 29)
  rw [hsz] at x1 f1
  generalize w1.alloc (.cells #[.int .u64 0, .int .u64 0, .int .u32 0, .int .u16 0, .int .u16 0, .int .u64 0, .int .u32 0, .int .u8 0, .int .u64 0, .int .u64 0, .slice none 0 0] 29) = w2 at *
  have b2 : Below w2.heap.size w2 ((w2.alloc b).alloc c).drew := (below_one (below_alloc _ _) (below_alloc _ _)).drew
  exact ⟨(x0.carry b1).carry b2, (f0.carry x0.lt b1).carry (x0.carry b1).lt b2, x1.carry b2, f1.carry x1.lt b2, below_one (below_one b0 b1) b2⟩
theorem own_nil (w : World) (base : Nat) : w.ownsRow base 5 1 (.slice none 0 0) 0 [] := ⟨rfl, Or.inl ⟨rfl, rfl⟩⟩
theorem MBox.setData {w : World} {g : Nat} {m : Msg} {D : Value} (h : MBox w g m D) (E : Value) : MBox (w.setCell ⟨g, 10, none⟩ E) g m E := by
  obtain ⟨k0, k1, k2, k3, k4, k5, k6, k7, k8, k9, k10⟩ := h
  refine ⟨?_, ?_, ?_, ?_, ?_, ?_, ?_, ?_, ?_, ?_, ?_⟩
  all_goals first | exact World.cell?_setCell_same' _ _ _ (by rw [k10]; rfl) | (refine (World.cell?_setCell_other _ _ _ _ (by simp)).trans ?_; assumption)
theorem MBox.setFar {w : World} {g b i : Nat} {m : Msg} {D : Value} (h : MBox w g m D) (hne : b ≠ g) (E : Value) : MBox (w.setCell ⟨b, i, none⟩ E) g m D := by
  obtain ⟨k0, k1, k2, k3, k4, k5, k6, k7, k8, k9, k10⟩ := h
  refine ⟨?_, ?_, ?_, ?_, ?_, ?_, ?_, ?_, ?_, ?_, ?_⟩
  all_goals (refine (World.cell?_setCell_other _ _ _ _ (fun e => hne (congrArg Addr.block e))).trans ?_; assumption)
theorem MFree.set {w : World} {g : Nat} (h : MFree w g) (a : Addr) (E : Value) : MFree (w.setCell a E) g := by
  obtain ⟨z0, z1, z2, z3, z4, z5, z6, z7, z8, z9, z10⟩ := h
  refine ⟨?_, ?_, ?_, ?_, ?_, ?_, ?_, ?_, ?_, ?_, ?_⟩
  all_goals (rw [World.frozen?_setCell]; assumption)
set_option maxHeartbeats 4000000 in
theorem hmake_at (m : Msg) (ao : Option Addr) (n cap : Nat) (l : List UInt8) (w : World) (hm : m.ok) (hb : Bts w ao n cap l) (m' : Msg) (hm' : m.made = m') (k : Nat) (hk : min n 4096 = k) :
    Calls Try.prog 8 #[.agg #[.int .u64 m.ta, .int .u64 m.rp, .int .u32 m.id, .int .u16 m.op, .int .u16 m.st, .int .u64 m.p, .int .u32 m.o, .int .u8 m.r, .int .u64 m.c, .int .u64 m.ar, .slice ao n cap]] w fun e w' => ∃ co cc, e = .returned (.agg #[.int .u64 m'.ta, .int .u64 m'.rp, .int .u32 m'.id, .int .u16 m'.op, .int .u16 m'.st, .int .u64 m'.p, .int .u32 m'.o, .int .u8 m'.r, .int .u64 m'.c, .int .u64 m'.ar, .slice co k cc]) ∧ Bts w' co k cc (l.take 4096) ∧ New w co ∧ Below w.heap.size w w' := by
  obtain ⟨o0, o1, o2, o3, o4, o5, o6, o7, o8, o9⟩ := hm
  have a0 := and48 m.ta o0
  have a1 := and48 m.rp o1
  have E0 : m.ta % 281474976710656 = m'.ta := congrArg Msg.ta hm'
  have E1 : m.rp % 281474976710656 = m'.rp := congrArg Msg.rp hm'
  have E2 : m'.id = m.id := (congrArg Msg.id hm').symm
  have E3 : m'.op = m.op := (congrArg Msg.op hm').symm
  have E4 : m'.st = m.st := (congrArg Msg.st hm').symm
  have E7 : m'.r = m.r := (congrArg Msg.r hm').symm
  have E9 : m'.ar = m.ar := (congrArg Msg.ar hm').symm
  have H5 : Hid (m.p % 281474976710656 = m'.p) := congrArg Msg.p hm'
  have H6 : Hid (m.o % 16777216 = m'.o) := congrArg Msg.o hm'
  have H8 : Hid (m.c % 281474976710656 = m'.c) := congrArg Msg.c hm'
  rw [E0] at a0
  rw [E1] at a1
  have HE : Hid (m'.id = m.id ∧ m'.op = m.op ∧ m'.st = m.st ∧ m'.r = m.r ∧ m'.ar = m.ar) := ⟨E2, E3, E4, E7, E9⟩
  have HK : Hid _ := hk
  have HB : Hid (Bts w ao n cap l) := hb
  clear hm' E0 E1 E2 E3 E4 E7 E9 hk hb
  go_enter Try.func8, Try.ntmps8
  go_upto_region 1 with fail
  go_cut [] from 3 to 14 (fun wx => Hid (MBox wx w.heap.size m' (.slice ao n cap)) ∧ Hid (MFree wx w.heap.size) ∧ Hid (MBox wx (w.heap.size + 1) Msg.zero (.slice none 0 0)) ∧ Hid (MFree wx (w.heap.size + 1)) ∧ Hid (Below w.heap.size w wx))
  case first =>
    go_region_with (first | (go_at_call 19; refine (make_is m.p m.o m.r m.c m'.p m'.o m'.c _ o5 o6 o7 o8 H5.out H6.out H8.out).mono ?_; rintro e wx ⟨rfl, rfl⟩))
    all_goals go_wp2_with fail
    all_goals go_meet
    all_goals obtain ⟨E2, E3, E4, E7, E9⟩ := HE.out
    all_goals rw [← E2, ← E3, ← E4, ← E7, ← E9]
    all_goals exact make_rel w m' (.slice ao n cap) _ _
  case rest =>
    obtain ⟨HX, HF, HY, HG, HL⟩ := hcut
    have hlt : w.heap.size + 1 < wc.heap.size := HY.out.lt
    have HBc : Hid (Bts wc ao n cap l) := HB.out.carry HL.out
    have hcm : cap ≤ 9223372036854775807 := HBc.out.2.2.1
    have hnc : n ≤ cap := HBc.out.2.1
    clear a0 a1 HB HE H5 H6 H8
    obtain ⟨i0, hi, hz0, hz1, hz2⟩ := info_parts Try.info5
    obtain ⟨k0, k1, k2, k3, k4, k5, k6, k7, k8, k9, k10⟩ := HX.out
    obtain ⟨z0, z1, z2, z3, z4, z5, z6, z7, z8, z9, z10⟩ := HF.out
    go_upto_region 2 with fail
    go_cut [] from 15 to 23 (fun wx => ∃ co cc, Hid (MBox wx w.heap.size m' (.slice co k cc)) ∧ Hid (MBox wx (w.heap.size + 1) Msg.zero (.slice none 0 0)) ∧ Hid (MFree wx (w.heap.size + 1)) ∧ Hid (Below w.heap.size w wx) ∧ Hid (Bts wx co k cc (l.take 4096)) ∧ Hid (New wc co))
    case first =>
      cases ao with
      | none =>
        obtain ⟨rfl, rfl⟩ := HBc.out.none rfl
        obtain rfl : l = [] := List.eq_nil_of_length_eq_zero HBc.out.1.symm
        obtain rfl : (0 : Nat) = k := HK.out
        go_wp2_with fail
        go_meet
        exact ⟨none, 0, HX.out.setData _, HY.out.setFar (by omega) _, HG.out.set _ _, HL.out.setCell (Nat.le_refl _) _, bts_nil _, new_none _⟩
      | some ad =>
        have hk4 : k ≤ 4096 := by have := HK.out; omega
        have hkn : k ≤ n := by have := HK.out; omega
        have HS : Hid (Bts wc (some ad) k cap (l.take 4096)) := by
          have h := HBc.out.add 0 k (by omega)
          have e : (l.drop 0).take k = l.take 4096 := by
            rw [List.drop_zero, ← HK.out, HBc.out.1]
            by_cases h4 : l.length ≤ 4096
            · rw [Nat.min_eq_left h4, List.take_of_length_le (Nat.le_refl _), List.take_of_length_le h4]
            · rw [Nat.min_eq_right (by omega)]
          rw [e, Nat.sub_zero, show ad.add 0 = ad from by simp [Addr.add]] at h
          exact h
        by_cases hn4 : n ≤ 4096
        · obtain rfl : n = k := by have := HK.out; omega
          go_wp2_with (at_builtin; refine wpList_append_own _ rfl _ _ 27 rfl wc.heap.size 5 i0 (.int .u8 0) 1 1 Try.underlying27 hi hz0 hz1 hz2 rfl (by decide) _ 0 [] rfl (own_nil _ _) ad n cap (cellsB (l.take 4096)) rfl (by rw [cellsB_len]; have := HS.out.1; omega) ?c1 (cellsB_one _) (by unfold maxLen; omega) (by omega) (Nat.le_refl _) ?_)
          all_goals try exact HS.out.news ad rfl
          intro v' w2 hown2 hgrow2 _
          obtain ⟨co, cc, rfl, hb2⟩ := owns_bts hown2
          have HW : Hid (New wc co) := owns_new hown2 (Nat.le_refl _)
          have bel2 : Below wc.heap.size wc w2 := (Below.refl _ _).grown hgrow2 (Nat.le_refl _) (fun k e => by cases e)
          have HB2 : Hid (Bts w2 co n cc (l.take 4096)) := hb2
          have HX2 : Hid (MBox w2 w.heap.size m' (.slice (some ad) n cap)) := HX.out.carry bel2
          have HF2 : Hid (MFree w2 w.heap.size) := HF.out.carry HX.out.lt bel2
          have HY2 : Hid (MBox w2 (w.heap.size + 1) Msg.zero (.slice none 0 0)) := HY.out.carry bel2
          have HG2 : Hid (MFree w2 (w.heap.size + 1)) := HG.out.carry HY.out.lt bel2
          have HL2 : Hid (Below w.heap.size w w2) := below_one HL.out bel2
          clear hown2 hgrow2 hb2 bel2
          clear k0 k1 k2 k3 k4 k5 k6 k7 k8 k9 k10
          clear z0 z1 z2 z3 z4 z5 z6 z7 z8 z9 z10
          obtain ⟨k0, k1, k2, k3, k4, k5, k6, k7, k8, k9, k10⟩ := HX2.out
          obtain ⟨z0, z1, z2, z3, z4, z5, z6, z7, z8, z9, z10⟩ := HF2.out
          go_wp2_with fail
          go_meet
          exact ⟨co, cc, HX2.out.setData _, HY2.out.setFar (by omega) _, HG2.out.set _ _, HL2.out.setCell (Nat.le_refl _) _, HB2.out.set _ _ (fun a e h => by have h1 := HW.out a e; have h2 : a.block = w.heap.size := h; omega), HW⟩
        · have HK4 : Hid ((4096 : Nat) = k) := by show 4096 = k; have := HK.out; omega
          go_wp2_with (at_builtin; rw [HK4.out]; refine wpList_append_own _ rfl _ _ 27 rfl wc.heap.size 5 i0 (.int .u8 0) 1 1 Try.underlying27 hi hz0 hz1 hz2 rfl (by decide) _ 0 [] rfl (own_nil _ _) ad k cap (cellsB (l.take 4096)) rfl (by rw [cellsB_len]; have := HS.out.1; omega) ?c2 (cellsB_one _) (by unfold maxLen; omega) (by omega) (Nat.le_refl _) ?_)
          all_goals try exact HS.out.news ad rfl
          intro v' w2 hown2 hgrow2 _
          obtain ⟨co, cc, rfl, hb2⟩ := owns_bts hown2
          have HW : Hid (New wc co) := owns_new hown2 (Nat.le_refl _)
          have bel2 : Below wc.heap.size wc w2 := (Below.refl _ _).grown hgrow2 (Nat.le_refl _) (fun k e => by cases e)
          have HB2 : Hid (Bts w2 co k cc (l.take 4096)) := hb2
          have HX2 : Hid (MBox w2 w.heap.size m' (.slice (some ad) n cap)) := HX.out.carry bel2
          have HF2 : Hid (MFree w2 w.heap.size) := HF.out.carry HX.out.lt bel2
          have HY2 : Hid (MBox w2 (w.heap.size + 1) Msg.zero (.slice none 0 0)) := HY.out.carry bel2
          have HG2 : Hid (MFree w2 (w.heap.size + 1)) := HG.out.carry HY.out.lt bel2
          have HL2 : Hid (Below w.heap.size w w2) := below_one HL.out bel2
          clear hown2 hgrow2 hb2 bel2
          clear k0 k1 k2 k3 k4 k5 k6 k7 k8 k9 k10
          clear z0 z1 z2 z3 z4 z5 z6 z7 z8 z9 z10
          obtain ⟨k0, k1, k2, k3, k4, k5, k6, k7, k8, k9, k10⟩ := HX2.out
          obtain ⟨z0, z1, z2, z3, z4, z5, z6, z7, z8, z9, z10⟩ := HF2.out
          go_wp2_with fail
          go_meet
          exact ⟨co, cc, HX2.out.setData _, HY2.out.setFar (by omega) _, HG2.out.set _ _, HL2.out.setCell (Nat.le_refl _) _, HB2.out.set _ _ (fun a e h => by have h1 := HW.out a e; have h2 : a.block = w.heap.size := h; omega), HW⟩
    case rest =>
      obtain ⟨co, cc, HX3, HY3, HG3, HL3, HB3, HW3⟩ := hcut
      clear k0 k1 k2 k3 k4 k5 k6 k7 k8 k9 k10
      clear z0 z1 z2 z3 z4 z5 z6 z7 z8 z9 z10
      clear HX HF HY HG
      have b3 := HL3.out
      obtain ⟨k0, k1, k2, k3, k4, k5, k6, k7, k8, k9, k10⟩ := HY3.out
      obtain ⟨z0, z1, z2, z3, z4, z5, z6, z7, z8, z9, z10⟩ := HG3.out
      obtain ⟨q0, q1, q2, q3, q4, q5, q6, q7, q8, q9, q10⟩ := HX3.out
      have HW4 : Hid (New w co) := HW3.out.le HL.out.size
      have HW5 : Hid (∀ ad, co = some ad → ad.block ≠ w.heap.size + 1) := fun a e h => by have h1 := HW3.out a e; omega
      go_wp2
      refine bodyPost_ret (by simp [results, Try.results8, go_sem, k0, k1, k2, k3, k4, k5, k6, k7, k8, k9, k10]; rfl) rfl ?_
      refine ⟨co, cc, rfl, ?_, HW4.out, ((((((((((b3.setCell (Nat.le_succ _) _).setCell (Nat.le_succ _) _).setCell (Nat.le_succ _) _).setCell (Nat.le_succ _) _).setCell (Nat.le_succ _) _).setCell (Nat.le_succ _) _).setCell (Nat.le_succ _) _).setCell (Nat.le_succ _) _).setCell (Nat.le_succ _) _).setCell (Nat.le_succ _) _).setCell (Nat.le_succ _) _⟩
      exact ((((((((((HB3.out.set _ _ HW5.out).set _ _ HW5.out).set _ _ HW5.out).set _ _ HW5.out).set _ _ HW5.out).set _ _ HW5.out).set _ _ HW5.out).set _ _ HW5.out).set _ _ HW5.out).set _ _ HW5.out).set _ _ HW5.out
end Go.Proofs.Ytmgbcnlnikchbaa
