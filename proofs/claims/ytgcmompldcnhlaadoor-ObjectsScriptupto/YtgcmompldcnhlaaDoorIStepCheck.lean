/-
  The statements' own step, of one kind of deed: a contract.
-/
import Derived.Test.YtgcmompldcnhlaaDoorIJb
import Derived.Deep.CutBlock
import Derived.Deep.RegionHeldLaw
namespace Go.Proofs.YtgcmompldcnhlaaDoor
open Go.RowKit
variable {w0 w w1 w2 w' : World} {g mg p N : Nat} {ws : List Nat} {t : Nat} {es : List Ent} {T : Nat → Ob} {v : Value} {L : List Cp}
set_option maxRecDepth 20000 in
set_option maxHeartbeats 6400000 in
theorem step_check (o wh ch wi : Nat) (w : World) (S : St N w0 w g mg p ws t es T v L) (hN : N < 2000000) (ho : o ≤ 255) (hwh : wh ≤ 255) (hch : ch ≤ 255) (hwi : wi ≤ 255) (hd : o % 9 = 2) :
    Calls Tryd.prog 12 #[.pointer (some ⟨mg, 0, none⟩), .pointer (some ⟨g, 0, none⟩), .agg #[.int .u8 (o : Int), .int .u8 (wh : Int), .int .u8 (ch : Int), .int .u8 (wi : Int)], v] w fun e w' => StepEnd N w0 g mg p ws e w' := by
  obtain ⟨ao, cap, rfl, hcap, hcm0⟩ := owns_form S.row
  have hcm : cap ≤ 9223372036854775807 := hcm0
  obtain ⟨n, hn⟩ : ∃ n, L.length = n := ⟨_, rfl⟩
  have HNL := hide hn
  have hrow := S.row
  rw [hn] at hcap
  have HSS := hide S.ss
  have HGL := hide S.gl
  have HPW := hide S.pw
  have HNN := hide hN
  have HWI := hide hwi
  have HCH := hide hch
  have hb0 := S.bo.bel.size
  obtain ⟨V1, hV1⟩ : ∃ V, w.alloc (.cells #[.int .u8 (o : Int), .int .u8 (wh : Int), .int .u8 (ch : Int), .int .u8 (wi : Int)] 40) = V := ⟨_, rfl⟩
  have bV1 : Below w.heap.size w V1 := hV1 ▸ below_alloc _ _
  have hA1 : ABox V1 w.heap.size o wh ch wi := hV1 ▸ heap_alloc_new _ _
  have hs1 : V1.heap.size = w.heap.size + 1 := by rw [← hV1]; simp
  obtain ⟨V2, hV2⟩ : ∃ V, V1.alloc (.cells #[.int .u64 0, .int .u32 0, .int .u8 0, .int .u64 0] 49) = V := ⟨_, rfl⟩
  have bV2 : Below V1.heap.size V1 V2 := hV2 ▸ below_alloc _ _
  obtain ⟨ab, hab⟩ : ∃ b, w.heap.size = b := ⟨_, rfl⟩
  obtain ⟨cb, hcb⟩ : ∃ b, V1.heap.size = b := ⟨_, rfl⟩
  have hHd : Hd w0 V2 g mg p ws t es T t es T (.slice ao L.length cap) L ab cb o wh ch wi Cp.zero := by
    refine ⟨(S.bo.grow bV1).grow bV2, owns_grow (owns_grow S.row bV1) bV2, by rw [← hab]; exact hA1.grow bV2, by rw [← hcb, ← hV2]; exact CBox.new V1 0 0 0 0, fun e => ?_⟩
    obtain ⟨cur, h1, _⟩ := owns_block S.row e
    have := lt_of_heap h1
    omega
  rw [hn] at hHd ⊢
  have HD := hide hHd
  have HCB : Hid (w0.heap.size ≤ cb) := by show _ ≤ _; omega
  have HABS : Hid (w.heap.size = ab ∧ V1.heap.size = cb) := ⟨hab, hcb⟩
  have k0 : V2.cell? ⟨ab, 1, none⟩ = some (.int .u8 (wh : Int)) := hHd.act.c1
  have hcb2 : w.heap.size + 1 = cb := by omega
  clear S hn hrow hN hwi hch hb0 bV1 hA1 bV2 hHd hs1
  go_enter Tryd.func12, Tryd.ntmps12
  go_upto_if 50 with fail
  clear hcb2 hab hcb hV1 hV2
  go_cut [] from 48 to 62 (fun wx => ∃ c : Cp, c.ok ∧ Hd w0 wx g mg p ws t es T t es T (.slice ao n cap) L ab cb o wh ch wi c)
  case first =>
    by_cases h0 : 0 < n
    · have h1 : (0 : Int) < (n : Int) := by omega
      obtain ⟨r, hr⟩ : ∃ r, wh % n = r := ⟨_, rfl⟩
      have hrn : r < n := by rw [← hr]; exact Nat.mod_lt _ h0
      have hrn1 : (r : Int) < (n : Int) := by omega
      have hmod : (wh : Int) % (n : Int) = (r : Int) := by omega
      have htm : (wh : Int).tmod (n : Int) = (r : Int) := by rw [Int.tmod_eq_emod_of_nonneg (by omega)]; exact hmod
      have hwr : IntKind.i64.wrap (wh : Int) = (wh : Int) := by rw [IntKind.wrap_i64]; omega
      rcases hx : L.getD r Cp.zero with ⟨xp, xo, xr, xc⟩
      have hrl : r < L.length := by have := HNL.out; omega
      have hok := HSS.out.ok _ (cap_mem hrl)
      rw [hx] at hok
      obtain ⟨b, hao, x0, x1, x2, x3⟩ := owns_cap3 HD.out.row r hrl xp xo xr xc hx
      have HXX := hide hx
      have HAO := hide hao
      have HRL := hide hrl
      have HOK := hide hok
      have HD1 := hide (HD.out.drewN 1)
      clear hx hrl hok hr h0 x0 x1 x2 x3 k0
      go_upto_region 3 with fail
      go_region_held (fun W => W.cell? ⟨b, r * 4, none⟩ = some (.int .u64 (xp : Int)) ∧ W.cell? ⟨b, r * 4 + 1, none⟩ = some (.int .u32 (xo : Int)) ∧ W.cell? ⟨b, r * 4 + 2, none⟩ = some (.int .u8 (xr : Int)) ∧ W.cell? ⟨b, r * 4 + 3, none⟩ = some (.int .u64 (xc : Int)) ∧ W.cell? ⟨ab, 1, none⟩ = some (.int .u8 (wh : Int)) ∧ W.cell? ⟨ab, 2, none⟩ = some (.int .u8 (ch : Int))) (first | exact (by obtain ⟨b', e, y0, y1, y2, y3⟩ := owns_cap3 HP.out.row r HRL.out xp xo xr xc HXX.out; cases (HAO.out.symm.trans e); exact ⟨y0, y1, y2, y3, HP.out.act.c1, HP.out.act.c2⟩) | exact (by obtain ⟨b', e, y0, y1, y2, y3⟩ := owns_cap3 HD1.out.row r HRL.out xp xo xr xc HXX.out; cases (HAO.out.symm.trans e); exact ⟨y0, y1, y2, y3, HD1.out.act.c1, HD1.out.act.c2⟩)) (first
        | (go_at_call 19; refine (change_any ⟨xp, xo, xr, xc⟩ ch _ HOK.out HCH.out).mono ?_; rintro e wx ⟨⟨⟨zp, zo, zr, zc⟩, rfl, zok⟩, bx⟩; have HZ := hide zok; clear zok; have HD1 := hide (HD1.out.grow bx); have HP := hide (HD1.out.put HCB.out ⟨zp, zo, zr, zc⟩); have v0 := HD1.out.box.c0; have v1 := HD1.out.box.c1; have v2 := HD1.out.box.c2; have v3 := HD1.out.box.c3; have z := HD1.out.box.z; simp only [Cp.val]))
      rw [← HAO.out]
      clear hao v0 v1 v2 v3 z
      go_wp2_with fail
      go_meet
      exact ⟨_, HZ.out, HP.out⟩
    · have h1 : ¬ ((0 : Int) < (n : Int)) := by omega
      clear h0
      go_wp2_with fail
      go_meet
      exact ⟨_, cp_ok (by decide) (by decide) (by decide) (by decide), HD.out⟩
  case rest =>
    obtain ⟨c, hc, hD⟩ := hcut
    have HD := hide hD
    have HC := hide hc
    clear hD hc
    obtain ⟨K, hK⟩ : ∃ K, chkF ws t es p T c wi = K := ⟨_, rfl⟩
    have HK := hide hK
    have HSK : Hid (Ss (N + 1) ws K.t K.es T L) := HSS.out.chk HNN.out hK
    clear hK
    have hd1 : (o : Int) % 9 = 2 := by omega
    have HEL : Hid (es.length ≤ 2000000) := HSS.out.less
    obtain ⟨cp, co, cr, cc⟩ := c
    have a0 : wc.cell? ⟨ab, 0, none⟩ = some (.int .u8 (o : Int)) := HD.out.act.c0
    have a3 : wc.cell? ⟨ab, 3, none⟩ = some (.int .u8 (wi : Int)) := HD.out.act.c3
    have v0 : wc.cell? ⟨cb, 0, none⟩ = some (.int .u64 (cp : Int)) := HD.out.box.c0
    have v1 : wc.cell? ⟨cb, 1, none⟩ = some (.int .u32 (co : Int)) := HD.out.box.c1
    have v2 : wc.cell? ⟨cb, 2, none⟩ = some (.int .u8 (cr : Int)) := HD.out.box.c2
    have v3 : wc.cell? ⟨cb, 3, none⟩ = some (.int .u64 (cc : Int)) := HD.out.box.c3
    go_wp2_with fail
    refine (bo_mCheck ⟨cp, co, cr, cc⟩ wi _ HD.out.bo HC.out HWI.out (by have := HEL.out; omega) HGL.out K HK.out).mono ?_; rintro e w3 ⟨rfl, B3, k3⟩
    have HD3 := hide (HD.out.kq k3 B3)
    clear B3 k3 a0 a3 v0 v1 v2 v3
    have a3 : w3.cell? ⟨ab, 3, none⟩ = some (.int .u8 (wi : Int)) := HD3.out.act.c3
    have v0 : w3.cell? ⟨cb, 0, none⟩ = some (.int .u64 (cp : Int)) := HD3.out.box.c0
    have v1 : w3.cell? ⟨cb, 1, none⟩ = some (.int .u32 (co : Int)) := HD3.out.box.c1
    have v2 : w3.cell? ⟨cb, 2, none⟩ = some (.int .u8 (cr : Int)) := HD3.out.box.c2
    have v3 : w3.cell? ⟨cb, 3, none⟩ = some (.int .u64 (cc : Int)) := HD3.out.box.c3
    go_wp2_with fail
    refine (bo_check ⟨cp, co, cr, cc⟩ wi _ HD3.out.bo HC.out HWI.out (by have := HEL.out; omega) K HK.out).mono ?_; rintro e w4 ⟨rfl, B4, k4⟩
    have HD4 := hide (HD3.out.kq k4 B4)
    clear B4 k4 a3 v0 v1 v2 v3
    obtain ⟨kk, ke, kt, kes⟩ := K
    go_wp2_with fail
    refine (number_any _ _ (HD4.out.bo.glob HGL.out)).mono ?_; rintro e w5 ⟨rfl, b5⟩
    have HD5 := hide (HD4.out.grow b5)
    clear b5
    go_wp2
    go_ret2
    exact ⟨kt, kes, T, .slice ao n cap, L, rfl, HD5.out.bo, HD5.out.row, HSK.out, HGL.out, HPW.out⟩
end Go.Proofs.YtgcmompldcnhlaaDoor
