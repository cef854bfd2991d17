/-
  What comes of the requests of MemoryRights.
  The walk of MemoryRights.
  What came in gives to the walks: a slice's bytes, where they lie.
-/
import Derived.Test.YtpbkjmkdciiccaaGreatDoorJl
import Derived.Lib.MinMax
import Derived.OpenShut
namespace Go.Proofs.YtpbkjmkdciiccaaGreatDoor
section
open Go.RowKit
def rgW : List Nat := [1048576, 2097152, 3145728]
theorem cut_rgW : cutN rgW = rgW := by decide
theorem row_rg (w : World) : RowN (w.alloc (.cells #[.int .u64 1048576, .int .u64 2097152, .int .u64 3145728] 28)) .u64 28 w.heap.size rgW := heap_alloc_new _ _
theorem u64s_rg (w : World) : U64s (w.alloc (.cells #[.int .u64 1048576, .int .u64 2097152, .int .u64 3145728] 28)) (some ⟨w.heap.size, 0, none⟩) 3 3 rgW :=
  (row_rg w).u64s (by decide) (fun j => by
    rcases j with _ | _ | _ | j <;> simp [rgW])
theorem rgW_word (j : Nat) : rgW.getD j 0 ≤ 281474976710655 := by
  rcases j with _ | _ | _ | j <;> simp [rgW]
def rg0 : Cre := creF rgW 0 [] 1 noneO (-1)
def rgS : Hs := ⟨rg0.t, rg0.es, rg0.T, 30, L0⟩
def rg1 : Ro := outF rgW 1 rgS 100 rg0.c 100 []
theorem rg0_e : rg0.e = 0 := by kernel_rfl
theorem rg0_c : rg0.c = ⟨1, 0, 255, 1048576⟩ := by kernel_rfl
theorem rg1_e : rg1.e = 0 := by kernel_rfl
theorem rg1_c : rg1.c = ⟨1, 1, 255, 2097152⟩ := by kernel_rfl
theorem rgS_l : rgS.es.length = 0 := by kernel_rfl
theorem rg1_t : rg1.s.t = 2 := by kernel_rfl
theorem rg1_es : rg1.s.es = [] := by kernel_rfl
theorem rg1_n : rg1.s.n = 30 := by kernel_rfl
theorem rg1_o : rg1.s.T 1 = ⟨2097152, 0, 0, 24⟩ := by kernel_rfl
def rgL : Nat → Option (List UInt8) := upd L0 0 (some (zeros 100))
theorem rg1_L : rg1.s.L = rgL := by kernel_rfl
theorem rg_has : hasO rg1.s.T 1 = true := by kernel_rfl
/- the restricted capability -/
theorem rg_res {mask : Nat} (hm : mask ≤ 255) : resF rgW rg1.s.t rg1.s.es 1 rg1.s.T rg1.c mask = ⟨⟨1, 1, mask, (ofF rgW 2 [] 2097152 mask).x⟩, 0, (ofF rgW 2 [] 2097152 mask).t, (ofF rgW 2 [] 2097152 mask).es, rg1.s.T⟩ := by
  rw [rg1_t, rg1_es, rg1_c]
  have q := of_ok (ws := rgW) (t := 2) (by decide) [] 2097152 mask
  have h := res_good (ws := rgW) (t := 2) (es := []) (p := 1) (T := rg1.s.T) (c := ⟨1, 1, 255, 2097152⟩) (mask := mask) rfl rg_has (by rw [rg1_o]; exact has_owner (by show 2097152 ≤ _; omega)) (by rw [rg1_o]; show (ofF rgW 2 [] 2097152 (255 &&& mask)).ok = true; rw [and_owner hm]; exact q)
  rw [h]; simp only [rg1_o, and_owner hm]
/- an operation by it -/
def rgN (t1 : Nat) (es1 : List Ent) (L : Nat → Option (List UInt8)) : Hs := ⟨t1, es1, rg1.s.T, 30, L⟩
theorem rg_own (op : Nat) (ho : 100 ≤ op ∧ op ≤ 104) {mask x t1 : Nat} {es1 : List Ent} (L : Nat → Option (List UInt8)) (ar : Nat) (d : List UInt8) (hx : x ≤ 281474976710655) (hh : HasA es1 2097152 mask x) :
    outF rgW 1 (rgN t1 es1 L) op ⟨1, 1, mask, x⟩ ar d = if mask &&& needN op = needN op then doF rgW 1 (rgN t1 es1 L) op 0 ar d else badF (rgN t1 es1 L) 2 := by
  have k := chk_good (ws := rgW) (t := t1) (es := es1) (p := 1) (T := rg1.s.T) (c := ⟨1, 1, mask, x⟩) (need := needN op) rfl rg_has (by rw [rg1_o]; exact hh)
  have nb : needB op = true := by unfold needB; rw [decide_eq_true ho.1, decide_eq_true ho.2]; rfl
  have my : mayC ⟨1, 1, mask, x⟩ = true := decide_eq_true ⟨by show 1 ≤ _; omega, by show 1 ≤ _; omega, hx⟩
  unfold outF
  rw [my, if_neg (by decide), if_neg (by omega), if_neg (by rw [nb]; intro h; rcases h with h | h; omega; cases h)]
  show ownF rgW 1 (rgN t1 es1 L) op ar d (chkF rgW t1 es1 1 rg1.s.T ⟨1, 1, mask, x⟩ (needN op)) = _
  rw [k]
  by_cases e : mask &&& needN op = needN op
  · rw [if_pos e, if_pos e]
    unfold ownF
    rw [if_pos rfl]
    show doF rgW 1 (rgN t1 es1 L) op (rg1.s.T 1).v ar d = _
    rw [rg1_o]
  · rw [if_neg e, if_neg e]; rfl
theorem inS_in (size p l : Nat) (h : p + l ≤ size) : inS size (p : Int) (l : Int) = true := decide_eq_true (by omega)
theorem pick0 (L : Nat → Option (List UInt8)) {l : List UInt8} (h : L 0 = some l) : pickF L (0 : Int) = some l := by
  have := pickF_nat L 0 (by omega)
  rw [show ((0 : Nat) : Int) = 0 from rfl] at this
  rw [this, h]
/- the three operations -/
theorem rg_write {t1 : Nat} {es1 : List Ent} (d : List UInt8) (h : d.length ≤ 100) : doF rgW 1 (rgN t1 es1 rgL) 102 0 0 d = badF (rgN t1 es1 (upd rgL 0 (some (splice (zeros 100) 0 d)))) 0 := by
  have hp : pickF rgL (0 : Int) = some (zeros 100) := pick0 rgL (by unfold rgL; rw [upd_same])
  have hi : inS (zeros 100).length (((0 : Nat)) : Int) (d.length : Int) = true := inS_in _ _ _ (by rw [zeros_len]; omega)
  have e1 : wriE rgL 0 (((0 : Nat)) : Int) d = 0 := by unfold wriE; rw [hp]; simp only [hi, if_true]
  have e2 : wriL rgL 0 (((0 : Nat)) : Int) d = upd rgL 0 (some (splice (zeros 100) 0 d)) := by unfold wriL; rw [hp]; simp only [hi, if_true]; rfl
  show wriF (rgN t1 es1 rgL) 0 0 d = _
  unfold wriF
  rw [if_neg (by omega)]
  show badF ((rgN t1 es1 rgL).sto (wriL rgL 0 (((0 : Nat)) : Int) d)) (wriE rgL 0 (((0 : Nat)) : Int) d).toNat = _
  rw [e1, e2]; rfl
theorem rg_read {t1 : Nat} {es1 : List Ent} (L : Nat → Option (List UInt8)) {l : List UInt8} (hL : L 0 = some l) (n : Nat) (h : n ≤ l.length) (h2 : n ≤ 100) (d : List UInt8) : doF rgW 1 (rgN t1 es1 L) 101 0 n d = ⟨0, Cp.zero, 0, pieceF l 0 n, rgN t1 es1 L⟩ := by
  have hp := pick0 L hL
  have hi : inS l.length (((0 : Nat)) : Int) (n : Int) = true := inS_in _ _ _ (by omega)
  have e1 : reaE L 0 (((0 : Nat)) : Int) (n : Int) = 0 := by unfold reaE; rw [hp]; simp only [hi, if_true]
  have e2 : reaD L 0 (((0 : Nat)) : Int) (n : Int) = pieceF l 0 n := by unfold reaD; rw [hp]; simp only [hi, if_true]; rfl
  show reaF (rgN t1 es1 L) 0 n = _
  unfold reaF
  rw [show n / 4294967296 = 0 by omega, show n % 4294967296 = n by omega, if_neg (by omega), if_neg (by omega)]
  show Ro.mk (reaE L 0 (((0 : Nat)) : Int) (n : Int)).toNat _ _ (reaD L 0 (((0 : Nat)) : Int) (n : Int)) _ = _
  rw [e1, e2]; rfl
theorem rg_left0 : leftL 30 rgL = 28 := by kernel_rfl
theorem lens_len {l : List UInt8} : lens (some l) = need l.length := rfl
theorem rg_left (d : List UInt8) (h : d.length ≤ 100) : leftL 30 (upd rgL 0 (some (splice (zeros 100) 0 d))) = 28 := by
  have hl : (splice (zeros 100) 0 d).length = 100 := by rw [length_splice _ _ _ (by rw [zeros_len]; omega), zeros_len]
  rw [← rg_left0]
  unfold leftL
  rw [sumF_same _ (fun i => lens (rgL i)) 64 (fun i _ => ?_)]
  by_cases e : i = 0
  · subst e
    rw [upd_same]
    show lens (some (splice (zeros 100) 0 d)) = lens (upd L0 0 (some (zeros 100)) 0)
    rw [upd_same, lens_len, lens_len, hl, zeros_len]
  · rw [upd_other _ _ _ _ e]
theorem rg_grow {t1 : Nat} {es1 : List Ent} (L : Nat → Option (List UInt8)) {l : List UInt8} (hL : L 0 = some l) (hl : l.length = 100) (hleft : leftL 30 L = 28) (d : List UInt8) : (doF rgW 1 (rgN t1 es1 L) 104 0 200 d).e = 0 := by
  have hp := pick0 L hL
  show (groF (rgN t1 es1 L) 0 200).e = 0
  unfold groF
  rw [if_neg (by omega)]
  show (groE 30 L 0 (((200 : Nat)) : Int)).toNat = 0
  unfold groE
  rw [hp]
  show (growE 30 L l (((200 : Nat)) : Int)).toNat = 0
  unfold growE
  rw [hl, hleft]
  rfl
theorem piece_new (d : List UInt8) : pieceF (splice (zeros 100) 0 d) 0 d.length = d := by
  unfold pieceF splice; simp
theorem piece_zero (n k : Nat) (h : n ≤ k) : pieceF (zeros k) 0 n = zeros n := by
  unfold pieceF zeros; rw [List.drop_zero, List.take_replicate, Nat.min_eq_left h]
theorem piece_old (n : Nat) (h : n ≤ 100) : pieceF (zeros 100) 0 n = zeros n := piece_zero n 100 h
end
end Go.Proofs.YtpbkjmkdciiccaaGreatDoor
namespace Go.Proofs.YtpbkjmkdciiccaaGreatDoor
section
open Go.RowKit
theorem make_bytes (n : Nat) (hn : n ≤ 4096) (w : World) :
    (Instr.makeSlice 23 (.int .i64 (n : Int)) (.int .i64 (n : Int))).run Tryz.prog w = .ok (.slice (some ⟨w.heap.size, 0, none⟩) n n) (w.alloc (.cells (cellsB (zeros n)).toArray 5)) := by
  have := run_make_row' (P := Tryz.prog) 23 5 (.int .u8 0) 1 Tryz.underlying23 Tryz.info5 rfl .i64 .i64 n (by omega) (by omega) w
  rw [this, show madeCells #[.int .u8 0] n = (cellsB (zeros n)).toArray from by apply Array.ext'; rw [toList_madeCells_one]; simp [cellsB, zeros]]
theorem bts_row (w : World) (l : List UInt8) (hl : l.length ≤ 4096) : Bts (w.alloc (.cells (cellsB l).toArray 5)) (some ⟨w.heap.size, 0, none⟩) l.length l.length l := by
  refine ⟨rfl, Nat.le_refl _, by unfold maxLen; omega, (fun e => by cases e), fun ad e j hj => ?_⟩
  obtain rfl := Option.some.inj e
  rw [add0, cell_of_row _ w.heap.size j _ _ _ (heap_alloc_new _ _)]
  simpa using cellsB_get l j hj
theorem and_one (a : Nat) : a &&& 1 = 0 ∨ a &&& 1 = 1 := by
  rw [show (1 : Nat) = 2 ^ 1 - 1 from rfl, Nat.and_two_pow_sub_one_eq_mod]; omega
theorem and_two (a : Nat) : a &&& 2 = 0 ∨ a &&& 2 = 2 := by
  by_cases h : a.testBit 1
  · right
    apply Nat.eq_of_testBit_eq
    intro i
    rw [Nat.testBit_and, show (2 : Nat) = 2 ^ 1 from rfl, Nat.testBit_two_pow]
    by_cases e : 1 = i
    · subst e; simp [h]
    · simp [e]
  · left
    apply Nat.eq_of_testBit_eq
    intro i
    rw [Nat.testBit_and, show (2 : Nat) = 2 ^ 1 from rfl, Nat.testBit_two_pow, Nat.zero_testBit]
    by_cases e : 1 = i
    · subst e; simp [h]
    · simp [e]
set_option maxRecDepth 20000 in
set_option maxHeartbeats 12800000 in
theorem rgt_00 (mask : Nat) (ao : Option Addr) (n0 c0 : Nat) (l : List UInt8) (w : World) (hb : Bts w ao n0 c0 l) (hlow : 0 < n0 → ∀ ad, ao = some ad → ad.block < w.heap.size) (hm : mask ≤ 255) (h1 : mask &&& 1 = 0) (h2 : mask &&& 2 = 0) (hg : Glob w) :
    Calls Tryz.prog 6 #[.int .u8 (mask : Int), .slice ao n0 c0] w fun e w' => e = .returned (.bool true) ∧ Below w.heap.size w w' := by
  have HG := hide hg
  have HB := hide hb
  have HLOW := hide hlow
  have HM := hide hm
  have and1 : bits .and .u8 (mask : Int) 1 = 0 := by have h := and_nat mask 1 hm (by omega); rw [h1] at h; exact h
  have and2 : bits .and .u8 (mask : Int) 2 = 0 := by have h := and_nat mask 2 hm (by omega); rw [h2] at h; exact h
  have HN1 : Hid (¬ mask &&& needN 101 = needN 101) := by show ¬ mask &&& 1 = 1; omega
  have HN2 : Hid (¬ mask &&& needN 102 = needN 102) := by show ¬ mask &&& 2 = 2; omega
  have hx := of_word (ws := rgW) (t := 2) (es := []) (outs_nil rgW (by decide)) rgW_word 2097152 mask
  have hh := of_has (of_ok (ws := rgW) (t := 2) (by decide) [] 2097152 mask)
  have hel := of_len rgW 2 [] 2097152 mask
  have hres := rg_res hm
  obtain ⟨X0, hX0⟩ : ∃ X0, ofF rgW 2 [] 2097152 mask = X0 := ⟨_, rfl⟩
  rw [hX0] at hx hh hel hres
  obtain ⟨x, ok, t1, es1⟩ := X0
  simp only at hx hh hel hres
  have HXW := hide hx
  have HH := hide hh
  have HL : Hid (es1.length < 5000000000000) := by show _ < _; simp at hel; omega
  have HRES := hide hres
  obtain ⟨len, hlen⟩ : ∃ len, min n0 100 = len := ⟨_, rfl⟩
  have hmin : min (n0 : Int) 100 = (len : Int) := by rw [← hlen]; omega
  have hl1 : len ≤ n0 := by omega
  have hl2 : len ≤ 100 := by omega
  have hcap : c0 ≤ 9223372036854775807 := hb.2.2.1
  have hn0 : n0 ≤ c0 := hb.2.1
  have hcut : ∀ W : World, (Instr.slice 23 (.slice ao n0 c0) none (some (.int .i64 (len : Int))) none).run Tryz.prog W = .ok (.slice ao len c0) W := fun W => cut_head W ao n0 c0 len (by omega)
  have HBD : Hid (Bts w ao len c0 (l.take len)) := hb.head len hl1
  have HDL : Hid ((l.take len).length = len) := HBD.out.1.symm
  have HDT : Hid (Dat w.heap.size w len ao) := fun hp ad e => .inl (hlow (by omega) ad e)
  obtain ⟨d, hd⟩ : ∃ d, l.take len = d := ⟨_, rfl⟩
  rw [hd] at HBD HDL
  have HL2 := hide hl2
  have hw64 : IntKind.u64.wrap (len : Int) = (len : Int) := by rw [IntKind.wrap_u64]; omega
  have hw64 : IntKind.u64.wrap (len : Int) = (len : Int) := hw64
  clear hg hb hlow hm h1 h2 hx hh hel hres hX0 hlen hd
  go_enter Tryz.func6, Tryz.ntmps6
  go_wp2_with fail
  refine (awake_any _ HG.out).mono ?_; rintro e w1 ⟨rfl, b1⟩
  have HB1 := hide b1
  clear b1
  go_wp2_with fail
  refine (of_any _ _ _ rgW _ (u64s_rg w1) (by omega)).mono ?_; rintro e x1 ⟨ta, th, tk, rfl, TA, _, ha, hh2, bel⟩
  rw [cut_rgW] at TA
  have HT := hide TA
  have HTA := hide ha
  have HTH := hide hh2
  have HBE := hide bel
  clear TA bel ha hh2
  go_wp2_with fail
  refine (oof_any _ ⟨_, rfl⟩ _).mono ?_; rintro e x2 ⟨go, gm, rfl, O2, bel2⟩
  have HS3 := hide (Tk.made (below_one HB1.out (below_alloc w1 _)) HT.out HTA.out HTH.out HBE.out O2 bel2)
  clear O2 bel2 HT HBE HTA HTH
  go_wp2_with fail
  refine (tof_new 1 _).mono ?_; rintro e x3 ⟨rfl, T4, b4⟩
  have HO4 := hide (Od.make HS3.out T4 b4)
  obtain ⟨g, hgg⟩ : ∃ g, x2.heap.size = g := ⟨_, rfl⟩
  rw [hgg] at HO4 ⊢
  clear T4 b4 HS3 hgg
  go_wp2_with fail
  refine (mem_yes 30 30 (by decide) (by omega) _ HO4.out (by show 0 ≤ _; omega) rg0 rfl rg0_e).mono ?_; rintro e x4 ⟨rr, rfl, A, hA, -, -, -, hAh, -, -, hAN, -, hAb, X4, S4, F4⟩
  rw [rg0_c]
  simp only [Cp.val]
  have HX4 : Hid (Sv w x4 A 1 rgW rgS) := X4
  have HS4 := hide S4
  have HAG : Hid (A.g = g) := hA
  obtain ⟨V4, hV4⟩ : ∃ V, x4.alloc (.cells #[.int .u64 1, .int .u32 0, .int .u8 255, .int .u64 1048576] 36) = V := ⟨_, rfl⟩
  have b4 : Below x4.heap.size x4 V4 := hV4 ▸ below_alloc _ _
  have HQ : Hid (CBox V4 x4.heap.size 1 0 255 1048576) := hV4 ▸ CBox.new x4 1 0 255 1048576
  have HS := hide (HS4.out.grow b4)
  have HX := hide (HX4.out.grow b4)
  clear b4 F4 X4 S4 HO4 hA hAh hAN hAb HS4 HX4
  have c0x : V4.cell? ⟨x4.heap.size, 0, none⟩ = some (.int .u64 1) := HQ.out.c0
  have c1x : V4.cell? ⟨x4.heap.size, 1, none⟩ = some (.int .u32 0) := HQ.out.c1
  have c2x : V4.cell? ⟨x4.heap.size, 2, none⟩ = some (.int .u8 255) := HQ.out.c2
  have c3x : V4.cell? ⟨x4.heap.size, 3, none⟩ = some (.int .u64 1048576) := HQ.out.c3
  go_wp2_with fail
  refine (ask_any 100 100 rg0.c none 0 0 [] _ HS.out HX.out (bts_nil _) (by rw [rg0_c]; exact ⟨by show 1 ≤ _; omega, by show 0 ≤ _; omega, by show 255 ≤ _; omega, by show 1048576 ≤ _; omega⟩) (by omega) (fun h => absurd h (by omega)) (by omega) (by omega) (by rw [rgS_l]; omega) HG.out rg1 rfl 100 100 1 0 255 1048576 rfl rfl (by rw [rg0_c]; rfl) (by rw [rg0_c]; rfl) (by rw [rg0_c]; rfl) (by rw [rg0_c]; rfl)).mono ?_; rintro e x5 ⟨m5, co5, n5, cc5, A5, rfl, hm, B, TY, S, hag, X, K, F⟩
  obtain ⟨V5, hV5⟩ : ∃ V, x5.alloc (.cells #[.int .u64 m5.ta, .int .u64 m5.rp, .int .u32 m5.id, .int .u16 m5.op, .int .u16 m5.st, .int .u64 m5.p, .int .u32 m5.o, .int .u8 m5.r, .int .u64 m5.c, .int .u64 m5.ar, .slice co5 n5 cc5] 53) = V := ⟨_, rfl⟩
  have b5 : Below x5.heap.size x5 V5 := hV5 ▸ below_alloc _ _
  have HV5 : Hid (MB V5 x5.heap.size m5 (.slice co5 n5 cc5)) := hV5 ▸ mb_new _ _ _
  have HS := hide (S.grow b5)
  have HX := hide (X.grow b5)
  have HD5 := hide (B.carry b5)
  have HT5 := hide (TY.imp id (fun h => Typ8.grow h b5))
  have HAG : Hid (A5.g = g) := hag.trans HAG.out
  have HCP : Hid (m5.p = 1 ∧ m5.o = 1 ∧ m5.r = 255 ∧ m5.c = 2097152) := by have h := rpl_cap ⟨0, 0, 0, 100, 0, rg0.c.p, rg0.c.o, rg0.c.r, rg0.c.c, 100⟩ rg1 rg1_e; rw [rg1_c] at h; rw [← hm] at h; exact h
  clear hm B TY S X K F hag b5 c0x c1x c2x c3x
  obtain ⟨k0, k1, k2, k3, k4, k5, k6, k7, k8, k9, k10⟩ := HV5.out.all
  rw [HCP.out.1] at k5
  rw [HCP.out.2.1] at k6
  rw [HCP.out.2.2.1] at k7
  rw [HCP.out.2.2.2] at k8
  go_wp2_with fail
  rw [← HAG.out]
  have hr6 := tb_restrict (A := A5) rg1.c mask _ HX.out (by rw [rg1_c]; exact ⟨by show 1 ≤ _; omega, by show 1 ≤ _; omega, by show 255 ≤ _; omega, by show 2097152 ≤ _; omega⟩) HM.out (by rw [rg1_es]; show 0 < _; omega) _ HRES.out
  rw [rg1_c, show erN ((0 : Nat) : Int) = .nilIface from rfl] at hr6
  refine hr6.mono ?_; rintro e x6 ⟨rfl, E6⟩
  clear hr6
  have K6 := HX.out.kh E6
  have S6 := HS.out.kh K6
  obtain ⟨v6, dv6, nv6, X6, -⟩ := E6
  simp only [Cp.val]
  obtain ⟨V6, hV6⟩ : ∃ V, x6.alloc (.cells #[.int .u64 1, .int .u32 1, .int .u8 (mask : Int), .int .u64 (x : Int)] 36) = V := ⟨_, rfl⟩
  have b6 : Below x6.heap.size x6 V6 := hV6 ▸ below_alloc _ _
  have HQ : Hid (CBox V6 x6.heap.size 1 1 mask x) := hV6 ▸ CBox.new x6 1 1 mask x
  have HX : Hid (Sv w V6 (A5.upd v6 dv6 nv6) 1 rgW (rgN t1 es1 rgL)) := by have h := X6.grow b6; rw [show rg1.s.tab t1 es1 rg1.s.T = rgN t1 es1 rgL from by unfold Hs.tab rgN; rw [rg1_n, rg1_L]] at h; exact h
  have HS : Hid (Sr V6 rr (A5.upd v6 dv6 nv6).g (A5.upd v6 dv6 nv6).sb) := S6.grow b6
  clear K6 S6 X6 b6 k0 k1 k2 k3 k4 k5 k6 k7 k8 k9 k10
  obtain ⟨A6, hA6⟩ : ∃ A6, A5.upd v6 dv6 nv6 = A6 := ⟨_, rfl⟩
  rw [hA6] at HX HS
  clear hA6
  have HQOK : Hid ((Cp.mk 1 1 mask x).ok) := ⟨by show 1 ≤ _; omega, by show 1 ≤ _; omega, HM.out, by show x ≤ _; have := HXW.out; omega⟩
  have HBW : Hid (Below w.heap.size w V6) := HX.out.bel
  obtain ⟨R7, hR7⟩ : ∃ R, outF rgW 1 (rgN t1 es1 rgL) 102 ⟨1, 1, mask, x⟩ (0) d = R := ⟨_, rfl⟩
  have HR7 := hide hR7
  have HRV7 : Hid (R7 = badF (rgN t1 es1 rgL) 2) := by show _ = _; rw [← hR7, rg_own 102 (by omega) _ _ _ HXW.out HH.out, if_neg HN2.out]
  clear hR7
  have c0x : V6.cell? ⟨x6.heap.size, 0, none⟩ = some (.int .u64 1) := HQ.out.c0
  have c1x : V6.cell? ⟨x6.heap.size, 1, none⟩ = some (.int .u32 1) := HQ.out.c1
  have c2x := HQ.out.c2
  have c3x := HQ.out.c3
  go_wp2_with fail
  refine (ask_any 102 (0) ⟨1, 1, mask, x⟩ ao len c0 d _ HS.out HX.out (HBD.out.carry HBW.out) HQOK.out (by omega) (HDT.out.grow HBW.out) (by have := HL2.out; omega) (by have := HL2.out; omega) HL.out HG.out R7 HR7.out 102 0 1 1 (mask : Int) (x : Int) rfl rfl rfl rfl rfl rfl).mono ?_; rintro e x7 ⟨m7, co7, n7, cc7, A7, rfl, hm, B, TY, S, hag, X, K, F⟩
  have HST7 : Hid ((m7.st : Int) = 2) := by show _ = _; rw [hm, rpl_st, HRV7.out]; rfl
  rw [HRV7.out] at X
  obtain ⟨V7, hV7⟩ : ∃ V, x7.alloc (.cells #[.int .u64 m7.ta, .int .u64 m7.rp, .int .u32 m7.id, .int .u16 m7.op, .int .u16 m7.st, .int .u64 m7.p, .int .u32 m7.o, .int .u8 m7.r, .int .u64 m7.c, .int .u64 m7.ar, .slice co7 n7 cc7] 53) = V := ⟨_, rfl⟩
  have b7 : Below x7.heap.size x7 V7 := hV7 ▸ below_alloc _ _
  have HV7 : Hid (MB V7 x7.heap.size m7 (.slice co7 n7 cc7)) := hV7 ▸ mb_new _ _ _
  have HS := hide (S.grow b7)
  have HX := hide (X.grow b7)
  have HD7 := hide (B.carry b7)
  have HT7 := hide (TY.imp id (fun h => Typ8.grow h b7))
  have HQ := hide ((CBox.kh HQ.out K).grow b7)
  clear c0x c1x c2x c3x
  have HX : Hid (Sv w V7 A7 1 rgW (rgN t1 es1 rgL)) := HX.out
  clear hm B TY S X K F hag b7
  have HLL : Hid (rgL 0 = some (zeros 100)) := by show _ = _; unfold rgL; rw [upd_same]
  have HLN : Hid ((zeros 100).length = 100) := by show _ = _; rw [zeros_len]
  have HLF : Hid (leftL 30 rgL = 28) := rg_left0
  obtain ⟨R8, hR8⟩ : ∃ R, outF rgW 1 (rgN t1 es1 rgL) 101 ⟨1, 1, mask, x⟩ (len) [] = R := ⟨_, rfl⟩
  have HR8 := hide hR8
  have HRV8 : Hid (R8 = badF (rgN t1 es1 rgL) 2) := by show _ = _; rw [← hR8, rg_own 101 (by omega) _ _ _ HXW.out HH.out, if_neg HN1.out]
  clear hR8
  have c0x : V7.cell? ⟨x6.heap.size, 0, none⟩ = some (.int .u64 1) := HQ.out.c0
  have c1x : V7.cell? ⟨x6.heap.size, 1, none⟩ = some (.int .u32 1) := HQ.out.c1
  have c2x := HQ.out.c2
  have c3x := HQ.out.c3
  go_wp2_with fail
  refine (ask_any 101 (len) ⟨1, 1, mask, x⟩ none 0 0 [] _ HS.out HX.out (bts_nil _) HQOK.out (by omega) (fun h => absurd h (by omega)) (by have := HL2.out; omega) (by have := HL2.out; omega) HL.out HG.out R8 HR8.out 101 (len : Int) 1 1 (mask : Int) (x : Int) rfl rfl rfl rfl rfl rfl).mono ?_; rintro e x8 ⟨m8, co8, n8, cc8, A8, rfl, hm, B, TY, S, hag, X, K, F⟩
  have HST8 : Hid ((m8.st : Int) = 2) := by show _ = _; rw [hm, rpl_st, HRV8.out]; rfl
  rw [HRV8.out] at X
  obtain ⟨V8, hV8⟩ : ∃ V, x8.alloc (.cells #[.int .u64 m8.ta, .int .u64 m8.rp, .int .u32 m8.id, .int .u16 m8.op, .int .u16 m8.st, .int .u64 m8.p, .int .u32 m8.o, .int .u8 m8.r, .int .u64 m8.c, .int .u64 m8.ar, .slice co8 n8 cc8] 53) = V := ⟨_, rfl⟩
  have b8 : Below x8.heap.size x8 V8 := hV8 ▸ below_alloc _ _
  have HV8 : Hid (MB V8 x8.heap.size m8 (.slice co8 n8 cc8)) := hV8 ▸ mb_new _ _ _
  have HS := hide (S.grow b8)
  have HX := hide (X.grow b8)
  have HD8 := hide (B.carry b8)
  have HT8 := hide (TY.imp id (fun h => Typ8.grow h b8))
  have HQ := hide ((CBox.kh HQ.out K).grow b8)
  have HV7 := hide ((HV7.out.kh K).grow b8)
  clear c0x c1x c2x c3x
  have HX : Hid (Sv w V8 A8 1 rgW (rgN t1 es1 rgL)) := HX.out
  rw [HRV8.out] at HD8 HT8
  clear hm B TY S X K F hag b8
  obtain ⟨R9, hR9⟩ : ∃ R, outF rgW 1 (rgN t1 es1 rgL) 104 ⟨1, 1, mask, x⟩ 200 [] = R := ⟨_, rfl⟩
  have HR9 := hide hR9
  have HRV9 : Hid (R9.e = 2) := by show _ = _; rw [← hR9, rg_own 104 (by omega) _ _ _ HXW.out HH.out, if_neg (show ¬ mask &&& needN 104 = needN 104 from HN2.out)]; rfl
  clear hR9
  have c0x : V8.cell? ⟨x6.heap.size, 0, none⟩ = some (.int .u64 1) := HQ.out.c0
  have c1x : V8.cell? ⟨x6.heap.size, 1, none⟩ = some (.int .u32 1) := HQ.out.c1
  have c2x := HQ.out.c2
  have c3x := HQ.out.c3
  go_wp2_with fail
  refine (ask_any 104 200 ⟨1, 1, mask, x⟩ none 0 0 [] _ HS.out HX.out (bts_nil _) HQOK.out (by omega) (fun h => absurd h (by omega)) (by omega) (by omega) HL.out HG.out R9 HR9.out 104 200 1 1 (mask : Int) (x : Int) rfl rfl rfl rfl rfl rfl).mono ?_; rintro e x9 ⟨m9, co9, n9, cc9, A9, rfl, hm, B, TY, S, hag, X, K, F⟩
  have HST9 : Hid ((m9.st : Int) = 2) := by show _ = _; rw [hm, rpl_st, HRV9.out]; rfl
  obtain ⟨V9, hV9⟩ : ∃ V, x9.alloc (.cells #[.int .u64 m9.ta, .int .u64 m9.rp, .int .u32 m9.id, .int .u16 m9.op, .int .u16 m9.st, .int .u64 m9.p, .int .u32 m9.o, .int .u8 m9.r, .int .u64 m9.c, .int .u64 m9.ar, .slice co9 n9 cc9] 53) = V := ⟨_, rfl⟩
  have b9 : Below x9.heap.size x9 V9 := hV9 ▸ below_alloc _ _
  have HV9 : Hid (MB V9 x9.heap.size m9 (.slice co9 n9 cc9)) := hV9 ▸ mb_new _ _ _
  have HS := hide (S.grow b9)
  have HX := hide (X.grow b9)
  have HD9 := hide (B.carry b9)
  have HT9 := hide (TY.imp id (fun h => Typ8.grow h b9))
  have HV7 := hide ((HV7.out.kh K).grow b9)
  have HV8 := hide ((HV8.out.kh K).grow b9)
  have HD8 := hide ((HD8.out.typ HT8.out K).carry b9)
  have HBZ := hide (HX.out.bel)
  have e7 : V9.cell? ⟨x7.heap.size, 4, none⟩ = some (.int .u16 2) := by rw [HV7.out.all.2.2.2.2.1, HST7.out]
  have e8 : V9.cell? ⟨x8.heap.size, 4, none⟩ = some (.int .u16 2) := by rw [HV8.out.all.2.2.2.2.1, HST8.out]
  have e9 : V9.cell? ⟨x9.heap.size, 4, none⟩ = some (.int .u16 2) := by rw [HV9.out.all.2.2.2.2.1, HST9.out]
  have e10 : V9.cell? ⟨x8.heap.size, 10, none⟩ = some (.slice co8 n8 cc8) := HV8.out.all.2.2.2.2.2.2.2.2.2.2
  clear c0x c1x c2x c3x hm B TY S X K F hag b9
  have cvd := conv_bts ((HBD.out.carry HBZ.out).drewN 1)
  clear HV7 HV8 HV9 HQ HS HX
  go_wp2_with fail
  go_quiet (fail)
  go_wp2
  go_ret
  exact ⟨rfl, HBZ.out.trans (below_d _ _ |>.mono HBZ.out.size)⟩
set_option maxRecDepth 20000 in
set_option maxHeartbeats 12800000 in
theorem rgt_01 (mask : Nat) (ao : Option Addr) (n0 c0 : Nat) (l : List UInt8) (w : World) (hb : Bts w ao n0 c0 l) (hlow : 0 < n0 → ∀ ad, ao = some ad → ad.block < w.heap.size) (hm : mask ≤ 255) (h1 : mask &&& 1 = 0) (h2 : mask &&& 2 = 2) (hg : Glob w) :
    Calls Tryz.prog 6 #[.int .u8 (mask : Int), .slice ao n0 c0] w fun e w' => e = .returned (.bool true) ∧ Below w.heap.size w w' := by
  have HG := hide hg
  have HB := hide hb
  have HLOW := hide hlow
  have HM := hide hm
  have and1 : bits .and .u8 (mask : Int) 1 = 0 := by have h := and_nat mask 1 hm (by omega); rw [h1] at h; exact h
  have and2 : bits .and .u8 (mask : Int) 2 = 2 := by have h := and_nat mask 2 hm (by omega); rw [h2] at h; exact h
  have HN1 : Hid (¬ mask &&& needN 101 = needN 101) := by show ¬ mask &&& 1 = 1; omega
  have HN2 : Hid (mask &&& needN 102 = needN 102) := h2
  have hx := of_word (ws := rgW) (t := 2) (es := []) (outs_nil rgW (by decide)) rgW_word 2097152 mask
  have hh := of_has (of_ok (ws := rgW) (t := 2) (by decide) [] 2097152 mask)
  have hel := of_len rgW 2 [] 2097152 mask
  have hres := rg_res hm
  obtain ⟨X0, hX0⟩ : ∃ X0, ofF rgW 2 [] 2097152 mask = X0 := ⟨_, rfl⟩
  rw [hX0] at hx hh hel hres
  obtain ⟨x, ok, t1, es1⟩ := X0
  simp only at hx hh hel hres
  have HXW := hide hx
  have HH := hide hh
  have HL : Hid (es1.length < 5000000000000) := by show _ < _; simp at hel; omega
  have HRES := hide hres
  obtain ⟨len, hlen⟩ : ∃ len, min n0 100 = len := ⟨_, rfl⟩
  have hmin : min (n0 : Int) 100 = (len : Int) := by rw [← hlen]; omega
  have hl1 : len ≤ n0 := by omega
  have hl2 : len ≤ 100 := by omega
  have hcap : c0 ≤ 9223372036854775807 := hb.2.2.1
  have hn0 : n0 ≤ c0 := hb.2.1
  have hcut : ∀ W : World, (Instr.slice 23 (.slice ao n0 c0) none (some (.int .i64 (len : Int))) none).run Tryz.prog W = .ok (.slice ao len c0) W := fun W => cut_head W ao n0 c0 len (by omega)
  have HBD : Hid (Bts w ao len c0 (l.take len)) := hb.head len hl1
  have HDL : Hid ((l.take len).length = len) := HBD.out.1.symm
  have HDT : Hid (Dat w.heap.size w len ao) := fun hp ad e => .inl (hlow (by omega) ad e)
  obtain ⟨d, hd⟩ : ∃ d, l.take len = d := ⟨_, rfl⟩
  rw [hd] at HBD HDL
  have HL2 := hide hl2
  have hw64 : IntKind.u64.wrap (len : Int) = (len : Int) := by rw [IntKind.wrap_u64]; omega
  have hw64 : IntKind.u64.wrap (len : Int) = (len : Int) := hw64
  clear hg hb hlow hm h1 h2 hx hh hel hres hX0 hlen hd
  go_enter Tryz.func6, Tryz.ntmps6
  go_wp2_with fail
  refine (awake_any _ HG.out).mono ?_; rintro e w1 ⟨rfl, b1⟩
  have HB1 := hide b1
  clear b1
  go_wp2_with fail
  refine (of_any _ _ _ rgW _ (u64s_rg w1) (by omega)).mono ?_; rintro e x1 ⟨ta, th, tk, rfl, TA, _, ha, hh2, bel⟩
  rw [cut_rgW] at TA
  have HT := hide TA
  have HTA := hide ha
  have HTH := hide hh2
  have HBE := hide bel
  clear TA bel ha hh2
  go_wp2_with fail
  refine (oof_any _ ⟨_, rfl⟩ _).mono ?_; rintro e x2 ⟨go, gm, rfl, O2, bel2⟩
  have HS3 := hide (Tk.made (below_one HB1.out (below_alloc w1 _)) HT.out HTA.out HTH.out HBE.out O2 bel2)
  clear O2 bel2 HT HBE HTA HTH
  go_wp2_with fail
  refine (tof_new 1 _).mono ?_; rintro e x3 ⟨rfl, T4, b4⟩
  have HO4 := hide (Od.make HS3.out T4 b4)
  obtain ⟨g, hgg⟩ : ∃ g, x2.heap.size = g := ⟨_, rfl⟩
  rw [hgg] at HO4 ⊢
  clear T4 b4 HS3 hgg
  go_wp2_with fail
  refine (mem_yes 30 30 (by decide) (by omega) _ HO4.out (by show 0 ≤ _; omega) rg0 rfl rg0_e).mono ?_; rintro e x4 ⟨rr, rfl, A, hA, -, -, -, hAh, -, -, hAN, -, hAb, X4, S4, F4⟩
  rw [rg0_c]
  simp only [Cp.val]
  have HX4 : Hid (Sv w x4 A 1 rgW rgS) := X4
  have HS4 := hide S4
  have HAG : Hid (A.g = g) := hA
  obtain ⟨V4, hV4⟩ : ∃ V, x4.alloc (.cells #[.int .u64 1, .int .u32 0, .int .u8 255, .int .u64 1048576] 36) = V := ⟨_, rfl⟩
  have b4 : Below x4.heap.size x4 V4 := hV4 ▸ below_alloc _ _
  have HQ : Hid (CBox V4 x4.heap.size 1 0 255 1048576) := hV4 ▸ CBox.new x4 1 0 255 1048576
  have HS := hide (HS4.out.grow b4)
  have HX := hide (HX4.out.grow b4)
  clear b4 F4 X4 S4 HO4 hA hAh hAN hAb HS4 HX4
  have c0x : V4.cell? ⟨x4.heap.size, 0, none⟩ = some (.int .u64 1) := HQ.out.c0
  have c1x : V4.cell? ⟨x4.heap.size, 1, none⟩ = some (.int .u32 0) := HQ.out.c1
  have c2x : V4.cell? ⟨x4.heap.size, 2, none⟩ = some (.int .u8 255) := HQ.out.c2
  have c3x : V4.cell? ⟨x4.heap.size, 3, none⟩ = some (.int .u64 1048576) := HQ.out.c3
  go_wp2_with fail
  refine (ask_any 100 100 rg0.c none 0 0 [] _ HS.out HX.out (bts_nil _) (by rw [rg0_c]; exact ⟨by show 1 ≤ _; omega, by show 0 ≤ _; omega, by show 255 ≤ _; omega, by show 1048576 ≤ _; omega⟩) (by omega) (fun h => absurd h (by omega)) (by omega) (by omega) (by rw [rgS_l]; omega) HG.out rg1 rfl 100 100 1 0 255 1048576 rfl rfl (by rw [rg0_c]; rfl) (by rw [rg0_c]; rfl) (by rw [rg0_c]; rfl) (by rw [rg0_c]; rfl)).mono ?_; rintro e x5 ⟨m5, co5, n5, cc5, A5, rfl, hm, B, TY, S, hag, X, K, F⟩
  obtain ⟨V5, hV5⟩ : ∃ V, x5.alloc (.cells #[.int .u64 m5.ta, .int .u64 m5.rp, .int .u32 m5.id, .int .u16 m5.op, .int .u16 m5.st, .int .u64 m5.p, .int .u32 m5.o, .int .u8 m5.r, .int .u64 m5.c, .int .u64 m5.ar, .slice co5 n5 cc5] 53) = V := ⟨_, rfl⟩
  have b5 : Below x5.heap.size x5 V5 := hV5 ▸ below_alloc _ _
  have HV5 : Hid (MB V5 x5.heap.size m5 (.slice co5 n5 cc5)) := hV5 ▸ mb_new _ _ _
  have HS := hide (S.grow b5)
  have HX := hide (X.grow b5)
  have HD5 := hide (B.carry b5)
  have HT5 := hide (TY.imp id (fun h => Typ8.grow h b5))
  have HAG : Hid (A5.g = g) := hag.trans HAG.out
  have HCP : Hid (m5.p = 1 ∧ m5.o = 1 ∧ m5.r = 255 ∧ m5.c = 2097152) := by have h := rpl_cap ⟨0, 0, 0, 100, 0, rg0.c.p, rg0.c.o, rg0.c.r, rg0.c.c, 100⟩ rg1 rg1_e; rw [rg1_c] at h; rw [← hm] at h; exact h
  clear hm B TY S X K F hag b5 c0x c1x c2x c3x
  obtain ⟨k0, k1, k2, k3, k4, k5, k6, k7, k8, k9, k10⟩ := HV5.out.all
  rw [HCP.out.1] at k5
  rw [HCP.out.2.1] at k6
  rw [HCP.out.2.2.1] at k7
  rw [HCP.out.2.2.2] at k8
  go_wp2_with fail
  rw [← HAG.out]
  have hr6 := tb_restrict (A := A5) rg1.c mask _ HX.out (by rw [rg1_c]; exact ⟨by show 1 ≤ _; omega, by show 1 ≤ _; omega, by show 255 ≤ _; omega, by show 2097152 ≤ _; omega⟩) HM.out (by rw [rg1_es]; show 0 < _; omega) _ HRES.out
  rw [rg1_c, show erN ((0 : Nat) : Int) = .nilIface from rfl] at hr6
  refine hr6.mono ?_; rintro e x6 ⟨rfl, E6⟩
  clear hr6
  have K6 := HX.out.kh E6
  have S6 := HS.out.kh K6
  obtain ⟨v6, dv6, nv6, X6, -⟩ := E6
  simp only [Cp.val]
  obtain ⟨V6, hV6⟩ : ∃ V, x6.alloc (.cells #[.int .u64 1, .int .u32 1, .int .u8 (mask : Int), .int .u64 (x : Int)] 36) = V := ⟨_, rfl⟩
  have b6 : Below x6.heap.size x6 V6 := hV6 ▸ below_alloc _ _
  have HQ : Hid (CBox V6 x6.heap.size 1 1 mask x) := hV6 ▸ CBox.new x6 1 1 mask x
  have HX : Hid (Sv w V6 (A5.upd v6 dv6 nv6) 1 rgW (rgN t1 es1 rgL)) := by have h := X6.grow b6; rw [show rg1.s.tab t1 es1 rg1.s.T = rgN t1 es1 rgL from by unfold Hs.tab rgN; rw [rg1_n, rg1_L]] at h; exact h
  have HS : Hid (Sr V6 rr (A5.upd v6 dv6 nv6).g (A5.upd v6 dv6 nv6).sb) := S6.grow b6
  clear K6 S6 X6 b6 k0 k1 k2 k3 k4 k5 k6 k7 k8 k9 k10
  obtain ⟨A6, hA6⟩ : ∃ A6, A5.upd v6 dv6 nv6 = A6 := ⟨_, rfl⟩
  rw [hA6] at HX HS
  clear hA6
  have HQOK : Hid ((Cp.mk 1 1 mask x).ok) := ⟨by show 1 ≤ _; omega, by show 1 ≤ _; omega, HM.out, by show x ≤ _; have := HXW.out; omega⟩
  have HBW : Hid (Below w.heap.size w V6) := HX.out.bel
  obtain ⟨R7, hR7⟩ : ∃ R, outF rgW 1 (rgN t1 es1 rgL) 102 ⟨1, 1, mask, x⟩ (0) d = R := ⟨_, rfl⟩
  have HR7 := hide hR7
  have HRV7 : Hid (R7 = badF (rgN t1 es1 (upd rgL 0 (some (splice (zeros 100) 0 d)))) 0) := by show _ = _; rw [← hR7, rg_own 102 (by omega) _ _ _ HXW.out HH.out, if_pos HN2.out, rg_write d (by rw [HDL.out]; exact HL2.out)]
  clear hR7
  have c0x : V6.cell? ⟨x6.heap.size, 0, none⟩ = some (.int .u64 1) := HQ.out.c0
  have c1x : V6.cell? ⟨x6.heap.size, 1, none⟩ = some (.int .u32 1) := HQ.out.c1
  have c2x := HQ.out.c2
  have c3x := HQ.out.c3
  go_wp2_with fail
  refine (ask_any 102 (0) ⟨1, 1, mask, x⟩ ao len c0 d _ HS.out HX.out (HBD.out.carry HBW.out) HQOK.out (by omega) (HDT.out.grow HBW.out) (by have := HL2.out; omega) (by have := HL2.out; omega) HL.out HG.out R7 HR7.out 102 0 1 1 (mask : Int) (x : Int) rfl rfl rfl rfl rfl rfl).mono ?_; rintro e x7 ⟨m7, co7, n7, cc7, A7, rfl, hm, B, TY, S, hag, X, K, F⟩
  have HST7 : Hid ((m7.st : Int) = 0) := by show _ = _; rw [hm, rpl_st, HRV7.out]; rfl
  rw [HRV7.out] at X
  obtain ⟨V7, hV7⟩ : ∃ V, x7.alloc (.cells #[.int .u64 m7.ta, .int .u64 m7.rp, .int .u32 m7.id, .int .u16 m7.op, .int .u16 m7.st, .int .u64 m7.p, .int .u32 m7.o, .int .u8 m7.r, .int .u64 m7.c, .int .u64 m7.ar, .slice co7 n7 cc7] 53) = V := ⟨_, rfl⟩
  have b7 : Below x7.heap.size x7 V7 := hV7 ▸ below_alloc _ _
  have HV7 : Hid (MB V7 x7.heap.size m7 (.slice co7 n7 cc7)) := hV7 ▸ mb_new _ _ _
  have HS := hide (S.grow b7)
  have HX := hide (X.grow b7)
  have HD7 := hide (B.carry b7)
  have HT7 := hide (TY.imp id (fun h => Typ8.grow h b7))
  have HQ := hide ((CBox.kh HQ.out K).grow b7)
  clear c0x c1x c2x c3x
  have HX : Hid (Sv w V7 A7 1 rgW (rgN t1 es1 (upd rgL 0 (some (splice (zeros 100) 0 d))))) := HX.out
  clear hm B TY S X K F hag b7
  have HLL : Hid ((upd rgL 0 (some (splice (zeros 100) 0 d))) 0 = some (splice (zeros 100) 0 d)) := by show _ = _; rw [upd_same]
  have HLN : Hid ((splice (zeros 100) 0 d).length = 100) := by show _ = _; rw [length_splice _ _ _ (by rw [zeros_len, HDL.out]; have := HL2.out; omega), zeros_len]
  have HLF : Hid (leftL 30 (upd rgL 0 (some (splice (zeros 100) 0 d))) = 28) := rg_left d (by rw [HDL.out]; exact HL2.out)
  obtain ⟨R8, hR8⟩ : ∃ R, outF rgW 1 (rgN t1 es1 (upd rgL 0 (some (splice (zeros 100) 0 d)))) 101 ⟨1, 1, mask, x⟩ (len) [] = R := ⟨_, rfl⟩
  have HR8 := hide hR8
  have HRV8 : Hid (R8 = badF (rgN t1 es1 (upd rgL 0 (some (splice (zeros 100) 0 d)))) 2) := by show _ = _; rw [← hR8, rg_own 101 (by omega) _ _ _ HXW.out HH.out, if_neg HN1.out]
  clear hR8
  have c0x : V7.cell? ⟨x6.heap.size, 0, none⟩ = some (.int .u64 1) := HQ.out.c0
  have c1x : V7.cell? ⟨x6.heap.size, 1, none⟩ = some (.int .u32 1) := HQ.out.c1
  have c2x := HQ.out.c2
  have c3x := HQ.out.c3
  go_wp2_with fail
  refine (ask_any 101 (len) ⟨1, 1, mask, x⟩ none 0 0 [] _ HS.out HX.out (bts_nil _) HQOK.out (by omega) (fun h => absurd h (by omega)) (by have := HL2.out; omega) (by have := HL2.out; omega) HL.out HG.out R8 HR8.out 101 (len : Int) 1 1 (mask : Int) (x : Int) rfl rfl rfl rfl rfl rfl).mono ?_; rintro e x8 ⟨m8, co8, n8, cc8, A8, rfl, hm, B, TY, S, hag, X, K, F⟩
  have HST8 : Hid ((m8.st : Int) = 2) := by show _ = _; rw [hm, rpl_st, HRV8.out]; rfl
  rw [HRV8.out] at X
  obtain ⟨V8, hV8⟩ : ∃ V, x8.alloc (.cells #[.int .u64 m8.ta, .int .u64 m8.rp, .int .u32 m8.id, .int .u16 m8.op, .int .u16 m8.st, .int .u64 m8.p, .int .u32 m8.o, .int .u8 m8.r, .int .u64 m8.c, .int .u64 m8.ar, .slice co8 n8 cc8] 53) = V := ⟨_, rfl⟩
  have b8 : Below x8.heap.size x8 V8 := hV8 ▸ below_alloc _ _
  have HV8 : Hid (MB V8 x8.heap.size m8 (.slice co8 n8 cc8)) := hV8 ▸ mb_new _ _ _
  have HS := hide (S.grow b8)
  have HX := hide (X.grow b8)
  have HD8 := hide (B.carry b8)
  have HT8 := hide (TY.imp id (fun h => Typ8.grow h b8))
  have HQ := hide ((CBox.kh HQ.out K).grow b8)
  have HV7 := hide ((HV7.out.kh K).grow b8)
  clear c0x c1x c2x c3x
  have HX : Hid (Sv w V8 A8 1 rgW (rgN t1 es1 (upd rgL 0 (some (splice (zeros 100) 0 d))))) := HX.out
  rw [HRV8.out] at HD8 HT8
  clear hm B TY S X K F hag b8
  obtain ⟨R9, hR9⟩ : ∃ R, outF rgW 1 (rgN t1 es1 (upd rgL 0 (some (splice (zeros 100) 0 d)))) 104 ⟨1, 1, mask, x⟩ 200 [] = R := ⟨_, rfl⟩
  have HR9 := hide hR9
  have HRV9 : Hid (R9.e = 0) := by show _ = _; rw [← hR9, rg_own 104 (by omega) _ _ _ HXW.out HH.out, if_pos (show mask &&& needN 104 = needN 104 from HN2.out)]; exact rg_grow _ HLL.out HLN.out HLF.out []
  clear hR9
  have c0x : V8.cell? ⟨x6.heap.size, 0, none⟩ = some (.int .u64 1) := HQ.out.c0
  have c1x : V8.cell? ⟨x6.heap.size, 1, none⟩ = some (.int .u32 1) := HQ.out.c1
  have c2x := HQ.out.c2
  have c3x := HQ.out.c3
  go_wp2_with fail
  refine (ask_any 104 200 ⟨1, 1, mask, x⟩ none 0 0 [] _ HS.out HX.out (bts_nil _) HQOK.out (by omega) (fun h => absurd h (by omega)) (by omega) (by omega) HL.out HG.out R9 HR9.out 104 200 1 1 (mask : Int) (x : Int) rfl rfl rfl rfl rfl rfl).mono ?_; rintro e x9 ⟨m9, co9, n9, cc9, A9, rfl, hm, B, TY, S, hag, X, K, F⟩
  have HST9 : Hid ((m9.st : Int) = 0) := by show _ = _; rw [hm, rpl_st, HRV9.out]; rfl
  obtain ⟨V9, hV9⟩ : ∃ V, x9.alloc (.cells #[.int .u64 m9.ta, .int .u64 m9.rp, .int .u32 m9.id, .int .u16 m9.op, .int .u16 m9.st, .int .u64 m9.p, .int .u32 m9.o, .int .u8 m9.r, .int .u64 m9.c, .int .u64 m9.ar, .slice co9 n9 cc9] 53) = V := ⟨_, rfl⟩
  have b9 : Below x9.heap.size x9 V9 := hV9 ▸ below_alloc _ _
  have HV9 : Hid (MB V9 x9.heap.size m9 (.slice co9 n9 cc9)) := hV9 ▸ mb_new _ _ _
  have HS := hide (S.grow b9)
  have HX := hide (X.grow b9)
  have HD9 := hide (B.carry b9)
  have HT9 := hide (TY.imp id (fun h => Typ8.grow h b9))
  have HV7 := hide ((HV7.out.kh K).grow b9)
  have HV8 := hide ((HV8.out.kh K).grow b9)
  have HD8 := hide ((HD8.out.typ HT8.out K).carry b9)
  have HBZ := hide (HX.out.bel)
  have e7 : V9.cell? ⟨x7.heap.size, 4, none⟩ = some (.int .u16 0) := by rw [HV7.out.all.2.2.2.2.1, HST7.out]
  have e8 : V9.cell? ⟨x8.heap.size, 4, none⟩ = some (.int .u16 2) := by rw [HV8.out.all.2.2.2.2.1, HST8.out]
  have e9 : V9.cell? ⟨x9.heap.size, 4, none⟩ = some (.int .u16 0) := by rw [HV9.out.all.2.2.2.2.1, HST9.out]
  have e10 : V9.cell? ⟨x8.heap.size, 10, none⟩ = some (.slice co8 n8 cc8) := HV8.out.all.2.2.2.2.2.2.2.2.2.2
  clear c0x c1x c2x c3x hm B TY S X K F hag b9
  have cvd := conv_bts ((HBD.out.carry HBZ.out).drewN 1)
  clear HV7 HV8 HV9 HQ HS HX
  go_wp2_with fail
  go_quiet (fail)
  go_wp2
  go_ret
  exact ⟨rfl, HBZ.out.trans (below_d _ _ |>.mono HBZ.out.size)⟩
set_option maxRecDepth 20000 in
set_option maxHeartbeats 12800000 in
theorem rgt_10 (mask : Nat) (ao : Option Addr) (n0 c0 : Nat) (l : List UInt8) (w : World) (hb : Bts w ao n0 c0 l) (hlow : 0 < n0 → ∀ ad, ao = some ad → ad.block < w.heap.size) (hm : mask ≤ 255) (h1 : mask &&& 1 = 1) (h2 : mask &&& 2 = 0) (hg : Glob w) :
    Calls Tryz.prog 6 #[.int .u8 (mask : Int), .slice ao n0 c0] w fun e w' => e = .returned (.bool true) ∧ Below w.heap.size w w' := by
  have HG := hide hg
  have HB := hide hb
  have HLOW := hide hlow
  have HM := hide hm
  have and1 : bits .and .u8 (mask : Int) 1 = 1 := by have h := and_nat mask 1 hm (by omega); rw [h1] at h; exact h
  have and2 : bits .and .u8 (mask : Int) 2 = 0 := by have h := and_nat mask 2 hm (by omega); rw [h2] at h; exact h
  have HN1 : Hid (mask &&& needN 101 =  needN 101) := h1
  have HN2 : Hid (¬ mask &&& needN 102 = needN 102) := by show ¬ mask &&& 2 = 2; omega
  have hx := of_word (ws := rgW) (t := 2) (es := []) (outs_nil rgW (by decide)) rgW_word 2097152 mask
  have hh := of_has (of_ok (ws := rgW) (t := 2) (by decide) [] 2097152 mask)
  have hel := of_len rgW 2 [] 2097152 mask
  have hres := rg_res hm
  obtain ⟨X0, hX0⟩ : ∃ X0, ofF rgW 2 [] 2097152 mask = X0 := ⟨_, rfl⟩
  rw [hX0] at hx hh hel hres
  obtain ⟨x, ok, t1, es1⟩ := X0
  simp only at hx hh hel hres
  have HXW := hide hx
  have HH := hide hh
  have HL : Hid (es1.length < 5000000000000) := by show _ < _; simp at hel; omega
  have HRES := hide hres
  obtain ⟨len, hlen⟩ : ∃ len, min n0 100 = len := ⟨_, rfl⟩
  have hmin : min (n0 : Int) 100 = (len : Int) := by rw [← hlen]; omega
  have hl1 : len ≤ n0 := by omega
  have hl2 : len ≤ 100 := by omega
  have hcap : c0 ≤ 9223372036854775807 := hb.2.2.1
  have hn0 : n0 ≤ c0 := hb.2.1
  have hcut : ∀ W : World, (Instr.slice 23 (.slice ao n0 c0) none (some (.int .i64 (len : Int))) none).run Tryz.prog W = .ok (.slice ao len c0) W := fun W => cut_head W ao n0 c0 len (by omega)
  have HBD : Hid (Bts w ao len c0 (l.take len)) := hb.head len hl1
  have HDL : Hid ((l.take len).length = len) := HBD.out.1.symm
  have HDT : Hid (Dat w.heap.size w len ao) := fun hp ad e => .inl (hlow (by omega) ad e)
  obtain ⟨d, hd⟩ : ∃ d, l.take len = d := ⟨_, rfl⟩
  rw [hd] at HBD HDL
  have HL2 := hide hl2
  have hw64 : IntKind.u64.wrap (len : Int) = (len : Int) := by rw [IntKind.wrap_u64]; omega
  have hw64 : IntKind.u64.wrap (len : Int) = (len : Int) := hw64
  clear hg hb hlow hm h1 h2 hx hh hel hres hX0 hlen hd
  go_enter Tryz.func6, Tryz.ntmps6
  go_wp2_with fail
  refine (awake_any _ HG.out).mono ?_; rintro e w1 ⟨rfl, b1⟩
  have HB1 := hide b1
  clear b1
  go_wp2_with fail
  refine (of_any _ _ _ rgW _ (u64s_rg w1) (by omega)).mono ?_; rintro e x1 ⟨ta, th, tk, rfl, TA, _, ha, hh2, bel⟩
  rw [cut_rgW] at TA
  have HT := hide TA
  have HTA := hide ha
  have HTH := hide hh2
  have HBE := hide bel
  clear TA bel ha hh2
  go_wp2_with fail
  refine (oof_any _ ⟨_, rfl⟩ _).mono ?_; rintro e x2 ⟨go, gm, rfl, O2, bel2⟩
  have HS3 := hide (Tk.made (below_one HB1.out (below_alloc w1 _)) HT.out HTA.out HTH.out HBE.out O2 bel2)
  clear O2 bel2 HT HBE HTA HTH
  go_wp2_with fail
  refine (tof_new 1 _).mono ?_; rintro e x3 ⟨rfl, T4, b4⟩
  have HO4 := hide (Od.make HS3.out T4 b4)
  obtain ⟨g, hgg⟩ : ∃ g, x2.heap.size = g := ⟨_, rfl⟩
  rw [hgg] at HO4 ⊢
  clear T4 b4 HS3 hgg
  go_wp2_with fail
  refine (mem_yes 30 30 (by decide) (by omega) _ HO4.out (by show 0 ≤ _; omega) rg0 rfl rg0_e).mono ?_; rintro e x4 ⟨rr, rfl, A, hA, -, -, -, hAh, -, -, hAN, -, hAb, X4, S4, F4⟩
  rw [rg0_c]
  simp only [Cp.val]
  have HX4 : Hid (Sv w x4 A 1 rgW rgS) := X4
  have HS4 := hide S4
  have HAG : Hid (A.g = g) := hA
  obtain ⟨V4, hV4⟩ : ∃ V, x4.alloc (.cells #[.int .u64 1, .int .u32 0, .int .u8 255, .int .u64 1048576] 36) = V := ⟨_, rfl⟩
  have b4 : Below x4.heap.size x4 V4 := hV4 ▸ below_alloc _ _
  have HQ : Hid (CBox V4 x4.heap.size 1 0 255 1048576) := hV4 ▸ CBox.new x4 1 0 255 1048576
  have HS := hide (HS4.out.grow b4)
  have HX := hide (HX4.out.grow b4)
  clear b4 F4 X4 S4 HO4 hA hAh hAN hAb HS4 HX4
  have c0x : V4.cell? ⟨x4.heap.size, 0, none⟩ = some (.int .u64 1) := HQ.out.c0
  have c1x : V4.cell? ⟨x4.heap.size, 1, none⟩ = some (.int .u32 0) := HQ.out.c1
  have c2x : V4.cell? ⟨x4.heap.size, 2, none⟩ = some (.int .u8 255) := HQ.out.c2
  have c3x : V4.cell? ⟨x4.heap.size, 3, none⟩ = some (.int .u64 1048576) := HQ.out.c3
  go_wp2_with fail
  refine (ask_any 100 100 rg0.c none 0 0 [] _ HS.out HX.out (bts_nil _) (by rw [rg0_c]; exact ⟨by show 1 ≤ _; omega, by show 0 ≤ _; omega, by show 255 ≤ _; omega, by show 1048576 ≤ _; omega⟩) (by omega) (fun h => absurd h (by omega)) (by omega) (by omega) (by rw [rgS_l]; omega) HG.out rg1 rfl 100 100 1 0 255 1048576 rfl rfl (by rw [rg0_c]; rfl) (by rw [rg0_c]; rfl) (by rw [rg0_c]; rfl) (by rw [rg0_c]; rfl)).mono ?_; rintro e x5 ⟨m5, co5, n5, cc5, A5, rfl, hm, B, TY, S, hag, X, K, F⟩
  obtain ⟨V5, hV5⟩ : ∃ V, x5.alloc (.cells #[.int .u64 m5.ta, .int .u64 m5.rp, .int .u32 m5.id, .int .u16 m5.op, .int .u16 m5.st, .int .u64 m5.p, .int .u32 m5.o, .int .u8 m5.r, .int .u64 m5.c, .int .u64 m5.ar, .slice co5 n5 cc5] 53) = V := ⟨_, rfl⟩
  have b5 : Below x5.heap.size x5 V5 := hV5 ▸ below_alloc _ _
  have HV5 : Hid (MB V5 x5.heap.size m5 (.slice co5 n5 cc5)) := hV5 ▸ mb_new _ _ _
  have HS := hide (S.grow b5)
  have HX := hide (X.grow b5)
  have HD5 := hide (B.carry b5)
  have HT5 := hide (TY.imp id (fun h => Typ8.grow h b5))
  have HAG : Hid (A5.g = g) := hag.trans HAG.out
  have HCP : Hid (m5.p = 1 ∧ m5.o = 1 ∧ m5.r = 255 ∧ m5.c = 2097152) := by have h := rpl_cap ⟨0, 0, 0, 100, 0, rg0.c.p, rg0.c.o, rg0.c.r, rg0.c.c, 100⟩ rg1 rg1_e; rw [rg1_c] at h; rw [← hm] at h; exact h
  clear hm B TY S X K F hag b5 c0x c1x c2x c3x
  obtain ⟨k0, k1, k2, k3, k4, k5, k6, k7, k8, k9, k10⟩ := HV5.out.all
  rw [HCP.out.1] at k5
  rw [HCP.out.2.1] at k6
  rw [HCP.out.2.2.1] at k7
  rw [HCP.out.2.2.2] at k8
  go_wp2_with fail
  rw [← HAG.out]
  have hr6 := tb_restrict (A := A5) rg1.c mask _ HX.out (by rw [rg1_c]; exact ⟨by show 1 ≤ _; omega, by show 1 ≤ _; omega, by show 255 ≤ _; omega, by show 2097152 ≤ _; omega⟩) HM.out (by rw [rg1_es]; show 0 < _; omega) _ HRES.out
  rw [rg1_c, show erN ((0 : Nat) : Int) = .nilIface from rfl] at hr6
  refine hr6.mono ?_; rintro e x6 ⟨rfl, E6⟩
  clear hr6
  have K6 := HX.out.kh E6
  have S6 := HS.out.kh K6
  obtain ⟨v6, dv6, nv6, X6, -⟩ := E6
  simp only [Cp.val]
  obtain ⟨V6, hV6⟩ : ∃ V, x6.alloc (.cells #[.int .u64 1, .int .u32 1, .int .u8 (mask : Int), .int .u64 (x : Int)] 36) = V := ⟨_, rfl⟩
  have b6 : Below x6.heap.size x6 V6 := hV6 ▸ below_alloc _ _
  have HQ : Hid (CBox V6 x6.heap.size 1 1 mask x) := hV6 ▸ CBox.new x6 1 1 mask x
  have HX : Hid (Sv w V6 (A5.upd v6 dv6 nv6) 1 rgW (rgN t1 es1 rgL)) := by have h := X6.grow b6; rw [show rg1.s.tab t1 es1 rg1.s.T = rgN t1 es1 rgL from by unfold Hs.tab rgN; rw [rg1_n, rg1_L]] at h; exact h
  have HS : Hid (Sr V6 rr (A5.upd v6 dv6 nv6).g (A5.upd v6 dv6 nv6).sb) := S6.grow b6
  clear K6 S6 X6 b6 k0 k1 k2 k3 k4 k5 k6 k7 k8 k9 k10
  obtain ⟨A6, hA6⟩ : ∃ A6, A5.upd v6 dv6 nv6 = A6 := ⟨_, rfl⟩
  rw [hA6] at HX HS
  clear hA6
  have HQOK : Hid ((Cp.mk 1 1 mask x).ok) := ⟨by show 1 ≤ _; omega, by show 1 ≤ _; omega, HM.out, by show x ≤ _; have := HXW.out; omega⟩
  have HBW : Hid (Below w.heap.size w V6) := HX.out.bel
  obtain ⟨R7, hR7⟩ : ∃ R, outF rgW 1 (rgN t1 es1 rgL) 102 ⟨1, 1, mask, x⟩ (0) d = R := ⟨_, rfl⟩
  have HR7 := hide hR7
  have HRV7 : Hid (R7 = badF (rgN t1 es1 rgL) 2) := by show _ = _; rw [← hR7, rg_own 102 (by omega) _ _ _ HXW.out HH.out, if_neg HN2.out]
  clear hR7
  have c0x : V6.cell? ⟨x6.heap.size, 0, none⟩ = some (.int .u64 1) := HQ.out.c0
  have c1x : V6.cell? ⟨x6.heap.size, 1, none⟩ = some (.int .u32 1) := HQ.out.c1
  have c2x := HQ.out.c2
  have c3x := HQ.out.c3
  go_wp2_with fail
  refine (ask_any 102 (0) ⟨1, 1, mask, x⟩ ao len c0 d _ HS.out HX.out (HBD.out.carry HBW.out) HQOK.out (by omega) (HDT.out.grow HBW.out) (by have := HL2.out; omega) (by have := HL2.out; omega) HL.out HG.out R7 HR7.out 102 0 1 1 (mask : Int) (x : Int) rfl rfl rfl rfl rfl rfl).mono ?_; rintro e x7 ⟨m7, co7, n7, cc7, A7, rfl, hm, B, TY, S, hag, X, K, F⟩
  have HST7 : Hid ((m7.st : Int) = 2) := by show _ = _; rw [hm, rpl_st, HRV7.out]; rfl
  rw [HRV7.out] at X
  obtain ⟨V7, hV7⟩ : ∃ V, x7.alloc (.cells #[.int .u64 m7.ta, .int .u64 m7.rp, .int .u32 m7.id, .int .u16 m7.op, .int .u16 m7.st, .int .u64 m7.p, .int .u32 m7.o, .int .u8 m7.r, .int .u64 m7.c, .int .u64 m7.ar, .slice co7 n7 cc7] 53) = V := ⟨_, rfl⟩
  have b7 : Below x7.heap.size x7 V7 := hV7 ▸ below_alloc _ _
  have HV7 : Hid (MB V7 x7.heap.size m7 (.slice co7 n7 cc7)) := hV7 ▸ mb_new _ _ _
  have HS := hide (S.grow b7)
  have HX := hide (X.grow b7)
  have HD7 := hide (B.carry b7)
  have HT7 := hide (TY.imp id (fun h => Typ8.grow h b7))
  have HQ := hide ((CBox.kh HQ.out K).grow b7)
  clear c0x c1x c2x c3x
  have HX : Hid (Sv w V7 A7 1 rgW (rgN t1 es1 rgL)) := HX.out
  clear hm B TY S X K F hag b7
  have HLL : Hid (rgL 0 = some (zeros 100)) := by show _ = _; unfold rgL; rw [upd_same]
  have HLN : Hid ((zeros 100).length = 100) := by show _ = _; rw [zeros_len]
  have HLF : Hid (leftL 30 rgL = 28) := rg_left0
  obtain ⟨R8, hR8⟩ : ∃ R, outF rgW 1 (rgN t1 es1 rgL) 101 ⟨1, 1, mask, x⟩ (len) [] = R := ⟨_, rfl⟩
  have HR8 := hide hR8
  have HRV8 : Hid (R8 = ⟨0, Cp.zero, 0, pieceF (zeros 100) 0 len, rgN t1 es1 rgL⟩) := by show _ = _; rw [← hR8, rg_own 101 (by omega) _ _ _ HXW.out HH.out, if_pos HN1.out, rg_read _ HLL.out len (by rw [HLN.out]; exact HL2.out) HL2.out]
  clear hR8
  have c0x : V7.cell? ⟨x6.heap.size, 0, none⟩ = some (.int .u64 1) := HQ.out.c0
  have c1x : V7.cell? ⟨x6.heap.size, 1, none⟩ = some (.int .u32 1) := HQ.out.c1
  have c2x := HQ.out.c2
  have c3x := HQ.out.c3
  go_wp2_with fail
  refine (ask_any 101 (len) ⟨1, 1, mask, x⟩ none 0 0 [] _ HS.out HX.out (bts_nil _) HQOK.out (by omega) (fun h => absurd h (by omega)) (by have := HL2.out; omega) (by have := HL2.out; omega) HL.out HG.out R8 HR8.out 101 (len : Int) 1 1 (mask : Int) (x : Int) rfl rfl rfl rfl rfl rfl).mono ?_; rintro e x8 ⟨m8, co8, n8, cc8, A8, rfl, hm, B, TY, S, hag, X, K, F⟩
  have HST8 : Hid ((m8.st : Int) = 0) := by show _ = _; rw [hm, rpl_st, HRV8.out]; rfl
  rw [HRV8.out] at X
  obtain ⟨V8, hV8⟩ : ∃ V, x8.alloc (.cells #[.int .u64 m8.ta, .int .u64 m8.rp, .int .u32 m8.id, .int .u16 m8.op, .int .u16 m8.st, .int .u64 m8.p, .int .u32 m8.o, .int .u8 m8.r, .int .u64 m8.c, .int .u64 m8.ar, .slice co8 n8 cc8] 53) = V := ⟨_, rfl⟩
  have b8 : Below x8.heap.size x8 V8 := hV8 ▸ below_alloc _ _
  have HV8 : Hid (MB V8 x8.heap.size m8 (.slice co8 n8 cc8)) := hV8 ▸ mb_new _ _ _
  have HS := hide (S.grow b8)
  have HX := hide (X.grow b8)
  have HD8 := hide (B.carry b8)
  have HT8 := hide (TY.imp id (fun h => Typ8.grow h b8))
  have HQ := hide ((CBox.kh HQ.out K).grow b8)
  have HV7 := hide ((HV7.out.kh K).grow b8)
  clear c0x c1x c2x c3x
  have HX : Hid (Sv w V8 A8 1 rgW (rgN t1 es1 rgL)) := HX.out
  rw [HRV8.out] at HD8 HT8
  clear hm B TY S X K F hag b8
  have HD8 : Hid (Bts V8 co8 n8 cc8 (zeros len)) := by have h := HD8.out; unfold datF at h; rw [if_pos (show (_ : Nat) = 0 from rfl)] at h; rw [show pieceF (zeros 100) 0 len = zeros len from piece_old len HL2.out] at h; exact h
  have HT8 : Hid ((zeros len) = [] ∨ Typ8 V8 co8) := by have h := HT8.out; unfold datF at h; rw [if_pos (show (_ : Nat) = 0 from rfl)] at h; rw [show pieceF (zeros 100) 0 len = zeros len from piece_old len HL2.out] at h; exact h
  obtain ⟨R9, hR9⟩ : ∃ R, outF rgW 1 (rgN t1 es1 rgL) 104 ⟨1, 1, mask, x⟩ 200 [] = R := ⟨_, rfl⟩
  have HR9 := hide hR9
  have HRV9 : Hid (R9.e = 2) := by show _ = _; rw [← hR9, rg_own 104 (by omega) _ _ _ HXW.out HH.out, if_neg (show ¬ mask &&& needN 104 = needN 104 from HN2.out)]; rfl
  clear hR9
  have c0x : V8.cell? ⟨x6.heap.size, 0, none⟩ = some (.int .u64 1) := HQ.out.c0
  have c1x : V8.cell? ⟨x6.heap.size, 1, none⟩ = some (.int .u32 1) := HQ.out.c1
  have c2x := HQ.out.c2
  have c3x := HQ.out.c3
  go_wp2_with fail
  refine (ask_any 104 200 ⟨1, 1, mask, x⟩ none 0 0 [] _ HS.out HX.out (bts_nil _) HQOK.out (by omega) (fun h => absurd h (by omega)) (by omega) (by omega) HL.out HG.out R9 HR9.out 104 200 1 1 (mask : Int) (x : Int) rfl rfl rfl rfl rfl rfl).mono ?_; rintro e x9 ⟨m9, co9, n9, cc9, A9, rfl, hm, B, TY, S, hag, X, K, F⟩
  have HST9 : Hid ((m9.st : Int) = 2) := by show _ = _; rw [hm, rpl_st, HRV9.out]; rfl
  obtain ⟨V9, hV9⟩ : ∃ V, x9.alloc (.cells #[.int .u64 m9.ta, .int .u64 m9.rp, .int .u32 m9.id, .int .u16 m9.op, .int .u16 m9.st, .int .u64 m9.p, .int .u32 m9.o, .int .u8 m9.r, .int .u64 m9.c, .int .u64 m9.ar, .slice co9 n9 cc9] 53) = V := ⟨_, rfl⟩
  have b9 : Below x9.heap.size x9 V9 := hV9 ▸ below_alloc _ _
  have HV9 : Hid (MB V9 x9.heap.size m9 (.slice co9 n9 cc9)) := hV9 ▸ mb_new _ _ _
  have HS := hide (S.grow b9)
  have HX := hide (X.grow b9)
  have HD9 := hide (B.carry b9)
  have HT9 := hide (TY.imp id (fun h => Typ8.grow h b9))
  have HV7 := hide ((HV7.out.kh K).grow b9)
  have HV8 := hide ((HV8.out.kh K).grow b9)
  have HD8 := hide ((HD8.out.typ HT8.out K).carry b9)
  have HBZ := hide (HX.out.bel)
  have e7 : V9.cell? ⟨x7.heap.size, 4, none⟩ = some (.int .u16 2) := by rw [HV7.out.all.2.2.2.2.1, HST7.out]
  have e8 : V9.cell? ⟨x8.heap.size, 4, none⟩ = some (.int .u16 0) := by rw [HV8.out.all.2.2.2.2.1, HST8.out]
  have e9 : V9.cell? ⟨x9.heap.size, 4, none⟩ = some (.int .u16 2) := by rw [HV9.out.all.2.2.2.2.1, HST9.out]
  have e10 : V9.cell? ⟨x8.heap.size, 10, none⟩ = some (.slice co8 n8 cc8) := HV8.out.all.2.2.2.2.2.2.2.2.2.2
  clear c0x c1x c2x c3x hm B TY S X K F hag b9
  have cvd := conv_bts ((HBD.out.carry HBZ.out).drewN 1)
  have cv8 := conv_bts (HD8.out.drewN 1)
  have hmk := make_bytes len (by omega) V9.drew
  have bz := bts_row V9 (zeros len) (by rw [zeros_len]; omega)
  rw [zeros_len] at bz
  have cvz := conv_bts (show Bts (V9.alloc (.cells (cellsB (zeros len)).toArray 5)).drew (some ⟨V9.heap.size, 0, none⟩) len len (zeros len) from bz)
  have cv9 := conv_bts (show Bts (V9.alloc (.cells (cellsB (zeros len)).toArray 5)).drew co8 n8 cc8 (zeros len) from Bts.carry HD8.out (below_alloc V9 (.cells (cellsB (zeros len)).toArray 5)).drew)
  clear HV7 HV8 HV9 HQ HS HX
  go_wp2_with fail
  have e11 : (V9.alloc (.cells (cellsB (zeros len)).toArray 5)).drew.cell? ⟨x8.heap.size, 10, none⟩ = some (.slice co8 n8 cc8) := ((below_alloc V9 (.cells (cellsB (zeros len)).toArray 5)).cell (lt_of_cell e10)).trans e10
  have hS : Hid (V9.drew.cell? ⟨x8.heap.size, 10, none⟩ = some (.slice co8 n8 cc8) ∧ (convert 23 9 (.slice co8 n8 cc8)).run Tryz.prog V9.drew = .ok (.string (str (zeros len))) V9.drew) := ⟨e10, cv8⟩
  refine wp_region_held_drew (S := fun U => U.cell? ⟨x8.heap.size, 10, none⟩ = some (.slice co8 n8 cc8) ∧ (convert 23 9 (.slice co8 n8 cc8)).run Tryz.prog U = .ok (.string (str (zeros len))) U) (by kernel_rfl) hS.out (fun _ => ?_)
  refine wpAnyH_take (i := 0) (oi := { dst := some 95, op := Go.Op.move (Go.Operand.tmp 15), type := 4, pos := "law.go:210", after := #[], guard := none }) (v := (.bool true)) rfl (by kernel_rfl) (by kernel_rfl) (by kernel_rfl) (fun _ _ _ h => h) (Or.inl ⟨by kernel_rfl, fun w hC => by go_simp⟩) hS.out ?_
  simp only [Act.put, List.setIfInBounds_toArray, List.set_cons_zero, List.set_cons_succ]
  refine wpAnyH_take (i := 1) (oi := { dst := some 96, op := Go.Op.unOp Go.UnOp.not 4 (Go.Operand.tmp 95), type := 4, pos := "law.go:210", after := #[{ on := 0, ground := Go.Ground.data }], guard := none }) (v := (.bool false)) rfl (by kernel_rfl) (by kernel_rfl) (by kernel_rfl) (fun _ _ _ h => h) (Or.inl ⟨by kernel_rfl, fun w hC => by go_simp⟩) hS.out ?_
  simp only [Act.put, List.setIfInBounds_toArray, List.set_cons_zero, List.set_cons_succ]
  refine wpAnyH_take (i := 2) (oi := { dst := some 97, op := Go.Op.move (Go.Operand.tmp 96), type := 4, pos := "law.go:210", after := #[{ on := 1, ground := Go.Ground.data }], guard := none }) (v := (.bool false)) rfl (by kernel_rfl) (by kernel_rfl) (by kernel_rfl) (fun _ _ _ h => h) (Or.inl ⟨by kernel_rfl, fun w hC => by go_simp⟩) hS.out ?_
  simp only [Act.put, List.setIfInBounds_toArray, List.set_cons_zero, List.set_cons_succ]
  refine wpAnyH_take (i := 3) (oi := { dst := some 98, op := Go.Op.move (Go.Operand.tmp 16), type := 4, pos := "law.go:210", after := #[{ on := 2, ground := Go.Ground.guard }], guard := some (2, false) }) (v := (.bool false)) rfl (by kernel_rfl) (by kernel_rfl) (by kernel_rfl) (fun _ _ _ h => h) (Or.inl ⟨by kernel_rfl, fun w hC => by go_simp⟩) hS.out ?_
  simp only [Act.put, List.setIfInBounds_toArray, List.set_cons_zero, List.set_cons_succ]
  refine wpAnyH_take (i := 4) (oi := { dst := some 99, op := Go.Op.move (Go.Operand.tmp 98), type := 4, pos := "law.go:210", after := #[{ on := 3, ground := Go.Ground.data }, { on := 2, ground := Go.Ground.chain }, { on := 2, ground := Go.Ground.guard }], guard := some (2, false) }) (v := (.bool false)) rfl (by kernel_rfl) (by kernel_rfl) (by kernel_rfl) (fun _ _ _ h => h) (Or.inl ⟨by kernel_rfl, fun w hC => by go_simp⟩) hS.out ?_
  simp only [Act.put, List.setIfInBounds_toArray, List.set_cons_zero, List.set_cons_succ]
  refine wpAnyH_take (i := 5) (oi := { dst := some 100, op := Go.Op.fieldAddr 53 (Go.Operand.tmp 13) 7, type := 0, pos := "law.go:210", after := #[{ on := 4, ground := Go.Ground.guard }], guard := some (4, true) }) (v := undef) rfl (by kernel_rfl) (by kernel_rfl) (by kernel_rfl) (fun _ _ _ h => h) (Or.inr ⟨by kernel_rfl, rfl⟩) hS.out ?_
  simp only [Act.put, List.setIfInBounds_toArray, List.set_cons_zero, List.set_cons_succ]
  refine wpAnyH_take (i := 6) (oi := { dst := some 101, op := Go.Op.load 23 (Go.Operand.tmp 100), type := 23, pos := "law.go:210", after := #[{ on := 5, ground := Go.Ground.data }, { on := 4, ground := Go.Ground.guard }], guard := some (4, true) }) (v := undef) rfl (by kernel_rfl) (by kernel_rfl) (by kernel_rfl) (fun _ _ _ h => h) (Or.inr ⟨by kernel_rfl, rfl⟩) hS.out ?_
  simp only [Act.put, List.setIfInBounds_toArray, List.set_cons_zero, List.set_cons_succ]
  refine wpAnyH_take (i := 7) (oi := { dst := some 102, op := Go.Op.convert 23 9 (Go.Operand.tmp 101), type := 9, pos := "law.go:210", after := #[{ on := 6, ground := Go.Ground.data }, { on := 4, ground := Go.Ground.guard }], guard := some (4, true) }) (v := undef) rfl (by kernel_rfl) (by kernel_rfl) (by kernel_rfl) (fun _ _ _ h => h) (Or.inr ⟨by kernel_rfl, rfl⟩) hS.out ?_
  simp only [Act.put, List.setIfInBounds_toArray, List.set_cons_zero, List.set_cons_succ]
  refine wpAnyH_take (i := 8) (oi := { dst := some 103, op := Go.Op.move (Go.Operand.tmp 1), type := 23, pos := "law.go:210", after := #[{ on := 4, ground := Go.Ground.guard }], guard := some (4, true) }) (v := undef) rfl (by kernel_rfl) (by kernel_rfl) (by kernel_rfl) (fun _ _ _ h => h) (Or.inr ⟨by kernel_rfl, rfl⟩) hS.out ?_
  simp only [Act.put, List.setIfInBounds_toArray, List.set_cons_zero, List.set_cons_succ]
  refine wpAnyH_take (i := 9) (oi := { dst := some 104, op := Go.Op.convert 23 9 (Go.Operand.tmp 103), type := 9, pos := "law.go:210", after := #[{ on := 8, ground := Go.Ground.data }, { on := 4, ground := Go.Ground.guard }], guard := some (4, true) }) (v := undef) rfl (by kernel_rfl) (by kernel_rfl) (by kernel_rfl) (fun _ _ _ h => h) (Or.inr ⟨by kernel_rfl, rfl⟩) hS.out ?_
  simp only [Act.put, List.setIfInBounds_toArray, List.set_cons_zero, List.set_cons_succ]
  refine wpAnyH_take (i := 10) (oi := { dst := some 105, op := Go.Op.binOp Go.BinOp.eql 9 (Go.Operand.tmp 102) (Go.Operand.tmp 104) 9, type := 4, pos := "law.go:210", after := #[{ on := 7, ground := Go.Ground.data }, { on := 9, ground := Go.Ground.data }, { on := 4, ground := Go.Ground.guard }], guard := some (4, true) }) (v := undef) rfl (by kernel_rfl) (by kernel_rfl) (by kernel_rfl) (fun _ _ _ h => h) (Or.inr ⟨by kernel_rfl, rfl⟩) hS.out ?_
  simp only [Act.put, List.setIfInBounds_toArray, List.set_cons_zero, List.set_cons_succ]
  refine wpAnyH_take (i := 11) (oi := { dst := some 106, op := Go.Op.pick (Go.Operand.tmp 99) (Go.Operand.tmp 105) (Go.Operand.const (Go.Value.bool false)), type := 4, pos := "law.go:210", after := #[{ on := 4, ground := Go.Ground.data }, { on := 10, ground := Go.Ground.data }, { on := 2, ground := Go.Ground.guard }], guard := some (2, false) }) (v := (.bool false)) rfl (by kernel_rfl) (by kernel_rfl) (by kernel_rfl) (fun _ _ _ h => h) (Or.inl ⟨by kernel_rfl, fun w hC => by go_simp⟩) hS.out ?_
  simp only [Act.put, List.setIfInBounds_toArray, List.set_cons_zero, List.set_cons_succ]
  refine wpAnyH_take (i := 12) (oi := { dst := some 107, op := Go.Op.pick (Go.Operand.tmp 97) (Go.Operand.const (Go.Value.bool true)) (Go.Operand.tmp 106), type := 4, pos := "law.go:210", after := #[{ on := 2, ground := Go.Ground.data }, { on := 11, ground := Go.Ground.data }], guard := none }) (v := (.bool false)) rfl (by kernel_rfl) (by kernel_rfl) (by kernel_rfl) (fun _ _ _ h => h) (Or.inl ⟨by kernel_rfl, fun w hC => by go_simp⟩) hS.out ?_
  simp only [Act.put, List.setIfInBounds_toArray, List.set_cons_zero, List.set_cons_succ]
  refine wpAnyH_take (i := 13) (oi := { dst := some 108, op := Go.Op.move (Go.Operand.tmp 107), type := 4, pos := "law.go:210", after := #[{ on := 12, ground := Go.Ground.data }, { on := 4, ground := Go.Ground.chain }], guard := none }) (v := (.bool false)) rfl (by kernel_rfl) (by kernel_rfl) (by kernel_rfl) (fun _ _ _ h => h) (Or.inl ⟨by kernel_rfl, fun w hC => by go_simp⟩) hS.out ?_
  simp only [Act.put, List.setIfInBounds_toArray, List.set_cons_zero, List.set_cons_succ]
  refine wpAnyH_take (i := 14) (oi := { dst := some 109, op := Go.Op.move (Go.Operand.tmp 16), type := 4, pos := "law.go:210", after := #[{ on := 13, ground := Go.Ground.guard }], guard := some (13, false) }) (v := (.bool false)) rfl (by kernel_rfl) (by kernel_rfl) (by kernel_rfl) (fun _ _ _ h => h) (Or.inl ⟨by kernel_rfl, fun w hC => by go_simp⟩) hS.out ?_
  simp only [Act.put, List.setIfInBounds_toArray, List.set_cons_zero, List.set_cons_succ]
  refine wpAnyH_take (i := 15) (oi := { dst := some 110, op := Go.Op.unOp Go.UnOp.not 4 (Go.Operand.tmp 109), type := 4, pos := "law.go:210", after := #[{ on := 14, ground := Go.Ground.data }, { on := 13, ground := Go.Ground.guard }], guard := some (13, false) }) (v := (.bool true)) rfl (by kernel_rfl) (by kernel_rfl) (by kernel_rfl) (fun _ _ _ h => h) (Or.inl ⟨by kernel_rfl, fun w hC => by go_simp⟩) hS.out ?_
  simp only [Act.put, List.setIfInBounds_toArray, List.set_cons_zero, List.set_cons_succ]
  refine wpAnyH_take (i := 16) (oi := { dst := some 111, op := Go.Op.move (Go.Operand.tmp 110), type := 4, pos := "law.go:210", after := #[{ on := 15, ground := Go.Ground.data }, { on := 13, ground := Go.Ground.chain }, { on := 13, ground := Go.Ground.guard }], guard := some (13, false) }) (v := (.bool true)) rfl (by kernel_rfl) (by kernel_rfl) (by kernel_rfl) (fun _ _ _ h => h) (Or.inl ⟨by kernel_rfl, fun w hC => by go_simp⟩) hS.out ?_
  simp only [Act.put, List.setIfInBounds_toArray, List.set_cons_zero, List.set_cons_succ]
  refine wpAnyH_take (i := 17) (oi := { dst := some 112, op := Go.Op.fieldAddr 53 (Go.Operand.tmp 13) 7, type := 0, pos := "law.go:210", after := #[{ on := 16, ground := Go.Ground.guard }], guard := some (16, true) }) (v := (.pointer (some ⟨x8.heap.size, 10, none⟩))) rfl (by kernel_rfl) (by kernel_rfl) (by kernel_rfl) (fun _ _ _ h => h) (Or.inl ⟨by kernel_rfl, fun w hC => by go_simp⟩) hS.out ?_
  simp only [Act.put, List.setIfInBounds_toArray, List.set_cons_zero, List.set_cons_succ]
  refine wpAnyH_take (i := 18) (oi := { dst := some 113, op := Go.Op.load 23 (Go.Operand.tmp 112), type := 23, pos := "law.go:210", after := #[{ on := 17, ground := Go.Ground.data }, { on := 16, ground := Go.Ground.guard }], guard := some (16, true) }) (v := (.slice co8 n8 cc8)) rfl (by kernel_rfl) (by kernel_rfl) (by kernel_rfl) (fun _ _ _ h => h) (Or.inl ⟨by kernel_rfl, fun w hC => by (obtain ⟨e10, cv8⟩ := hC; go_simp)⟩) hS.out ?_
  simp only [Act.put, List.setIfInBounds_toArray, List.set_cons_zero, List.set_cons_succ]
  refine wpAnyH_take (i := 19) (oi := { dst := some 114, op := Go.Op.convert 23 9 (Go.Operand.tmp 113), type := 9, pos := "law.go:210", after := #[{ on := 18, ground := Go.Ground.data }, { on := 16, ground := Go.Ground.guard }], guard := some (16, true) }) (v := (.string (str (zeros len)))) rfl (by kernel_rfl) (by kernel_rfl) (by kernel_rfl) (fun _ _ _ h => h) (Or.inl ⟨by kernel_rfl, fun w hC => by (obtain ⟨e10, cv8⟩ := hC; go_simp)⟩) hS.out ?_
  simp only [Act.put, List.setIfInBounds_toArray, List.set_cons_zero, List.set_cons_succ]
  refine wpAnyH_take (i := 20) (oi := { dst := some 115, op := Go.Op.move (Go.Operand.tmp 1), type := 23, pos := "law.go:210", after := #[{ on := 16, ground := Go.Ground.guard }], guard := some (16, true) }) (v := (.slice ao len c0)) rfl (by kernel_rfl) (by kernel_rfl) (by kernel_rfl) (fun _ _ _ h => h) (Or.inl ⟨by kernel_rfl, fun w hC => by go_simp⟩) hS.out ?_
  simp only [Act.put, List.setIfInBounds_toArray, List.set_cons_zero, List.set_cons_succ]
  refine wpAnyH_take (i := 21) (oi := { dst := some 116, op := Go.Op.call { callee := Go.Callee.builtin Go.Builtin.len, args := #[Go.Operand.tmp 115], argTypes := #[23] }, type := 3, pos := "law.go:210", after := #[{ on := 20, ground := Go.Ground.data }, { on := 16, ground := Go.Ground.guard }], guard := some (16, true) }) (v := (.int .i64 (len : Int))) rfl (by kernel_rfl) (by kernel_rfl) (by kernel_rfl) (fun _ _ _ h => h) (Or.inl ⟨by kernel_rfl, fun w hC => by go_simp⟩) hS.out ?_
  simp only [Act.put, List.setIfInBounds_toArray, List.set_cons_zero, List.set_cons_succ]
  refine wpAnyH_ready (rs := [22]) (by kernel_rfl) (by simp) ?_
  refine AllReadyH.cons (o := { dst := some 117, op := Go.Op.makeSlice 23 (Go.Operand.tmp 116) (Go.Operand.tmp 116), type := 23, pos := "law.go:210", after := #[{ on := 21, ground := Go.Ground.data }, { on := 21, ground := Go.Ground.data }, { on := 16, ground := Go.Ground.guard }], guard := some (16, true) }) rfl (fun KK hKK => ?_) AllReadyH.nil
  go_simp
  obtain ⟨V10, hV10⟩ : ∃ V, (V9.alloc (.cells (cellsB (zeros len)).toArray 5)).drew = V := ⟨_, rfl⟩
  have b10 : Below V9.heap.size V9 V10 := hV10 ▸ (below_alloc V9 _).drew
  rw [hV10] at cvz cv9 e11
  try rw [hV10]
  have hS : Hid (V10.cell? ⟨x8.heap.size, 10, none⟩ = some (.slice co8 n8 cc8) ∧ (convert 23 9 (.slice co8 n8 cc8)).run Tryz.prog V10 = .ok (.string (str (zeros len))) V10) := ⟨e11, cv9⟩
  refine hKK.out _ _ hS.out (fun _ => ?_)
  clear hKK
  refine wpAnyH_ready (rs := [23]) (by kernel_rfl) (by simp) ?_
  refine AllReadyH.cons (o := { dst := some 118, op := Go.Op.convert 23 9 (Go.Operand.tmp 117), type := 9, pos := "law.go:210", after := #[{ on := 22, ground := Go.Ground.data }, { on := 16, ground := Go.Ground.guard }], guard := some (16, true) }) rfl (fun KK hKK => ?_) AllReadyH.nil
  go_simp
  have hS : Hid (V10.cell? ⟨x8.heap.size, 10, none⟩ = some (.slice co8 n8 cc8) ∧ (convert 23 9 (.slice co8 n8 cc8)).run Tryz.prog V10 = .ok (.string (str (zeros len))) V10) := ⟨e11, cv9⟩
  refine hKK.out _ _ hS.out (fun _ => ?_)
  clear hKK
  refine wpAnyH_take (i := 24) (oi := { dst := some 119, op := Go.Op.binOp Go.BinOp.eql 9 (Go.Operand.tmp 114) (Go.Operand.tmp 118) 9, type := 4, pos := "law.go:210", after := #[{ on := 19, ground := Go.Ground.data }, { on := 23, ground := Go.Ground.data }, { on := 16, ground := Go.Ground.guard }], guard := some (16, true) }) (v := (.bool true)) rfl (by kernel_rfl) (by kernel_rfl) (by kernel_rfl) (fun _ _ _ h => h) (Or.inl ⟨by kernel_rfl, fun w hC => by go_simp⟩) hS.out ?_
  simp only [Act.put, List.setIfInBounds_toArray, List.set_cons_zero, List.set_cons_succ]
  refine wpAnyH_take (i := 25) (oi := { dst := some 120, op := Go.Op.pick (Go.Operand.tmp 111) (Go.Operand.tmp 119) (Go.Operand.const (Go.Value.bool false)), type := 4, pos := "law.go:210", after := #[{ on := 16, ground := Go.Ground.data }, { on := 24, ground := Go.Ground.data }, { on := 13, ground := Go.Ground.guard }], guard := some (13, false) }) (v := (.bool true)) rfl (by kernel_rfl) (by kernel_rfl) (by kernel_rfl) (fun _ _ _ h => h) (Or.inl ⟨by kernel_rfl, fun w hC => by go_simp⟩) hS.out ?_
  simp only [Act.put, List.setIfInBounds_toArray, List.set_cons_zero, List.set_cons_succ]
  refine wpAnyH_take (i := 26) (oi := { dst := some 121, op := Go.Op.pick (Go.Operand.tmp 108) (Go.Operand.const (Go.Value.bool true)) (Go.Operand.tmp 120), type := 4, pos := "law.go:210", after := #[{ on := 13, ground := Go.Ground.data }, { on := 25, ground := Go.Ground.data }], guard := none }) (v := (.bool true)) rfl (by kernel_rfl) (by kernel_rfl) (by kernel_rfl) (fun _ _ _ h => h) (Or.inl ⟨by kernel_rfl, fun w hC => by go_simp⟩) hS.out ?_
  simp only [Act.put, List.setIfInBounds_toArray, List.set_cons_zero, List.set_cons_succ]
  refine wpAnyH_take (i := 27) (oi := { dst := some 4, op := Go.Op.assign (Go.Operand.tmp 121), type := 4, pos := "law.go:210", after := #[{ on := 26, ground := Go.Ground.data }, { on := 16, ground := Go.Ground.chain }, { on := 0, ground := Go.Ground.phase }, { on := 1, ground := Go.Ground.phase }, { on := 2, ground := Go.Ground.phase }, { on := 3, ground := Go.Ground.phase }, { on := 4, ground := Go.Ground.phase }, { on := 5, ground := Go.Ground.phase }, { on := 6, ground := Go.Ground.phase }, { on := 7, ground := Go.Ground.phase }, { on := 8, ground := Go.Ground.phase }, { on := 9, ground := Go.Ground.phase }, { on := 10, ground := Go.Ground.phase }, { on := 11, ground := Go.Ground.phase }, { on := 12, ground := Go.Ground.phase }, { on := 13, ground := Go.Ground.phase }, { on := 14, ground := Go.Ground.phase }, { on := 15, ground := Go.Ground.phase }, { on := 16, ground := Go.Ground.phase }, { on := 17, ground := Go.Ground.phase }, { on := 18, ground := Go.Ground.phase }, { on := 19, ground := Go.Ground.phase }, { on := 20, ground := Go.Ground.phase }, { on := 21, ground := Go.Ground.phase }, { on := 22, ground := Go.Ground.phase }, { on := 23, ground := Go.Ground.phase }, { on := 24, ground := Go.Ground.phase }, { on := 25, ground := Go.Ground.phase }, { on := 26, ground := Go.Ground.phase }], guard := none }) (v := (.bool true)) rfl (by kernel_rfl) (by kernel_rfl) (by kernel_rfl) (fun _ _ _ h => h) (Or.inl ⟨by kernel_rfl, fun w hC => by go_simp⟩) hS.out ?_
  simp only [Act.put, List.setIfInBounds_toArray, List.set_cons_zero, List.set_cons_succ]
  refine wpAnyH_done (by kernel_rfl) ?_ _
  go_wp2
  go_ret
  exact ⟨rfl, HBZ.out.trans (b10.mono HBZ.out.size)⟩
set_option maxRecDepth 20000 in
set_option maxHeartbeats 12800000 in
theorem rgt_11 (mask : Nat) (ao : Option Addr) (n0 c0 : Nat) (l : List UInt8) (w : World) (hb : Bts w ao n0 c0 l) (hlow : 0 < n0 → ∀ ad, ao = some ad → ad.block < w.heap.size) (hm : mask ≤ 255) (h1 : mask &&& 1 = 1) (h2 : mask &&& 2 = 2) (hg : Glob w) :
    Calls Tryz.prog 6 #[.int .u8 (mask : Int), .slice ao n0 c0] w fun e w' => e = .returned (.bool true) ∧ Below w.heap.size w w' := by
  have HG := hide hg
  have HB := hide hb
  have HLOW := hide hlow
  have HM := hide hm
  have and1 : bits .and .u8 (mask : Int) 1 = 1 := by have h := and_nat mask 1 hm (by omega); rw [h1] at h; exact h
  have and2 : bits .and .u8 (mask : Int) 2 = 2 := by have h := and_nat mask 2 hm (by omega); rw [h2] at h; exact h
  have HN1 : Hid (mask &&& needN 101 =  needN 101) := h1
  have HN2 : Hid (mask &&& needN 102 = needN 102) := h2
  have hx := of_word (ws := rgW) (t := 2) (es := []) (outs_nil rgW (by decide)) rgW_word 2097152 mask
  have hh := of_has (of_ok (ws := rgW) (t := 2) (by decide) [] 2097152 mask)
  have hel := of_len rgW 2 [] 2097152 mask
  have hres := rg_res hm
  obtain ⟨X0, hX0⟩ : ∃ X0, ofF rgW 2 [] 2097152 mask = X0 := ⟨_, rfl⟩
  rw [hX0] at hx hh hel hres
  obtain ⟨x, ok, t1, es1⟩ := X0
  simp only at hx hh hel hres
  have HXW := hide hx
  have HH := hide hh
  have HL : Hid (es1.length < 5000000000000) := by show _ < _; simp at hel; omega
  have HRES := hide hres
  obtain ⟨len, hlen⟩ : ∃ len, min n0 100 = len := ⟨_, rfl⟩
  have hmin : min (n0 : Int) 100 = (len : Int) := by rw [← hlen]; omega
  have hl1 : len ≤ n0 := by omega
  have hl2 : len ≤ 100 := by omega
  have hcap : c0 ≤ 9223372036854775807 := hb.2.2.1
  have hn0 : n0 ≤ c0 := hb.2.1
  have hcut : ∀ W : World, (Instr.slice 23 (.slice ao n0 c0) none (some (.int .i64 (len : Int))) none).run Tryz.prog W = .ok (.slice ao len c0) W := fun W => cut_head W ao n0 c0 len (by omega)
  have HBD : Hid (Bts w ao len c0 (l.take len)) := hb.head len hl1
  have HDL : Hid ((l.take len).length = len) := HBD.out.1.symm
  have HDT : Hid (Dat w.heap.size w len ao) := fun hp ad e => .inl (hlow (by omega) ad e)
  obtain ⟨d, hd⟩ : ∃ d, l.take len = d := ⟨_, rfl⟩
  rw [hd] at HBD HDL
  have HL2 := hide hl2
  have hw64 : IntKind.u64.wrap (len : Int) = (len : Int) := by rw [IntKind.wrap_u64]; omega
  have hw64 : IntKind.u64.wrap (len : Int) = (len : Int) := hw64
  clear hg hb hlow hm h1 h2 hx hh hel hres hX0 hlen hd
  go_enter Tryz.func6, Tryz.ntmps6
  go_wp2_with fail
  refine (awake_any _ HG.out).mono ?_; rintro e w1 ⟨rfl, b1⟩
  have HB1 := hide b1
  clear b1
  go_wp2_with fail
  refine (of_any _ _ _ rgW _ (u64s_rg w1) (by omega)).mono ?_; rintro e x1 ⟨ta, th, tk, rfl, TA, _, ha, hh2, bel⟩
  rw [cut_rgW] at TA
  have HT := hide TA
  have HTA := hide ha
  have HTH := hide hh2
  have HBE := hide bel
  clear TA bel ha hh2
  go_wp2_with fail
  refine (oof_any _ ⟨_, rfl⟩ _).mono ?_; rintro e x2 ⟨go, gm, rfl, O2, bel2⟩
  have HS3 := hide (Tk.made (below_one HB1.out (below_alloc w1 _)) HT.out HTA.out HTH.out HBE.out O2 bel2)
  clear O2 bel2 HT HBE HTA HTH
  go_wp2_with fail
  refine (tof_new 1 _).mono ?_; rintro e x3 ⟨rfl, T4, b4⟩
  have HO4 := hide (Od.make HS3.out T4 b4)
  obtain ⟨g, hgg⟩ : ∃ g, x2.heap.size = g := ⟨_, rfl⟩
  rw [hgg] at HO4 ⊢
  clear T4 b4 HS3 hgg
  go_wp2_with fail
  refine (mem_yes 30 30 (by decide) (by omega) _ HO4.out (by show 0 ≤ _; omega) rg0 rfl rg0_e).mono ?_; rintro e x4 ⟨rr, rfl, A, hA, -, -, -, hAh, -, -, hAN, -, hAb, X4, S4, F4⟩
  rw [rg0_c]
  simp only [Cp.val]
  have HX4 : Hid (Sv w x4 A 1 rgW rgS) := X4
  have HS4 := hide S4
  have HAG : Hid (A.g = g) := hA
  obtain ⟨V4, hV4⟩ : ∃ V, x4.alloc (.cells #[.int .u64 1, .int .u32 0, .int .u8 255, .int .u64 1048576] 36) = V := ⟨_, rfl⟩
  have b4 : Below x4.heap.size x4 V4 := hV4 ▸ below_alloc _ _
  have HQ : Hid (CBox V4 x4.heap.size 1 0 255 1048576) := hV4 ▸ CBox.new x4 1 0 255 1048576
  have HS := hide (HS4.out.grow b4)
  have HX := hide (HX4.out.grow b4)
  clear b4 F4 X4 S4 HO4 hA hAh hAN hAb HS4 HX4
  have c0x : V4.cell? ⟨x4.heap.size, 0, none⟩ = some (.int .u64 1) := HQ.out.c0
  have c1x : V4.cell? ⟨x4.heap.size, 1, none⟩ = some (.int .u32 0) := HQ.out.c1
  have c2x : V4.cell? ⟨x4.heap.size, 2, none⟩ = some (.int .u8 255) := HQ.out.c2
  have c3x : V4.cell? ⟨x4.heap.size, 3, none⟩ = some (.int .u64 1048576) := HQ.out.c3
  go_wp2_with fail
  refine (ask_any 100 100 rg0.c none 0 0 [] _ HS.out HX.out (bts_nil _) (by rw [rg0_c]; exact ⟨by show 1 ≤ _; omega, by show 0 ≤ _; omega, by show 255 ≤ _; omega, by show 1048576 ≤ _; omega⟩) (by omega) (fun h => absurd h (by omega)) (by omega) (by omega) (by rw [rgS_l]; omega) HG.out rg1 rfl 100 100 1 0 255 1048576 rfl rfl (by rw [rg0_c]; rfl) (by rw [rg0_c]; rfl) (by rw [rg0_c]; rfl) (by rw [rg0_c]; rfl)).mono ?_; rintro e x5 ⟨m5, co5, n5, cc5, A5, rfl, hm, B, TY, S, hag, X, K, F⟩
  obtain ⟨V5, hV5⟩ : ∃ V, x5.alloc (.cells #[.int .u64 m5.ta, .int .u64 m5.rp, .int .u32 m5.id, .int .u16 m5.op, .int .u16 m5.st, .int .u64 m5.p, .int .u32 m5.o, .int .u8 m5.r, .int .u64 m5.c, .int .u64 m5.ar, .slice co5 n5 cc5] 53) = V := ⟨_, rfl⟩
  have b5 : Below x5.heap.size x5 V5 := hV5 ▸ below_alloc _ _
  have HV5 : Hid (MB V5 x5.heap.size m5 (.slice co5 n5 cc5)) := hV5 ▸ mb_new _ _ _
  have HS := hide (S.grow b5)
  have HX := hide (X.grow b5)
  have HD5 := hide (B.carry b5)
  have HT5 := hide (TY.imp id (fun h => Typ8.grow h b5))
  have HAG : Hid (A5.g = g) := hag.trans HAG.out
  have HCP : Hid (m5.p = 1 ∧ m5.o = 1 ∧ m5.r = 255 ∧ m5.c = 2097152) := by have h := rpl_cap ⟨0, 0, 0, 100, 0, rg0.c.p, rg0.c.o, rg0.c.r, rg0.c.c, 100⟩ rg1 rg1_e; rw [rg1_c] at h; rw [← hm] at h; exact h
  clear hm B TY S X K F hag b5 c0x c1x c2x c3x
  obtain ⟨k0, k1, k2, k3, k4, k5, k6, k7, k8, k9, k10⟩ := HV5.out.all
  rw [HCP.out.1] at k5
  rw [HCP.out.2.1] at k6
  rw [HCP.out.2.2.1] at k7
  rw [HCP.out.2.2.2] at k8
  go_wp2_with fail
  rw [← HAG.out]
  have hr6 := tb_restrict (A := A5) rg1.c mask _ HX.out (by rw [rg1_c]; exact ⟨by show 1 ≤ _; omega, by show 1 ≤ _; omega, by show 255 ≤ _; omega, by show 2097152 ≤ _; omega⟩) HM.out (by rw [rg1_es]; show 0 < _; omega) _ HRES.out
  rw [rg1_c, show erN ((0 : Nat) : Int) = .nilIface from rfl] at hr6
  refine hr6.mono ?_; rintro e x6 ⟨rfl, E6⟩
  clear hr6
  have K6 := HX.out.kh E6
  have S6 := HS.out.kh K6
  obtain ⟨v6, dv6, nv6, X6, -⟩ := E6
  simp only [Cp.val]
  obtain ⟨V6, hV6⟩ : ∃ V, x6.alloc (.cells #[.int .u64 1, .int .u32 1, .int .u8 (mask : Int), .int .u64 (x : Int)] 36) = V := ⟨_, rfl⟩
  have b6 : Below x6.heap.size x6 V6 := hV6 ▸ below_alloc _ _
  have HQ : Hid (CBox V6 x6.heap.size 1 1 mask x) := hV6 ▸ CBox.new x6 1 1 mask x
  have HX : Hid (Sv w V6 (A5.upd v6 dv6 nv6) 1 rgW (rgN t1 es1 rgL)) := by have h := X6.grow b6; rw [show rg1.s.tab t1 es1 rg1.s.T = rgN t1 es1 rgL from by unfold Hs.tab rgN; rw [rg1_n, rg1_L]] at h; exact h
  have HS : Hid (Sr V6 rr (A5.upd v6 dv6 nv6).g (A5.upd v6 dv6 nv6).sb) := S6.grow b6
  clear K6 S6 X6 b6 k0 k1 k2 k3 k4 k5 k6 k7 k8 k9 k10
  obtain ⟨A6, hA6⟩ : ∃ A6, A5.upd v6 dv6 nv6 = A6 := ⟨_, rfl⟩
  rw [hA6] at HX HS
  clear hA6
  have HQOK : Hid ((Cp.mk 1 1 mask x).ok) := ⟨by show 1 ≤ _; omega, by show 1 ≤ _; omega, HM.out, by show x ≤ _; have := HXW.out; omega⟩
  have HBW : Hid (Below w.heap.size w V6) := HX.out.bel
  obtain ⟨R7, hR7⟩ : ∃ R, outF rgW 1 (rgN t1 es1 rgL) 102 ⟨1, 1, mask, x⟩ (0) d = R := ⟨_, rfl⟩
  have HR7 := hide hR7
  have HRV7 : Hid (R7 = badF (rgN t1 es1 (upd rgL 0 (some (splice (zeros 100) 0 d)))) 0) := by show _ = _; rw [← hR7, rg_own 102 (by omega) _ _ _ HXW.out HH.out, if_pos HN2.out, rg_write d (by rw [HDL.out]; exact HL2.out)]
  clear hR7
  have c0x : V6.cell? ⟨x6.heap.size, 0, none⟩ = some (.int .u64 1) := HQ.out.c0
  have c1x : V6.cell? ⟨x6.heap.size, 1, none⟩ = some (.int .u32 1) := HQ.out.c1
  have c2x := HQ.out.c2
  have c3x := HQ.out.c3
  go_wp2_with fail
  refine (ask_any 102 (0) ⟨1, 1, mask, x⟩ ao len c0 d _ HS.out HX.out (HBD.out.carry HBW.out) HQOK.out (by omega) (HDT.out.grow HBW.out) (by have := HL2.out; omega) (by have := HL2.out; omega) HL.out HG.out R7 HR7.out 102 0 1 1 (mask : Int) (x : Int) rfl rfl rfl rfl rfl rfl).mono ?_; rintro e x7 ⟨m7, co7, n7, cc7, A7, rfl, hm, B, TY, S, hag, X, K, F⟩
  have HST7 : Hid ((m7.st : Int) = 0) := by show _ = _; rw [hm, rpl_st, HRV7.out]; rfl
  rw [HRV7.out] at X
  obtain ⟨V7, hV7⟩ : ∃ V, x7.alloc (.cells #[.int .u64 m7.ta, .int .u64 m7.rp, .int .u32 m7.id, .int .u16 m7.op, .int .u16 m7.st, .int .u64 m7.p, .int .u32 m7.o, .int .u8 m7.r, .int .u64 m7.c, .int .u64 m7.ar, .slice co7 n7 cc7] 53) = V := ⟨_, rfl⟩
  have b7 : Below x7.heap.size x7 V7 := hV7 ▸ below_alloc _ _
  have HV7 : Hid (MB V7 x7.heap.size m7 (.slice co7 n7 cc7)) := hV7 ▸ mb_new _ _ _
  have HS := hide (S.grow b7)
  have HX := hide (X.grow b7)
  have HD7 := hide (B.carry b7)
  have HT7 := hide (TY.imp id (fun h => Typ8.grow h b7))
  have HQ := hide ((CBox.kh HQ.out K).grow b7)
  clear c0x c1x c2x c3x
  have HX : Hid (Sv w V7 A7 1 rgW (rgN t1 es1 (upd rgL 0 (some (splice (zeros 100) 0 d))))) := HX.out
  clear hm B TY S X K F hag b7
  have HLL : Hid ((upd rgL 0 (some (splice (zeros 100) 0 d))) 0 = some (splice (zeros 100) 0 d)) := by show _ = _; rw [upd_same]
  have HLN : Hid ((splice (zeros 100) 0 d).length = 100) := by show _ = _; rw [length_splice _ _ _ (by rw [zeros_len, HDL.out]; have := HL2.out; omega), zeros_len]
  have HLF : Hid (leftL 30 (upd rgL 0 (some (splice (zeros 100) 0 d))) = 28) := rg_left d (by rw [HDL.out]; exact HL2.out)
  obtain ⟨R8, hR8⟩ : ∃ R, outF rgW 1 (rgN t1 es1 (upd rgL 0 (some (splice (zeros 100) 0 d)))) 101 ⟨1, 1, mask, x⟩ (len) [] = R := ⟨_, rfl⟩
  have HR8 := hide hR8
  have HRV8 : Hid (R8 = ⟨0, Cp.zero, 0, pieceF (splice (zeros 100) 0 d) 0 len, rgN t1 es1 (upd rgL 0 (some (splice (zeros 100) 0 d)))⟩) := by show _ = _; rw [← hR8, rg_own 101 (by omega) _ _ _ HXW.out HH.out, if_pos HN1.out, rg_read _ HLL.out len (by rw [HLN.out]; exact HL2.out) HL2.out]
  clear hR8
  have c0x : V7.cell? ⟨x6.heap.size, 0, none⟩ = some (.int .u64 1) := HQ.out.c0
  have c1x : V7.cell? ⟨x6.heap.size, 1, none⟩ = some (.int .u32 1) := HQ.out.c1
  have c2x := HQ.out.c2
  have c3x := HQ.out.c3
  go_wp2_with fail
  refine (ask_any 101 (len) ⟨1, 1, mask, x⟩ none 0 0 [] _ HS.out HX.out (bts_nil _) HQOK.out (by omega) (fun h => absurd h (by omega)) (by have := HL2.out; omega) (by have := HL2.out; omega) HL.out HG.out R8 HR8.out 101 (len : Int) 1 1 (mask : Int) (x : Int) rfl rfl rfl rfl rfl rfl).mono ?_; rintro e x8 ⟨m8, co8, n8, cc8, A8, rfl, hm, B, TY, S, hag, X, K, F⟩
  have HST8 : Hid ((m8.st : Int) = 0) := by show _ = _; rw [hm, rpl_st, HRV8.out]; rfl
  rw [HRV8.out] at X
  obtain ⟨V8, hV8⟩ : ∃ V, x8.alloc (.cells #[.int .u64 m8.ta, .int .u64 m8.rp, .int .u32 m8.id, .int .u16 m8.op, .int .u16 m8.st, .int .u64 m8.p, .int .u32 m8.o, .int .u8 m8.r, .int .u64 m8.c, .int .u64 m8.ar, .slice co8 n8 cc8] 53) = V := ⟨_, rfl⟩
  have b8 : Below x8.heap.size x8 V8 := hV8 ▸ below_alloc _ _
  have HV8 : Hid (MB V8 x8.heap.size m8 (.slice co8 n8 cc8)) := hV8 ▸ mb_new _ _ _
  have HS := hide (S.grow b8)
  have HX := hide (X.grow b8)
  have HD8 := hide (B.carry b8)
  have HT8 := hide (TY.imp id (fun h => Typ8.grow h b8))
  have HQ := hide ((CBox.kh HQ.out K).grow b8)
  have HV7 := hide ((HV7.out.kh K).grow b8)
  clear c0x c1x c2x c3x
  have HX : Hid (Sv w V8 A8 1 rgW (rgN t1 es1 (upd rgL 0 (some (splice (zeros 100) 0 d))))) := HX.out
  rw [HRV8.out] at HD8 HT8
  clear hm B TY S X K F hag b8
  have HD8 : Hid (Bts V8 co8 n8 cc8 d) := by have h := HD8.out; unfold datF at h; rw [if_pos (show (_ : Nat) = 0 from rfl)] at h; rw [show pieceF (splice (zeros 100) 0 d) 0 len = d from by have h2 := piece_new d; rw [HDL.out] at h2; exact h2] at h; exact h
  have HT8 : Hid (d = [] ∨ Typ8 V8 co8) := by have h := HT8.out; unfold datF at h; rw [if_pos (show (_ : Nat) = 0 from rfl)] at h; rw [show pieceF (splice (zeros 100) 0 d) 0 len = d from by have h2 := piece_new d; rw [HDL.out] at h2; exact h2] at h; exact h
  obtain ⟨R9, hR9⟩ : ∃ R, outF rgW 1 (rgN t1 es1 (upd rgL 0 (some (splice (zeros 100) 0 d)))) 104 ⟨1, 1, mask, x⟩ 200 [] = R := ⟨_, rfl⟩
  have HR9 := hide hR9
  have HRV9 : Hid (R9.e = 0) := by show _ = _; rw [← hR9, rg_own 104 (by omega) _ _ _ HXW.out HH.out, if_pos (show mask &&& needN 104 = needN 104 from HN2.out)]; exact rg_grow _ HLL.out HLN.out HLF.out []
  clear hR9
  have c0x : V8.cell? ⟨x6.heap.size, 0, none⟩ = some (.int .u64 1) := HQ.out.c0
  have c1x : V8.cell? ⟨x6.heap.size, 1, none⟩ = some (.int .u32 1) := HQ.out.c1
  have c2x := HQ.out.c2
  have c3x := HQ.out.c3
  go_wp2_with fail
  refine (ask_any 104 200 ⟨1, 1, mask, x⟩ none 0 0 [] _ HS.out HX.out (bts_nil _) HQOK.out (by omega) (fun h => absurd h (by omega)) (by omega) (by omega) HL.out HG.out R9 HR9.out 104 200 1 1 (mask : Int) (x : Int) rfl rfl rfl rfl rfl rfl).mono ?_; rintro e x9 ⟨m9, co9, n9, cc9, A9, rfl, hm, B, TY, S, hag, X, K, F⟩
  have HST9 : Hid ((m9.st : Int) = 0) := by show _ = _; rw [hm, rpl_st, HRV9.out]; rfl
  obtain ⟨V9, hV9⟩ : ∃ V, x9.alloc (.cells #[.int .u64 m9.ta, .int .u64 m9.rp, .int .u32 m9.id, .int .u16 m9.op, .int .u16 m9.st, .int .u64 m9.p, .int .u32 m9.o, .int .u8 m9.r, .int .u64 m9.c, .int .u64 m9.ar, .slice co9 n9 cc9] 53) = V := ⟨_, rfl⟩
  have b9 : Below x9.heap.size x9 V9 := hV9 ▸ below_alloc _ _
  have HV9 : Hid (MB V9 x9.heap.size m9 (.slice co9 n9 cc9)) := hV9 ▸ mb_new _ _ _
  have HS := hide (S.grow b9)
  have HX := hide (X.grow b9)
  have HD9 := hide (B.carry b9)
  have HT9 := hide (TY.imp id (fun h => Typ8.grow h b9))
  have HV7 := hide ((HV7.out.kh K).grow b9)
  have HV8 := hide ((HV8.out.kh K).grow b9)
  have HD8 := hide ((HD8.out.typ HT8.out K).carry b9)
  have HBZ := hide (HX.out.bel)
  have e7 : V9.cell? ⟨x7.heap.size, 4, none⟩ = some (.int .u16 0) := by rw [HV7.out.all.2.2.2.2.1, HST7.out]
  have e8 : V9.cell? ⟨x8.heap.size, 4, none⟩ = some (.int .u16 0) := by rw [HV8.out.all.2.2.2.2.1, HST8.out]
  have e9 : V9.cell? ⟨x9.heap.size, 4, none⟩ = some (.int .u16 0) := by rw [HV9.out.all.2.2.2.2.1, HST9.out]
  have e10 : V9.cell? ⟨x8.heap.size, 10, none⟩ = some (.slice co8 n8 cc8) := HV8.out.all.2.2.2.2.2.2.2.2.2.2
  clear c0x c1x c2x c3x hm B TY S X K F hag b9
  have cvd := conv_bts ((HBD.out.carry HBZ.out).drewN 1)
  have cv8 := conv_bts (HD8.out.drewN 1)
  clear HV7 HV8 HV9 HQ HS HX
  go_wp2_with fail
  have hS : Hid (V9.drew.cell? ⟨x8.heap.size, 10, none⟩ = some (.slice co8 n8 cc8) ∧ (convert 23 9 (.slice co8 n8 cc8)).run Tryz.prog V9.drew = .ok (.string (str d)) V9.drew ∧ (convert 23 9 (.slice ao len c0)).run Tryz.prog V9.drew = .ok (.string (str d)) V9.drew) := ⟨e10, cv8, cvd⟩
  refine wp_region_held_drew (S := fun U => U.cell? ⟨x8.heap.size, 10, none⟩ = some (.slice co8 n8 cc8) ∧ (convert 23 9 (.slice co8 n8 cc8)).run Tryz.prog U = .ok (.string (str d)) U ∧ (convert 23 9 (.slice ao len c0)).run Tryz.prog U = .ok (.string (str d)) U) (by kernel_rfl) hS.out (fun _ => ?_)
  refine wpAnyH_take (i := 0) (oi := { dst := some 95, op := Go.Op.move (Go.Operand.tmp 15), type := 4, pos := "law.go:210", after := #[], guard := none }) (v := (.bool true)) rfl (by kernel_rfl) (by kernel_rfl) (by kernel_rfl) (fun _ _ _ h => h) (Or.inl ⟨by kernel_rfl, fun w hC => by go_simp⟩) hS.out ?_
  simp only [Act.put, List.setIfInBounds_toArray, List.set_cons_zero, List.set_cons_succ]
  refine wpAnyH_take (i := 1) (oi := { dst := some 96, op := Go.Op.unOp Go.UnOp.not 4 (Go.Operand.tmp 95), type := 4, pos := "law.go:210", after := #[{ on := 0, ground := Go.Ground.data }], guard := none }) (v := (.bool false)) rfl (by kernel_rfl) (by kernel_rfl) (by kernel_rfl) (fun _ _ _ h => h) (Or.inl ⟨by kernel_rfl, fun w hC => by go_simp⟩) hS.out ?_
  simp only [Act.put, List.setIfInBounds_toArray, List.set_cons_zero, List.set_cons_succ]
  refine wpAnyH_take (i := 2) (oi := { dst := some 97, op := Go.Op.move (Go.Operand.tmp 96), type := 4, pos := "law.go:210", after := #[{ on := 1, ground := Go.Ground.data }], guard := none }) (v := (.bool false)) rfl (by kernel_rfl) (by kernel_rfl) (by kernel_rfl) (fun _ _ _ h => h) (Or.inl ⟨by kernel_rfl, fun w hC => by go_simp⟩) hS.out ?_
  simp only [Act.put, List.setIfInBounds_toArray, List.set_cons_zero, List.set_cons_succ]
  refine wpAnyH_take (i := 3) (oi := { dst := some 98, op := Go.Op.move (Go.Operand.tmp 16), type := 4, pos := "law.go:210", after := #[{ on := 2, ground := Go.Ground.guard }], guard := some (2, false) }) (v := (.bool true)) rfl (by kernel_rfl) (by kernel_rfl) (by kernel_rfl) (fun _ _ _ h => h) (Or.inl ⟨by kernel_rfl, fun w hC => by go_simp⟩) hS.out ?_
  simp only [Act.put, List.setIfInBounds_toArray, List.set_cons_zero, List.set_cons_succ]
  refine wpAnyH_take (i := 4) (oi := { dst := some 99, op := Go.Op.move (Go.Operand.tmp 98), type := 4, pos := "law.go:210", after := #[{ on := 3, ground := Go.Ground.data }, { on := 2, ground := Go.Ground.chain }, { on := 2, ground := Go.Ground.guard }], guard := some (2, false) }) (v := (.bool true)) rfl (by kernel_rfl) (by kernel_rfl) (by kernel_rfl) (fun _ _ _ h => h) (Or.inl ⟨by kernel_rfl, fun w hC => by go_simp⟩) hS.out ?_
  simp only [Act.put, List.setIfInBounds_toArray, List.set_cons_zero, List.set_cons_succ]
  refine wpAnyH_take (i := 5) (oi := { dst := some 100, op := Go.Op.fieldAddr 53 (Go.Operand.tmp 13) 7, type := 0, pos := "law.go:210", after := #[{ on := 4, ground := Go.Ground.guard }], guard := some (4, true) }) (v := (.pointer (some ⟨x8.heap.size, 10, none⟩))) rfl (by kernel_rfl) (by kernel_rfl) (by kernel_rfl) (fun _ _ _ h => h) (Or.inl ⟨by kernel_rfl, fun w hC => by go_simp⟩) hS.out ?_
  simp only [Act.put, List.setIfInBounds_toArray, List.set_cons_zero, List.set_cons_succ]
  refine wpAnyH_take (i := 6) (oi := { dst := some 101, op := Go.Op.load 23 (Go.Operand.tmp 100), type := 23, pos := "law.go:210", after := #[{ on := 5, ground := Go.Ground.data }, { on := 4, ground := Go.Ground.guard }], guard := some (4, true) }) (v := (.slice co8 n8 cc8)) rfl (by kernel_rfl) (by kernel_rfl) (by kernel_rfl) (fun _ _ _ h => h) (Or.inl ⟨by kernel_rfl, fun w hC => by (obtain ⟨e10, cv8, cvd⟩ := hC; go_simp)⟩) hS.out ?_
  simp only [Act.put, List.setIfInBounds_toArray, List.set_cons_zero, List.set_cons_succ]
  refine wpAnyH_take (i := 7) (oi := { dst := some 102, op := Go.Op.convert 23 9 (Go.Operand.tmp 101), type := 9, pos := "law.go:210", after := #[{ on := 6, ground := Go.Ground.data }, { on := 4, ground := Go.Ground.guard }], guard := some (4, true) }) (v := (.string (str d))) rfl (by kernel_rfl) (by kernel_rfl) (by kernel_rfl) (fun _ _ _ h => h) (Or.inl ⟨by kernel_rfl, fun w hC => by (obtain ⟨e10, cv8, cvd⟩ := hC; go_simp)⟩) hS.out ?_
  simp only [Act.put, List.setIfInBounds_toArray, List.set_cons_zero, List.set_cons_succ]
  refine wpAnyH_take (i := 8) (oi := { dst := some 103, op := Go.Op.move (Go.Operand.tmp 1), type := 23, pos := "law.go:210", after := #[{ on := 4, ground := Go.Ground.guard }], guard := some (4, true) }) (v := (.slice ao len c0)) rfl (by kernel_rfl) (by kernel_rfl) (by kernel_rfl) (fun _ _ _ h => h) (Or.inl ⟨by kernel_rfl, fun w hC => by go_simp⟩) hS.out ?_
  simp only [Act.put, List.setIfInBounds_toArray, List.set_cons_zero, List.set_cons_succ]
  refine wpAnyH_take (i := 9) (oi := { dst := some 104, op := Go.Op.convert 23 9 (Go.Operand.tmp 103), type := 9, pos := "law.go:210", after := #[{ on := 8, ground := Go.Ground.data }, { on := 4, ground := Go.Ground.guard }], guard := some (4, true) }) (v := (.string (str d))) rfl (by kernel_rfl) (by kernel_rfl) (by kernel_rfl) (fun _ _ _ h => h) (Or.inl ⟨by kernel_rfl, fun w hC => by (obtain ⟨e10, cv8, cvd⟩ := hC; go_simp)⟩) hS.out ?_
  simp only [Act.put, List.setIfInBounds_toArray, List.set_cons_zero, List.set_cons_succ]
  refine wpAnyH_take (i := 10) (oi := { dst := some 105, op := Go.Op.binOp Go.BinOp.eql 9 (Go.Operand.tmp 102) (Go.Operand.tmp 104) 9, type := 4, pos := "law.go:210", after := #[{ on := 7, ground := Go.Ground.data }, { on := 9, ground := Go.Ground.data }, { on := 4, ground := Go.Ground.guard }], guard := some (4, true) }) (v := (.bool true)) rfl (by kernel_rfl) (by kernel_rfl) (by kernel_rfl) (fun _ _ _ h => h) (Or.inl ⟨by kernel_rfl, fun w hC => by go_simp⟩) hS.out ?_
  simp only [Act.put, List.setIfInBounds_toArray, List.set_cons_zero, List.set_cons_succ]
  refine wpAnyH_take (i := 11) (oi := { dst := some 106, op := Go.Op.pick (Go.Operand.tmp 99) (Go.Operand.tmp 105) (Go.Operand.const (Go.Value.bool false)), type := 4, pos := "law.go:210", after := #[{ on := 4, ground := Go.Ground.data }, { on := 10, ground := Go.Ground.data }, { on := 2, ground := Go.Ground.guard }], guard := some (2, false) }) (v := (.bool true)) rfl (by kernel_rfl) (by kernel_rfl) (by kernel_rfl) (fun _ _ _ h => h) (Or.inl ⟨by kernel_rfl, fun w hC => by go_simp⟩) hS.out ?_
  simp only [Act.put, List.setIfInBounds_toArray, List.set_cons_zero, List.set_cons_succ]
  refine wpAnyH_take (i := 12) (oi := { dst := some 107, op := Go.Op.pick (Go.Operand.tmp 97) (Go.Operand.const (Go.Value.bool true)) (Go.Operand.tmp 106), type := 4, pos := "law.go:210", after := #[{ on := 2, ground := Go.Ground.data }, { on := 11, ground := Go.Ground.data }], guard := none }) (v := (.bool true)) rfl (by kernel_rfl) (by kernel_rfl) (by kernel_rfl) (fun _ _ _ h => h) (Or.inl ⟨by kernel_rfl, fun w hC => by go_simp⟩) hS.out ?_
  simp only [Act.put, List.setIfInBounds_toArray, List.set_cons_zero, List.set_cons_succ]
  refine wpAnyH_take (i := 13) (oi := { dst := some 108, op := Go.Op.move (Go.Operand.tmp 107), type := 4, pos := "law.go:210", after := #[{ on := 12, ground := Go.Ground.data }, { on := 4, ground := Go.Ground.chain }], guard := none }) (v := (.bool true)) rfl (by kernel_rfl) (by kernel_rfl) (by kernel_rfl) (fun _ _ _ h => h) (Or.inl ⟨by kernel_rfl, fun w hC => by go_simp⟩) hS.out ?_
  simp only [Act.put, List.setIfInBounds_toArray, List.set_cons_zero, List.set_cons_succ]
  refine wpAnyH_take (i := 14) (oi := { dst := some 109, op := Go.Op.move (Go.Operand.tmp 16), type := 4, pos := "law.go:210", after := #[{ on := 13, ground := Go.Ground.guard }], guard := some (13, false) }) (v := undef) rfl (by kernel_rfl) (by kernel_rfl) (by kernel_rfl) (fun _ _ _ h => h) (Or.inr ⟨by kernel_rfl, rfl⟩) hS.out ?_
  simp only [Act.put, List.setIfInBounds_toArray, List.set_cons_zero, List.set_cons_succ]
  refine wpAnyH_take (i := 15) (oi := { dst := some 110, op := Go.Op.unOp Go.UnOp.not 4 (Go.Operand.tmp 109), type := 4, pos := "law.go:210", after := #[{ on := 14, ground := Go.Ground.data }, { on := 13, ground := Go.Ground.guard }], guard := some (13, false) }) (v := undef) rfl (by kernel_rfl) (by kernel_rfl) (by kernel_rfl) (fun _ _ _ h => h) (Or.inr ⟨by kernel_rfl, rfl⟩) hS.out ?_
  simp only [Act.put, List.setIfInBounds_toArray, List.set_cons_zero, List.set_cons_succ]
  refine wpAnyH_take (i := 16) (oi := { dst := some 111, op := Go.Op.move (Go.Operand.tmp 110), type := 4, pos := "law.go:210", after := #[{ on := 15, ground := Go.Ground.data }, { on := 13, ground := Go.Ground.chain }, { on := 13, ground := Go.Ground.guard }], guard := some (13, false) }) (v := undef) rfl (by kernel_rfl) (by kernel_rfl) (by kernel_rfl) (fun _ _ _ h => h) (Or.inr ⟨by kernel_rfl, rfl⟩) hS.out ?_
  simp only [Act.put, List.setIfInBounds_toArray, List.set_cons_zero, List.set_cons_succ]
  refine wpAnyH_take (i := 17) (oi := { dst := some 112, op := Go.Op.fieldAddr 53 (Go.Operand.tmp 13) 7, type := 0, pos := "law.go:210", after := #[{ on := 16, ground := Go.Ground.guard }], guard := some (16, true) }) (v := undef) rfl (by kernel_rfl) (by kernel_rfl) (by kernel_rfl) (fun _ _ _ h => h) (Or.inr ⟨by kernel_rfl, rfl⟩) hS.out ?_
  simp only [Act.put, List.setIfInBounds_toArray, List.set_cons_zero, List.set_cons_succ]
  refine wpAnyH_take (i := 18) (oi := { dst := some 113, op := Go.Op.load 23 (Go.Operand.tmp 112), type := 23, pos := "law.go:210", after := #[{ on := 17, ground := Go.Ground.data }, { on := 16, ground := Go.Ground.guard }], guard := some (16, true) }) (v := undef) rfl (by kernel_rfl) (by kernel_rfl) (by kernel_rfl) (fun _ _ _ h => h) (Or.inr ⟨by kernel_rfl, rfl⟩) hS.out ?_
  simp only [Act.put, List.setIfInBounds_toArray, List.set_cons_zero, List.set_cons_succ]
  refine wpAnyH_take (i := 19) (oi := { dst := some 114, op := Go.Op.convert 23 9 (Go.Operand.tmp 113), type := 9, pos := "law.go:210", after := #[{ on := 18, ground := Go.Ground.data }, { on := 16, ground := Go.Ground.guard }], guard := some (16, true) }) (v := undef) rfl (by kernel_rfl) (by kernel_rfl) (by kernel_rfl) (fun _ _ _ h => h) (Or.inr ⟨by kernel_rfl, rfl⟩) hS.out ?_
  simp only [Act.put, List.setIfInBounds_toArray, List.set_cons_zero, List.set_cons_succ]
  refine wpAnyH_take (i := 20) (oi := { dst := some 115, op := Go.Op.move (Go.Operand.tmp 1), type := 23, pos := "law.go:210", after := #[{ on := 16, ground := Go.Ground.guard }], guard := some (16, true) }) (v := undef) rfl (by kernel_rfl) (by kernel_rfl) (by kernel_rfl) (fun _ _ _ h => h) (Or.inr ⟨by kernel_rfl, rfl⟩) hS.out ?_
  simp only [Act.put, List.setIfInBounds_toArray, List.set_cons_zero, List.set_cons_succ]
  refine wpAnyH_take (i := 21) (oi := { dst := some 116, op := Go.Op.call { callee := Go.Callee.builtin Go.Builtin.len, args := #[Go.Operand.tmp 115], argTypes := #[23] }, type := 3, pos := "law.go:210", after := #[{ on := 20, ground := Go.Ground.data }, { on := 16, ground := Go.Ground.guard }], guard := some (16, true) }) (v := undef) rfl (by kernel_rfl) (by kernel_rfl) (by kernel_rfl) (fun _ _ _ h => h) (Or.inr ⟨by kernel_rfl, rfl⟩) hS.out ?_
  simp only [Act.put, List.setIfInBounds_toArray, List.set_cons_zero, List.set_cons_succ]
  refine wpAnyH_take (i := 22) (oi := { dst := some 117, op := Go.Op.makeSlice 23 (Go.Operand.tmp 116) (Go.Operand.tmp 116), type := 23, pos := "law.go:210", after := #[{ on := 21, ground := Go.Ground.data }, { on := 21, ground := Go.Ground.data }, { on := 16, ground := Go.Ground.guard }], guard := some (16, true) }) (v := undef) rfl (by kernel_rfl) (by kernel_rfl) (by kernel_rfl) (fun _ _ _ h => h) (Or.inr ⟨by kernel_rfl, rfl⟩) hS.out ?_
  simp only [Act.put, List.setIfInBounds_toArray, List.set_cons_zero, List.set_cons_succ]
  refine wpAnyH_take (i := 23) (oi := { dst := some 118, op := Go.Op.convert 23 9 (Go.Operand.tmp 117), type := 9, pos := "law.go:210", after := #[{ on := 22, ground := Go.Ground.data }, { on := 16, ground := Go.Ground.guard }], guard := some (16, true) }) (v := undef) rfl (by kernel_rfl) (by kernel_rfl) (by kernel_rfl) (fun _ _ _ h => h) (Or.inr ⟨by kernel_rfl, rfl⟩) hS.out ?_
  simp only [Act.put, List.setIfInBounds_toArray, List.set_cons_zero, List.set_cons_succ]
  refine wpAnyH_take (i := 24) (oi := { dst := some 119, op := Go.Op.binOp Go.BinOp.eql 9 (Go.Operand.tmp 114) (Go.Operand.tmp 118) 9, type := 4, pos := "law.go:210", after := #[{ on := 19, ground := Go.Ground.data }, { on := 23, ground := Go.Ground.data }, { on := 16, ground := Go.Ground.guard }], guard := some (16, true) }) (v := undef) rfl (by kernel_rfl) (by kernel_rfl) (by kernel_rfl) (fun _ _ _ h => h) (Or.inr ⟨by kernel_rfl, rfl⟩) hS.out ?_
  simp only [Act.put, List.setIfInBounds_toArray, List.set_cons_zero, List.set_cons_succ]
  refine wpAnyH_take (i := 25) (oi := { dst := some 120, op := Go.Op.pick (Go.Operand.tmp 111) (Go.Operand.tmp 119) (Go.Operand.const (Go.Value.bool false)), type := 4, pos := "law.go:210", after := #[{ on := 16, ground := Go.Ground.data }, { on := 24, ground := Go.Ground.data }, { on := 13, ground := Go.Ground.guard }], guard := some (13, false) }) (v := undef) rfl (by kernel_rfl) (by kernel_rfl) (by kernel_rfl) (fun _ _ _ h => h) (Or.inr ⟨by kernel_rfl, rfl⟩) hS.out ?_
  simp only [Act.put, List.setIfInBounds_toArray, List.set_cons_zero, List.set_cons_succ]
  refine wpAnyH_take (i := 26) (oi := { dst := some 121, op := Go.Op.pick (Go.Operand.tmp 108) (Go.Operand.const (Go.Value.bool true)) (Go.Operand.tmp 120), type := 4, pos := "law.go:210", after := #[{ on := 13, ground := Go.Ground.data }, { on := 25, ground := Go.Ground.data }], guard := none }) (v := (.bool true)) rfl (by kernel_rfl) (by kernel_rfl) (by kernel_rfl) (fun _ _ _ h => h) (Or.inl ⟨by kernel_rfl, fun w hC => by go_simp⟩) hS.out ?_
  simp only [Act.put, List.setIfInBounds_toArray, List.set_cons_zero, List.set_cons_succ]
  refine wpAnyH_take (i := 27) (oi := { dst := some 4, op := Go.Op.assign (Go.Operand.tmp 121), type := 4, pos := "law.go:210", after := #[{ on := 26, ground := Go.Ground.data }, { on := 16, ground := Go.Ground.chain }, { on := 0, ground := Go.Ground.phase }, { on := 1, ground := Go.Ground.phase }, { on := 2, ground := Go.Ground.phase }, { on := 3, ground := Go.Ground.phase }, { on := 4, ground := Go.Ground.phase }, { on := 5, ground := Go.Ground.phase }, { on := 6, ground := Go.Ground.phase }, { on := 7, ground := Go.Ground.phase }, { on := 8, ground := Go.Ground.phase }, { on := 9, ground := Go.Ground.phase }, { on := 10, ground := Go.Ground.phase }, { on := 11, ground := Go.Ground.phase }, { on := 12, ground := Go.Ground.phase }, { on := 13, ground := Go.Ground.phase }, { on := 14, ground := Go.Ground.phase }, { on := 15, ground := Go.Ground.phase }, { on := 16, ground := Go.Ground.phase }, { on := 17, ground := Go.Ground.phase }, { on := 18, ground := Go.Ground.phase }, { on := 19, ground := Go.Ground.phase }, { on := 20, ground := Go.Ground.phase }, { on := 21, ground := Go.Ground.phase }, { on := 22, ground := Go.Ground.phase }, { on := 23, ground := Go.Ground.phase }, { on := 24, ground := Go.Ground.phase }, { on := 25, ground := Go.Ground.phase }, { on := 26, ground := Go.Ground.phase }], guard := none }) (v := (.bool true)) rfl (by kernel_rfl) (by kernel_rfl) (by kernel_rfl) (fun _ _ _ h => h) (Or.inl ⟨by kernel_rfl, fun w hC => by go_simp⟩) hS.out ?_
  simp only [Act.put, List.setIfInBounds_toArray, List.set_cons_zero, List.set_cons_succ]
  refine wpAnyH_done (by kernel_rfl) ?_ _
  go_wp2
  go_ret
  exact ⟨rfl, HBZ.out.trans (below_d _ _ |>.mono HBZ.out.size)⟩
theorem walk_rights (mask : Nat) (ao : Option Addr) (n0 c0 : Nat) (l : List UInt8) (w : World) (hb : Bts w ao n0 c0 l) (hlow : 0 < n0 → ∀ ad, ao = some ad → ad.block < w.heap.size) (hm : mask ≤ 255) (hg : Glob w) :
    Calls Tryz.prog 6 #[.int .u8 (mask : Int), .slice ao n0 c0] w fun e w' => e = .returned (.bool true) ∧ Below w.heap.size w w' := by
  rcases and_one mask with h1 | h1 <;> rcases and_two mask with h2 | h2
  · exact rgt_00 mask ao n0 c0 l w hb hlow hm h1 h2 hg
  · exact rgt_01 mask ao n0 c0 l w hb hlow hm h1 h2 hg
  · exact rgt_10 mask ao n0 c0 l w hb hlow hm h1 h2 hg
  · exact rgt_11 mask ao n0 c0 l w hb hlow hm h1 h2 hg
end
end Go.Proofs.YtpbkjmkdciiccaaGreatDoor
namespace Go.Proofs.YtpbkjmkdciiccaaGreatDoor
section
open Go.RowKit
theorem RowOf.bytes {w : World} {a : Option Addr} {len cap : Nat} {zs : List Int} (h : RowOf .u8 w a len cap zs) : ∃ l, Bts w a len cap l := by
  rcases h with ⟨rfl, rfl, rfl, rfl⟩ | ⟨x, rfl, h1, h2, h3, h4, h5⟩
  · exact ⟨[], bts_nil w⟩
  · have hlen : ((zs.take len).map fun z => UInt8.ofNat z.toNat).length = len := by simp; omega
    refine ⟨(zs.take len).map fun z => UInt8.ofNat z.toNat, hlen.symm, h1, h2, (fun e => by cases e), fun ad e j hj => ?_⟩
    obtain rfl := Option.some.inj e
    rw [hlen] at hj
    have hjz : j < zs.length := by omega
    rw [h4 j hjz, bt_get _ _ (by rw [hlen]; exact hj)]
    have e1 : zs.getD j 0 = zs[j] := by rw [List.getD_eq_getElem?_getD, List.getElem?_eq_getElem hjz]; rfl
    have e2 := bounds_u8 (h5 zs[j] (List.getElem_mem hjz))
    rw [e1]
    simp only [List.getElem_map, List.getElem_take, ofNat_toNat]
    congr 2
    omega
theorem bytesOf5 : Tryz.prog.bytesOf 5 = 1 := by kernel_rfl
theorem Bts.low {w : World} {ao : Option Addr} {n cap : Nat} {l : List UInt8} (h : Bts w ao n cap l) : 0 < n → ∀ ad, ao = some ad → ad.block < w.heap.size := fun hp ad e => by
  have := lt_of_cell (h.2.2.2.2 ad e 0 (by rw [← h.1]; exact hp))
  rw [add_block] at this; exact this
end
end Go.Proofs.YtpbkjmkdciiccaaGreatDoor
