/-
  What the owner of the first directory is answered: plain facts.
  The owner's requests with everything written out: contracts for the statements' walks.
  The walk of DirectoryMask.
-/
import Derived.Test.YtlmnnjibggdboaaGreatDoorJm
namespace Go.Proofs.YtlmnnjibggdboaaGreatDoor
section
open Go.RowKit
variable {ws : List Nat} {s : Hs} {sec : Nat}
structure RootOk (s : Hs) (sec : Nat) : Prop where
  sc : (s.T 0).s = sec
  l : 0 < (s.T 0).l
  v : (s.T 0).v = 0
  le : sec ≤ 281474976710655
def rootC (sec : Nat) : Cp := ⟨1, 0, 255, sec⟩
theorem chk_root (h : RootOk s sec) (need : Nat) (hn : 255 &&& need = need) : chkF ws s.t s.es 1 s.T (rootC sec) need = ⟨0, 0, s.t, s.es⟩ := by
  have hh : hasO s.T 0 = true := hasO_of (by omega) h.l
  have ho : ofF ws s.t s.es (s.T 0).s 255 = ⟨sec, true, s.t, s.es⟩ := by unfold ofF; rw [if_pos rfl, h.sc, Nat.mod_eq_of_lt (by have := h.le; omega)]
  unfold chkF rootC
  simp only
  rw [if_neg (by rw [hh]; simp), ho]
  simp only
  rw [if_neg (by decide), if_neg (by simp), if_neg (by rw [hn]; simp)]
theorem root_need (op : Nat) : 255 &&& needN op = needN op := by
  unfold needN
  repeat' split
  all_goals decide
theorem out_root (h : RootOk s sec) (op ar : Nat) (l : List UInt8) (ho : 100 ≤ op ∧ op ≤ 105) : outF ws 1 s op (rootC sec) ar l = doF ws 1 s op 0 ar l := by
  have hm : mayC (rootC sec) = true := decide_eq_true ⟨by show 1 ≤ _; omega, by show 0 ≤ _; omega, h.le⟩
  have hb : needB op = true := by unfold needB; simp; omega
  unfold outF
  rw [if_neg (by rw [hm]; decide), if_neg (by omega), if_neg (by rintro (e | e); omega; rw [hb] at e; cases e), chk_root h _ (root_need op)]
  unfold ownF
  rw [if_pos rfl]
  show doF ws 1 (s.tab s.t s.es s.T) op (s.T 0).v ar l = _
  rw [h.v]; rfl
/- a request's data -/
def reqD (nm x : List UInt8) : List UInt8 := putF nm.length 2 ++ nm ++ x
variable {nm x : List UInt8}
theorem req_nm (h : nm.length ≤ 65535) : nmN (reqD nm x) = nm.length := by
  unfold nmN reqD
  rw [List.drop_zero, List.append_assoc, List.take_left' (putF_len _ _), numF_putF]
  exact Nat.mod_eq_of_lt (by show _ < 65536; omega)
theorem req_len : (reqD nm x).length = 2 + nm.length + x.length := by unfold reqD; rw [List.length_append, List.length_append, putF_len]
theorem req_has (h1 : 1 ≤ nm.length) (h2 : nm.length ≤ 32) : hasNm (reqD nm x) = true := by
  unfold hasNm
  rw [req_nm (by omega), req_len]
  exact decide_eq_true ⟨⟨by omega, by omega⟩, h1, h2⟩
theorem req_of (h : nm.length ≤ 65535) : nmOf (reqD nm x) = nm := by
  unfold nmOf
  rw [req_nm h]
  unfold reqD
  rw [List.append_assoc, List.drop_left' (putF_len _ _), List.take_left' rfl]
theorem req_rest (h : nm.length ≤ 65535) : restOf (reqD nm x) = x := by
  unfold restOf
  rw [req_nm h]
  unfold reqD
  exact List.drop_left' (by rw [List.length_append, putF_len])
theorem capD_capF {p o r c : Nat} (hp : p ≤ 281474976710655) (ho : o ≤ 16777215) (hr : r ≤ 255) (hc : c ≤ 281474976710655) : capD (capF p o r c) = ⟨p, o, r, c⟩ := by
  have e0 : ((capF p o r c).drop 0).take 6 = putF p 6 := by unfold capF; rw [List.drop_zero, List.append_assoc, List.append_assoc, List.take_left' (putF_len _ _)]
  have e1 : ((capF p o r c).drop 6).take 3 = putF o 3 := by unfold capF; rw [List.append_assoc, List.append_assoc, List.drop_left' (putF_len _ _), List.take_left' (putF_len _ _)]
  have e2 : ((capF p o r c).drop 9).take 1 = putF r 1 := by
    unfold capF
    rw [List.append_assoc, List.drop_left' (by rw [List.length_append, putF_len, putF_len]), List.take_left' (putF_len _ _)]
  have e3 : ((capF p o r c).drop 10).take 6 = putF c 6 := by
    unfold capF
    rw [List.drop_left' (by rw [List.length_append, List.length_append, putF_len, putF_len, putF_len])]
    exact List.take_of_length_le (by rw [putF_len]; omega)
  unfold capD
  rw [e0, e1, e2, e3, numF_putF, numF_putF, numF_putF, numF_putF, Nat.mod_eq_of_lt (by show _ < 281474976710656; omega), Nat.mod_eq_of_lt (by show _ < 16777216; omega), Nat.mod_eq_of_lt (by show _ < 256; omega), Nat.mod_eq_of_lt (by show _ < 281474976710656; omega)]
/- what entering, replacing, deleting and looking up do to the first directory -/
variable {L : List Rw}
theorem do_enter (hL : s.L 0 = L) (h1 : 1 ≤ nm.length) (h2 : nm.length ≤ 32) (hno : idxR L nm = L.length) (hl : L.length < 64) {q : Cp} (hx : x = capF q.p q.o q.r q.c) (hq : q.p ≤ 281474976710655 ∧ q.o ≤ 16777215 ∧ q.r ≤ 255 ∧ q.c ≤ 281474976710655) {ar : Nat} (ha : ar ≤ 255) : doF ws 1 s 102 0 ar (reqD nm x) = badF (s.row 0 (L ++ [⟨nm, q, ar⟩])) 0 := by
  unfold doF nameF entF
  rw [if_neg (by decide), if_neg (by decide), if_neg (by rw [req_has h1 h2]; decide), req_of (by omega), req_rest (by omega), hL, if_neg (by omega), if_neg (by rintro ⟨e, _⟩; exact e rfl), if_neg (by decide), if_neg (by decide), if_neg (by rw [hx, capF_len]; omega), if_neg (by decide), if_neg (by omega), hx, capD_capF hq.1 hq.2.1 hq.2.2.1 hq.2.2.2]
theorem do_exists (hL : s.L 0 = L) (h1 : 1 ≤ nm.length) (h2 : nm.length ≤ 32) (hi : idxR L nm < L.length) {ar : Nat} : doF ws 1 s 102 0 ar (reqD nm x) = badF s 11 := by
  unfold doF nameF
  rw [if_neg (by decide), if_neg (by decide), if_neg (by rw [req_has h1 h2]; decide), req_of (by omega), hL, if_pos ⟨rfl, hi⟩]
theorem do_missing {op : Nat} (hop : op = 101 ∨ op = 103 ∨ op = 104) (hL : s.L 0 = L) (h1 : 1 ≤ nm.length) (h2 : nm.length ≤ 32) (hno : idxR L nm = L.length) {ar : Nat} : doF ws 1 s op 0 ar (reqD nm x) = badF s 12 := by
  unfold doF nameF
  rw [if_neg (by omega), if_neg (by omega), if_neg (by rw [req_has h1 h2]; decide), req_of (by omega), hL, if_neg (by omega), if_pos ⟨by omega, by omega⟩]
theorem do_look (hL : s.L 0 = L) (h1 : 1 ≤ nm.length) (h2 : nm.length ≤ 32) (hi : idxR L nm < L.length) {ar : Nat} : doF ws 1 s 101 0 ar (reqD nm x) = lookF ws s (L.getD (idxR L nm) Rw.zero) := by
  unfold doF nameF
  rw [if_neg (by decide), if_neg (by decide), if_neg (by rw [req_has h1 h2]; decide), req_of (by omega), hL, if_neg (by rintro ⟨e, _⟩; cases e), if_neg (by rintro ⟨_, e⟩; exact e hi), if_pos rfl]
theorem do_delete (hL : s.L 0 = L) (h1 : 1 ≤ nm.length) (h2 : nm.length ≤ 32) (hi : idxR L nm < L.length) {ar : Nat} : doF ws 1 s 104 0 ar (reqD nm x) = badF (s.row 0 (delR L (idxR L nm))) 0 := by
  unfold doF nameF
  rw [if_neg (by decide), if_neg (by decide), if_neg (by rw [req_has h1 h2]; decide), req_of (by omega), hL, if_neg (by rintro ⟨e, _⟩; cases e), if_neg (by rintro ⟨_, e⟩; exact e hi), if_neg (by decide), if_pos rfl]
theorem do_replace (hL : s.L 0 = L) (h1 : 1 ≤ nm.length) (h2 : nm.length ≤ 32) (hi : idxR L nm < L.length) {q : Cp} (hx : x = capF q.p q.o q.r q.c) (hq : q.p ≤ 281474976710655 ∧ q.o ≤ 16777215 ∧ q.r ≤ 255 ∧ q.c ≤ 281474976710655) {ar : Nat} (ha : ar ≤ 255) : doF ws 1 s 103 0 ar (reqD nm x) = badF (s.row 0 (L.set (idxR L nm) ⟨nm, q, ar⟩)) 0 := by
  unfold doF nameF entF
  rw [if_neg (by decide), if_neg (by decide), if_neg (by rw [req_has h1 h2]; decide), req_of (by omega), req_rest (by omega), hL, if_neg (by rintro ⟨e, _⟩; cases e), if_neg (by rintro ⟨_, e⟩; exact e hi), if_neg (by decide), if_neg (by decide), if_neg (by rw [hx, capF_len]; omega), if_pos rfl, hx, capD_capF hq.1 hq.2.1 hq.2.2.1 hq.2.2.2]
theorem RootOk.row (h : RootOk s sec) (z : Int) (l : List Rw) : RootOk (s.row z l) sec := ⟨h.sc, h.l, h.v, h.le⟩
theorem row_L (l : List Rw) : (s.row 0 l).L 0 = l := updL_same s.L 0 l
/- the first directory as it is made -/
theorem cre_first (w0 : Nat) (ws : List Nat) : creF (w0 :: ws) 0 [] 1 noneO 0 = ⟨rootC w0, 0, 1, [], updO noneO 0 ⟨w0, 0, 0, 24⟩⟩ := by
  have hf : freeO noneO = 0 := by kernel_rfl
  unfold creF
  rw [hf, if_pos (by omega), if_pos (by simp)]
  rfl
theorem root_first (w0 : Nat) (hw : w0 ≤ 281474976710655) : RootOk ⟨1, [], updO noneO 0 ⟨w0, 0, 0, 24⟩, 0, 0, L0⟩ w0 := ⟨rfl, by show 0 < 24; omega, rfl, hw⟩
end
end Go.Proofs.YtlmnnjibggdboaaGreatDoor
namespace Go.Proofs.YtlmnnjibggdboaaGreatDoor
section
open Go.RowKit
variable {w w' : World}
theorem rq_enc (q : Cp) (hq : q.p ≤ 281474976710655 ∧ q.o ≤ 16777215 ∧ q.r ≤ 255 ∧ q.c ≤ 281474976710655) (xb : List UInt8) (hx : xb = capF q.p q.o q.r q.c) (p o r c : Int) (hp : p = (q.p : Int)) (ho : o = (q.o : Int)) (hr : r = (q.r : Int)) (hc : c = (q.c : Int)) (W : World) :
    Calls Tryz.prog 23 #[.agg #[.int .u64 p, .int .u32 o, .int .u8 r, .int .u64 c]] W fun e w' => ∃ g, e = .returned (.slice (some ⟨g, 0, none⟩) 16 16) ∧ Bts w' (some ⟨g, 0, none⟩) 16 16 xb ∧ Below W.heap.size W w' := by
  subst hx hp ho hr hc
  exact enc_any q hq W
def rqM (op sec ar : Nat) : Msg := ⟨0, 0, 0, op, 0, 1, 0, 255, sec, ar⟩
theorem rq_req (op sec ar : Nat) (nm : List UInt8) (M : Msg) (hM : rqM op sec ar = M) (L xb : List UInt8) (hL : reqD nm xb = L) (nmv : ByteArray) (hn : str nm = nmv) (hl : nm.length ≤ 100) (oi si ai : Int) (ho : oi = (op : Int)) (hs : si = (sec : Int)) (ha : ai = (ar : Int)) (W : World) (bo : Option Addr) (bn bc : Nat) (hb : Bts W bo bn bc xb) (hbn : bn ≤ 100) :
    Calls Tryz.prog 22 #[.int .u16 oi, .agg #[.int .u64 1, .int .u32 0, .int .u8 255, .int .u64 si], .int .u64 ai, .string nmv, .slice bo bn bc] W fun e w' => ∃ co n cc, e = .returned (.agg #[.int .u64 M.ta, .int .u64 M.rp, .int .u32 M.id, .int .u16 M.op, .int .u16 M.st, .int .u64 M.p, .int .u32 M.o, .int .u8 M.r, .int .u64 M.c, .int .u64 M.ar, .slice co n cc]) ∧ Bts w' co n cc L ∧ Typ8 w' co ∧ n ≤ 200000 ∧ Below W.heap.size W w' := by
  subst hM hL hn ho hs ha
  refine (req_any op ⟨1, 0, 255, sec⟩ ar nm bo bn bc xb W hb (by omega) (by omega) _ rfl _ rfl).mono ?_
  rintro e w' ⟨co, n, cc, rfl, B, _, T, hn, b⟩
  exact ⟨co, n, cc, rfl, B, T, by omega, b⟩
theorem rq_srv {N : Nat} {s : Hs} {sec : Nat} {ws : List Nat} (h : RootOk s sec) (f : Fit N s) (hN : N ≤ 1000000000000) (w0 : World) (hg : Glob w0) (op ar : Nat) (ho : 100 ≤ op ∧ op ≤ 105) (ha : ar ≤ 18446744073709551615) (M : Msg) (hM : rqM op sec ar = M) (L : List UInt8) (R : Ro) (hR : doF ws 1 s op 0 ar L = R) (rr : Nat) (A : Ad) (W : World) (qo : Option Addr) (qn qc : Nat) (S : Sr W rr A.g A.sb) (X : Sv w0 W A 1 ws s) (B : Bts W qo qn qc L) (hn : qn ≤ 200000) (T : Typ8 W qo) :
    Calls Tryz.prog 17 #[.pointer (some ⟨rr, 0, none⟩), .agg #[.int .u64 M.ta, .int .u64 M.rp, .int .u32 M.id, .int .u16 M.op, .int .u16 M.st, .int .u64 M.p, .int .u32 M.o, .int .u8 M.r, .int .u64 M.c, .int .u64 M.ar, .slice qo qn qc]] W (AskE w0 W A 1 ws rr R M L) := by
  have hle := h.le
  subst hM
  refine awSrv (rqM op sec ar) L R s N w0 hg ⟨by show 1 ≤ _; omega, by show 0 ≤ _; omega, by show 255 ≤ _; omega, by show sec ≤ _; omega⟩ ⟨by show 5 ≤ op; omega, by show op ≤ _; omega⟩ ha 1 ws ?_ f hN rr A W qo qn qc S X B hn T
  exact (out_root h op ar L ho).trans hR
/- three draws -/
theorem cut_three3 {a b c : Nat} (ha : a < 281474976710656) (hb : b < 281474976710656) (hc : c < 281474976710656) : cutN [a, b, c] = [a, b, c] := by
  simp [cutN, Nat.mod_eq_of_lt ha, Nat.mod_eq_of_lt hb, Nat.mod_eq_of_lt hc]
theorem u64s_three (a b c : Nat) (ha : a ≤ 18446744073709551615) (hb : b ≤ 18446744073709551615) (hc : c ≤ 18446744073709551615) (w : World) : U64s (w.alloc (.cells #[.int .u64 (a : Int), .int .u64 (b : Int), .int .u64 (c : Int)] 32)) (some ⟨w.heap.size, 0, none⟩) 3 3 [a, b, c] :=
  (show RowN (w.alloc (.cells #[.int .u64 (a : Int), .int .u64 (b : Int), .int .u64 (c : Int)] 32)) .u64 32 w.heap.size [a, b, c] from heap_alloc_new _ _).u64s (by show 3 ≤ maxLen; decide) (fun j => by
    rcases j with _ | _ | _ | j <;> simp [ha, hb, hc])
end
end Go.Proofs.YtlmnnjibggdboaaGreatDoor
namespace Go.Proofs.YtlmnnjibggdboaaGreatDoor
section
open Go.RowKit
theorem and_not_iff {r m : Nat} (hm : m ≤ 255) (hr : r ≤ 255) : (r &&& (255 - m) = 0) ↔ r &&& m = r := by
  have hb : ∀ i, (255 - m).testBit i = (decide (i < 8) && !m.testBit i) := fun i => by
    have := Nat.testBit_two_pow_sub_succ (x := m) (n := 8) (by omega) i
    rw [← this]; congr 1; show 255 - m = 256 - (m + 1); omega
  have hi : ∀ i, 8 ≤ i → r.testBit i = false := fun i h => Nat.testBit_lt_two_pow (Nat.lt_of_lt_of_le (show r < 2 ^ 8 by omega) (Nat.pow_le_pow_right (by omega) h))
  constructor
  · intro h
    apply Nat.eq_of_testBit_eq
    intro i
    have h1 := congrArg (fun n => Nat.testBit n i) h
    simp only [Nat.testBit_and, Nat.zero_testBit, hb] at h1
    rw [Nat.testBit_and]
    by_cases h8 : i < 8
    · rw [decide_eq_true h8] at h1
      cases hr : r.testBit i <;> cases hm : m.testBit i <;> simp [hr, hm] at h1 ⊢
    · rw [hi i (by omega)]; rfl
  · intro h
    apply Nat.eq_of_testBit_eq
    intro i
    have h1 := congrArg (fun n => Nat.testBit n i) h
    simp only [Nat.testBit_and] at h1
    rw [Nat.testBit_and, hb, Nat.zero_testBit]
    cases hr : r.testBit i <;> cases hm : m.testBit i <;> simp [hr, hm] at h1 ⊢
theorem self_not {m : Nat} (hm : m ≤ 255) : m &&& (255 - m) = 0 := (and_not_iff hm hm).2 (Nat.and_self m)
theorem ne_mask {r m : Nat} (hm : m ≤ 255) (h0 : r &&& (255 - m) ≠ 0) : m ≠ 255 := fun e => by subst e; exact h0 (by simp)
theorem and_255 {m : Nat} (hm : m ≤ 255) : m &&& 255 = m := by
  rw [show 255 = 2 ^ 8 - 1 from rfl, Nat.and_two_pow_sub_one_eq_mod]; omega
theorem of_first {ws : List Nat} {c m : Nat} (hm : m ≠ 255) (hw : 1 < ws.length) : (ofF ws 1 [] c m).ok = true := by
  unfold ofF
  rw [if_neg hm]
  unfold ansF
  rw [show findE [] 1 ((c % 281474976710656) ^^^ m) = none from rfl]
  simp only
  rw [if_pos hw]
/- what the reply to the look-up says -/
theorem mask_said {ws : List Nat} {s : Hs} {y : Rw} (hw : 1 < ws.length) (ht : s.t = 1) (he : s.es = []) (_ : y.c.r ≤ 255) (hm : y.m ≤ 255) (R : Ro) (hR : lookF ws s y = R) :
    (R.e = 0 ∧ R.c = y.c ∧ y.c.r &&& (255 - y.m) = 0) ∨ (R.e = 0 ∧ y.m ≠ 255 ∧ R.c.p = y.c.p ∧ R.c.o = y.c.o ∧ R.c.r = y.m) ∨ (R.e = 2 ∧ y.c.r ≠ 255 ∧ y.c.r &&& (255 - y.m) ≠ 0) := by
  subst hR
  unfold lookF
  by_cases h0 : y.c.r &&& (255 - y.m) = 0
  · rw [if_pos h0]; exact .inl ⟨rfl, rfl, h0⟩
  · rw [if_neg h0]
    by_cases h1 : y.c.r = 255
    · rw [if_pos h1, ht, he, if_pos (of_first (ne_mask hm h0) hw)]
      exact .inr (.inl ⟨rfl, ne_mask hm h0, rfl, rfl, rfl⟩)
    · rw [if_neg h1]; exact .inr (.inr ⟨rfl, h1, h0⟩)
set_option maxRecDepth 20000 in
set_option maxHeartbeats 6400000 in
theorem walk_mask (c : Cp) (m sec : Nat) (w : World) (hc : c.ok) (hm : m ≤ 255) (hs : sec ≤ 4294967295) (hg : Glob w) :
    Calls Tryz.prog 5 #[c.val, .int .u8 (m : Int), .int .u32 (sec : Int)] w fun e w' => e = .returned (.bool true) ∧ Below w.heap.size w w' := by
  obtain ⟨cp, co, cr, cc⟩ := c
  obtain ⟨hcp, hco, hcr, hcc⟩ := hc
  simp only at hcp hco hcr hcc
  obtain ⟨xp, hxp⟩ : ∃ x, cp % 281474976710656 = x := ⟨_, rfl⟩
  obtain ⟨xo, hxo⟩ : ∃ x, co % 16777216 = x := ⟨_, rfl⟩
  obtain ⟨xr, hxr⟩ : ∃ x, cr = x := ⟨_, rfl⟩
  obtain ⟨xc, hxc⟩ : ∃ x, cc % 281474976710656 = x := ⟨_, rfl⟩
  have hq : xp ≤ 281474976710655 ∧ xo ≤ 16777215 ∧ xr ≤ 255 ∧ xc ≤ 281474976710655 := ⟨by omega, by omega, by omega, by omega⟩
  have hmk := fun W => make_any cp co cr cc W hcp hco hcr hcc
  rw [hxp, hxo, hxc] at hmk
  have HMK := hide hmk
  -- the script, plainly
  obtain ⟨ws, hws⟩ : ∃ ws, [sec, 1099511627776, 2199023255552] = ws := ⟨_, rfl⟩
  have hcut : cutN ws = ws := by rw [← hws]; exact cut_three3 (by omega) (by omega) (by omega)
  have hcre : creF ws 0 [] 1 noneO 0 = ⟨rootC sec, 0, 1, [], updO noneO 0 ⟨sec, 0, 0, 24⟩⟩ := by rw [← hws]; exact cre_first sec _
  obtain ⟨s0, hs0⟩ : ∃ s : Hs, (⟨1, [], updO noneO 0 ⟨sec, 0, 0, 24⟩, 0, 0, L0⟩ : Hs) = s := ⟨_, rfl⟩
  have hr0 : RootOk s0 sec := hs0 ▸ root_first sec (by omega)
  have hf0 : Fit 0 s0 := by rw [← hs0]; have := fit_new (N := 0) hcre (by decide) (fun _ => rfl); exact this
  obtain ⟨xb, hxb⟩ : ∃ x, capF xp xo xr xc = x := ⟨_, rfl⟩
  obtain ⟨L1, hL1⟩ : ∃ l, reqD [110] xb = l := ⟨_, rfl⟩
  obtain ⟨L2, hL2⟩ : ∃ l, reqD [110] [] = l := ⟨_, rfl⟩
  obtain ⟨M1, hM1⟩ : ∃ x, rqM 102 sec m = x := ⟨_, rfl⟩
  obtain ⟨M2, hM2⟩ : ∃ x, rqM 101 sec 0 = x := ⟨_, rfl⟩
  have hd1 : doF ws 1 s0 102 0 m L1 = badF (s0.row 0 [⟨[110], ⟨xp, xo, xr, xc⟩, m⟩]) 0 := by
    rw [← hL1]
    exact do_enter (L := []) (by rw [← hs0]; rfl) (by decide) (by decide) rfl (by decide) (q := ⟨xp, xo, xr, xc⟩) hxb.symm hq hm
  obtain ⟨s1, hs1⟩ : ∃ s, s0.row 0 [⟨[110], ⟨xp, xo, xr, xc⟩, m⟩] = s := ⟨_, rfl⟩
  rw [hs1] at hd1
  have hf1 : Fit 1 s1 := by rw [← hs1]; exact hf0.row (by have := hf0.n; omega) _ (by have := hf0.el; omega)
  have hr1 : RootOk s1 sec := hs1 ▸ hr0.row _ _
  have hl1 : s1.L 0 = [⟨[110], ⟨xp, xo, xr, xc⟩, m⟩] := by rw [← hs1]; exact row_L _
  have hd2 : doF ws 1 s1 101 0 0 L2 = lookF ws s1 ⟨[110], ⟨xp, xo, xr, xc⟩, m⟩ := by
    rw [← hL2, do_look hl1 (by decide) (by decide) (by show 0 < 1; omega)]; rfl
  obtain ⟨R1, hR1⟩ : ∃ R, badF s1 0 = R := ⟨_, rfl⟩
  rw [hR1] at hd1
  have hRs : R1.s = s1 := by rw [← hR1]; rfl
  have hRe : R1.e = 0 := by rw [← hR1]; rfl
  obtain ⟨R2, hR2⟩ : ∃ R, lookF ws s1 ⟨[110], ⟨xp, xo, xr, xc⟩, m⟩ = R := ⟨_, rfl⟩
  have hsaid := mask_said (by rw [← hws]; show 1 < 3; omega) (by rw [← hs1, ← hs0]; rfl) (by rw [← hs1, ← hs0]; rfl) hq.2.2.1 hm R2 hR2
  rw [hR2] at hd2
  have HU3 : Hid (∀ W : World, U64s (W.alloc (.cells #[.int .u64 (sec : Int), .int .u64 1099511627776, .int .u64 2199023255552] 32)) (some ⟨W.heap.size, 0, none⟩) 3 3 ws) := fun W => hws ▸ u64s_three sec 1099511627776 2199023255552 (by omega) (by omega) (by omega) W
  have HENC : Hid (∀ W, Calls Tryz.prog 23 #[.agg #[.int .u64 (xp : Int), .int .u32 (xo : Int), .int .u8 (xr : Int), .int .u64 (xc : Int)]] W fun e w' => ∃ g, e = .returned (.slice (some ⟨g, 0, none⟩) 16 16) ∧ Bts w' (some ⟨g, 0, none⟩) 16 16 xb ∧ Below W.heap.size W w') := fun W => rq_enc ⟨xp, xo, xr, xc⟩ hq xb hxb.symm _ _ _ _ rfl rfl rfl rfl W
  have HREQ1 : Hid (∀ W bo, Bts W bo 16 16 xb → Calls Tryz.prog 22 #[.int .u16 102, .agg #[.int .u64 1, .int .u32 0, .int .u8 255, .int .u64 (sec : Int)], .int .u64 (m : Int), .string { data := #[110] }, .slice bo 16 16] W fun e w' => ∃ co n cc, e = .returned (.agg #[.int .u64 M1.ta, .int .u64 M1.rp, .int .u32 M1.id, .int .u16 M1.op, .int .u16 M1.st, .int .u64 M1.p, .int .u32 M1.o, .int .u8 M1.r, .int .u64 M1.c, .int .u64 M1.ar, .slice co n cc]) ∧ Bts w' co n cc L1 ∧ Typ8 w' co ∧ n ≤ 200000 ∧ Below W.heap.size W w') := fun W bo hb => rq_req 102 sec m [110] M1 hM1 L1 xb hL1 _ rfl (by decide) _ _ _ rfl rfl rfl W bo 16 16 hb (by omega)
  have HREQ2 : Hid (∀ W, Calls Tryz.prog 22 #[.int .u16 101, .agg #[.int .u64 1, .int .u32 0, .int .u8 255, .int .u64 (sec : Int)], .int .u64 0, .string { data := #[110] }, .slice none 0 0] W fun e w' => ∃ co n cc, e = .returned (.agg #[.int .u64 M2.ta, .int .u64 M2.rp, .int .u32 M2.id, .int .u16 M2.op, .int .u16 M2.st, .int .u64 M2.p, .int .u32 M2.o, .int .u8 M2.r, .int .u64 M2.c, .int .u64 M2.ar, .slice co n cc]) ∧ Bts w' co n cc L2 ∧ Typ8 w' co ∧ n ≤ 200000 ∧ Below W.heap.size W w') := fun W => rq_req 101 sec 0 [110] M2 hM2 L2 [] hL2 _ rfl (by decide) _ _ _ rfl rfl rfl W none 0 0 (bts_nil _) (by omega)
  have HSRVA := hide (fun w0 hg => rq_srv hr0 hf0 (by omega) w0 hg 102 m (by omega) (by omega) M1 hM1 L1 R1 hd1)
  have HSRVB := hide (fun w0 hg => rq_srv hr1 hf1 (by omega) w0 hg 101 0 (by omega) (by omega) M2 hM2 L2 R2 hd2)
  rw [← hRs] at HSRVB
  have HRE := hide hRe
  have HSD := hide hsaid
  have HCRE := hide hcre
  have HCUT := hide hcut
  have HG := hide hg
  have HS0 := hide hs0
  have hu64 : IntKind.u64.wrap (sec : Int) = (sec : Int) := by rw [IntKind.wrap_u64]; omega
  have hm64 : IntKind.u64.wrap (m : Int) = (m : Int) := by rw [IntKind.wrap_u64]; omega
  have HMM := hide hm
  have HQ := hide hq
  clear hcp hco hcc hxp hxo hxc hmk hws hcut hcre hr0 hf0 hxb hL1 hL2 hM1 hM2 hd1 hs1 hf1 hr1 hl1 hd2 hR1 hRs hRe hR2 hsaid hg hs0 hq
  rw [hxr] at HMK ⊢
  clear hxr hcr
  simp only [Cp.val]
  obtain ⟨X, hX⟩ : ∃ X, w.alloc (.cells #[.int .u64 (cp : Int), .int .u32 (co : Int), .int .u8 (xr : Int), .int .u64 (cc : Int)] 40) = X := ⟨_, rfl⟩
  have HX0 : Hid (CBI X w.heap.size (cp : Int) (co : Int) (xr : Int) (cc : Int)) := hX ▸ CBI.new w _ _ _ _
  have bX : Below w.heap.size w X := hX ▸ below_alloc _ _
  have HBX := hide bX
  have HGX := hide (HG.out.carry bX)
  clear bX
  go_enter Tryz.func5, Tryz.ntmps5
  go_wp2_with fail
  refine (awake_any _ HGX.out).mono ?_; rintro e w1 ⟨rfl, b1⟩
  have HX1 := hide (HX0.out.grow b1)
  have HB1 := hide (below_one HBX.out b1)
  have t0 := HX1.out.c0
  have t1 := HX1.out.c1
  have t2 := HX1.out.c2
  have t3 := HX1.out.c3
  clear b1
  go_wp2_with fail
  refine (HMK.out _).mono ?_; rintro e w2 ⟨rfl, hw2⟩
  have b2 : Below w1.heap.size w1 w2 := hw2 ▸ (below_one (below_alloc _ _) (below_alloc _ _))
  obtain ⟨w3, hw3⟩ : ∃ w3, w2.alloc (.cells #[.int .u64 (xp : Int), .int .u32 (xo : Int), .int .u8 (xr : Int), .int .u64 (xc : Int)] 40) = w3 := ⟨_, rfl⟩
  have b3 : Below w2.heap.size w2 w3 := hw3 ▸ below_alloc _ _
  have HXC0 : Hid (CBI w3 w2.heap.size (xp : Int) (xo : Int) (xr : Int) (xc : Int)) := hw3 ▸ CBI.new w2 _ _ _ _
  have HB3 := hide (below_one (below_one HB1.out b2) b3)
  obtain ⟨gx, hgx⟩ : ∃ g, w2.heap.size = g := ⟨_, rfl⟩
  have HGXX := hide hgx
  rw [hgx] at HXC0
  clear hw2 b2 b3 t0 t1 t2 t3
  go_wp2_with fail
  refine (of_any _ _ _ ws _ (HU3.out _) (by omega)).mono ?_; rintro e x1 ⟨ta, th, tk, rfl, TA, _, ha, hh2, bel⟩
  rw [HCUT.out] at TA
  have HT := hide TA
  have HTA := hide ha
  have HTH := hide hh2
  have HBE := hide bel
  clear TA bel ha hh2
  go_wp2_with fail
  refine (oof_any _ ⟨_, rfl⟩ _).mono ?_; rintro e x2 ⟨go, gm, rfl, O2, bel2⟩
  have HW2 := hide (below_one (below_alloc w3 _) (below_one HBE.out bel2))
  have HS3 := hide (Tk.made (below_alloc w3 _) HT.out HTA.out HTH.out HBE.out O2 bel2)
  clear O2 bel2 HT HBE HTA HTH
  go_wp2_with fail
  refine (tof_new 1 _).mono ?_; rintro e x3 ⟨rfl, T4, b4⟩
  have HW3 := hide (below_one HW2.out b4)
  have HO4 := hide (Od.make HS3.out T4 b4)
  obtain ⟨gt, hgg⟩ : ∃ g, x2.heap.size = g := ⟨_, rfl⟩
  rw [hgg] at HO4 ⊢
  clear T4 b4 HS3 hgg
  go_wp2_with fail
  refine (dir_yes _ HO4.out (by show 0 ≤ _; omega) ⟨rootC sec, 0, 1, [], updO noneO 0 ⟨sec, 0, 0, 24⟩⟩ HCRE.out rfl).mono ?_; rintro e x4 ⟨rr, rfl, A, hA, -, -, -, hAh, -, -, hAN, -, -, -, X4, S4, F4⟩
  have HX4 : Hid (Sv w3 x4 A 1 ws ⟨1, [], updO noneO 0 ⟨sec, 0, 0, 24⟩, 0, 0, L0⟩) := X4
  rw [HS0.out] at HX4
  have HS4 := hide S4
  have HXC4 := hide (HXC0.out.grow X4.bel)
  clear F4 X4 S4 HO4 hA hAh hAN
  simp only [rootC, Cp.val]
  have HG3 := hide (HG.out.carry HB3.out)
  have HBW3 := hide HB3.out
  have HSRV1 := hide (HSRVA.out w3 HG3.out)
  have HSRV2 := hide (HSRVB.out w3 HG3.out)
  clear HSRVA HSRVB
  obtain ⟨V2, hV2⟩ : ∃ V2, x4.alloc (.cells #[.int .u64 1, .int .u32 0, .int .u8 255, .int .u64 (sec : Int)] 40) = V2 := ⟨_, rfl⟩
  have b2 : Below x4.heap.size x4 V2 := hV2 ▸ below_alloc _ _
  have HR : Hid (CBI V2 x4.heap.size 1 0 255 (sec : Int)) := hV2 ▸ CBI.new x4 1 0 255 (sec : Int)
  obtain ⟨gr, hgr⟩ : ∃ g, x4.heap.size = g := ⟨_, rfl⟩
  rw [hgr] at HR
  have HXC := hide (HXC4.out.grow b2)
  have HS := hide (HS4.out.grow b2)
  have HX := hide (HX4.out.grow b2)
  clear b2 HS4 HX4
  go_upto_region 6 with fail
  go_cut [12] from 31 to 38 (fun vv wx => ∃ g co n cc A2, vv = .pointer (some ⟨g, 0, none⟩) ∧ Got w3 V2 A 1 ws rr R1 M1 L1 g co n cc A2 wx)
  case first =>
    have bb : Below V2.heap.size V2 V2.drew := (Below.refl _ _).drew
    have HRd := hide (CBI.dr HR.out)
    have HXd := hide (CBI.dr HXC.out)
    have Ed := hide (eight HRd.out HXd.out)
    have Eda := hide (eight (CBI.dr (HR.out.grow (below_alloc V2 (.cells #[.int .u64 0, .int .u64 0, .int .u32 0, .int .u16 0, .int .u16 0, .int .u64 0, .int .u32 0, .int .u8 0, .int .u64 0, .int .u64 0, .slice none 0 0] 55)))) (CBI.dr (HXC.out.grow (below_alloc V2 (.cells #[.int .u64 0, .int .u64 0, .int .u32 0, .int .u16 0, .int .u16 0, .int .u64 0, .int .u32 0, .int .u8 0, .int .u64 0, .int .u64 0, .slice none 0 0] 55)))))
    go_region_held (fun U => U.cell? ⟨gr, 0, none⟩ = some (.int .u64 1) ∧ U.cell? ⟨gr, 1, none⟩ = some (.int .u32 0) ∧ U.cell? ⟨gr, 2, none⟩ = some (.int .u8 255) ∧ U.cell? ⟨gr, 3, none⟩ = some (.int .u64 (sec : Int)) ∧ U.cell? ⟨gx, 0, none⟩ = some (.int .u64 (xp : Int)) ∧ U.cell? ⟨gx, 1, none⟩ = some (.int .u32 (xo : Int)) ∧ U.cell? ⟨gx, 2, none⟩ = some (.int .u8 (xr : Int)) ∧ U.cell? ⟨gx, 3, none⟩ = some (.int .u64 (xc : Int)))
      (first | with_reducible exact Ed.out | with_reducible exact Eda.out | with_reducible exact E1.out | with_reducible exact E1a.out | with_reducible exact E3.out | with_reducible exact E3a.out | with_reducible exact E5.out | with_reducible exact E5a.out | with_reducible exact E5b.out | with_reducible exact HE6.out)
      (first
        | (go_at_call 23; refine (HENC.out _).mono ?_; rintro e W1 ⟨ge, rfl, BE, be⟩
           have bb1 : Below V2.heap.size V2 W1 := below_one (by go_grown) be
           have hs1 := bb1.size
           have HBE := hide BE
           have HR1 := hide (HR.out.grow bb1)
           have HX1 := hide (HXC.out.grow bb1)
           have E1 := hide (eight HR1.out HX1.out)
           have E1a := hide (eight (HR1.out.grow (below_alloc W1 (.cells #[.int .u64 0, .int .u64 0, .int .u32 0, .int .u16 0, .int .u16 0, .int .u64 0, .int .u32 0, .int .u8 0, .int .u64 0, .int .u64 0, .slice none 0 0] 55))) (HX1.out.grow (below_alloc W1 (.cells #[.int .u64 0, .int .u64 0, .int .u32 0, .int .u16 0, .int .u16 0, .int .u64 0, .int .u32 0, .int .u8 0, .int .u64 0, .int .u64 0, .slice none 0 0] 55)))))
        | (go_at_call 22; refine (HREQ1.out _ _ (HBE.out.carry (by go_grown))).mono ?_; rintro e W3 ⟨qo, qn, qc, rfl, B3, T3, hn3, be3⟩
           have bb3 : Below V2.heap.size V2 W3 := below_one (by go_grown) be3
           have hs3 := bb3.size
           have HB3 := hide B3
           have HT3 := hide T3
           have HN3 := hide hn3
           have HR3 := hide (HR.out.grow bb3)
           have HX3 := hide (HXC.out.grow bb3)
           have E3 := hide (eight HR3.out HX3.out)
           have E3a := hide (eight (HR3.out.grow (below_alloc W3 (.cells #[.int .u64 0, .int .u64 0, .int .u32 0, .int .u16 0, .int .u16 0, .int .u64 0, .int .u32 0, .int .u8 0, .int .u64 0, .int .u64 0, .slice none 0 0] 55))) (HX3.out.grow (below_alloc W3 (.cells #[.int .u64 0, .int .u64 0, .int .u32 0, .int .u16 0, .int .u16 0, .int .u64 0, .int .u32 0, .int .u8 0, .int .u64 0, .int .u64 0, .slice none 0 0] 55))))
           clear B3 T3 hn3)
        | (go_at_call 17; refine (HSRV1.out _ _ _ qo qn qc (HS.out.grow (by go_grown)) (HX.out.grow (by go_grown)) (HB3.out.carry (by go_grown)) HN3.out (HT3.out.grow (by go_grown))).mono ?_; rintro e W5 ⟨m3, co, n, cc, A2, rfl, hm3, B5, T5, S5, X5, K5, F5⟩
           have KV : Kh V2 W5 := (below_kh (by go_grown)).trans K5
           have HKV := hide KV
           have HM3 := hide hm3
           have HB5 := hide B5
           have HT5 := hide T5
           have HS5 := hide S5
           have HX5' := hide X5
           have HR5 := hide (HR.out.kh KV)
           have HX5 := hide (HXC.out.kh KV)
           have E5 := hide (eight HR5.out HX5.out)
           have E5a := hide (eight (HR5.out.grow (below_alloc W5 (.cells #[.int .u64 0, .int .u64 0, .int .u32 0, .int .u16 0, .int .u16 0, .int .u64 0, .int .u32 0, .int .u8 0, .int .u64 0, .int .u64 0, .slice none 0 0] 55))) (HX5.out.grow (below_alloc W5 (.cells #[.int .u64 0, .int .u64 0, .int .u32 0, .int .u16 0, .int .u16 0, .int .u64 0, .int .u32 0, .int .u8 0, .int .u64 0, .int .u64 0, .slice none 0 0] 55))))
           have E5b := hide (eight (HR5.out.grow (below_alloc W5 (.cells #[.int .u64 m3.ta, .int .u64 m3.rp, .int .u32 m3.id, .int .u16 m3.op, .int .u16 m3.st, .int .u64 m3.p, .int .u32 m3.o, .int .u8 m3.r, .int .u64 m3.c, .int .u64 m3.ar, .slice co n cc] 55))) (HX5.out.grow (below_alloc W5 (.cells #[.int .u64 m3.ta, .int .u64 m3.rp, .int .u32 m3.id, .int .u16 m3.op, .int .u16 m3.st, .int .u64 m3.p, .int .u32 m3.o, .int .u8 m3.r, .int .u64 m3.c, .int .u64 m3.ar, .slice co n cc] 55))))
           (first
            | (have M0 : MB W5 V2.heap.size Msg.zero (.slice none 0 0) := by with_reducible exact MB.kh (MB.grow (MB.grow (MB.dr (mbz_new V2)) be) be3) K5
               have hge : V2.heap.size ≤ V2.heap.size := Nat.le_refl _
               have HV := hide M0
               have HGE := hide hge
               obtain ⟨z0, z1, z2, z3, z4, z5, z6, z7, z8, z9, z10⟩ := M0.all
               have x0 := M0.z 0
               have x1 := M0.z 1
               have x2 := M0.z 2
               have x3 := M0.z 3
               have x4 := M0.z 4
               have x5 := M0.z 5
               have x6 := M0.z 6
               have x7 := M0.z 7
               have x8 := M0.z 8
               have x9 := M0.z 9
               have x10 := M0.z 10
               have HE6 := hide (eight_lay M0 m3 (.slice co n cc) HR5.out HX5.out)
               unfold lay11 at HE6
               clear M0)
            | (have M0 : MB W5 W1.heap.size Msg.zero (.slice none 0 0) := by with_reducible exact MB.kh (MB.grow (mbz_new W1) be3) K5
               have hge : V2.heap.size ≤ W1.heap.size := bb1.size
               have HV := hide M0
               have HGE := hide hge
               obtain ⟨z0, z1, z2, z3, z4, z5, z6, z7, z8, z9, z10⟩ := M0.all
               have x0 := M0.z 0
               have x1 := M0.z 1
               have x2 := M0.z 2
               have x3 := M0.z 3
               have x4 := M0.z 4
               have x5 := M0.z 5
               have x6 := M0.z 6
               have x7 := M0.z 7
               have x8 := M0.z 8
               have x9 := M0.z 9
               have x10 := M0.z 10
               have HE6 := hide (eight_lay M0 m3 (.slice co n cc) HR5.out HX5.out)
               unfold lay11 at HE6
               clear M0)
            | (have M0 : MB W5 W3.heap.size Msg.zero (.slice none 0 0) := by with_reducible exact MB.kh (mbz_new W3) K5
               have hge : V2.heap.size ≤ W3.heap.size := bb3.size
               have HV := hide M0
               have HGE := hide hge
               obtain ⟨z0, z1, z2, z3, z4, z5, z6, z7, z8, z9, z10⟩ := M0.all
               have x0 := M0.z 0
               have x1 := M0.z 1
               have x2 := M0.z 2
               have x3 := M0.z 3
               have x4 := M0.z 4
               have x5 := M0.z 5
               have x6 := M0.z 6
               have x7 := M0.z 7
               have x8 := M0.z 8
               have x9 := M0.z 9
               have x10 := M0.z 10
               have HE6 := hide (eight_lay M0 m3 (.slice co n cc) HR5.out HX5.out)
               unfold lay11 at HE6
               clear M0)
            | skip)
           clear hm3 B5 T5 S5 X5 K5 F5 KV))
    all_goals go_wp2_with fail
    all_goals go_meet
    all_goals first
      | with_reducible exact ⟨_, _, _, _, _, rfl, Got.new HM3.out HB5.out HT5.out HS5.out HX5'.out HKV.out⟩
      | (have G := Got.old (A := A) (w := V2) HM3.out HB5.out HT5.out HS5.out HX5'.out HKV.out HV.out HGE.out (HX.out.bel.size)
         unfold lay11 at G
         with_reducible exact ⟨_, _, _, _, _, rfl, G⟩)
  case rest =>
    obtain ⟨ga, coa, na, cca, A2, rfl, Ga⟩ := hcut
    have HGA := hide Ga
    have HR2 := hide (HR.out.kh Ga.kh)
    have HXC2 := hide (HXC.out.kh Ga.kh)
    have HS2 := hide Ga.sr
    have HX2 := hide Ga.sv
    clear Ga
    have r0 := HR2.out.c0
    have r1 := HR2.out.c1
    have r2 := HR2.out.c2
    have r3 := HR2.out.c3
    go_wp2_with fail
    refine (HREQ2.out _).mono ?_; rintro e W3 ⟨qo, qn, qc, rfl, B3, T3, hn3, b3⟩
    have HS3 := hide (HS2.out.grow b3)
    have HX3 := hide (HX2.out.grow b3)
    have HB3 := hide B3
    have HT3 := hide T3
    have HN3 := hide hn3
    have HK3 := hide (below_kh b3)
    clear B3 T3 hn3 b3 r0 r1 r2 r3
    go_wp2_with fail
    refine (HSRV2.out _ _ _ qo qn qc HS3.out HX3.out HB3.out HN3.out HT3.out).mono ?_; rintro e W5 ⟨mb, cob, nb, ccb, A3, rfl, hmb, B5, T5, S5, X5, K5, F5⟩
    have HMB := hide hmb
    have HKB := hide (HK3.out.trans K5)
    obtain ⟨V7, hV7⟩ : ∃ V, W5.alloc (.cells #[.int .u64 mb.ta, .int .u64 mb.rp, .int .u32 mb.id, .int .u16 mb.op, .int .u16 mb.st, .int .u64 mb.p, .int .u32 mb.o, .int .u8 mb.r, .int .u64 mb.c, .int .u64 mb.ar, .slice cob nb ccb] 55) = V := ⟨_, rfl⟩
    have b7 : Below W5.heap.size W5 V7 := hV7 ▸ below_alloc _ _
    have HVB : Hid (MB V7 W5.heap.size mb (.slice cob nb ccb)) := hV7 ▸ mb_new _ _ _
    have HK7 := hide (HKB.out.trans (below_kh b7))
    have HX7 := hide (X5.grow b7)
    have HXC7 := hide (HXC2.out.kh HK7.out)
    have HBL := hide (below_one HBW3.out HX7.out.bel)
    clear hmb B5 T5 S5 X5 K5 F5 b7
    have ma := (HGA.out.mb.kh HK7.out).all
    have e1 : V7.cell? ⟨ga, 4, none⟩ = some (.int .u16 0) := by rw [ma.2.2.2.2.1, rpl_st, HRE.out]; rfl
    have mbb := HVB.out.all
    have c0 := HXC7.out.c0
    have c1 := HXC7.out.c1
    have c2 := HXC7.out.c2
    have c3 := HXC7.out.c3
    clear ma
    rcases HSD.out with ⟨he, hcE, hn0⟩ | ⟨he, hne, hp, ho, hrr⟩ | ⟨he, hr5, hn0⟩
    · have hcp := rpl_cap M2 R2 he
      have e2 : V7.cell? ⟨W5.heap.size, 4, none⟩ = some (.int .u16 0) := by rw [mbb.2.2.2.2.1, HMB.out, rpl_st, he]; rfl
      have p0 : V7.cell? ⟨W5.heap.size, 5, none⟩ = some (.int .u64 (xp : Int)) := by rw [mbb.2.2.2.2.2.1, HMB.out, hcp.1, hcE]
      have p1 : V7.cell? ⟨W5.heap.size, 6, none⟩ = some (.int .u32 (xo : Int)) := by rw [mbb.2.2.2.2.2.2.1, HMB.out, hcp.2.1, hcE]
      have p2 : V7.cell? ⟨W5.heap.size, 7, none⟩ = some (.int .u8 (xr : Int)) := by rw [mbb.2.2.2.2.2.2.2.1, HMB.out, hcp.2.2.1, hcE]
      have p3 : V7.cell? ⟨W5.heap.size, 8, none⟩ = some (.int .u64 (xc : Int)) := by rw [mbb.2.2.2.2.2.2.2.2.1, HMB.out, hcp.2.2.2, hcE]
      have hand : bits .andNot .u8 (xr : Int) (m : Int) = 0 := by rw [u8_andNot_nat xr m (by have := HQ.out.2.2.1; omega) (by have := HMM.out; omega), hn0]; rfl
      have hql := fun W => eql_cap (xp : Int) xo xr xc xp xo xr xc W
      have HDO : Hid (m ≠ 255 → xr ≠ 255) := by
        intro h e
        rw [e] at hn0
        have := (and_not_iff HMM.out (show 255 ≤ 255 by omega)).1 hn0
        have h2 : 255 &&& m = m := by rw [Nat.and_comm]; exact and_255 HMM.out
        omega
      clear hcp mbb hcE hn0 he
      by_cases h5 : m = 255
      · have i5 : (m : Int) = 255 := by omega
        clear h5
        go_wp2
        go_ret
        exact ⟨by simp, HBL.out⟩
      · have i5 : ¬ (m : Int) = 255 := by omega
        have i6 : ¬ (xr : Int) = 255 := by have := HDO.out h5; omega
        clear h5
        go_wp2
        go_ret
        exact ⟨by simp, HBL.out⟩
    · have hcp := rpl_cap M2 R2 he
      have e2 : V7.cell? ⟨W5.heap.size, 4, none⟩ = some (.int .u16 0) := by rw [mbb.2.2.2.2.1, HMB.out, rpl_st, he]; rfl
      have p0 : V7.cell? ⟨W5.heap.size, 5, none⟩ = some (.int .u64 (xp : Int)) := by rw [mbb.2.2.2.2.2.1, HMB.out, hcp.1, hp]
      have p1 : V7.cell? ⟨W5.heap.size, 6, none⟩ = some (.int .u32 (xo : Int)) := by rw [mbb.2.2.2.2.2.2.1, HMB.out, hcp.2.1, ho]
      have p2 : V7.cell? ⟨W5.heap.size, 7, none⟩ = some (.int .u8 (m : Int)) := by rw [mbb.2.2.2.2.2.2.2.1, HMB.out, hcp.2.2.1, hrr]
      have p3 : V7.cell? ⟨W5.heap.size, 8, none⟩ = some (.int .u64 (R2.c.c : Int)) := by rw [mbb.2.2.2.2.2.2.2.2.1, HMB.out, hcp.2.2.2]
      have hand : bits .andNot .u8 (m : Int) (m : Int) = 0 := by rw [u8_andNot_nat m m (by have := HMM.out; omega) (by have := HMM.out; omega), self_not HMM.out]; rfl
      have i5 : ¬ (m : Int) = 255 := by omega
      clear hcp mbb hne hp ho hrr he
      by_cases h6 : (xr : Int) = 255
      · go_wp2
        go_ret
        exact ⟨by simp, HBL.out⟩
      · go_wp2
        go_ret
        exact ⟨by simp, HBL.out⟩
    · have hbd := rpl_bad M2 R2 (by rw [he]; decide)
      have e2 : V7.cell? ⟨W5.heap.size, 4, none⟩ = some (.int .u16 2) := by rw [mbb.2.2.2.2.1, HMB.out, rpl_st, he]; rfl
      have p0 : V7.cell? ⟨W5.heap.size, 5, none⟩ = some (.int .u64 0) := by rw [mbb.2.2.2.2.2.1, HMB.out, hbd.1]; rfl
      have p1 : V7.cell? ⟨W5.heap.size, 6, none⟩ = some (.int .u32 0) := by rw [mbb.2.2.2.2.2.2.1, HMB.out, hbd.2.1]; rfl
      have p2 : V7.cell? ⟨W5.heap.size, 7, none⟩ = some (.int .u8 0) := by rw [mbb.2.2.2.2.2.2.2.1, HMB.out, hbd.2.2.1]; rfl
      have p3 : V7.cell? ⟨W5.heap.size, 8, none⟩ = some (.int .u64 0) := by rw [mbb.2.2.2.2.2.2.2.2.1, HMB.out, hbd.2.2.2]; rfl
      obtain ⟨q, hq⟩ : ∃ q, xr &&& (255 - m) = q := ⟨_, rfl⟩
      have hand : bits .andNot .u8 (xr : Int) (m : Int) = (q : Int) := by rw [u8_andNot_nat xr m (by have := HQ.out.2.2.1; omega) (by have := HMM.out; omega), hq]
      have i7 : ¬ (q : Int) = 0 := by rw [hq] at hn0; omega
      have i6 : ¬ (xr : Int) = 255 := by have : xr ≠ 255 := hr5; omega
      have hql := fun W => eql_cap 0 0 0 0 0 0 0 0 W
      clear hbd mbb hn0 hq hr5 he
      go_wp2
      go_ret
      exact ⟨by simp; omega, HBL.out⟩
end
end Go.Proofs.YtlmnnjibggdboaaGreatDoor
