/-
  What the owner of the first directory is answered: plain facts.
  The owner's requests with everything written out: contracts for the statements' walks.
  Names of one letter, and what a list of them comes to: plain facts.
  What replacing and looking up the first name comes to; a request whose reply is looked at by its status alone.
-/
import Derived.Test.YtlmnnjibggdboaaGreatDoorJm
namespace Go.Proofs.YtlmnnjibggdboaaGreatDoor
section
open Go.RowKit
variable {ws : List Nat} {s : Hs} {sec : Nat}
structure RootOk (s : Hs) (sec : Nat) : Prop where
  sc : (s.T 0).s = sec
  l : 0 < (s.T 0).l
  v : (s.T 0).v = 0
  le : sec ≤ 281474976710655
def rootC (sec : Nat) : Cp := ⟨1, 0, 255, sec⟩
theorem chk_root (h : RootOk s sec) (need : Nat) (hn : 255 &&& need = need) : chkF ws s.t s.es 1 s.T (rootC sec) need = ⟨0, 0, s.t, s.es⟩ := by
  have hh : hasO s.T 0 = true := hasO_of (by omega) h.l
  have ho : ofF ws s.t s.es (s.T 0).s 255 = ⟨sec, true, s.t, s.es⟩ := by unfold ofF; rw [if_pos rfl, h.sc, Nat.mod_eq_of_lt (by have := h.le; omega)]
  unfold chkF rootC
  simp only
  rw [if_neg (by rw [hh]; simp), ho]
  simp only
  rw [if_neg (by decide), if_neg (by simp), if_neg (by rw [hn]; simp)]
theorem root_need (op : Nat) : 255 &&& needN op = needN op := by
  unfold needN
  repeat' split
  all_goals decide
theorem out_root (h : RootOk s sec) (op ar : Nat) (l : List UInt8) (ho : 100 ≤ op ∧ op ≤ 105) : outF ws 1 s op (rootC sec) ar l = doF ws 1 s op 0 ar l := by
  have hm : mayC (rootC sec) = true := decide_eq_true ⟨by show 1 ≤ _; omega, by show 0 ≤ _; omega, h.le⟩
  have hb : needB op = true := by unfold needB; simp; omega
  unfold outF
  rw [if_neg (by rw [hm]; decide), if_neg (by omega), if_neg (by rintro (e | e); omega; rw [hb] at e; cases e), chk_root h _ (root_need op)]
  unfold ownF
  rw [if_pos rfl]
  show doF ws 1 (s.tab s.t s.es s.T) op (s.T 0).v ar l = _
  rw [h.v]; rfl
/- a request's data -/
def reqD (nm x : List UInt8) : List UInt8 := putF nm.length 2 ++ nm ++ x
variable {nm x : List UInt8}
theorem req_nm (h : nm.length ≤ 65535) : nmN (reqD nm x) = nm.length := by
  unfold nmN reqD
  rw [List.drop_zero, List.append_assoc, List.take_left' (putF_len _ _), numF_putF]
  exact Nat.mod_eq_of_lt (by show _ < 65536; omega)
theorem req_len : (reqD nm x).length = 2 + nm.length + x.length := by unfold reqD; rw [List.length_append, List.length_append, putF_len]
theorem req_has (h1 : 1 ≤ nm.length) (h2 : nm.length ≤ 32) : hasNm (reqD nm x) = true := by
  unfold hasNm
  rw [req_nm (by omega), req_len]
  exact decide_eq_true ⟨⟨by omega, by omega⟩, h1, h2⟩
theorem req_of (h : nm.length ≤ 65535) : nmOf (reqD nm x) = nm := by
  unfold nmOf
  rw [req_nm h]
  unfold reqD
  rw [List.append_assoc, List.drop_left' (putF_len _ _), List.take_left' rfl]
theorem req_rest (h : nm.length ≤ 65535) : restOf (reqD nm x) = x := by
  unfold restOf
  rw [req_nm h]
  unfold reqD
  exact List.drop_left' (by rw [List.length_append, putF_len])
theorem capD_capF {p o r c : Nat} (hp : p ≤ 281474976710655) (ho : o ≤ 16777215) (hr : r ≤ 255) (hc : c ≤ 281474976710655) : capD (capF p o r c) = ⟨p, o, r, c⟩ := by
  have e0 : ((capF p o r c).drop 0).take 6 = putF p 6 := by unfold capF; rw [List.drop_zero, List.append_assoc, List.append_assoc, List.take_left' (putF_len _ _)]
  have e1 : ((capF p o r c).drop 6).take 3 = putF o 3 := by unfold capF; rw [List.append_assoc, List.append_assoc, List.drop_left' (putF_len _ _), List.take_left' (putF_len _ _)]
  have e2 : ((capF p o r c).drop 9).take 1 = putF r 1 := by
    unfold capF
    rw [List.append_assoc, List.drop_left' (by rw [List.length_append, putF_len, putF_len]), List.take_left' (putF_len _ _)]
  have e3 : ((capF p o r c).drop 10).take 6 = putF c 6 := by
    unfold capF
    rw [List.drop_left' (by rw [List.length_append, List.length_append, putF_len, putF_len, putF_len])]
    exact List.take_of_length_le (by rw [putF_len]; omega)
  unfold capD
  rw [e0, e1, e2, e3, numF_putF, numF_putF, numF_putF, numF_putF, Nat.mod_eq_of_lt (by show _ < 281474976710656; omega), Nat.mod_eq_of_lt (by show _ < 16777216; omega), Nat.mod_eq_of_lt (by show _ < 256; omega), Nat.mod_eq_of_lt (by show _ < 281474976710656; omega)]
/- what entering, replacing, deleting and looking up do to the first directory -/
variable {L : List Rw}
theorem do_enter (hL : s.L 0 = L) (h1 : 1 ≤ nm.length) (h2 : nm.length ≤ 32) (hno : idxR L nm = L.length) (hl : L.length < 64) {q : Cp} (hx : x = capF q.p q.o q.r q.c) (hq : q.p ≤ 281474976710655 ∧ q.o ≤ 16777215 ∧ q.r ≤ 255 ∧ q.c ≤ 281474976710655) {ar : Nat} (ha : ar ≤ 255) : doF ws 1 s 102 0 ar (reqD nm x) = badF (s.row 0 (L ++ [⟨nm, q, ar⟩])) 0 := by
  unfold doF nameF entF
  rw [if_neg (by decide), if_neg (by decide), if_neg (by rw [req_has h1 h2]; decide), req_of (by omega), req_rest (by omega), hL, if_neg (by omega), if_neg (by rintro ⟨e, _⟩; exact e rfl), if_neg (by decide), if_neg (by decide), if_neg (by rw [hx, capF_len]; omega), if_neg (by decide), if_neg (by omega), hx, capD_capF hq.1 hq.2.1 hq.2.2.1 hq.2.2.2]
theorem do_exists (hL : s.L 0 = L) (h1 : 1 ≤ nm.length) (h2 : nm.length ≤ 32) (hi : idxR L nm < L.length) {ar : Nat} : doF ws 1 s 102 0 ar (reqD nm x) = badF s 11 := by
  unfold doF nameF
  rw [if_neg (by decide), if_neg (by decide), if_neg (by rw [req_has h1 h2]; decide), req_of (by omega), hL, if_pos ⟨rfl, hi⟩]
theorem do_missing {op : Nat} (hop : op = 101 ∨ op = 103 ∨ op = 104) (hL : s.L 0 = L) (h1 : 1 ≤ nm.length) (h2 : nm.length ≤ 32) (hno : idxR L nm = L.length) {ar : Nat} : doF ws 1 s op 0 ar (reqD nm x) = badF s 12 := by
  unfold doF nameF
  rw [if_neg (by omega), if_neg (by omega), if_neg (by rw [req_has h1 h2]; decide), req_of (by omega), hL, if_neg (by omega), if_pos ⟨by omega, by omega⟩]
theorem do_look (hL : s.L 0 = L) (h1 : 1 ≤ nm.length) (h2 : nm.length ≤ 32) (hi : idxR L nm < L.length) {ar : Nat} : doF ws 1 s 101 0 ar (reqD nm x) = lookF ws s (L.getD (idxR L nm) Rw.zero) := by
  unfold doF nameF
  rw [if_neg (by decide), if_neg (by decide), if_neg (by rw [req_has h1 h2]; decide), req_of (by omega), hL, if_neg (by rintro ⟨e, _⟩; cases e), if_neg (by rintro ⟨_, e⟩; exact e hi), if_pos rfl]
theorem do_delete (hL : s.L 0 = L) (h1 : 1 ≤ nm.length) (h2 : nm.length ≤ 32) (hi : idxR L nm < L.length) {ar : Nat} : doF ws 1 s 104 0 ar (reqD nm x) = badF (s.row 0 (delR L (idxR L nm))) 0 := by
  unfold doF nameF
  rw [if_neg (by decide), if_neg (by decide), if_neg (by rw [req_has h1 h2]; decide), req_of (by omega), hL, if_neg (by rintro ⟨e, _⟩; cases e), if_neg (by rintro ⟨_, e⟩; exact e hi), if_neg (by decide), if_pos rfl]
theorem do_replace (hL : s.L 0 = L) (h1 : 1 ≤ nm.length) (h2 : nm.length ≤ 32) (hi : idxR L nm < L.length) {q : Cp} (hx : x = capF q.p q.o q.r q.c) (hq : q.p ≤ 281474976710655 ∧ q.o ≤ 16777215 ∧ q.r ≤ 255 ∧ q.c ≤ 281474976710655) {ar : Nat} (ha : ar ≤ 255) : doF ws 1 s 103 0 ar (reqD nm x) = badF (s.row 0 (L.set (idxR L nm) ⟨nm, q, ar⟩)) 0 := by
  unfold doF nameF entF
  rw [if_neg (by decide), if_neg (by decide), if_neg (by rw [req_has h1 h2]; decide), req_of (by omega), req_rest (by omega), hL, if_neg (by rintro ⟨e, _⟩; cases e), if_neg (by rintro ⟨_, e⟩; exact e hi), if_neg (by decide), if_neg (by decide), if_neg (by rw [hx, capF_len]; omega), if_pos rfl, hx, capD_capF hq.1 hq.2.1 hq.2.2.1 hq.2.2.2]
theorem RootOk.row (h : RootOk s sec) (z : Int) (l : List Rw) : RootOk (s.row z l) sec := ⟨h.sc, h.l, h.v, h.le⟩
theorem row_L (l : List Rw) : (s.row 0 l).L 0 = l := updL_same s.L 0 l
/- the first directory as it is made -/
theorem cre_first (w0 : Nat) (ws : List Nat) : creF (w0 :: ws) 0 [] 1 noneO 0 = ⟨rootC w0, 0, 1, [], updO noneO 0 ⟨w0, 0, 0, 24⟩⟩ := by
  have hf : freeO noneO = 0 := by kernel_rfl
  unfold creF
  rw [hf, if_pos (by omega), if_pos (by simp)]
  rfl
theorem root_first (w0 : Nat) (hw : w0 ≤ 281474976710655) : RootOk ⟨1, [], updO noneO 0 ⟨w0, 0, 0, 24⟩, 0, 0, L0⟩ w0 := ⟨rfl, by show 0 < 24; omega, rfl, hw⟩
end
end Go.Proofs.YtlmnnjibggdboaaGreatDoor
namespace Go.Proofs.YtlmnnjibggdboaaGreatDoor
section
open Go.RowKit
variable {w w' : World}
theorem rq_enc (q : Cp) (hq : q.p ≤ 281474976710655 ∧ q.o ≤ 16777215 ∧ q.r ≤ 255 ∧ q.c ≤ 281474976710655) (xb : List UInt8) (hx : xb = capF q.p q.o q.r q.c) (p o r c : Int) (hp : p = (q.p : Int)) (ho : o = (q.o : Int)) (hr : r = (q.r : Int)) (hc : c = (q.c : Int)) (W : World) :
    Calls Tryz.prog 23 #[.agg #[.int .u64 p, .int .u32 o, .int .u8 r, .int .u64 c]] W fun e w' => ∃ g, e = .returned (.slice (some ⟨g, 0, none⟩) 16 16) ∧ Bts w' (some ⟨g, 0, none⟩) 16 16 xb ∧ Below W.heap.size W w' := by
  subst hx hp ho hr hc
  exact enc_any q hq W
def rqM (op sec ar : Nat) : Msg := ⟨0, 0, 0, op, 0, 1, 0, 255, sec, ar⟩
theorem rq_req (op sec ar : Nat) (nm : List UInt8) (M : Msg) (hM : rqM op sec ar = M) (L xb : List UInt8) (hL : reqD nm xb = L) (nmv : ByteArray) (hn : str nm = nmv) (hl : nm.length ≤ 100) (oi si ai : Int) (ho : oi = (op : Int)) (hs : si = (sec : Int)) (ha : ai = (ar : Int)) (W : World) (bo : Option Addr) (bn bc : Nat) (hb : Bts W bo bn bc xb) (hbn : bn ≤ 100) :
    Calls Tryz.prog 22 #[.int .u16 oi, .agg #[.int .u64 1, .int .u32 0, .int .u8 255, .int .u64 si], .int .u64 ai, .string nmv, .slice bo bn bc] W fun e w' => ∃ co n cc, e = .returned (.agg #[.int .u64 M.ta, .int .u64 M.rp, .int .u32 M.id, .int .u16 M.op, .int .u16 M.st, .int .u64 M.p, .int .u32 M.o, .int .u8 M.r, .int .u64 M.c, .int .u64 M.ar, .slice co n cc]) ∧ Bts w' co n cc L ∧ Typ8 w' co ∧ n ≤ 200000 ∧ Below W.heap.size W w' := by
  subst hM hL hn ho hs ha
  refine (req_any op ⟨1, 0, 255, sec⟩ ar nm bo bn bc xb W hb (by omega) (by omega) _ rfl _ rfl).mono ?_
  rintro e w' ⟨co, n, cc, rfl, B, _, T, hn, b⟩
  exact ⟨co, n, cc, rfl, B, T, by omega, b⟩
theorem rq_srv {N : Nat} {s : Hs} {sec : Nat} {ws : List Nat} (h : RootOk s sec) (f : Fit N s) (hN : N ≤ 1000000000000) (w0 : World) (hg : Glob w0) (op ar : Nat) (ho : 100 ≤ op ∧ op ≤ 105) (ha : ar ≤ 18446744073709551615) (M : Msg) (hM : rqM op sec ar = M) (L : List UInt8) (R : Ro) (hR : doF ws 1 s op 0 ar L = R) (rr : Nat) (A : Ad) (W : World) (qo : Option Addr) (qn qc : Nat) (S : Sr W rr A.g A.sb) (X : Sv w0 W A 1 ws s) (B : Bts W qo qn qc L) (hn : qn ≤ 200000) (T : Typ8 W qo) :
    Calls Tryz.prog 17 #[.pointer (some ⟨rr, 0, none⟩), .agg #[.int .u64 M.ta, .int .u64 M.rp, .int .u32 M.id, .int .u16 M.op, .int .u16 M.st, .int .u64 M.p, .int .u32 M.o, .int .u8 M.r, .int .u64 M.c, .int .u64 M.ar, .slice qo qn qc]] W (AskE w0 W A 1 ws rr R M L) := by
  have hle := h.le
  subst hM
  refine awSrv (rqM op sec ar) L R s N w0 hg ⟨by show 1 ≤ _; omega, by show 0 ≤ _; omega, by show 255 ≤ _; omega, by show sec ≤ _; omega⟩ ⟨by show 5 ≤ op; omega, by show op ≤ _; omega⟩ ha 1 ws ?_ f hN rr A W qo qn qc S X B hn T
  exact (out_root h op ar L ho).trans hR
/- three draws -/
theorem cut_three3 {a b c : Nat} (ha : a < 281474976710656) (hb : b < 281474976710656) (hc : c < 281474976710656) : cutN [a, b, c] = [a, b, c] := by
  simp [cutN, Nat.mod_eq_of_lt ha, Nat.mod_eq_of_lt hb, Nat.mod_eq_of_lt hc]
theorem u64s_three (a b c : Nat) (ha : a ≤ 18446744073709551615) (hb : b ≤ 18446744073709551615) (hc : c ≤ 18446744073709551615) (w : World) : U64s (w.alloc (.cells #[.int .u64 (a : Int), .int .u64 (b : Int), .int .u64 (c : Int)] 32)) (some ⟨w.heap.size, 0, none⟩) 3 3 [a, b, c] :=
  (show RowN (w.alloc (.cells #[.int .u64 (a : Int), .int .u64 (b : Int), .int .u64 (c : Int)] 32)) .u64 32 w.heap.size [a, b, c] from heap_alloc_new _ _).u64s (by show 3 ≤ maxLen; decide) (fun j => by
    rcases j with _ | _ | _ | j <;> simp [ha, hb, hc])
end
end Go.Proofs.YtlmnnjibggdboaaGreatDoor
namespace Go.Proofs.YtlmnnjibggdboaaGreatDoor
section
open Go.RowKit
def nmk (k : Nat) : List UInt8 := [UInt8.ofNat (97 + k)]
theorem nmk_len (k : Nat) : (nmk k).length = 1 := rfl
theorem enc_nmk (k : Nat) (h : k < 10) : Utf8.encode ((97 + k : Nat) : Int) = str (nmk k) := by
  have : k = 0 ∨ k = 1 ∨ k = 2 ∨ k = 3 ∨ k = 4 ∨ k = 5 ∨ k = 6 ∨ k = 7 ∨ k = 8 ∨ k = 9 := by omega
  rcases this with rfl | rfl | rfl | rfl | rfl | rfl | rfl | rfl | rfl | rfl <;> rfl
theorem nmk_inj {i j : Nat} (hi : i < 10) (hj : j < 10) (h : nmk i = nmk j) : i = j := by
  have h1 := congrArg UInt8.toNat (List.head_eq_of_cons_eq h)
  rw [UInt8.toNat_ofNat', UInt8.toNat_ofNat'] at h1
  omega
theorem nmk_m (i : Nat) (h : i < 10) : nmk i ≠ [109] := fun e => by
  have h1 := congrArg UInt8.toNat (List.head_eq_of_cons_eq e)
  rw [UInt8.toNat_ofNat'] at h1
  have h2 : (109 : UInt8).toNat = 109 := rfl
  rw [h2] at h1
  omega
variable {ws : List Nat} {s : Hs} {sec n : Nat} {L : List Rw}
/- the owner's state: what it comes to is known -/
structure Ns (s : Hs) (sec : Nat) (L : List Rw) (n : Nat) : Prop where
  root : RootOk s sec
  fit : Fit n s
  L : s.L 0 = L
theorem Ns.row (h : Ns s sec L n) (l : List Rw) : Ns (s.row 0 l) sec l (n + 1) :=
  ⟨h.root.row _ _, h.fit.row (by have := h.fit.n; omega) _ (by have := h.fit.el; omega), row_L _⟩
theorem dol_list (s : Hs) (ar : Nat) (l : List UInt8) : doF ws 1 s 105 0 ar l = ⟨0, Cp.zero, 0, lstD (s.L 0), s⟩ := by
  unfold doF
  rw [if_neg (by decide), if_pos rfl]
theorem ns_first (w0 : Nat) (hw : w0 ≤ 281474976710655) : Ns ⟨1, [], updO noneO 0 ⟨w0, 0, 0, 24⟩, 0, 0, L0⟩ w0 [] 0 :=
  ⟨root_first w0 hw, (by have := fit_new (N := 0) (cre_first w0 []) (by show 0 ≤ _; omega) (fun _ => rfl); exact this), rfl⟩
theorem lst_set {y : Rw} : ∀ {L : List Rw} {k : Nat}, (L.getD k Rw.zero).n = y.n → lstD (L.set k y) = lstD L
  | [], k, _ => by simp
  | a :: L, 0, h => by
    have h : a.n = y.n := h
    show lstD (y :: L) = lstD (a :: L)
    unfold lstD
    rw [List.flatMap_cons, List.flatMap_cons, h]
  | a :: L, k + 1, h => by
    have h : (L.getD k Rw.zero).n = y.n := h
    show lstD (a :: L.set k y) = lstD (a :: L)
    have := lst_set (L := L) h
    unfold lstD at this ⊢
    rw [List.flatMap_cons, List.flatMap_cons, this]
/- the names in order -/
def LK (q : Cp) : Nat → List Rw
  | 0 => []
  | k + 1 => LK q k ++ [⟨nmk k, q, 255⟩]
theorem lk_len (q : Cp) : ∀ k, (LK q k).length = k
  | 0 => rfl
  | k + 1 => by unfold LK; rw [List.length_append, lk_len q k]; rfl
theorem lk_at (q : Cp) : ∀ {k j : Nat}, j < k → (LK q k).getD j Rw.zero = ⟨nmk j, q, 255⟩
  | k + 1, j, h => by
    unfold LK
    rcases Nat.lt_or_ge j k with h1 | h1
    · rw [← lk_at q h1, getR _ _ (by rw [List.length_append, lk_len]; omega), getR _ _ (by rw [lk_len]; exact h1), List.getElem_append_left (by rw [lk_len]; exact h1)]
    · have : j = k := by omega
      subst this
      rw [getR _ _ (by rw [List.length_append, lk_len]; show j < j + 1; omega), List.getElem_append_right (by rw [lk_len]; exact Nat.le_refl _)]; simp [lk_len]
theorem lk_no (q : Cp) {k : Nat} {nm : List UInt8} (h : ∀ j, j < k → nmk j ≠ nm) : idxR (LK q k) nm = (LK q k).length :=
  idx_none fun j hj => by rw [lk_len] at hj; rw [lk_at q hj]; exact h j hj
theorem lk_zero (q : Cp) {k : Nat} (h : 0 < k) : idxR (LK q k) (nmk 0) = 0 :=
  idx_is (by rw [lk_len]; exact h) (by rw [lk_at q h]) (fun j hj => by omega)
/- the state behind so many names -/
def stK (s : Hs) (q : Cp) : Nat → Hs
  | 0 => s
  | k + 1 => (stK s q k).row 0 (LK q (k + 1))
theorem ns_stK (h : Ns s sec [] n) (q : Cp) : ∀ k, Ns (stK s q k) sec (LK q k) (n + k)
  | 0 => h
  | k + 1 => (ns_stK h q k).row _
theorem do_stK (h : Ns s sec [] n) {q : Cp} {x : List UInt8} (hx : x = capF q.p q.o q.r q.c) (hq : q.p ≤ 281474976710655 ∧ q.o ≤ 16777215 ∧ q.r ≤ 255 ∧ q.c ≤ 281474976710655) (k : Nat) (hk : k < 10) : doF ws 1 (stK s q k) 102 0 255 (reqD (nmk k) x) = badF (stK s q (k + 1)) 0 :=
  do_enter (ns_stK h q k).L (by rw [nmk_len]; omega) (by rw [nmk_len]; omega) (lk_no q fun j hj e => by have := nmk_inj (by omega) hk e; omega) (by rw [lk_len]; omega) hx hq (by omega)
end
end Go.Proofs.YtlmnnjibggdboaaGreatDoor
namespace Go.Proofs.YtlmnnjibggdboaaGreatDoor
section
open Go.RowKit
variable {w w' : World} {ws : List Nat} {s : Hs} {sec n : Nat} {L : List Rw}
theorem set_zero (h : 0 < L.length) (z : Rw) : (L.set 0 z).getD 0 Rw.zero = z := by
  cases L with
  | nil => simp at h
  | cons a l => rfl
theorem do_look0 {nm x : List UInt8} {q : Cp} (h : 0 < L.length) (hL : s.L 0 = L.set 0 ⟨nm, q, 255⟩) (h1 : 1 ≤ nm.length) (h2 : nm.length ≤ 32) (ar : Nat) : doF ws 1 s 101 0 ar (reqD nm x) = ⟨0, q, 0, [], s⟩ := by
  have hi : idxR (L.set 0 ⟨nm, q, 255⟩) nm = 0 := idx_is (by rw [List.length_set]; exact h) (by rw [set_zero h]) (fun j hj => by omega)
  rw [do_look hL h1 h2 (by rw [hi, List.length_set]; exact h), hi, set_zero h]
  unfold lookF
  rw [if_pos (by show q.r &&& (255 - 255) = 0; simp)]
theorem do_rep0 {N : Nat} (q q2 : Cp) (h : Ns s sec (LK q (n + 1)) N) {x : List UInt8} (hx : x = capF q2.p q2.o q2.r q2.c) (hq : q2.p ≤ 281474976710655 ∧ q2.o ≤ 16777215 ∧ q2.r ≤ 255 ∧ q2.c ≤ 281474976710655) : doF ws 1 s 103 0 255 (reqD [97] x) = badF (s.row 0 ((LK q (n + 1)).set 0 ⟨[97], q2, 255⟩)) 0 := by
  have e : idxR (LK q (n + 1)) [97] = 0 := lk_zero q (Nat.succ_pos n)
  have := do_replace (ws := ws) (nm := [97]) h.L (by show 1 ≤ 1; omega) (by show 1 ≤ 32; omega) (by rw [e, lk_len]; omega) hx hq (ar := 255) (by omega)
  rw [e] at this
  exact this
theorem lst_rep (q : Cp) (z : Rw) (hz : z.n = [97]) : lstD ((LK q (n + 1)).set 0 z) = lstD (LK q (n + 1)) :=
  lst_set (by rw [lk_at q (Nat.succ_pos n), hz]; rfl)
/- bytes that stay -/
theorem Bts.both {co : Option Addr} {k cc : Nat} {d : List UInt8} (h : Bts w co k cc d ∧ (d = [] ∨ Typ8 w co)) (K : Kh w w') : Bts w' co k cc d ∧ (d = [] ∨ Typ8 w' co) := ⟨h.1.typ h.2 K, h.2.imp id (fun t => t.kh K)⟩
theorem rq_st {N : Nat} (h : RootOk s sec) (f : Fit N s) (hN : N ≤ 1000000000000) (w0 : World) (hg : Glob w0) (op ar : Nat) (ho : 100 ≤ op ∧ op ≤ 105) (ha : ar ≤ 18446744073709551615) (M : Msg) (hM : rqM op sec ar = M) (L : List UInt8) (R : Ro) (hR : doF ws 1 s op 0 ar L = R) (st : Int) (hst : (R.e : Int) = st) (rr : Nat) (A : Ad) (W : World) (qo : Option Addr) (qn qc : Nat) (S : Sr W rr A.g A.sb) (X : Sv w0 W A 1 ws s) (B : Bts W qo qn qc L) (hn : qn ≤ 200000) (T : Typ8 W qo) :
    Calls Tryz.prog 17 #[.pointer (some ⟨rr, 0, none⟩), .agg #[.int .u64 M.ta, .int .u64 M.rp, .int .u32 M.id, .int .u16 M.op, .int .u16 M.st, .int .u64 M.p, .int .u32 M.o, .int .u8 M.r, .int .u64 M.c, .int .u64 M.ar, .slice qo qn qc]] W fun e w' =>
      ∃ c0 c1 c2 c3 c5 c6 c7 c8 c9 co n2 cc A2, e = .returned (.agg #[.int .u64 c0, .int .u64 c1, .int .u32 c2, .int .u16 c3, .int .u16 st, .int .u64 c5, .int .u32 c6, .int .u8 c7, .int .u64 c8, .int .u64 c9, .slice co n2 cc]) ∧ Sr w' rr A2.g A2.sb ∧ Sv w0 w' A2 1 ws R.s ∧ Kh W w' := by
  refine (rq_srv h f hN w0 hg op ar ho ha M hM L R hR rr A W qo qn qc S X B hn T).mono ?_
  rintro e w' ⟨m3, co, n, cc, A2, rfl, hm, -, -, S5, X5, K5, -⟩
  have e4 : (m3.st : Int) = st := by rw [hm, rpl_st, hst]
  exact ⟨_, _, _, _, _, _, _, _, _, _, _, _, A2, by rw [← e4], S5, X5, K5⟩
/- the Status of a reply -/
theorem fld4 (d0 d1 d2 d3 d4 d5 d6 d7 d8 d9 : Int) (d10 : Option Addr) (d11 d12 : Nat) (w : World) : (Instr.field 55 (.agg #[.int .u64 d0, .int .u64 d1, .int .u32 d2, .int .u16 d3, .int .u16 d4, .int .u64 d5, .int .u32 d6, .int .u8 d7, .int .u64 d8, .int .u64 d9, .slice d10 d11 d12]) 4).run Tryz.prog w = .ok (.int .u16 d4) w := by kernel_rfl
end
end Go.Proofs.YtlmnnjibggdboaaGreatDoor
