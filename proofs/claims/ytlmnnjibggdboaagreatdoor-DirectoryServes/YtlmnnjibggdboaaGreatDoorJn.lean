/-
  What the owner of the first directory is answered: plain facts.
  The owner's requests with everything written out: contracts for the statements' walks.
  Names of one letter, and what a list of them comes to: plain facts.
  What replacing and looking up the first name comes to; a request whose reply is looked at by its status alone.
  What came in gives to the walks: a slice's bytes, where they lie.
  Names that come and go: plain facts of the first directory's rows.
  The model's half: deeds that keep its map where it is.
  The model's own deeds: variables, copies, what is answered.
  What the closure of the statements' own 'want' answers, as a contract.
  A deed's request (the statement's own message): variables, names, requests with long data.
  A script's deeds, as they came in: operation, which, name, a capability, a truth, an argument, data.
-/
import Derived.Test.YtlmnnjibggdboaaGreatDoorJm
import Derived.OpenShut
import Derived.Test.YtlmnnjibggdboaaGreatDoorJe
import Derived.Deep.RegionHeldLaw
import Derived.Deep.Slices
import Derived.ChangeSame
import Derived.ChangeSlices
import Derived.Lib.SmallJoins
import Derived.SizedLaws
import Derived.ChangeArms
namespace Go.Proofs.YtlmnnjibggdboaaGreatDoor
section
open Go.RowKit
variable {ws : List Nat} {s : Hs} {sec : Nat}
structure RootOk (s : Hs) (sec : Nat) : Prop where
  sc : (s.T 0).s = sec
  l : 0 < (s.T 0).l
  v : (s.T 0).v = 0
  le : sec ≤ 281474976710655
def rootC (sec : Nat) : Cp := ⟨1, 0, 255, sec⟩
theorem chk_root (h : RootOk s sec) (need : Nat) (hn : 255 &&& need = need) : chkF ws s.t s.es 1 s.T (rootC sec) need = ⟨0, 0, s.t, s.es⟩ := by
  have hh : hasO s.T 0 = true := hasO_of (by omega) h.l
  have ho : ofF ws s.t s.es (s.T 0).s 255 = ⟨sec, true, s.t, s.es⟩ := by unfold ofF; rw [if_pos rfl, h.sc, Nat.mod_eq_of_lt (by have := h.le; omega)]
  unfold chkF rootC
  simp only
  rw [if_neg (by rw [hh]; simp), ho]
  simp only
  rw [if_neg (by decide), if_neg (by simp), if_neg (by rw [hn]; simp)]
theorem root_need (op : Nat) : 255 &&& needN op = needN op := by
  unfold needN
  repeat' split
  all_goals decide
theorem out_root (h : RootOk s sec) (op ar : Nat) (l : List UInt8) (ho : 100 ≤ op ∧ op ≤ 105) : outF ws 1 s op (rootC sec) ar l = doF ws 1 s op 0 ar l := by
  have hm : mayC (rootC sec) = true := decide_eq_true ⟨by show 1 ≤ _; omega, by show 0 ≤ _; omega, h.le⟩
  have hb : needB op = true := by unfold needB; simp; omega
  unfold outF
  rw [if_neg (by rw [hm]; decide), if_neg (by omega), if_neg (by rintro (e | e); omega; rw [hb] at e; cases e), chk_root h _ (root_need op)]
  unfold ownF
  rw [if_pos rfl]
  show doF ws 1 (s.tab s.t s.es s.T) op (s.T 0).v ar l = _
  rw [h.v]; rfl
/- a request's data -/
def reqD (nm x : List UInt8) : List UInt8 := putF nm.length 2 ++ nm ++ x
variable {nm x : List UInt8}
theorem req_nm (h : nm.length ≤ 65535) : nmN (reqD nm x) = nm.length := by
  unfold nmN reqD
  rw [List.drop_zero, List.append_assoc, List.take_left' (putF_len _ _), numF_putF]
  exact Nat.mod_eq_of_lt (by show _ < 65536; omega)
theorem req_len : (reqD nm x).length = 2 + nm.length + x.length := by unfold reqD; rw [List.length_append, List.length_append, putF_len]
theorem req_has (h1 : 1 ≤ nm.length) (h2 : nm.length ≤ 32) : hasNm (reqD nm x) = true := by
  unfold hasNm
  rw [req_nm (by omega), req_len]
  exact decide_eq_true ⟨⟨by omega, by omega⟩, h1, h2⟩
theorem req_of (h : nm.length ≤ 65535) : nmOf (reqD nm x) = nm := by
  unfold nmOf
  rw [req_nm h]
  unfold reqD
  rw [List.append_assoc, List.drop_left' (putF_len _ _), List.take_left' rfl]
theorem req_rest (h : nm.length ≤ 65535) : restOf (reqD nm x) = x := by
  unfold restOf
  rw [req_nm h]
  unfold reqD
  exact List.drop_left' (by rw [List.length_append, putF_len])
theorem capD_capF {p o r c : Nat} (hp : p ≤ 281474976710655) (ho : o ≤ 16777215) (hr : r ≤ 255) (hc : c ≤ 281474976710655) : capD (capF p o r c) = ⟨p, o, r, c⟩ := by
  have e0 : ((capF p o r c).drop 0).take 6 = putF p 6 := by unfold capF; rw [List.drop_zero, List.append_assoc, List.append_assoc, List.take_left' (putF_len _ _)]
  have e1 : ((capF p o r c).drop 6).take 3 = putF o 3 := by unfold capF; rw [List.append_assoc, List.append_assoc, List.drop_left' (putF_len _ _), List.take_left' (putF_len _ _)]
  have e2 : ((capF p o r c).drop 9).take 1 = putF r 1 := by
    unfold capF
    rw [List.append_assoc, List.drop_left' (by rw [List.length_append, putF_len, putF_len]), List.take_left' (putF_len _ _)]
  have e3 : ((capF p o r c).drop 10).take 6 = putF c 6 := by
    unfold capF
    rw [List.drop_left' (by rw [List.length_append, List.length_append, putF_len, putF_len, putF_len])]
    exact List.take_of_length_le (by rw [putF_len]; omega)
  unfold capD
  rw [e0, e1, e2, e3, numF_putF, numF_putF, numF_putF, numF_putF, Nat.mod_eq_of_lt (by show _ < 281474976710656; omega), Nat.mod_eq_of_lt (by show _ < 16777216; omega), Nat.mod_eq_of_lt (by show _ < 256; omega), Nat.mod_eq_of_lt (by show _ < 281474976710656; omega)]
/- what entering, replacing, deleting and looking up do to the first directory -/
variable {L : List Rw}
theorem do_enter (hL : s.L 0 = L) (h1 : 1 ≤ nm.length) (h2 : nm.length ≤ 32) (hno : idxR L nm = L.length) (hl : L.length < 64) {q : Cp} (hx : x = capF q.p q.o q.r q.c) (hq : q.p ≤ 281474976710655 ∧ q.o ≤ 16777215 ∧ q.r ≤ 255 ∧ q.c ≤ 281474976710655) {ar : Nat} (ha : ar ≤ 255) : doF ws 1 s 102 0 ar (reqD nm x) = badF (s.row 0 (L ++ [⟨nm, q, ar⟩])) 0 := by
  unfold doF nameF entF
  rw [if_neg (by decide), if_neg (by decide), if_neg (by rw [req_has h1 h2]; decide), req_of (by omega), req_rest (by omega), hL, if_neg (by omega), if_neg (by rintro ⟨e, _⟩; exact e rfl), if_neg (by decide), if_neg (by decide), if_neg (by rw [hx, capF_len]; omega), if_neg (by decide), if_neg (by omega), hx, capD_capF hq.1 hq.2.1 hq.2.2.1 hq.2.2.2]
theorem do_exists (hL : s.L 0 = L) (h1 : 1 ≤ nm.length) (h2 : nm.length ≤ 32) (hi : idxR L nm < L.length) {ar : Nat} : doF ws 1 s 102 0 ar (reqD nm x) = badF s 11 := by
  unfold doF nameF
  rw [if_neg (by decide), if_neg (by decide), if_neg (by rw [req_has h1 h2]; decide), req_of (by omega), hL, if_pos ⟨rfl, hi⟩]
theorem do_missing {op : Nat} (hop : op = 101 ∨ op = 103 ∨ op = 104) (hL : s.L 0 = L) (h1 : 1 ≤ nm.length) (h2 : nm.length ≤ 32) (hno : idxR L nm = L.length) {ar : Nat} : doF ws 1 s op 0 ar (reqD nm x) = badF s 12 := by
  unfold doF nameF
  rw [if_neg (by omega), if_neg (by omega), if_neg (by rw [req_has h1 h2]; decide), req_of (by omega), hL, if_neg (by omega), if_pos ⟨by omega, by omega⟩]
theorem do_look (hL : s.L 0 = L) (h1 : 1 ≤ nm.length) (h2 : nm.length ≤ 32) (hi : idxR L nm < L.length) {ar : Nat} : doF ws 1 s 101 0 ar (reqD nm x) = lookF ws s (L.getD (idxR L nm) Rw.zero) := by
  unfold doF nameF
  rw [if_neg (by decide), if_neg (by decide), if_neg (by rw [req_has h1 h2]; decide), req_of (by omega), hL, if_neg (by rintro ⟨e, _⟩; cases e), if_neg (by rintro ⟨_, e⟩; exact e hi), if_pos rfl]
theorem do_delete (hL : s.L 0 = L) (h1 : 1 ≤ nm.length) (h2 : nm.length ≤ 32) (hi : idxR L nm < L.length) {ar : Nat} : doF ws 1 s 104 0 ar (reqD nm x) = badF (s.row 0 (delR L (idxR L nm))) 0 := by
  unfold doF nameF
  rw [if_neg (by decide), if_neg (by decide), if_neg (by rw [req_has h1 h2]; decide), req_of (by omega), hL, if_neg (by rintro ⟨e, _⟩; cases e), if_neg (by rintro ⟨_, e⟩; exact e hi), if_neg (by decide), if_pos rfl]
theorem do_replace (hL : s.L 0 = L) (h1 : 1 ≤ nm.length) (h2 : nm.length ≤ 32) (hi : idxR L nm < L.length) {q : Cp} (hx : x = capF q.p q.o q.r q.c) (hq : q.p ≤ 281474976710655 ∧ q.o ≤ 16777215 ∧ q.r ≤ 255 ∧ q.c ≤ 281474976710655) {ar : Nat} (ha : ar ≤ 255) : doF ws 1 s 103 0 ar (reqD nm x) = badF (s.row 0 (L.set (idxR L nm) ⟨nm, q, ar⟩)) 0 := by
  unfold doF nameF entF
  rw [if_neg (by decide), if_neg (by decide), if_neg (by rw [req_has h1 h2]; decide), req_of (by omega), req_rest (by omega), hL, if_neg (by rintro ⟨e, _⟩; cases e), if_neg (by rintro ⟨_, e⟩; exact e hi), if_neg (by decide), if_neg (by decide), if_neg (by rw [hx, capF_len]; omega), if_pos rfl, hx, capD_capF hq.1 hq.2.1 hq.2.2.1 hq.2.2.2]
theorem RootOk.row (h : RootOk s sec) (z : Int) (l : List Rw) : RootOk (s.row z l) sec := ⟨h.sc, h.l, h.v, h.le⟩
theorem row_L (l : List Rw) : (s.row 0 l).L 0 = l := updL_same s.L 0 l
/- the first directory as it is made -/
theorem cre_first (w0 : Nat) (ws : List Nat) : creF (w0 :: ws) 0 [] 1 noneO 0 = ⟨rootC w0, 0, 1, [], updO noneO 0 ⟨w0, 0, 0, 24⟩⟩ := by
  have hf : freeO noneO = 0 := by kernel_rfl
  unfold creF
  rw [hf, if_pos (by omega), if_pos (by simp)]
  rfl
theorem root_first (w0 : Nat) (hw : w0 ≤ 281474976710655) : RootOk ⟨1, [], updO noneO 0 ⟨w0, 0, 0, 24⟩, 0, 0, L0⟩ w0 := ⟨rfl, by show 0 < 24; omega, rfl, hw⟩
end
end Go.Proofs.YtlmnnjibggdboaaGreatDoor
namespace Go.Proofs.YtlmnnjibggdboaaGreatDoor
section
open Go.RowKit
variable {w w' : World}
theorem rq_enc (q : Cp) (hq : q.p ≤ 281474976710655 ∧ q.o ≤ 16777215 ∧ q.r ≤ 255 ∧ q.c ≤ 281474976710655) (xb : List UInt8) (hx : xb = capF q.p q.o q.r q.c) (p o r c : Int) (hp : p = (q.p : Int)) (ho : o = (q.o : Int)) (hr : r = (q.r : Int)) (hc : c = (q.c : Int)) (W : World) :
    Calls Tryz.prog 23 #[.agg #[.int .u64 p, .int .u32 o, .int .u8 r, .int .u64 c]] W fun e w' => ∃ g, e = .returned (.slice (some ⟨g, 0, none⟩) 16 16) ∧ Bts w' (some ⟨g, 0, none⟩) 16 16 xb ∧ Below W.heap.size W w' := by
  subst hx hp ho hr hc
  exact enc_any q hq W
def rqM (op sec ar : Nat) : Msg := ⟨0, 0, 0, op, 0, 1, 0, 255, sec, ar⟩
theorem rq_req (op sec ar : Nat) (nm : List UInt8) (M : Msg) (hM : rqM op sec ar = M) (L xb : List UInt8) (hL : reqD nm xb = L) (nmv : ByteArray) (hn : str nm = nmv) (hl : nm.length ≤ 100) (oi si ai : Int) (ho : oi = (op : Int)) (hs : si = (sec : Int)) (ha : ai = (ar : Int)) (W : World) (bo : Option Addr) (bn bc : Nat) (hb : Bts W bo bn bc xb) (hbn : bn ≤ 100) :
    Calls Tryz.prog 22 #[.int .u16 oi, .agg #[.int .u64 1, .int .u32 0, .int .u8 255, .int .u64 si], .int .u64 ai, .string nmv, .slice bo bn bc] W fun e w' => ∃ co n cc, e = .returned (.agg #[.int .u64 M.ta, .int .u64 M.rp, .int .u32 M.id, .int .u16 M.op, .int .u16 M.st, .int .u64 M.p, .int .u32 M.o, .int .u8 M.r, .int .u64 M.c, .int .u64 M.ar, .slice co n cc]) ∧ Bts w' co n cc L ∧ Typ8 w' co ∧ n ≤ 200000 ∧ Below W.heap.size W w' := by
  subst hM hL hn ho hs ha
  refine (req_any op ⟨1, 0, 255, sec⟩ ar nm bo bn bc xb W hb (by omega) (by omega) _ rfl _ rfl).mono ?_
  rintro e w' ⟨co, n, cc, rfl, B, _, T, hn, b⟩
  exact ⟨co, n, cc, rfl, B, T, by omega, b⟩
theorem rq_srv {N : Nat} {s : Hs} {sec : Nat} {ws : List Nat} (h : RootOk s sec) (f : Fit N s) (hN : N ≤ 1000000000000) (w0 : World) (hg : Glob w0) (op ar : Nat) (ho : 100 ≤ op ∧ op ≤ 105) (ha : ar ≤ 18446744073709551615) (M : Msg) (hM : rqM op sec ar = M) (L : List UInt8) (R : Ro) (hR : doF ws 1 s op 0 ar L = R) (rr : Nat) (A : Ad) (W : World) (qo : Option Addr) (qn qc : Nat) (S : Sr W rr A.g A.sb) (X : Sv w0 W A 1 ws s) (B : Bts W qo qn qc L) (hn : qn ≤ 200000) (T : Typ8 W qo) :
    Calls Tryz.prog 17 #[.pointer (some ⟨rr, 0, none⟩), .agg #[.int .u64 M.ta, .int .u64 M.rp, .int .u32 M.id, .int .u16 M.op, .int .u16 M.st, .int .u64 M.p, .int .u32 M.o, .int .u8 M.r, .int .u64 M.c, .int .u64 M.ar, .slice qo qn qc]] W (AskE w0 W A 1 ws rr R M L) := by
  have hle := h.le
  subst hM
  refine awSrv (rqM op sec ar) L R s N w0 hg ⟨by show 1 ≤ _; omega, by show 0 ≤ _; omega, by show 255 ≤ _; omega, by show sec ≤ _; omega⟩ ⟨by show 5 ≤ op; omega, by show op ≤ _; omega⟩ ha 1 ws ?_ f hN rr A W qo qn qc S X B hn T
  exact (out_root h op ar L ho).trans hR
/- three draws -/
theorem cut_three3 {a b c : Nat} (ha : a < 281474976710656) (hb : b < 281474976710656) (hc : c < 281474976710656) : cutN [a, b, c] = [a, b, c] := by
  simp [cutN, Nat.mod_eq_of_lt ha, Nat.mod_eq_of_lt hb, Nat.mod_eq_of_lt hc]
theorem u64s_three (a b c : Nat) (ha : a ≤ 18446744073709551615) (hb : b ≤ 18446744073709551615) (hc : c ≤ 18446744073709551615) (w : World) : U64s (w.alloc (.cells #[.int .u64 (a : Int), .int .u64 (b : Int), .int .u64 (c : Int)] 32)) (some ⟨w.heap.size, 0, none⟩) 3 3 [a, b, c] :=
  (show RowN (w.alloc (.cells #[.int .u64 (a : Int), .int .u64 (b : Int), .int .u64 (c : Int)] 32)) .u64 32 w.heap.size [a, b, c] from heap_alloc_new _ _).u64s (by show 3 ≤ maxLen; decide) (fun j => by
    rcases j with _ | _ | _ | j <;> simp [ha, hb, hc])
end
end Go.Proofs.YtlmnnjibggdboaaGreatDoor
namespace Go.Proofs.YtlmnnjibggdboaaGreatDoor
section
open Go.RowKit
def nmk (k : Nat) : List UInt8 := [UInt8.ofNat (97 + k)]
theorem nmk_len (k : Nat) : (nmk k).length = 1 := rfl
theorem enc_nmk (k : Nat) (h : k < 10) : Utf8.encode ((97 + k : Nat) : Int) = str (nmk k) := by
  have : k = 0 ∨ k = 1 ∨ k = 2 ∨ k = 3 ∨ k = 4 ∨ k = 5 ∨ k = 6 ∨ k = 7 ∨ k = 8 ∨ k = 9 := by omega
  rcases this with rfl | rfl | rfl | rfl | rfl | rfl | rfl | rfl | rfl | rfl <;> rfl
theorem nmk_inj {i j : Nat} (hi : i < 10) (hj : j < 10) (h : nmk i = nmk j) : i = j := by
  have h1 := congrArg UInt8.toNat (List.head_eq_of_cons_eq h)
  rw [UInt8.toNat_ofNat', UInt8.toNat_ofNat'] at h1
  omega
theorem nmk_m (i : Nat) (h : i < 10) : nmk i ≠ [109] := fun e => by
  have h1 := congrArg UInt8.toNat (List.head_eq_of_cons_eq e)
  rw [UInt8.toNat_ofNat'] at h1
  have h2 : (109 : UInt8).toNat = 109 := rfl
  rw [h2] at h1
  omega
variable {ws : List Nat} {s : Hs} {sec n : Nat} {L : List Rw}
/- the owner's state: what it comes to is known -/
structure Ns (s : Hs) (sec : Nat) (L : List Rw) (n : Nat) : Prop where
  root : RootOk s sec
  fit : Fit n s
  L : s.L 0 = L
theorem Ns.row (h : Ns s sec L n) (l : List Rw) : Ns (s.row 0 l) sec l (n + 1) :=
  ⟨h.root.row _ _, h.fit.row (by have := h.fit.n; omega) _ (by have := h.fit.el; omega), row_L _⟩
theorem dol_list (s : Hs) (ar : Nat) (l : List UInt8) : doF ws 1 s 105 0 ar l = ⟨0, Cp.zero, 0, lstD (s.L 0), s⟩ := by
  unfold doF
  rw [if_neg (by decide), if_pos rfl]
theorem ns_first (w0 : Nat) (hw : w0 ≤ 281474976710655) : Ns ⟨1, [], updO noneO 0 ⟨w0, 0, 0, 24⟩, 0, 0, L0⟩ w0 [] 0 :=
  ⟨root_first w0 hw, (by have := fit_new (N := 0) (cre_first w0 []) (by show 0 ≤ _; omega) (fun _ => rfl); exact this), rfl⟩
theorem lst_set {y : Rw} : ∀ {L : List Rw} {k : Nat}, (L.getD k Rw.zero).n = y.n → lstD (L.set k y) = lstD L
  | [], k, _ => by simp
  | a :: L, 0, h => by
    have h : a.n = y.n := h
    show lstD (y :: L) = lstD (a :: L)
    unfold lstD
    rw [List.flatMap_cons, List.flatMap_cons, h]
  | a :: L, k + 1, h => by
    have h : (L.getD k Rw.zero).n = y.n := h
    show lstD (a :: L.set k y) = lstD (a :: L)
    have := lst_set (L := L) h
    unfold lstD at this ⊢
    rw [List.flatMap_cons, List.flatMap_cons, this]
/- the names in order -/
def LK (q : Cp) : Nat → List Rw
  | 0 => []
  | k + 1 => LK q k ++ [⟨nmk k, q, 255⟩]
theorem lk_len (q : Cp) : ∀ k, (LK q k).length = k
  | 0 => rfl
  | k + 1 => by unfold LK; rw [List.length_append, lk_len q k]; rfl
theorem lk_at (q : Cp) : ∀ {k j : Nat}, j < k → (LK q k).getD j Rw.zero = ⟨nmk j, q, 255⟩
  | k + 1, j, h => by
    unfold LK
    rcases Nat.lt_or_ge j k with h1 | h1
    · rw [← lk_at q h1, getR _ _ (by rw [List.length_append, lk_len]; omega), getR _ _ (by rw [lk_len]; exact h1), List.getElem_append_left (by rw [lk_len]; exact h1)]
    · have : j = k := by omega
      subst this
      rw [getR _ _ (by rw [List.length_append, lk_len]; show j < j + 1; omega), List.getElem_append_right (by rw [lk_len]; exact Nat.le_refl _)]; simp [lk_len]
theorem lk_no (q : Cp) {k : Nat} {nm : List UInt8} (h : ∀ j, j < k → nmk j ≠ nm) : idxR (LK q k) nm = (LK q k).length :=
  idx_none fun j hj => by rw [lk_len] at hj; rw [lk_at q hj]; exact h j hj
theorem lk_zero (q : Cp) {k : Nat} (h : 0 < k) : idxR (LK q k) (nmk 0) = 0 :=
  idx_is (by rw [lk_len]; exact h) (by rw [lk_at q h]) (fun j hj => by omega)
/- the state behind so many names -/
def stK (s : Hs) (q : Cp) : Nat → Hs
  | 0 => s
  | k + 1 => (stK s q k).row 0 (LK q (k + 1))
theorem ns_stK (h : Ns s sec [] n) (q : Cp) : ∀ k, Ns (stK s q k) sec (LK q k) (n + k)
  | 0 => h
  | k + 1 => (ns_stK h q k).row _
theorem do_stK (h : Ns s sec [] n) {q : Cp} {x : List UInt8} (hx : x = capF q.p q.o q.r q.c) (hq : q.p ≤ 281474976710655 ∧ q.o ≤ 16777215 ∧ q.r ≤ 255 ∧ q.c ≤ 281474976710655) (k : Nat) (hk : k < 10) : doF ws 1 (stK s q k) 102 0 255 (reqD (nmk k) x) = badF (stK s q (k + 1)) 0 :=
  do_enter (ns_stK h q k).L (by rw [nmk_len]; omega) (by rw [nmk_len]; omega) (lk_no q fun j hj e => by have := nmk_inj (by omega) hk e; omega) (by rw [lk_len]; omega) hx hq (by omega)
end
end Go.Proofs.YtlmnnjibggdboaaGreatDoor
namespace Go.Proofs.YtlmnnjibggdboaaGreatDoor
section
open Go.RowKit
variable {w w' : World} {ws : List Nat} {s : Hs} {sec n : Nat} {L : List Rw}
theorem set_zero (h : 0 < L.length) (z : Rw) : (L.set 0 z).getD 0 Rw.zero = z := by
  cases L with
  | nil => simp at h
  | cons a l => rfl
theorem do_look0 {nm x : List UInt8} {q : Cp} (h : 0 < L.length) (hL : s.L 0 = L.set 0 ⟨nm, q, 255⟩) (h1 : 1 ≤ nm.length) (h2 : nm.length ≤ 32) (ar : Nat) : doF ws 1 s 101 0 ar (reqD nm x) = ⟨0, q, 0, [], s⟩ := by
  have hi : idxR (L.set 0 ⟨nm, q, 255⟩) nm = 0 := idx_is (by rw [List.length_set]; exact h) (by rw [set_zero h]) (fun j hj => by omega)
  rw [do_look hL h1 h2 (by rw [hi, List.length_set]; exact h), hi, set_zero h]
  unfold lookF
  rw [if_pos (by show q.r &&& (255 - 255) = 0; simp)]
theorem do_rep0 {N : Nat} (q q2 : Cp) (h : Ns s sec (LK q (n + 1)) N) {x : List UInt8} (hx : x = capF q2.p q2.o q2.r q2.c) (hq : q2.p ≤ 281474976710655 ∧ q2.o ≤ 16777215 ∧ q2.r ≤ 255 ∧ q2.c ≤ 281474976710655) : doF ws 1 s 103 0 255 (reqD [97] x) = badF (s.row 0 ((LK q (n + 1)).set 0 ⟨[97], q2, 255⟩)) 0 := by
  have e : idxR (LK q (n + 1)) [97] = 0 := lk_zero q (Nat.succ_pos n)
  have := do_replace (ws := ws) (nm := [97]) h.L (by show 1 ≤ 1; omega) (by show 1 ≤ 32; omega) (by rw [e, lk_len]; omega) hx hq (ar := 255) (by omega)
  rw [e] at this
  exact this
theorem lst_rep (q : Cp) (z : Rw) (hz : z.n = [97]) : lstD ((LK q (n + 1)).set 0 z) = lstD (LK q (n + 1)) :=
  lst_set (by rw [lk_at q (Nat.succ_pos n), hz]; rfl)
/- bytes that stay -/
theorem Bts.both {co : Option Addr} {k cc : Nat} {d : List UInt8} (h : Bts w co k cc d ∧ (d = [] ∨ Typ8 w co)) (K : Kh w w') : Bts w' co k cc d ∧ (d = [] ∨ Typ8 w' co) := ⟨h.1.typ h.2 K, h.2.imp id (fun t => t.kh K)⟩
theorem rq_st {N : Nat} (h : RootOk s sec) (f : Fit N s) (hN : N ≤ 1000000000000) (w0 : World) (hg : Glob w0) (op ar : Nat) (ho : 100 ≤ op ∧ op ≤ 105) (ha : ar ≤ 18446744073709551615) (M : Msg) (hM : rqM op sec ar = M) (L : List UInt8) (R : Ro) (hR : doF ws 1 s op 0 ar L = R) (st : Int) (hst : (R.e : Int) = st) (rr : Nat) (A : Ad) (W : World) (qo : Option Addr) (qn qc : Nat) (S : Sr W rr A.g A.sb) (X : Sv w0 W A 1 ws s) (B : Bts W qo qn qc L) (hn : qn ≤ 200000) (T : Typ8 W qo) :
    Calls Tryz.prog 17 #[.pointer (some ⟨rr, 0, none⟩), .agg #[.int .u64 M.ta, .int .u64 M.rp, .int .u32 M.id, .int .u16 M.op, .int .u16 M.st, .int .u64 M.p, .int .u32 M.o, .int .u8 M.r, .int .u64 M.c, .int .u64 M.ar, .slice qo qn qc]] W fun e w' =>
      ∃ c0 c1 c2 c3 c5 c6 c7 c8 c9 co n2 cc A2, e = .returned (.agg #[.int .u64 c0, .int .u64 c1, .int .u32 c2, .int .u16 c3, .int .u16 st, .int .u64 c5, .int .u32 c6, .int .u8 c7, .int .u64 c8, .int .u64 c9, .slice co n2 cc]) ∧ Sr w' rr A2.g A2.sb ∧ Sv w0 w' A2 1 ws R.s ∧ Kh W w' := by
  refine (rq_srv h f hN w0 hg op ar ho ha M hM L R hR rr A W qo qn qc S X B hn T).mono ?_
  rintro e w' ⟨m3, co, n, cc, A2, rfl, hm, -, -, S5, X5, K5, -⟩
  have e4 : (m3.st : Int) = st := by rw [hm, rpl_st, hst]
  exact ⟨_, _, _, _, _, _, _, _, _, _, _, _, A2, by rw [← e4], S5, X5, K5⟩
/- the Status of a reply -/
theorem fld4 (d0 d1 d2 d3 d4 d5 d6 d7 d8 d9 : Int) (d10 : Option Addr) (d11 d12 : Nat) (w : World) : (Instr.field 55 (.agg #[.int .u64 d0, .int .u64 d1, .int .u32 d2, .int .u16 d3, .int .u16 d4, .int .u64 d5, .int .u32 d6, .int .u8 d7, .int .u64 d8, .int .u64 d9, .slice d10 d11 d12]) 4).run Tryz.prog w = .ok (.int .u16 d4) w := by kernel_rfl
end
end Go.Proofs.YtlmnnjibggdboaaGreatDoor
namespace Go.Proofs.YtlmnnjibggdboaaGreatDoor
section
open Go.RowKit
theorem RowOf.bytes {w : World} {a : Option Addr} {len cap : Nat} {zs : List Int} (h : RowOf .u8 w a len cap zs) : ∃ l, Bts w a len cap l := by
  rcases h with ⟨rfl, rfl, rfl, rfl⟩ | ⟨x, rfl, h1, h2, h3, h4, h5⟩
  · exact ⟨[], bts_nil w⟩
  · have hlen : ((zs.take len).map fun z => UInt8.ofNat z.toNat).length = len := by simp; omega
    refine ⟨(zs.take len).map fun z => UInt8.ofNat z.toNat, hlen.symm, h1, h2, (fun e => by cases e), fun ad e j hj => ?_⟩
    obtain rfl := Option.some.inj e
    rw [hlen] at hj
    have hjz : j < zs.length := by omega
    rw [h4 j hjz, bt_get _ _ (by rw [hlen]; exact hj)]
    have e1 : zs.getD j 0 = zs[j] := by rw [List.getD_eq_getElem?_getD, List.getElem?_eq_getElem hjz]; rfl
    have e2 := bounds_u8 (h5 zs[j] (List.getElem_mem hjz))
    rw [e1]
    simp only [List.getElem_map, List.getElem_take, ofNat_toNat]
    congr 2
    omega
theorem bytesOf5 : Tryz.prog.bytesOf 5 = 1 := by kernel_rfl
theorem Bts.low {w : World} {ao : Option Addr} {n cap : Nat} {l : List UInt8} (h : Bts w ao n cap l) : 0 < n → ∀ ad, ao = some ad → ad.block < w.heap.size := fun hp ad e => by
  have := lt_of_cell (h.2.2.2.2 ad e 0 (by rw [← h.1]; exact hp))
  rw [add_block] at this; exact this
end
end Go.Proofs.YtlmnnjibggdboaaGreatDoor
namespace Go.Proofs.YtlmnnjibggdboaaGreatDoor
section
open Go.RowKit
variable {ws : List Nat} {s : Hs} {q : Nat} {L : List Rw} {nm : List UInt8}
structure Na (s : Hs) (L : List Rw) (q : Nat) : Prop where
  root : RootOk s 1
  es : s.es = []
  n0 : s.n = 0
  qb : s.q ≤ q
  vl : ∀ k, 0 ≤ (s.T k).v ∧ (s.T k).v ≤ (s.n : Int)
  top : ∀ z : Int, (s.n : Int) < z → s.L z = []
  l0 : s.L 0 = L
  nd : L.Pairwise (fun a b => a.n ≠ b.n)
  nm : ∀ y ∈ L, ∃ j, j < 10 ∧ y.n = nmk j
  m : ∀ y ∈ L, y.m = 255
theorem Na.fit (h : Na s L q) (hq : q ≤ 1000000000000000) : Fit 1000000000000 s :=
  ⟨by rw [h.es]; show 0 ≤ _; omega, by have := h.qb; omega, by have := h.n0; omega, h.vl, h.top⟩
theorem Na.le (h : Na s L q) {k : Nat} (hk : q ≤ k) : Na s L k := ⟨h.root, h.es, h.n0, Nat.le_trans h.qb hk, h.vl, h.top, h.l0, h.nd, h.nm, h.m⟩
theorem na_first : Na ⟨1, [], updO noneO 0 ⟨1, 0, 0, 24⟩, 0, 0, L0⟩ [] 0 := by
  have f : Fit 0 ⟨1, [], updO noneO 0 ⟨1, 0, 0, 24⟩, 0, 0, L0⟩ := by
    have := fit_new (N := 0) (cre_first 1 []) (by show 0 ≤ _; omega) (fun _ => rfl)
    exact this
  exact ⟨root_first 1 (by omega), rfl, rfl, Nat.le_refl _, f.vl, f.top, rfl, List.Pairwise.nil, (fun _ h => by cases h), (fun _ h => by cases h)⟩
theorem Na.row (h : Na s L q) {l : List Rw} (hd : l.Pairwise (fun a b => a.n ≠ b.n)) (hn : ∀ y ∈ l, ∃ j, j < 10 ∧ y.n = nmk j) (hm : ∀ y ∈ l, y.m = 255) : Na (s.row 0 l) l (q + 1) :=
  ⟨h.root.row _ _, h.es, h.n0, by have := h.qb; show s.q + 1 ≤ _; omega, h.vl, updL_top h.top (by have := h.n0; omega) l, row_L _, hd, hn, hm⟩
theorem Na.few (h : Na s L q) : L.length ≤ 10 := by
  have hh : ∀ y ∈ L, ∃ j, j < 10 ∧ ((y.n.headD 0).toNat - 97 = j) ∧ y.n = nmk j := fun y hy => by
    obtain ⟨j, hj, e⟩ := h.nm y hy
    refine ⟨j, hj, ?_, e⟩
    rw [e]
    show (UInt8.ofNat (97 + j)).toNat - 97 = j
    rw [UInt8.toNat_ofNat']
    omega
  have := pigeon 10 (L.map fun y => (y.n.headD 0).toNat - 97) (by
    refine List.pairwise_map.2 ?_
    refine List.Pairwise.imp_of_mem ?_ h.nd
    intro a b ha hb hab e
    obtain ⟨i, _, hi, ei⟩ := hh a ha
    obtain ⟨j, _, hj, ej⟩ := hh b hb
    apply hab
    rw [ei, ej, ← hi, ← hj, e]) (fun x hx => by
    obtain ⟨y, hy, rfl⟩ := List.mem_map.1 hx
    obtain ⟨j, hj, e, _⟩ := hh y hy
    rw [e]; exact hj)
  simpa using this
theorem Na.snoc (h : Na s L q) {j : Nat} (hj : j < 10) (c : Cp) (hi : idxR L (nmk j) = L.length) : Na (s.row 0 (L ++ [⟨nmk j, c, 255⟩])) (L ++ [⟨nmk j, c, 255⟩]) (q + 1) := by
  refine h.row ?_ ?_ ?_
  · exact List.pairwise_append.2 ⟨h.nd, List.pairwise_singleton _ _, fun a ha b hb => by simp at hb; subst hb; exact notin_of_idx hi a ha⟩
  · intro y hy
    rcases List.mem_append.1 hy with hy | hy
    · exact h.nm y hy
    · simp at hy; subst hy; exact ⟨j, hj, rfl⟩
  · intro y hy
    rcases List.mem_append.1 hy with hy | hy
    · exact h.m y hy
    · simp at hy; subst hy; rfl
theorem del_sub (L : List Rw) (k : Nat) : (delR L k).Sublist L := by
  unfold delR
  conv => rhs; rw [← List.take_append_drop k L]
  exact List.Sublist.append (List.Sublist.refl _) (by rw [← List.drop_drop]; exact List.drop_sublist _ _)
theorem Na.del (h : Na s L q) (k : Nat) : Na (s.row 0 (delR L k)) (delR L k) (q + 1) :=
  h.row (h.nd.sublist (del_sub L k)) (fun y hy => h.nm y ((del_sub L k).subset hy)) (fun y hy => h.m y ((del_sub L k).subset hy))
/- what the deeds come to -/
theorem Na.enter (h : Na s L q) {j : Nat} (hi : idxR L (nmk j) = L.length) {x : List UInt8} {c : Cp} (hx : x = capF c.p c.o c.r c.c) (hq : c.p ≤ 281474976710655 ∧ c.o ≤ 16777215 ∧ c.r ≤ 255 ∧ c.c ≤ 281474976710655) : doF ws 1 s 102 0 255 (reqD (nmk j) x) = badF (s.row 0 (L ++ [⟨nmk j, c, 255⟩])) 0 :=
  do_enter h.l0 (by rw [nmk_len]; omega) (by rw [nmk_len]; omega) hi (by have := h.few; omega) hx hq (by omega)
theorem Na.look (h : Na s L q) {j : Nat} (hi : idxR L (nmk j) < L.length) : ∃ c, doF ws 1 s 101 0 0 (reqD (nmk j) []) = ⟨0, c, 0, [], s⟩ := by
  have hm := h.m _ (mem_getR hi)
  refine ⟨(L.getD (idxR L (nmk j)) Rw.zero).c, ?_⟩
  rw [do_look h.l0 (by rw [nmk_len]; omega) (by rw [nmk_len]; omega) hi]
  unfold lookF
  rw [hm, if_pos (by show _ &&& (255 - 255) = 0; simp)]
theorem idx_snoc {y : Rw} (hi : idxR L nm = L.length) (hy : y.n = nm) : idxR (L ++ [y]) nm = L.length := by
  refine idx_is (by simp) ?_ ?_
  · rw [getR _ _ (by simp), List.getElem_append_right (Nat.le_refl _)]; simpa using hy
  · intro j hj
    rw [getR _ _ (by simp; omega), List.getElem_append_left hj, ← getR L j hj]
    exact idx_min (by omega)
/- the number that the statement finds -/
def atF (L : List Rw) (nm : List UInt8) (i : Nat) : Int := if idxR L nm < i then ((idxR L nm : Nat) : Int) else -1
theorem at_zero : atF L nm 0 = -1 := by unfold atF; rw [if_neg (by omega)]
theorem at_yes (hd : L.Pairwise (fun a b => a.n ≠ b.n)) {i : Nat} (hi : i < L.length) (e : (L.getD i Rw.zero).n = nm) : atF L nm (i + 1) = (i : Int) := by
  have hx : idxR L nm = i := idx_is hi e (fun j hj he => by
    have := List.pairwise_iff_getElem.1 hd j i (by omega) hi hj
    rw [← getR L j (by omega), ← getR L i hi, he, e] at this
    exact this rfl)
  unfold atF
  rw [hx, if_pos (by omega)]
theorem at_no {i : Nat} (hi : i < L.length) (e : (L.getD i Rw.zero).n ≠ nm) : atF L nm (i + 1) = atF L nm i := by
  have hx : idxR L nm ≠ i := fun h => e (by rw [← h]; exact idx_at (by omega))
  unfold atF
  by_cases h : idxR L nm < i
  · rw [if_pos h, if_pos (by omega)]
  · rw [if_neg h, if_neg (by omega)]
theorem at_in (h : idxR L nm < L.length) : atF L nm L.length = ((idxR L nm : Nat) : Int) := by unfold atF; rw [if_pos h]
theorem at_out (h : ¬ idxR L nm < L.length) : atF L nm L.length = -1 := by unfold atF; rw [if_neg h]
/- the names alone -/
def nmV (L : List Rw) : List Value := L.map fun y => .string (str y.n)
theorem nmV_len (L : List Rw) : (nmV L).length = L.length := by simp [nmV]
theorem nmV_snoc (L : List Rw) (y : Rw) : nmV (L ++ [y]) = nmV L ++ [.string (str y.n)] := by simp [nmV]
theorem nmV_del (L : List Rw) (k : Nat) : nmV (delR L k) = (nmV L).take k ++ (nmV L).drop (k + 1) := by simp [nmV, delR]
theorem nmV_get (L : List Rw) (k : Nat) (h : k < L.length) : (nmV L)[k]? = some (.string (str (L.getD k Rw.zero).n)) := by
  unfold nmV
  rw [List.getElem?_map, List.getElem?_eq_getElem h, getR L k h]; rfl
theorem nmV_one (L : List Rw) : ∀ v ∈ nmV L, v.oneCell' = true := by
  intro v h
  obtain ⟨y, _, rfl⟩ := List.mem_map.1 h
  rfl
theorem del_len (L : List Rw) (k : Nat) (h : k < L.length) : (delR L k).length = L.length - 1 := by unfold delR; simp; omega
/- the list, name by name -/
theorem lst_nil : lstD ([] : List Rw) = [] := rfl
theorem lst_take (L : List Rw) (k : Nat) (h : k < L.length) : lstD (L.take (k + 1)) = lstD (L.take k) ++ (putF (L.getD k Rw.zero).n.length 2 ++ (L.getD k Rw.zero).n) := by
  unfold lstD
  rw [← List.take_append_getElem h, List.flatMap_append, getR L k h]
  simp
theorem lst_all (L : List Rw) : lstD (L.take L.length) = lstD L := by rw [List.take_length]
end
end Go.Proofs.YtlmnnjibggdboaaGreatDoor
namespace Go.Proofs.YtlmnnjibggdboaaGreatDoor
section
open Go.RowKit
variable {w0 w w1 w2 w' : World} {A A' : Ad} {p : Nat} {ws : List Nat} {s s' s1 s2 : Hs} {r g : Nat} {sb : Nat × Bool}
def SvK (w0 w : World) (A : Ad) (p : Nat) (ws : List Nat) (w' : World) (s : Hs) : Prop :=
  ∃ v nv, Sv w0 w' (A.upd v A.dv nv) p ws s ∧ Foot (SvS A) w w' ∧ Moved w A.v v ∧ MovC w A.nv nv
theorem SvK.end (E : SvK w0 w A p ws w' s) : SvEnd w0 w A p ws w' s := by
  obtain ⟨v, nv, S, F, h1, h3⟩ := E
  exact ⟨v, A.dv, nv, S, F, h1, MovB.refl _ _, h3⟩
theorem Sv.stayK (x : Sv w0 w A p ws s) : SvK w0 w A p ws w s := ⟨_, _, x, Foot.refl _ _, Moved.refl _ _, MovC.refl _ _⟩
theorem SvK.from (x : SvK w0 w1 A p ws w2 s) (b : Below w.heap.size w w1) : SvK w0 w A p ws w2 s := by
  obtain ⟨v, nv, S, F, h1, h3⟩ := x
  exact ⟨v, nv, S, (below_foot _ b).trans F (fun _ e => .inl e), (Moved.refl w A.v).trans h1 b.size, fun k j e => (h3 k j e).imp id (fun z => Nat.le_trans b.size z)⟩
theorem SvK.to (x : SvK w0 w A p ws w1 s) (b : Below w1.heap.size w1 w2) : SvK w0 w A p ws w2 s := by
  obtain ⟨v, nv, S, F, h1, h3⟩ := x
  exact ⟨v, nv, S.grow b, F.trans (below_foot (SvS A) b) (fun _ e => .inl e), h1, h3⟩
theorem SvK.on {v : Value} {nv : Int → Value} (F : Foot (SvS A) w w1) (h1 : Moved w A.v v) (h3 : MovC w A.nv nv) (x : SvK w0 w1 (A.upd v A.dv nv) p ws w2 s) : SvK w0 w A p ws w2 s := by
  obtain ⟨v', nv', S, F2, k1, k3⟩ := x
  exact ⟨v', nv', S, F.trans F2 (fun j e => SvS.upd h1 (MovB.refl _ _) h3 e), h1.trans k1 F.size, h3.trans k3 F.size⟩
theorem SvK.run (E : SvK w0 w A p ws w1 s1) : ∃ v nv, Sv w0 w1 (A.upd v A.dv nv) p ws s1 ∧ (∀ w2 s2, SvK w0 w1 (A.upd v A.dv nv) p ws w2 s2 → SvK w0 w A p ws w2 s2) := by
  obtain ⟨v, nv, S, F, h1, h3⟩ := E
  exact ⟨v, nv, S, fun w2 s2 E2 => SvK.on F h1 h3 E2⟩
theorem SvK.off (x : SvK w0 w A p ws w1 s) (hw : w0.heap.size ≤ w.heap.size) {S : Nat → Prop} (f : Foot S w1 w2) (hS : ∀ b, S b → w.heap.size ≤ b ∧ Fre3 w1 b) : SvK w0 w A p ws w2 s := by
  obtain ⟨v, nv, X, F, h1, h3⟩ := x
  exact ⟨v, nv, X.off f (fun b e => ⟨Nat.le_trans hw (hS b e).1, (hS b e).2⟩), F.trans f (fun j e => .inr (hS j e).1), h1, h3⟩
theorem SvK.msg (x : SvK w0 w A p ws w1 s) (hw : w0.heap.size ≤ w.heap.size) {g : Nat} {m : Msg} {D : Value} (h : MB w1 g m D) (hg : w.heap.size ≤ g) (f : Foot (fun j => j = g) w1 w2) : SvK w0 w A p ws w2 s :=
  x.off hw f (fun b e => ⟨by omega, .inr ⟨_, _, e ▸ h, msg_odd3⟩⟩)
theorem SvK.cbi (x : SvK w0 w A p ws w1 s) (hw : w0.heap.size ≤ w.heap.size) {b : Nat} {q1 q2 q3 q4 : Int} (h : CBI w1 b q1 q2 q3 q4) (hb : w.heap.size ≤ b) (f : Foot (fun j => j = b) w1 w2) : SvK w0 w A p ws w2 s :=
  x.off hw f (fun j e => ⟨by omega, .inr ⟨_, _, e ▸ h, cap_odd3⟩⟩)
theorem Sv.khK (x : Sv w0 w A p ws s) (E : SvK w0 w A p ws w' s1) : Kh w w' := x.kh E.end
/- the table's deeds -/
theorem Sv.tableK (x : Sv w0 w A p ws s) {t : Nat} {es : List Ent} {T : Nat → Ob} (E : OdEnd w0 w A.B A.g A.go A.m A.a A.h A.k p A.v ws w' t es T) : SvK w0 w A p ws w' ⟨t, es, T, s.n, s.q, s.L⟩ := by
  obtain ⟨v, S, F, hv⟩ := E
  exact ⟨v, A.nv, ⟨S, x.st.foot F (fun k e => x.odR e), x.n0, Nat.le_trans x.nw F.size, x.m0, (F.block A.sb.1 (lt_of_heap x.bx) (fun e => x.noT x.bx (bT_ty _).1 e)).trans x.bx, x.mo, x.good⟩, F.mono (fun _ e => .inl e), hv, MovC.refl _ _⟩
theorem tbk_check (c : Cp) (need : Nat) (w : World) (x : Sv w0 w A p ws s) (hc : c.ok) (hn : need ≤ 255) (hl : s.es.length ≤ 5000000000000) (K : Chk) (hK : chkF ws s.t s.es p s.T c need = K) :
    Calls Tryz.prog 34 #[.pointer (some ⟨A.g, 0, none⟩), c.val, .int .u8 (need : Int)] w fun e w' => e = .returned (.tuple #[.int .i64 (K.k : Int), erN (K.e : Int)]) ∧ SvK w0 w A p ws w' (s.tab K.t K.es s.T) := by
  refine (check_any c need w x.od hc hn hl K hK).mono ?_
  rintro e w1 ⟨rfl, E⟩
  exact ⟨rfl, x.tableK E⟩
theorem tbk_create (vl : Int) (w : World) (x : Sv w0 w A p ws s) (hl : s.es.length ≤ 5000000000000) (R : Cre) (hR : creF ws s.t s.es p s.T vl = R) :
    Calls Tryz.prog 13 #[.pointer (some ⟨A.g, 0, none⟩), .int .i64 vl] w fun e w' => e = .returned (.tuple #[R.c.val, erN (R.e : Int)]) ∧ SvK w0 w A p ws w' (s.tab R.t R.es R.T) := by
  refine (create_any vl w x.od hl R hR).mono ?_
  rintro e w1 ⟨rfl, E⟩
  exact ⟨rfl, x.tableK E⟩
theorem tbk_restrict (c : Cp) (mask : Nat) (w : World) (x : Sv w0 w A p ws s) (hc : c.ok) (hm : mask ≤ 255) (hl : s.es.length < 5000000000000) (R : Cre) (hR : resF ws s.t s.es p s.T c mask = R) :
    Calls Tryz.prog 15 #[.pointer (some ⟨A.g, 0, none⟩), c.val, .int .u8 (mask : Int)] w fun e w' => e = .returned (.tuple #[R.c.val, erN (R.e : Int)]) ∧ SvK w0 w A p ws w' (s.tab R.t R.es R.T) := by
  refine (restrict_any c mask w x.od hc hm hl R hR).mono ?_
  rintro e w1 ⟨rfl, E⟩
  exact ⟨rfl, x.tableK E⟩
theorem tbk_destroy (c : Cp) (w : World) (x : Sv w0 w A p ws s) (hc : c.ok) (hl : s.es.length ≤ 5000000000000) (K : Chk) (hK : chkF ws s.t s.es p s.T c 8 = K) :
    Calls Tryz.prog 39 #[.pointer (some ⟨A.g, 0, none⟩), c.val] w fun e w' => e = .returned (.tuple #[.int .i64 (K.k : Int), .int .i64 (if K.e = 0 then (s.T K.k).v else 0), erN (K.e : Int)]) ∧ SvK w0 w A p ws w' (s.tab K.t K.es (desT s.T K)) := by
  unfold desT
  by_cases h0 : K.e = 0
  · rw [if_pos h0, if_pos h0]
    refine (destroy_yes c w x.od hc hl K hK h0).mono ?_
    rintro e w1 ⟨rfl, E⟩
    exact ⟨by rw [h0]; rfl, x.tableK E⟩
  · rw [if_neg h0, if_neg h0]
    have hk : K.k = 0 := by rw [← hK] at h0 ⊢; exact chk_not h0
    refine (destroy_no c w x.od hc hl K hK h0).mono ?_
    rintro e w1 ⟨rfl, E⟩
    exact ⟨by rw [hk]; rfl, x.tableK E⟩
theorem tokk_res (y : Rw) (w : World) (x : Sv w0 w A p ws s) (hy : y.ok) (h0 : y.c.r &&& (255 - y.m) ≠ 0) (hl : s.es.length ≤ 5000000000000) :
    Calls Tryz.prog 62 #[.pointer (some ⟨A.go, 0, none⟩), y.c.val, .int .u8 (y.m : Int)] w fun e w' => e = .returned (.tuple #[(lookF ws s y).c.val, erN ((lookF ws s y).e : Int)]) ∧ SvK w0 w A p ws w' (lookF ws s y).s := by
  unfold lookF
  rw [if_neg h0]
  by_cases h1 : y.c.r = 255
  · rw [if_pos h1]
    have hv : y.c.val = .agg #[.int .u64 (y.c.p : Int), .int .u32 (y.c.o : Int), .int .u8 255, .int .u64 (y.c.c : Int)] := by unfold Cp.val; rw [h1]; rfl
    rw [hv]
    refine (tres_any w0 _ _ _ _ _ _ _ _ _ _ y.c.p y.c.o y.c.c y.m w x.od.tk hy.2.1.2.2.2 hy.2.2 hl).mono ?_
    rintro e w1 ⟨rfl, E⟩
    have hE := x.tableK (x.od.asked E)
    cases hok : (ofF ws s.t s.es y.c.c y.m).ok with
    | true =>
      rw [if_pos rfl]
      refine ⟨?_, hE⟩
      unfold resV erV; rw [hok]; rfl
    | false =>
      rw [if_neg (by decide)]
      refine ⟨?_, hE⟩
      unfold resV erV; rw [hok]; rfl
  · rw [if_neg h1]
    refine (tres_no _ y.c.p y.c.o y.c.r y.c.c y.m w h1).mono ?_
    rintro e w1 ⟨rfl, b⟩
    exact ⟨rfl, x.stayK.to b⟩
/- deeds on the rows -/
theorem Sv.rowsK (x : Sv w0 w A p ws s) {nv : Int → Value} {n q : Nat} {L : Int → List Rw} (R : Rws w' A.N (rT A.sb.2) A.dv q nv L) (hb : BoxIs w' (A.upd A.v A.dv nv) n) (F : Foot (fun j => j = A.sb.1 ∨ RS A.dv A.nv j) w w') (h3 : MovC w A.nv nv) (hg : ∀ z, Good (L z)) : SvK w0 w A p ws w' ⟨s.t, s.es, s.T, n, q, L⟩ := by
  refine ⟨A.v, nv, ⟨x.od.foot F (fun j e => ⟨(x.up (.inr e)).1, fun h => ?_, fun h => ?_⟩), R, x.n0, Nat.le_trans x.nw F.size, x.m0, hb, x.mo, hg⟩, F.mono (fun _ e => .inr e), Moved.refl _ _, h3⟩
  · rcases e with e | e
    · rw [e] at h; exact x.noT x.bx (bT_ty _).1 h
    · exact x.odR h e
  · obtain ⟨cr, hr⟩ := x.hrow
    rw [h] at e
    exact x.noH hr (.inr e)
theorem Sv.numK (x : Sv w0 w A p ws s) (m : Nat) : SvK w0 w A p ws (w.setCell ⟨A.sb.1, 3, none⟩ (.int .i64 (lastV A.sb.2 m))) ⟨s.t, s.es, s.T, m, s.q, s.L⟩ := by
  have f := foot_set w ⟨A.sb.1, 3, none⟩ (.int .i64 (lastV A.sb.2 m))
  exact x.rowsK (x.st.foot f (fun j (e : j = A.sb.1) h => x.noR x.bx (.inl (bT_rT _ _).symm) (e ▸ h))) (x.bx.put3 m) (f.mono (fun j e => .inl e)) (MovC.refl _ _) x.good
theorem Sv.putK (x : Sv w0 w A p ws s) {z : Int} {q n : Nat} {v : Value} {L : List Rw} {S : Nat → Prop} (f : Foot S w w2) (hS : ∀ j, S j → (A.nv z).ownBlock = some j ∨ A.dv = some j ∨ j = A.sb.1) (hm : MapO w2 A.dv q (updV A.nv z v)) (hr : OwnR (rT A.sb.2) w2 A.N v L) (hv : ∀ r, v.ownBlock = some r → (A.nv z).ownBlock = some r ∨ w.heap.size ≤ r) (hbx : BoxIs w2 (A.upd A.v A.dv (updV A.nv z v)) n) (hg : Good L) : SvK w0 w A p ws w2 ⟨s.t, s.es, s.T, n, q, updL s.L z L⟩ := by
  have hR : Rws w2 A.N (rT A.sb.2) A.dv q (updV A.nv z v) (updL s.L z L) := x.st.put f (fun j hs h => by
    rcases hS j hs with h1 | h1 | h1
    · exact .inl h1
    · exact .inr h1
    · exact absurd (h1 ▸ h) (x.noR x.bx (.inl (bT_rT _ _).symm))) hm hr hv (fun b e => .inl e) x.nw
  refine x.rowsK hR hbx ((Foot.refl _ w).trans f (fun j hs => ?_)) (fun y j e => ?_) (fun y => ?_)
  · rcases hS j hs with h1 | h1 | h1
    · exact .inl (.inr (.inr ⟨z, h1⟩))
    · exact .inl (.inr (.inl h1))
    · exact .inl (.inl h1)
  · by_cases e1 : y = z
    · subst e1; rw [updV_same] at e; exact (hv j e).imp (fun h => ⟨_, h⟩) id
    · rw [updV_other _ _ e1] at e; exact .inl ⟨y, e⟩
  · by_cases e1 : y = z
    · subst e1; rw [updL_same]; exact hg
    · rw [updL_other _ _ e1]; exact x.good y
/- the statement's own types -/
theorem lawTy : RowTy 145 143 := ⟨Tryz.underlying143, by kernel_rfl, fun w => by kernel_rfl, fun w => by kernel_rfl, fun w => by kernel_rfl⟩
theorem lawMap : MapTy 34 143 := ⟨Tryz.underlying34, fun w => by kernel_rfl⟩
theorem Sv.lawR (x : Sv w0 w A p ws s) (h : A.sb.2 = true) (z : Int) : OwnR 145 w A.N (A.nv z) (s.L z) := by
  have := x.st.row z
  rw [h] at this
  exact this
theorem Sv.lookL (x : Sv w0 w A p ws s) {z : Int} (hz : I64 z) : (Instr.lookup 34 (.map A.dv) (.int .i64 z) false).run Tryz.prog w = .ok (A.nv z) w := look_any lawMap x.st.map hz
/- a row made anew is laid into the map -/
theorem lay_step (x : Sv w0 w A p ws s) (h : A.sb.2 = true) {z : Int} (hz : I64 z) {b : Nat} (hb : A.dv = some b) {M : List Rw} {v' : Value} (hO : OwnR 145 w2 A.N v' M) (hB : Below w.heap.size w w2) (hv : ∀ r, v'.ownBlock = some r → w.heap.size ≤ r) (hq : s.q < 5000000000000000) (hg : Good M) :
    ∃ W3, (Instr.mapUpdate 34 (.map A.dv) (.int .i64 z) v').run Tryz.prog w2 = .ok () W3 ∧ w2.cell? ⟨A.sb.1, 2, none⟩ = some (.map A.dv) ∧ W3.cell? ⟨A.sb.1, 2, none⟩ = some (.map A.dv) ∧ SvK w0 w A p ws W3 (s.row z M) := by
  have hqm : s.q < maxLen := by unfold maxLen; omega
  have hmb : MapIs w b s.q A.nv := by have := x.st.map; rw [hb] at this; exact this
  obtain ⟨ma, mc, hmk⟩ := x.st.isMap hb
  have hlb := lt_of_heap hmk
  have hm2 : MapIs w2 b s.q A.nv := hmb.same (hB.block b hlb)
  obtain ⟨W3, h6, h7, h8⟩ := map_store lawMap hm2 hz hqm v'
  have f3 : Foot (fun j => j = b) w W3 := (below_foot _ hB).then h8
  have hbx : ¬ A.sb.1 = b := fun e => x.noR x.bx (.inl (bT_rT _ _).symm) (.inl (by rw [hb, e]))
  have hbl := lt_of_heap x.bx
  have b2 : BoxIs w2 A s.n := (hB.block _ hbl).trans x.bx
  have b3 : BoxIs W3 A s.n := (f3.block _ hbl hbx).trans x.bx
  refine ⟨W3, by rw [hb]; exact h6, b2.c2, b3.c2, x.putK (z := z) f3 (fun j e => .inr (.inl (by rw [hb, e]))) (by rw [hb]; exact h7) ?_ (fun r e => .inr (hv r e)) b3 hg⟩
  rw [h]
  exact owns_foot hO h8 (fun r e1 (e2 : r = b) => by have := hv r e1; omega)
/- a row is forgotten -/
theorem gone_step (x : Sv w0 w A p ws s) (h : A.sb.2 = true) {z : Int} (hz : I64 z) (ty : TypeId) :
    ∃ W3, (Builtin.delete_ #[34, 3] ty #[.map A.dv, .int .i64 z]).run Tryz.prog w = .ok (.tuple #[]) W3 ∧ SvK w0 w A p ws W3 ⟨s.t, s.es, s.T, s.n, s.q, updL s.L z []⟩ := by
  obtain ⟨W3, h1, h2, h3⟩ := del_any lawMap x.st.map hz ty
  have hbl := lt_of_heap x.bx
  have hbx : ¬ A.dv = some A.sb.1 := fun e => x.noR x.bx (.inl (bT_rT _ _).symm) (.inl e)
  refine ⟨W3, h1, x.putK (z := z) h3 (fun j e => .inr (.inl e)) h2 ?_ (fun r e => by cases e) ((h3.block _ hbl hbx).trans x.bx) good_nil⟩
  rw [h]
  exact own_nilR _ _ _
/- a capability's variable -/
theorem CBI.put {b : Nat} {q1 q2 q3 q4 : Int} (h : CBI w b q1 q2 q3 q4) (x1 x2 x3 x4 : Int) : CBI ((((w.setCell ⟨b, 0, none⟩ (.int .u64 x1)).setCell ⟨b, 1, none⟩ (.int .u32 x2)).setCell ⟨b, 2, none⟩ (.int .u8 x3)).setCell ⟨b, 3, none⟩ (.int .u64 x4)) b x1 x2 x3 x4 := by
  have h1 := heap_setCell_same w b 0 _ _ (.int .u64 x1) h
  have h2 := heap_setCell_same _ b 1 _ _ (.int .u32 x2) h1
  have h3 := heap_setCell_same _ b 2 _ _ (.int .u8 x3) h2
  exact heap_setCell_same _ b 3 _ _ (.int .u64 x4) h3
theorem foot_cap4 (w : World) (b : Nat) (x1 x2 x3 x4 : Int) : Foot (fun j => j = b) w ((((w.setCell ⟨b, 0, none⟩ (.int .u64 x1)).setCell ⟨b, 1, none⟩ (.int .u32 x2)).setCell ⟨b, 2, none⟩ (.int .u8 x3)).setCell ⟨b, 3, none⟩ (.int .u64 x4)) :=
  ((((Foot.refl _ w).put _ _).put _ _).put _ _).put _ _
theorem CBI.z' {b : Nat} {q1 q2 q3 q4 : Int} (h : CBI w b q1 q2 q3 q4) (j : Nat) : w.frozen? ⟨b, j, none⟩ = false := frozen_of_row w b j _ _ h
theorem CBI.foot {b : Nat} {q1 q2 q3 q4 : Int} {S : Nat → Prop} (h : CBI w b q1 q2 q3 q4) (f : Foot S w w') (hS : ¬ S b) : CBI w' b q1 q2 q3 q4 := (f.block b (lt_of_heap h) hS).trans h
end
end Go.Proofs.YtlmnnjibggdboaaGreatDoor
namespace Go.Proofs.YtlmnnjibggdboaaGreatDoor
section
open Go.RowKit
variable {w0 w w1 w2 w' : World} {A A' : Ad} {p : Nat} {ws : List Nat} {s s' s1 s2 : Hs} {r g B : Nat} {L : List Rw}
def MdoEnd (w0 w : World) (A : Ad) (p : Nat) (ws : List Nat) (R : Ro) (e : Ending) (w' : World) : Prop :=
  ∃ co n cc, e = .returned (.tuple #[R.c.val, .slice co n cc, erN (R.e : Int)]) ∧ Bts w' co n cc R.d ∧ New w co ∧ n ≤ 4096 ∧ SvK w0 w A p ws w' R.s
theorem mdo_bad {e : Nat} {ve : Value} (hv : erN (e : Int) = ve) (E : SvK w0 w A p ws w' s1) : MdoEnd w0 w A p ws (badF s1 e) (.returned (.tuple #[.agg #[.int .u64 0, .int .u32 0, .int .u8 0, .int .u64 0], .slice none 0 0, ve])) w' :=
  ⟨none, 0, 0, by rw [← hv]; rfl, bts_nil _, new_none _, by omega, E⟩
theorem mdo_vars (w : World) (m : Msg) (D : Value) : ∃ X, (w.alloc (.cells #[.int .u64 m.ta, .int .u64 m.rp, .int .u32 m.id, .int .u16 m.op, .int .u16 m.st, .int .u64 m.p, .int .u32 m.o, .int .u8 m.r, .int .u64 m.c, .int .u64 m.ar, D] 55)).alloc (.cells #[.int .u64 0, .int .u32 0, .int .u8 0, .int .u64 0] 40) = X ∧ MB X w.heap.size m D ∧ CBI X (w.heap.size + 1) 0 0 0 0 ∧ Below w.heap.size w X := by
  have b1 := below_alloc w (.cells #[.int .u64 m.ta, .int .u64 m.rp, .int .u32 m.id, .int .u16 m.op, .int .u16 m.st, .int .u64 m.p, .int .u32 m.o, .int .u8 m.r, .int .u64 m.c, .int .u64 m.ar, D] 55)
  have b2 := below_alloc (w.alloc (.cells #[.int .u64 m.ta, .int .u64 m.rp, .int .u32 m.id, .int .u16 m.op, .int .u16 m.st, .int .u64 m.p, .int .u32 m.o, .int .u8 m.r, .int .u64 m.c, .int .u64 m.ar, D] 55)) (.cells #[.int .u64 0, .int .u32 0, .int .u8 0, .int .u64 0] 40)
  refine ⟨_, rfl, (mb_new w m D).grow b2, ?_, below_one b1 b2⟩
  have h := CBI.new (w.alloc (.cells #[.int .u64 m.ta, .int .u64 m.rp, .int .u32 m.id, .int .u16 m.op, .int .u16 m.st, .int .u64 m.p, .int .u32 m.o, .int .u8 m.r, .int .u64 m.c, .int .u64 m.ar, D] 55)) 0 0 0 0
  rw [sz1] at h
  exact h
/- a row of the statement's in a variable -/
def RwL (w : World) (g : Nat) (y : Rw) : Prop := w.heap[g]? = some (.cells #[.string (str y.n), .int .u64 (y.c.p : Int), .int .u32 (y.c.o : Int), .int .u8 (y.c.r : Int), .int .u64 (y.c.c : Int), .int .u8 (y.m : Int)] 145 (0, 0))
theorem RwL.all {y : Rw} (h : RwL w g y) : w.cell? ⟨g, 0, none⟩ = some (.string (str y.n)) ∧ w.cell? ⟨g, 1, none⟩ = some (.int .u64 (y.c.p : Int)) ∧ w.cell? ⟨g, 2, none⟩ = some (.int .u32 (y.c.o : Int)) ∧ w.cell? ⟨g, 3, none⟩ = some (.int .u8 (y.c.r : Int)) ∧ w.cell? ⟨g, 4, none⟩ = some (.int .u64 (y.c.c : Int)) ∧ w.cell? ⟨g, 5, none⟩ = some (.int .u8 (y.m : Int)) := by
  refine ⟨?_, ?_, ?_, ?_, ?_, ?_⟩ <;> (rw [cell_of_row w g _ _ _ _ h]; rfl)
theorem RwL.z {y : Rw} (h : RwL w g y) (j : Nat) : w.frozen? ⟨g, j, none⟩ = false := frozen_of_row w g j _ _ h
theorem RwL.grow {y : Rw} (h : RwL w g y) (b : Below w.heap.size w w') : RwL w' g y := (b.block g (lt_of_heap h)).trans h
theorem RwL.dr {y : Rw} (h : RwL w g y) : RwL w.drew g y := h
theorem RwL.foot {y : Rw} {S : Nat → Prop} (h : RwL w g y) (f : Foot S w w') (hS : ¬ S g) : RwL w' g y := (f.block g (lt_of_heap h) hS).trans h
theorem RwL.five {y : Rw} (h : RwL w g y) : w.cell? ⟨g, 1, none⟩ = some (.int .u64 (y.c.p : Int)) ∧ w.cell? ⟨g, 2, none⟩ = some (.int .u32 (y.c.o : Int)) ∧ w.cell? ⟨g, 3, none⟩ = some (.int .u8 (y.c.r : Int)) ∧ w.cell? ⟨g, 4, none⟩ = some (.int .u64 (y.c.c : Int)) ∧ w.cell? ⟨g, 5, none⟩ = some (.int .u8 (y.m : Int)) := h.all.2
theorem rwl_new (w : World) (y : Rw) : RwL (w.alloc (.cells #[.string (str y.n), .int .u64 (y.c.p : Int), .int .u32 (y.c.o : Int), .int .u8 (y.c.r : Int), .int .u64 (y.c.c : Int), .int .u8 (y.m : Int)] 145)) w.heap.size y := heap_alloc_new _ _
/- a copy of a row -/
theorem copy_any {v : Value} (h : OwnR 145 w B v L) (hn : L.length ≤ 64) (hB : B ≤ w.heap.size) (ty : TypeId) :
    ∃ v' w', (Builtin.append_ #[143, 143] ty #[.slice none 0 0, v]).run Tryz.prog w = .ok v' w' ∧ OwnR 145 w' B v' L ∧ Below w.heap.size w w' ∧ ∀ j, v'.ownBlock = some j → w.heap.size ≤ j := by
  obtain ⟨i0, hi0, hz0, hz1, hz2⟩ := info_parts lawTy.info
  rcases h.2 with ⟨rfl, h0⟩ | ⟨b, cap, cur, rfl, h1, h2, h3, h4, h5, h6⟩
  · obtain rfl : L = [] := List.length_eq_zero_iff.1 h0
    exact ⟨_, w, run_append_owned_none (P := Tryz.prog) w w.heap.size 143 ty 145 i0 6 lawTy.und hi0 (.slice none 0 0) 0 [] (owns_nil w w.heap.size 145 6), own_nilR _ _ _, Below.refl _ _, fun j e => by cases e⟩
  · obtain ⟨v1, w1, r1, o1, g1, -, m1⟩ := run_append_own_at (P := Tryz.prog) w w.heap.size 143 ty 145 i0 _ 6 48 lawTy.und hi0 hz0 hz1 hz2 rfl (by omega) (.slice none 0 0) 0 [] (owns_nil w w.heap.size 145 6) ⟨b, 0, none⟩ L.length cap (cellsR L) (cellsR_len L) (fun j u e => by
      have := World.ownsRow.cells h (g := b) rfl j _ e
      rw [← this, Addr.add_lit, Nat.zero_add]) (cellsR_one L) (by unfold maxLen; omega) (by omega) (Nat.le_refl _)
    refine ⟨v1, w1, r1, ?_, (Below.refl _ _).grown g1 (Nat.le_refl _) (fun k e => by cases e), fun j e => ?_⟩
    · show World.ownsRow _ _ _ _ _ _ _
      rw [Nat.zero_add, List.nil_append] at o1
      exact owns_le o1 hB
    · rcases m1 with m1 | m1
      · rw [m1] at e; cases e
      · rw [m1] at e; cases e; exact Nat.le_refl _
theorem cre_zero' {t : Nat} {es : List Ent} {T : Nat → Ob} {v : Int} (h : (creF ws t es p T v).e ≠ 0) : (creF ws t es p T v).c = Cp.zero := by
  revert h
  unfold creF
  repeat' split
  · intro h; exact absurd rfl h
  · intro _; rfl
  · intro _; rfl
/- a mask that lets all through -/
theorem mask_all (r m : Nat) (hr : r ≤ 255) (hm : m ≤ 255) : (r &&& (255 - m) = 0) ↔ (r &&& m = r) := by
  have e : 255 - m = 2 ^ 8 - (m + 1) := by omega
  constructor
  · intro h
    refine Nat.eq_of_testBit_eq fun i => ?_
    have h1 := congrArg (fun x => Nat.testBit x i) h
    simp only [Nat.testBit_and, Nat.zero_testBit, e, Nat.testBit_two_pow_sub_succ (show m < 2 ^ 8 by omega)] at h1
    rw [Nat.testBit_and]
    cases hri : r.testBit i with
    | false => rfl
    | true =>
      have hi : i < 8 := by
        rcases Nat.lt_or_ge i 8 with h | h
        · exact h
        · rw [Nat.testBit_lt_two_pow (Nat.lt_of_lt_of_le (show r < 2 ^ 8 by omega) (Nat.pow_le_pow_right (by omega) h))] at hri; cases hri
      simpa [hri, hi] using h1
  · intro h
    refine Nat.eq_of_testBit_eq fun i => ?_
    have h1 := congrArg (fun x => Nat.testBit x i) h
    simp only [Nat.testBit_and] at h1
    simp only [Nat.testBit_and, Nat.zero_testBit, e, Nat.testBit_two_pow_sub_succ (show m < 2 ^ 8 by omega)]
    cases hri : r.testBit i with
    | false => rfl
    | true => rw [hri] at h1; simp at h1; simp [h1]
/- what is behind a name -/
theorem cut_rest {so : Option Addr} {sn sc : Nat} {l : List UInt8} (hb : Bts w so sn sc l) (hyes : hasNm l = true) (k : Nat) (hk : 2 + nmN l = k) :
    ∃ a2 n2 c2, (∀ W : World, (Instr.slice 23 (.slice so sn sc) (some (.int .i64 (k : Int))) none none).run Tryz.prog W = .ok (.slice a2 n2 c2) W) ∧ Bts w a2 n2 c2 (restOf l) := by
  have hN : (2 ≤ l.length ∧ 2 + nmN l ≤ l.length) ∧ 1 ≤ nmN l ∧ nmN l ≤ 32 := of_decide_eq_true hyes
  have hl := hb.1
  have hcc : sn ≤ sc := hb.2.1
  have hcm : sc ≤ 9223372036854775807 := hb.2.2.1
  cases so with
  | none => obtain ⟨rfl, rfl⟩ := hb.none rfl; omega
  | some ad =>
    refine ⟨if sc = k then some ad else some (ad.add k), sn - k, sc - k, fun W => ?_, ?_⟩
    · have e : Tryz.prog.elem 23 = 5 := by simp [Program.elem, Tryz.underlying23]
      have hs : ∀ w : World, (sizeOf 5).run Tryz.prog w = .ok 1 w := fun w => by kernel_rfl
      rw [run_slice_l (P := Tryz.prog) W 23 (some ad) sn sc (by rw [e]; exact Tryz.underlying23) .i64 (k : Int) (by omega) (by omega), e, hs]
      simp [Result.andThen, sliced]
    · unfold restOf
      by_cases e : sc = k
      · rw [if_pos e]
        have : l.drop (2 + nmN l) = [] := List.drop_eq_nil_of_le (by omega)
        rw [this]
        exact ⟨by rw [List.length_nil]; omega, by omega, by omega, (fun e => by cases e), fun _ _ j hj => by simp at hj⟩
      · rw [if_neg e]
        have h := hb.add k (sn - k) (Nat.le_refl _)
        rw [show (l.drop k).take (sn - k) = l.drop (2 + nmN l) from by rw [List.take_of_length_le (by rw [List.length_drop]; omega), ← hk]] at h
        exact h
end
end Go.Proofs.YtlmnnjibggdboaaGreatDoor
namespace Go.Proofs.YtlmnnjibggdboaaGreatDoor
section
open Go.RowKit
theorem rplb (m : Msg) (s : Hs) (e : Nat) : rplF m (badF s e) = ⟨m.rp, m.ta, m.id, m.op, e, 0, 0, 0, 0, 0⟩ := by
  unfold rplF badF
  split
  · rename_i h; rw [show e = 0 from h]; rfl
  · rfl
theorem dat_bad (s : Hs) (e : Nat) (l : List UInt8) : datF (badF s e) l = [] := by
  unfold datF badF; split <;> rfl
theorem Dat.up {N N' sn : Nat} {w : World} {so : Option Addr} (h : Dat N w sn so) (hN : N ≤ N') : Dat N' w sn so := fun hp ad e => by
  rcases h hp ad e with h | h
  · exact .inl (by omega)
  · exact .inr h
def RplK (w0 w : World) (A : Ad) (p : Nat) (ws : List Nat) (m : Msg) (R : Ro) (l : List UInt8) (e : Ending) (w' : World) : Prop := ∃ m2 co n cc, m2 = rplF m R ∧ e = .returned (.agg #[.int .u64 m2.ta, .int .u64 m2.rp, .int .u32 m2.id, .int .u16 m2.op, .int .u16 m2.st, .int .u64 m2.p, .int .u32 m2.o, .int .u8 m2.r, .int .u64 m2.c, .int .u64 m2.ar, .slice co n cc]) ∧ Bts w' co n cc (datF R l) ∧ (datF R l = [] ∨ New w co ∧ Typ8 w' co) ∧ SvK w0 w A p ws w' R.s
theorem look_ar' {ws : List Nat} {s : Hs} (y : Rw) : (lookF ws s y).ar = 0 := (look_ar y).1
theorem do_ar (ws : List Nat) (p : Nat) (s : Hs) (op : Nat) (z : Int) (ar : Nat) (l : List UInt8) : (doF ws p s op z ar l).ar = 0 := by
  unfold doF mkF nameF entF
  repeat' split
  all_goals first | rfl | exact look_ar' _
set_option maxHeartbeats 1600000 in
theorem wfail_any (m : Msg) (D : Value) (e : Nat) (w : World) {gm : Nat} (hM : MB w gm m D) (he : e ≤ 65535) (hg : Glob w) (m2 : Msg) (h2 : (⟨m.rp, m.ta, m.id, m.op, e, 0, 0, 0, 0, 0⟩ : Msg) = m2) :
    Calls Tryz.prog 38 #[erN (e : Int), .pointer (some ⟨gm, 0, none⟩)] w fun e w' => ∃ co cc, e = .returned (.agg #[.int .u64 m2.ta, .int .u64 m2.rp, .int .u32 m2.id, .int .u16 m2.op, .int .u16 m2.st, .int .u64 m2.p, .int .u32 m2.o, .int .u8 m2.r, .int .u64 m2.c, .int .u64 m2.ar, .slice co 0 cc]) ∧ Bts w' co 0 cc [] ∧ Below w.heap.size w w' := by
  obtain ⟨er, her⟩ : ∃ er, erN (e : Int) = er := ⟨_, rfl⟩
  have hf := srv_fault m D e
  rw [her] at hf ⊢
  have HF := hide hf
  have HM := hide hM
  have HG := hide hg
  have HEL := hide he
  have H2 := hide h2
  obtain ⟨X, hX⟩ : ∃ X, w.alloc (.cells #[.int .u64 0, .int .u64 0, .int .u32 0, .int .u16 0, .int .u16 0, .int .u64 0, .int .u32 0, .int .u8 0, .int .u64 0, .int .u64 0, .slice none 0 0] 55) = X := ⟨_, rfl⟩
  have bX : Below w.heap.size w X := hX ▸ below_alloc _ _
  have HZ : Hid (MB X w.heap.size Msg.zero (.slice none 0 0)) := hX ▸ mb_new w Msg.zero _
  have HB := hide bX
  have HMX := hide (HM.out.grow bX)
  have HGX := hide (HG.out.carry bX)
  obtain ⟨k0, k1, k2, k3, k4, k5, k6, k7, k8, k9, k10⟩ := HMX.out.all
  clear hf hM hg he h2 bX her
  go_enter Tryz.func38, Tryz.ntmps38
  go_wp2_with fail
  refine (HF.out _ HEL.out HGX.out m2 H2.out).mono ?_; rintro e w6 ⟨co2, cc2, rfl, B6, b6⟩
  have HB6 := hide B6
  have HZ6 := hide (HZ.out.grow b6)
  have HBX6 := hide (below_one HB.out b6)
  clear B6 b6 k0 k1 k2 k3 k4 k5 k6 k7 k8 k9 k10
  have HZL := hide (HZ6.out.lay (m := m2) (D := .slice co2 0 cc2))
  have HB7 : Hid (Below w.heap.size w (lay11 w6 w.heap.size m2 (.slice co2 0 cc2))) := (((below_foot (fun j => w.heap.size ≤ j) HBX6.out).trans (foot_lay11 w6 w.heap.size m2 (.slice co2 0 cc2)) (fun j (e : j = _) => .inl (by show w.heap.size ≤ j; omega))).below (Nat.le_refl _) (fun k e => e))
  have HD7 : Hid (Bts (lay11 w6 w.heap.size m2 (.slice co2 0 cc2)) co2 0 cc2 []) := bts_none HB6.out
  obtain ⟨w7, hw7⟩ : ∃ w7, lay11 w6 w.heap.size m2 (.slice co2 0 cc2) = w7 := ⟨_, rfl⟩
  rw [hw7] at HZL HB7 HD7
  unfold lay11 at hw7
  obtain ⟨v0, v1, v2, v3, v4, v5, v6, v7, v8, v9, v10⟩ := HZL.out.all
  obtain ⟨z0, z1, z2, z3, z4, z5, z6, z7, z8, z9, z10⟩ := HZ6.out.all
  have x0 := HZ6.out.z 0
  have x1 := HZ6.out.z 1
  have x2 := HZ6.out.z 2
  have x3 := HZ6.out.z 3
  have x4 := HZ6.out.z 4
  have x5 := HZ6.out.z 5
  have x6 := HZ6.out.z 6
  have x7 := HZ6.out.z 7
  have x8 := HZ6.out.z 8
  have x9 := HZ6.out.z 9
  have x10 := HZ6.out.z 10
  go_wp2
  refine bodyPost_ret (by simp [results, Tryz.results38, go_sem, v0, v1, v2, v3, v4, v5, v6, v7, v8, v9, v10]; rfl) rfl ?_
  exact ⟨co2, cc2, rfl, HD7.out, HB7.out⟩
end
end Go.Proofs.YtlmnnjibggdboaaGreatDoor
namespace Go.Proofs.YtlmnnjibggdboaaGreatDoor
section
open Go.RowKit
variable {w0 w w1 w2 w' : World}
structure Ac where
  o : Nat
  wh : Nat
  nm : Nat
  p : Nat
  po : Nat
  r : Nat
  c : Nat
  ow : Bool
  a : Nat
  so : Option Addr
  sn : Nat
  sc : Nat
  l : List UInt8
def Ac.ok (x : Ac) : Prop := (x.o ≤ 255 ∧ x.wh ≤ 255 ∧ x.nm ≤ 255) ∧ (x.p ≤ 18446744073709551615 ∧ x.po ≤ 4294967295 ∧ x.r ≤ 255 ∧ x.c ≤ 18446744073709551615) ∧ x.a ≤ 65535
def AB (w : World) (g : Nat) (x : Ac) : Prop := w.heap[g]? = some (.cells #[.int .u8 (x.o : Int), .int .u8 (x.wh : Int), .int .u8 (x.nm : Int), .int .u64 (x.p : Int), .int .u32 (x.po : Int), .int .u8 (x.r : Int), .int .u64 (x.c : Int), .bool x.ow, .int .u16 (x.a : Int), .slice x.so x.sn x.sc] 53 (0, 0))
theorem AB.new (w : World) (x : Ac) : AB (w.alloc (.cells #[.int .u8 (x.o : Int), .int .u8 (x.wh : Int), .int .u8 (x.nm : Int), .int .u64 (x.p : Int), .int .u32 (x.po : Int), .int .u8 (x.r : Int), .int .u64 (x.c : Int), .bool x.ow, .int .u16 (x.a : Int), .slice x.so x.sn x.sc] 53)) w.heap.size x := heap_alloc_new _ _
theorem AB.grow {g : Nat} {x : Ac} (h : AB w g x) (b : Below w.heap.size w w') : AB w' g x := (b.block g (lt_of_heap h)).trans h
theorem AB.foot {g : Nat} {x : Ac} {S : Nat → Prop} (h : AB w g x) (f : Foot S w w') (hS : ¬ S g) : AB w' g x := (f.block g (lt_of_heap h) hS).trans h
theorem AB.all {g : Nat} {x : Ac} (h : AB w g x) : w.cell? ⟨g, 0, none⟩ = some (.int .u8 (x.o : Int)) ∧ w.cell? ⟨g, 1, none⟩ = some (.int .u8 (x.wh : Int)) ∧ w.cell? ⟨g, 2, none⟩ = some (.int .u8 (x.nm : Int)) ∧ w.cell? ⟨g, 3, none⟩ = some (.int .u64 (x.p : Int)) ∧ w.cell? ⟨g, 4, none⟩ = some (.int .u32 (x.po : Int)) ∧ w.cell? ⟨g, 5, none⟩ = some (.int .u8 (x.r : Int)) ∧ w.cell? ⟨g, 6, none⟩ = some (.int .u64 (x.c : Int)) ∧ w.cell? ⟨g, 7, none⟩ = some (.bool x.ow) ∧ w.cell? ⟨g, 8, none⟩ = some (.int .u16 (x.a : Int)) ∧ w.cell? ⟨g, 9, none⟩ = some (.slice x.so x.sn x.sc) := by
  refine ⟨?_, ?_, ?_, ?_, ?_, ?_, ?_, ?_, ?_, ?_⟩ <;> (rw [cell_of_row w g _ _ _ _ h]; rfl)
theorem MB.put3 {g : Nat} {m : Msg} {D : Value} (h : MB w g m D) (o : Nat) : MB (w.setCell ⟨g, 3, none⟩ (.int .u16 (o : Int))) g ⟨m.ta, m.rp, m.id, o, m.st, m.p, m.o, m.r, m.c, m.ar⟩ D := by
  have h1 := heap_setCell_same w g 3 _ _ (.int .u16 (o : Int)) h
  unfold MB
  rw [h1]
  simp
theorem foot_one (w : World) (g o : Nat) (v : Value) : Foot (fun j => j = g) w (w.setCell ⟨g, o, none⟩ v) := (Foot.refl _ w).put _ _
/- the names -/
theorem name_at (w : World) (k : Nat) (hk : k < 8) : ∃ nm : List UInt8, nm.length ≤ 33 ∧ (w.alloc (.cells #[.string { data := #[97] }, .string { data := #[98, 99] }, .string { data := #[] }, .string { data := #[100] }, .string { data := #[101] }, .string { data := #[48, 49, 50, 51, 52, 53, 54, 55, 56, 57, 48, 49, 50, 51, 52, 53, 54, 55, 56, 57, 48, 49, 50, 51, 52, 53, 54, 55, 56, 57, 48, 120] }, .string { data := #[48, 49, 50, 51, 52, 53, 54, 55, 56, 57, 48, 49, 50, 51, 52, 53, 54, 55, 56, 57, 48, 49, 50, 51, 52, 53, 54, 55, 56, 57, 48, 120, 121] }, .string { data := #[102] }] 9)).cell? ⟨w.heap.size, k, none⟩ = some (.string (str nm)) := by
  rcases k with _ | _ | _ | _ | _ | _ | _ | _ | k
  · exact ⟨[97], by decide, by rw [cell_of_row _ _ _ _ _ _ (heap_alloc_new _ _)]; rfl⟩
  · exact ⟨[98, 99], by decide, by rw [cell_of_row _ _ _ _ _ _ (heap_alloc_new _ _)]; rfl⟩
  · exact ⟨[], by decide, by rw [cell_of_row _ _ _ _ _ _ (heap_alloc_new _ _)]; rfl⟩
  · exact ⟨[100], by decide, by rw [cell_of_row _ _ _ _ _ _ (heap_alloc_new _ _)]; rfl⟩
  · exact ⟨[101], by decide, by rw [cell_of_row _ _ _ _ _ _ (heap_alloc_new _ _)]; rfl⟩
  · exact ⟨[48, 49, 50, 51, 52, 53, 54, 55, 56, 57, 48, 49, 50, 51, 52, 53, 54, 55, 56, 57, 48, 49, 50, 51, 52, 53, 54, 55, 56, 57, 48, 120], by decide, by rw [cell_of_row _ _ _ _ _ _ (heap_alloc_new _ _)]; rfl⟩
  · exact ⟨[48, 49, 50, 51, 52, 53, 54, 55, 56, 57, 48, 49, 50, 51, 52, 53, 54, 55, 56, 57, 48, 49, 50, 51, 52, 53, 54, 55, 56, 57, 48, 120, 121], by decide, by rw [cell_of_row _ _ _ _ _ _ (heap_alloc_new _ _)]; rfl⟩
  · exact ⟨[102], by decide, by rw [cell_of_row _ _ _ _ _ _ (heap_alloc_new _ _)]; rfl⟩
  · omega
/- bytes behind a row of one's own, as many as a machine can hold -/
theorem app_tail9 {B n : Nat} {v : Value} {l b : List UInt8} {bo : Option Addr} {bn bc : Nat} (h : w.ownsRow B 5 1 v n (cellsB l)) (hb : Bts w bo bn bc b) (hn : n + bn ≤ 140737488355328) (hB : B ≤ w.heap.size) :
    ∃ v' w', (Builtin.append_ #[23, 23] 23 #[v, .slice bo bn bc]).run Tryz.prog w = .ok v' w' ∧ w'.ownsRow B 5 1 v' (n + bn) (cellsB (l ++ b)) ∧ Foot (fun k => v.ownBlock = some k) w w' := by
  obtain ⟨i0, hi, hz0, hz1, hz2⟩ := info_parts Tryz.info5
  cases bo with
  | none =>
    obtain ⟨rfl, rfl⟩ := hb.none rfl
    obtain rfl : b = [] := List.eq_nil_of_length_eq_zero hb.1.symm
    exact ⟨v, w, run_append_owned_none (P := Tryz.prog) w B 23 23 5 i0 1 Tryz.underlying23 hi v n _ h, by rw [List.append_nil]; exact h, Foot.refl _ _⟩
  | some ad =>
    obtain ⟨v', w', hr, h2, h3, _, _⟩ := run_append_own_at (P := Tryz.prog) w B 23 23 5 i0 _ 1 1 Tryz.underlying23 hi hz0 hz1 hz2 rfl (by omega) v n _ h ad bn bc (cellsB b) (by rw [cellsB_len]; have := hb.1; omega) (hb.news ad rfl) (cellsB_one b) (by unfold maxLen; omega) (by omega) hB
    exact ⟨v', w', hr, by rw [cellsB_append]; exact h2, foot_grown h3⟩
set_option maxRecDepth 20000 in
set_option maxHeartbeats 3200000 in
theorem req_big (op : Nat) (c : Cp) (ar : Nat) (nm : List UInt8) (bo : Option Addr) (bn bc : Nat) (b : List UInt8) (w : World) (hb : Bts w bo bn bc b) (hn : nm.length ≤ 1000) (hbn : bn ≤ 140737488351232) (m2 : Msg) (hm2 : (⟨0, 0, 0, op, 0, c.p, c.o, c.r, c.c, ar⟩ : Msg) = m2) (oi : Int) (hoi : oi = (op : Int)) :
    Calls Tryz.prog 22 #[.int .u16 oi, .agg #[.int .u64 (c.p : Int), .int .u32 (c.o : Int), .int .u8 (c.r : Int), .int .u64 (c.c : Int)], .int .u64 (ar : Int), .string (str nm), .slice bo bn bc] w fun e w' => ∃ co n cc, e = .returned (.agg #[.int .u64 m2.ta, .int .u64 m2.rp, .int .u32 m2.id, .int .u16 m2.op, .int .u16 m2.st, .int .u64 m2.p, .int .u32 m2.o, .int .u8 m2.r, .int .u64 m2.c, .int .u64 m2.ar, .slice co n cc]) ∧ Bts w' co n cc (putF nm.length 2 ++ nm ++ b) ∧ New w co ∧ Typ8 w' co ∧ n = 2 + nm.length + bn ∧ Below w.heap.size w w' := by
  subst hoi
  obtain ⟨X, hX, cX, mX, bX⟩ := req_vars w c
  have HC := hide cX
  have HM := hide mX
  have HBX := hide bX
  have HB := hide (hb.carry bX)
  have HM2 := hide hm2
  have HLT : Hid (w.heap.size + 1 < X.heap.size) := lt_of_heap mX
  obtain ⟨yc, X2, hcv, B2, b2⟩ := str_bytes nm X (by omega)
  have HB2 := hide B2
  have HBX2 := hide b2
  obtain ⟨ln, hln⟩ : ∃ ln, nm.length = ln := ⟨_, rfl⟩
  have HLN := hide hln
  rw [hln] at hcv hn
  rw [hln]
  rw [hln] at HB2
  obtain ⟨ss, hss⟩ : ∃ ss, str nm = ss := ⟨_, rfl⟩
  rw [hss] at hcv
  rw [hss]
  clear cX mX bX hb hm2 B2 b2 hln hss
  go_enter Tryz.func22, Tryz.ntmps22
  go_wp2_with fail
  refine (putBytes_row _ ln yc nm _ HB2.out (by omega)).mono ?_; rintro e w3 ⟨v, rfl, O3, b3⟩
  have b23 := below_one HBX2.out b3
  have HO3 : Hid (w3.drew.ownsRow X2.heap.size 5 1 v (2 + ln) (cellsB (putF ln 2 ++ nm))) := O3
  have HB3 : Hid (Bts w3.drew bo bn bc b) := HB.out.carry b23.drew
  have HB03 := hide (below_one HBX.out b23)
  have HC3 : Hid (CBox w3.drew w.heap.size c.p c.o c.r c.c) := HC.out.grow b23.drew
  have HM3 : Hid (MB w3.drew (w.heap.size + 1) Msg.zero (.slice none 0 0)) := HM.out.grow b23.drew
  have HX23 : Hid (X.heap.size ≤ X2.heap.size) := HBX2.out.size
  have HX33 : Hid (X2.heap.size ≤ w3.heap.size) := b3.size
  obtain ⟨v4, w4, hr4, O4, F4⟩ := app_tail9 HO3.out HB3.out (by omega) b3.size
  have hown : ∀ j, v.ownBlock = some j → X2.heap.size ≤ j := fun j e => (owns_block HO3.out e).choose_spec.2
  have HB34 : Hid (Below X2.heap.size w3 w4) := ((Foot.refl _ w3).drewN 1 |>.then F4).below b3.size hown
  have HR4 := hide hr4
  obtain ⟨co, cc, rfl, hb4⟩ := owns_bts O4
  rw [List.append_assoc] at hb4
  have HB4 : Hid (Bts w4 co (2 + ln + bn) cc (putF ln 2 ++ nm ++ b)) := by rw [List.append_assoc]; exact hb4
  have HNW : Hid (New X2 co) := owns_new8 O4 (Nat.le_refl _)
  have HT4 : Hid (Typ8 w4 co) := fun ad e => by
    obtain ⟨cur, h1, _⟩ := owns_block O4 (r := ad.block) (by rw [e]; rfl)
    exact ⟨cur, h1⟩
  have far : ∀ j, j < X2.heap.size → w4.heap[j]? = w3.heap[j]? := fun j hj => HB34.out.block j hj
  have HC4 : Hid (CBox w4 w.heap.size c.p c.o c.r c.c) := (far _ (by have := HLT.out; have := HX23.out; omega)).trans HC3.out
  have HM4 : Hid (MB w4 (w.heap.size + 1) Msg.zero (.slice none 0 0)) := (far _ (by have := HLT.out; have := HX23.out; omega)).trans HM3.out
  have HZL := hide (HM4.out.lay (m := m2) (D := .slice co (2 + ln + bn) cc))
  have f5 := foot_lay11 w4 (w.heap.size + 1) m2 (.slice co (2 + ln + bn) cc)
  have HC5 := hide (show CBox _ w.heap.size c.p c.o c.r c.c from (f5.block _ (lt_of_heap HC4.out) (fun (e : w.heap.size = w.heap.size + 1) => by omega)).trans HC4.out)
  have HB5 := hide (Bts.foot HB4.out f5 (fun ad e _ (h : ad.block = w.heap.size + 1) => by have := HNW.out ad e; have := HLT.out; have := HX23.out; omega))
  have HT5 := hide (HT4.out.foot f5 (fun ad e (h : ad.block = w.heap.size + 1) => by have := HNW.out ad e; have := HLT.out; have := HX23.out; omega))
  have HBL5 := hide ((below_one HB03.out (Below.refl _ _)).trans ((HB34.out.mono (by have := HBX.out.size; have := HX23.out; omega)).trans (f5.below (by have := HB34.out.size; have := HX33.out; have := HX23.out; have := HBX.out.size; omega) (fun k (e : k = _) => by omega))))
  obtain ⟨w5, hw5⟩ : ∃ w5, lay11 w4 (w.heap.size + 1) m2 (.slice co (2 + ln + bn) cc) = w5 := ⟨_, rfl⟩
  rw [hw5] at HZL HC5 HB5 HT5 HBL5
  unfold lay11 at hw5
  rw [← HM2.out] at hw5
  simp only [show (((0 : Nat)) : Int) = 0 from rfl] at hw5
  obtain ⟨n5, hn5⟩ : ∃ q, 2 + ln + bn = q := ⟨_, rfl⟩
  rw [hn5] at HB5 HR4 hw5 HZL
  have HN5 := hide hn5
  have HSa : Hid (w3.drew.cell? ⟨w.heap.size, 0, none⟩ = some (.int .u64 (c.p : Int)) ∧ w3.drew.cell? ⟨w.heap.size, 1, none⟩ = some (.int .u32 (c.o : Int)) ∧ w3.drew.cell? ⟨w.heap.size, 2, none⟩ = some (.int .u8 (c.r : Int)) ∧ w3.drew.cell? ⟨w.heap.size, 3, none⟩ = some (.int .u64 (c.c : Int))) := ⟨HC3.out.c0, HC3.out.c1, HC3.out.c2, HC3.out.c3⟩
  obtain ⟨z0, z1, z2, z3, z4, z5, z6, z7, z8, z9, z10⟩ := HM4.out.all
  have x0 := HM4.out.z 0
  have x1 := HM4.out.z 1
  have x2 := HM4.out.z 2
  have x3 := HM4.out.z 3
  have x4 := HM4.out.z 4
  have x5 := HM4.out.z 5
  have x6 := HM4.out.z 6
  have x7 := HM4.out.z 7
  have x8 := HM4.out.z 8
  have x9 := HM4.out.z 9
  have x10 := HM4.out.z 10
  clear O3 b3 b23 hr4 O4 F4 hown hb4 far f5 hn5 hcv hn hbn
  go_wp2_with fail
  go_region_held_law (fun U => U.cell? ⟨w.heap.size, 0, none⟩ = some (.int .u64 (c.p : Int)) ∧ U.cell? ⟨w.heap.size, 1, none⟩ = some (.int .u32 (c.o : Int)) ∧ U.cell? ⟨w.heap.size, 2, none⟩ = some (.int .u8 (c.r : Int)) ∧ U.cell? ⟨w.heap.size, 3, none⟩ = some (.int .u64 (c.c : Int)))
    (first | with_reducible exact HSa.out | with_reducible exact ⟨HC4.out.c0, HC4.out.c1, HC4.out.c2, HC4.out.c3⟩ | with_reducible exact ⟨HC5.out.c0, HC5.out.c1, HC5.out.c2, HC5.out.c3⟩)
    (refine step_append_run (by rfl) _ _ _ (by rfl) _ _ _ _ (by rfl) (by rfl) HR4.out ?_)
  obtain ⟨v0, v1, v2, v3, v4, v5, v6, v7, v8, v9, v10⟩ := HZL.out.all
  go_wp2
  refine bodyPost_ret (by simp [results, Tryz.results22, go_sem, v0, v1, v2, v3, v4, v5, v6, v7, v8, v9, v10]; rfl) rfl ?_
  exact ⟨co, n5, cc, rfl, HB5.out, HNW.out.le (by have := HBX.out.size; have := HX23.out; omega), HT5.out, HN5.out.symm, HBL5.out⟩
end
end Go.Proofs.YtlmnnjibggdboaaGreatDoor
namespace Go.Proofs.YtlmnnjibggdboaaGreatDoor
section
open Go.RowKit Go.Deep
theorem w16_nat {n : Int} (h : (Lit.int .u16 n).wf = true) : ∃ v : Nat, n = (v : Int) ∧ v ≤ 65535 := by
  have := bounds_u16 h; exact ⟨n.toNat, by omega, by omega⟩
theorem w32_nat {n : Int} (h : (Lit.int .u32 n).wf = true) : ∃ v : Nat, n = (v : Int) ∧ v ≤ 4294967295 := by
  have := bounds_u32 h; exact ⟨n.toNat, by omega, by omega⟩
theorem w64_nat {n : Int} (h : (Lit.int .u64 n).wf = true) : ∃ v : Nat, n = (v : Int) ∧ v ≤ 18446744073709551615 := by
  have := bounds_u64 h; exact ⟨n.toNat, by omega, by omega⟩
theorem m64 : Tryz.prog.cellsOf 32 = 1 := by kernel_rfl
theorem m32 : Tryz.prog.cellsOf 38 = 1 := by kernel_rfl
theorem m16 : Tryz.prog.cellsOf 51 = 1 := by kernel_rfl
theorem m8 : Tryz.prog.cellsOf 5 = 1 := by kernel_rfl
theorem m1 : Tryz.prog.cellsOf 4 = 1 := by kernel_rfl
theorem mB : Tryz.prog.cellsOf 23 = 1 := by kernel_rfl
theorem mCap : Tryz.prog.cellsOf 40 = 4 := by kernel_rfl
theorem weights_all {H : Type} {P : Program} {e : TypeId} {d : DataW H} {n : Nat} (hn : n ∈ d.weights P e) : ∀ {l : List (DataW H)}, d ∈ l → n ∈ DataW.weightsAll P e l
  | x :: r, h => by
    simp only [DataW.weightsAll, List.mem_append]
    rcases List.mem_cons.1 h with rfl | h
    · exact .inl hn
    · exact .inr (weights_all hn h)
def SizeBy {H : Type} (d : DataW H) (t : TypeId) (k : Nat) : Prop := k = 0 ∨ ∃ n ∈ d.weights Tryz.prog t, k ≤ n
def Ac.zero : Ac := ⟨0, 0, 0, 0, 0, 0, 0, false, 0, none, 0, 0, []⟩
def Ac.at (w : World) (a : Addr) (x : Ac) : Prop := (x.ok ∧ Bts w x.so x.sn x.sc x.l) ∧ w.cell? a = some (.int .u8 (x.o : Int)) ∧ w.cell? (a.add 1) = some (.int .u8 (x.wh : Int)) ∧ w.cell? (a.add 2) = some (.int .u8 (x.nm : Int)) ∧ w.cell? (a.add 3) = some (.int .u64 (x.p : Int)) ∧ w.cell? (a.add 4) = some (.int .u32 (x.po : Int)) ∧ w.cell? (a.add 5) = some (.int .u8 (x.r : Int)) ∧ w.cell? (a.add 6) = some (.int .u64 (x.c : Int)) ∧ w.cell? (a.add 7) = some (.bool x.ow) ∧ w.cell? (a.add 8) = some (.int .u16 (x.a : Int)) ∧ w.cell? (a.add 9) = some (.slice x.so x.sn x.sc)
theorem Ac.at.carry {w w' : World} {a : Addr} {x : Ac} (h : Ac.at w a x) (b : Below w.heap.size w w') : Ac.at w' a x := by
  obtain ⟨⟨h0, hb⟩, k0, k1, k2, k3, k4, k5, k6, k7, k8, k9⟩ := h
  exact ⟨⟨h0, Bts.carry hb b⟩, by rw [b.cell (lt_of_cell k0), k0], by rw [b.cell (lt_of_cell k1), k1], by rw [b.cell (lt_of_cell k2), k2], by rw [b.cell (lt_of_cell k3), k3], by rw [b.cell (lt_of_cell k4), k4], by rw [b.cell (lt_of_cell k5), k5], by rw [b.cell (lt_of_cell k6), k6], by rw [b.cell (lt_of_cell k7), k7], by rw [b.cell (lt_of_cell k8), k8], by rw [b.cell (lt_of_cell k9), k9]⟩
def Acts (w : World) (ao : Option Addr) (n cap : Nat) (xs : List Ac) : Prop :=
  n = xs.length ∧ n ≤ cap ∧ cap ≤ maxLen ∧ (ao = none → cap = 0) ∧ ∀ ad, ao = some ad → ∀ j, j < n → Ac.at w (ad.add (j * 10)) (xs.getD j Ac.zero)
theorem Acts.carry {w w' : World} {ao : Option Addr} {n cap : Nat} {xs : List Ac} (h : Acts w ao n cap xs) (b : Below w.heap.size w w') : Acts w' ao n cap xs :=
  ⟨h.1, h.2.1, h.2.2.1, h.2.2.2.1, fun ad e j hj => (h.2.2.2.2 ad e j hj).carry b⟩
theorem Acts.there {w : World} {ao : Option Addr} {n cap : Nat} {xs : List Ac} (h : Acts w ao n cap xs) {k : Nat} (hk : k < n) : ∃ ad, ao = some ad := by
  cases ao with
  | none => have := h.2.2.2.1 rfl; have := h.2.1; omega
  | some ad => exact ⟨ad, rfl⟩
theorem cells_all {w : World} {a : Addr} {cs : List Value} (h : w.cells? 0 a 10 = some cs) : ∃ c0 c1 c2 c3 c4 c5 c6 c7 c8 c9, cs = [c0, c1, c2, c3, c4, c5, c6, c7, c8, c9] ∧ w.cell? (a.add 0) = some c0 ∧ w.cell? (a.add 1) = some c1 ∧ w.cell? (a.add 2) = some c2 ∧ w.cell? (a.add 3) = some c3 ∧ w.cell? (a.add 4) = some c4 ∧ w.cell? (a.add 5) = some c5 ∧ w.cell? (a.add 6) = some c6 ∧ w.cell? (a.add 7) = some c7 ∧ w.cell? (a.add 8) = some c8 ∧ w.cell? (a.add 9) = some c9 := by
  unfold World.cells? at h
  rw [if_pos (Nat.zero_le _), show List.range 10 = [0, 1, 2, 3, 4, 5, 6, 7, 8, 9] from by decide] at h
  simp only [List.mapM_cons, List.mapM_nil, Option.pure_def, Option.bind_eq_bind, Option.bind_eq_some_iff, Option.some.injEq] at h
  obtain ⟨c0, h0, r1, ⟨c1, h1, r2, ⟨c2, h2, r3, ⟨c3, h3, r4, ⟨c4, h4, r5, ⟨c5, h5, r6, ⟨c6, h6, r7, ⟨c7, h7, r8, ⟨c8, h8, r9, ⟨c9, h9, r10, rfl, rfl⟩, rfl⟩, rfl⟩, rfl⟩, rfl⟩, rfl⟩, rfl⟩, rfl⟩, rfl⟩, rfl⟩ := h
  exact ⟨c0, c1, c2, c3, c4, c5, c6, c7, c8, c9, rfl, h0, h1, h2, h3, h4, h5, h6, h7, h8, h9⟩
theorem cellsA : Tryz.prog.cellsOf 53 = 10 := by kernel_rfl
theorem bytesA : Tryz.prog.bytesOf 53 = 64 := by kernel_rfl
set_option maxRecDepth 100000 in
theorem act_elem {H : Type} {enc : TypeId × Value → H} {w : World} {n : Nat} {a : Addr} {cs : List Value} {y : DataW H × List MemPlace}
    (hc : w.cells? 0 a 10 = some cs) (h : DataW.trod enc Tryz.prog w 0 (fun _ => true) true n 53 cs = some y) : ∃ x : Ac, Ac.at w a x ∧ SizeBy y.1 53 x.sn := by
  obtain ⟨c0, c1, c2, c3, c4, c5, c6, c7, c8, c9, rfl, k0, k1, k2, k3, k4, k5, k6, k7, k8, k9⟩ := cells_all hc
  obtain ⟨xs, m, _, hx, _, hlen, hfd⟩ := DataW.trod_struct Tryz.underlying53 h
  have hlen7 : xs.length = 7 := hlen
  have at_ : ∀ i, i < 7 → ∃ y, xs[i]? = some y := fun i hi => ⟨xs[i]'(by omega), List.getElem?_eq_getElem (by omega)⟩
  obtain ⟨y0, hy0⟩ := at_ 0 (by omega)
  have f0 : DataW.trod enc Tryz.prog w 0 (fun _ => true) true m 5 [c0] = some y0 := by
    have h := hfd 0 _ rfl
    rw [hy0] at h
    simpa [m64, m32, m16, m8, m1, mB, mCap] using h
  obtain ⟨y1, hy1⟩ := at_ 1 (by omega)
  have f1 : DataW.trod enc Tryz.prog w 0 (fun _ => true) true m 5 [c1] = some y1 := by
    have h := hfd 1 _ rfl
    rw [hy1] at h
    simpa [m64, m32, m16, m8, m1, mB, mCap] using h
  obtain ⟨y2, hy2⟩ := at_ 2 (by omega)
  have f2 : DataW.trod enc Tryz.prog w 0 (fun _ => true) true m 5 [c2] = some y2 := by
    have h := hfd 2 _ rfl
    rw [hy2] at h
    simpa [m64, m32, m16, m8, m1, mB, mCap] using h
  obtain ⟨y3, hy3⟩ := at_ 3 (by omega)
  have f3 : DataW.trod enc Tryz.prog w 0 (fun _ => true) true m 40 [c3, c4, c5, c6] = some y3 := by
    have h := hfd 3 _ rfl
    rw [hy3] at h
    simpa [m64, m32, m16, m8, m1, mB, mCap] using h
  obtain ⟨y4, hy4⟩ := at_ 4 (by omega)
  have f4 : DataW.trod enc Tryz.prog w 0 (fun _ => true) true m 4 [c7] = some y4 := by
    have h := hfd 4 _ rfl
    rw [hy4] at h
    simpa [m64, m32, m16, m8, m1, mB, mCap] using h
  obtain ⟨y5, hy5⟩ := at_ 5 (by omega)
  have f5 : DataW.trod enc Tryz.prog w 0 (fun _ => true) true m 51 [c8] = some y5 := by
    have h := hfd 5 _ rfl
    rw [hy5] at h
    simpa [m64, m32, m16, m8, m1, mB, mCap] using h
  obtain ⟨y6, hy6⟩ := at_ 6 (by omega)
  have f6 : DataW.trod enc Tryz.prog w 0 (fun _ => true) true m 23 [c9] = some y6 := by
    have h := hfd 6 _ rfl
    rw [hy6] at h
    simpa [m64, m32, m16, m8, m1, mB, mCap] using h
  have hmem : ∀ k ∈ y6.1.weights Tryz.prog 23, k ∈ y.1.weights Tryz.prog 53 := fun k hk => by
    rw [hx]
    simp only [DataW.weights, Tryz.underlying53]
    refine DataW.weights_mem_each (j := 6) (t := 23) (d := y6.1) rfl ?_ k hk
    rw [List.getElem?_map, hy6]; rfl
  obtain ⟨n0, e0, _, wf0⟩ := DataW.trod_int Tryz.underlying5 f0
  obtain rfl := (List.cons.inj e0).1
  obtain ⟨p0, rfl, hp0⟩ := u8_nat wf0
  obtain ⟨n1, e1, _, wf1⟩ := DataW.trod_int Tryz.underlying5 f1
  obtain rfl := (List.cons.inj e1).1
  obtain ⟨p1, rfl, hp1⟩ := u8_nat wf1
  obtain ⟨n2, e2, _, wf2⟩ := DataW.trod_int Tryz.underlying5 f2
  obtain rfl := (List.cons.inj e2).1
  obtain ⟨p2, rfl, hp2⟩ := u8_nat wf2
  obtain ⟨n5, e5, _, wf5⟩ := DataW.trod_int Tryz.underlying51 f5
  obtain rfl := (List.cons.inj e5).1
  obtain ⟨p5, rfl, hp5⟩ := w16_nat wf5
  obtain ⟨b4, e4, _⟩ := DataW.trod_bool Tryz.underlying4 f4
  obtain rfl := (List.cons.inj e4).1
  obtain ⟨z0, z1, z2, z3, nz, _, _, g0, g1, g2, g3⟩ := Go.Joins.trod_struct4 Tryz.underlying40 f3
  have q0 : DataW.trod enc Tryz.prog w 0 (fun _ => true) true nz 32 [c3] = some z0 := by simpa [m64, m32, m8] using g0
  obtain ⟨i0, j0, _, v0⟩ := DataW.trod_int Tryz.underlying32 q0
  obtain rfl := (List.cons.inj j0).1
  obtain ⟨r0, rfl, hr0⟩ := w64_nat v0
  have q1 : DataW.trod enc Tryz.prog w 0 (fun _ => true) true nz 38 [c4] = some z1 := by simpa [m64, m32, m8] using g1
  obtain ⟨i1, j1, _, v1⟩ := DataW.trod_int Tryz.underlying38 q1
  obtain rfl := (List.cons.inj j1).1
  obtain ⟨r1, rfl, hr1⟩ := w32_nat v1
  have q2 : DataW.trod enc Tryz.prog w 0 (fun _ => true) true nz 5 [c5] = some z2 := by simpa [m64, m32, m8] using g2
  obtain ⟨i2, j2, _, v2⟩ := DataW.trod_int Tryz.underlying5 q2
  obtain rfl := (List.cons.inj j2).1
  obtain ⟨r2, rfl, hr2⟩ := u8_nat v2
  have q3 : DataW.trod enc Tryz.prog w 0 (fun _ => true) true nz 32 [c6] = some z3 := by simpa [m64, m32, m8] using g3
  obtain ⟨i3, j3, _, v3⟩ := DataW.trod_int Tryz.underlying32 q3
  obtain rfl := (List.cons.inj j3).1
  obtain ⟨r3, rfl, hr3⟩ := w64_nat v3
  obtain ⟨so, sn, sc, zs, rfl, hr, hbk⟩ : ∃ so sn sc zs, c9 = .slice so sn sc ∧ RowOf .u8 w so sn sc zs ∧ SizeBy y6.1 23 sn := by
    rcases Go.ChangeShapes.open_ints Tryz.underlying23 Tryz.underlying5 (by kernel_rfl) f6 with ⟨hcs, _⟩ | ⟨x, l, c, zs, hcs, _, hl, hm, hz, hx, hcell, hwz⟩
    · simp at hcs
      exact ⟨none, 0, 0, [], hcs, .inl ⟨rfl, rfl, rfl, rfl⟩, .inl rfl⟩
    · simp at hcs
      refine ⟨some x, l, c, zs, hcs, .inr ⟨_, rfl, hl, hm, by simpa using hz, hcell, hwz⟩, .inr ?_⟩
      rw [hx]
      have hz' : zs.length = c := by simpa using hz
      refine ⟨_, by simp only [DataW.weights, Tryz.underlying23]; exact List.mem_cons_self .., ?_⟩
      rw [bytesOf5]
      simp only [Go.ChangeShapes.lits, List.length_map, List.length_take, List.length_drop]
      omega
  obtain ⟨l, hb⟩ := hr.bytes
  rw [addZ] at k0
  exact ⟨⟨p0, p1, p2, r0, r1, r2, r3, b4, p5, so, sn, sc, l⟩, ⟨⟨⟨⟨hp0, hp1, hp2⟩, ⟨hr0, hr1, hr2, hr3⟩, hp5⟩, hb⟩, k0, k1, k2, k3, k4, k5, k6, k7, k8, k9⟩, hbk.imp id (fun ⟨k, h1, h2⟩ => ⟨k, hmem k h1, h2⟩)⟩
theorem Ac.at.all {w w' : World} {a : Addr} {x : Ac} (h : Ac.at w a x) (b : Below w.heap.size w w') : w'.cell? a = some (.int .u8 (x.o : Int)) ∧ w'.cell? { block := a.block, off := a.off + 1 } = some (.int .u8 (x.wh : Int)) ∧ w'.cell? { block := a.block, off := a.off + 2 } = some (.int .u8 (x.nm : Int)) ∧ w'.cell? { block := a.block, off := a.off + 3 } = some (.int .u64 (x.p : Int)) ∧ w'.cell? { block := a.block, off := a.off + 4 } = some (.int .u32 (x.po : Int)) ∧ w'.cell? { block := a.block, off := a.off + 5 } = some (.int .u8 (x.r : Int)) ∧ w'.cell? { block := a.block, off := a.off + 6 } = some (.int .u64 (x.c : Int)) ∧ w'.cell? { block := a.block, off := a.off + 7 } = some (.bool x.ow) ∧ w'.cell? { block := a.block, off := a.off + 8 } = some (.int .u16 (x.a : Int)) ∧ w'.cell? { block := a.block, off := a.off + 9 } = some (.slice x.so x.sn x.sc) := by
  obtain ⟨_, k0, k1, k2, k3, k4, k5, k6, k7, k8, k9⟩ := h.carry b
  rw [addS _ 0] at k1
  rw [addS _ 1] at k2
  rw [addS _ 2] at k3
  rw [addS _ 3] at k4
  rw [addS _ 4] at k5
  rw [addS _ 5] at k6
  rw [addS _ 6] at k7
  rw [addS _ 7] at k8
  rw [addS _ 8] at k9
  exact ⟨k0, k1, k2, k3, k4, k5, k6, k7, k8, k9⟩
theorem open_acts {H : Type} {enc : TypeId × Value → H} {w : World} {a : Option Addr} {len cap fuel : Nat} {x : DataW H × List MemPlace} (hf : DataW.trod enc Tryz.prog w 0 (fun _ => true) true fuel 24 [.slice a len cap] = some x) :
    ∃ xs, Acts w a len cap xs ∧ (∀ y ∈ xs, SizeBy x.1 24 y.sn) ∧ (x.1 = .nil ∧ cap = 0 ∨ ∃ els sp, x.1 = .slice els sp ∧ els.length + sp.length = cap) := by
  rcases open_slice Tryz.underlying24 hf with ⟨hcs, hx⟩ | ⟨ad, l, c, m, n, D, Pl, hcs, _, hl, hm, hmm, hx, hel⟩
  · simp at hcs
    obtain ⟨rfl, rfl, rfl⟩ := hcs
    exact ⟨[], ⟨rfl, Nat.le_refl _, by decide, fun _ => rfl, (fun ad e => by cases e)⟩, (fun y hy => by cases hy), .inl ⟨by rw [hx], rfl⟩⟩
  · simp at hcs
    obtain ⟨rfl, rfl, rfl⟩ := hcs
    simp at hmm
    subst hmm
    have hF : ∀ i, ∃ z : Ac, i < len → Ac.at w (ad.add (i * 10)) z ∧ SizeBy (D i) 53 z.sn := by
      intro i
      by_cases hi : i < len
      · obtain ⟨cs', h1, h2⟩ := hel i (by omega)
        rw [cellsA] at h1
        obtain ⟨z, hz⟩ := act_elem h1 h2
        exact ⟨z, fun _ => hz⟩
      · exact ⟨Ac.zero, fun h => absurd h hi⟩
    have eg : ∀ j, j < len → ((List.range len).map (fun i => Classical.choose (hF i))).getD j Ac.zero = Classical.choose (hF j) := fun j hj => by
      rw [List.getD_eq_getElem?_getD, List.getElem?_map, List.getElem?_range hj]; rfl
    refine ⟨(List.range len).map (fun i => Classical.choose (hF i)), ⟨by simp, hl, hm, (fun e => by cases e), fun ad' e j hj => ?_⟩, fun y hy => ?_, .inr ⟨_, _, by rw [hx], by simp; omega⟩⟩
    · obtain rfl := Option.some.inj e
      rw [eg j hj]
      exact (Classical.choose_spec (hF j) hj).1
    · obtain ⟨i, hi, rfl⟩ := List.mem_map.1 hy
      rcases (Classical.choose_spec (hF i) (List.mem_range.1 hi)).2 with h | ⟨k, h1, h2⟩
      · exact .inl h
      · refine .inr ⟨k, ?_, h2⟩
        rw [hx]
        simp only [DataW.weights, Tryz.underlying24, List.mem_cons, List.mem_append]
        exact .inr (.inl (weights_all h1 (List.mem_map.2 ⟨i, hi, rfl⟩)))
end
end Go.Proofs.YtlmnnjibggdboaaGreatDoor
