/-
  The statement's own messages beside a gather's: the same packets, in whatever order; what both make of one packet more.
-/
import Derived.Test.YtdfakeddhoolcaaGSeq
namespace Go.Proofs.Ytdfakeddhoolcaa
/- message by message the same packets; all go to node 3 -/
structure Rl (O G : List (List Pa)) : Prop where
  len : O.length = G.length
  perm : ∀ k, k < G.length → (O.getD k []).Perm (G.getD k [])
theorem rl_nil : Rl [] [] := ⟨rfl, fun k h => by cases h⟩
def To3 (G : List (List Pa)) : Prop := ∀ m ∈ G, ∀ q ∈ m, q.t = 3
theorem getG_append_left {A B : List (List Pa)} {k : Nat} (h : k < A.length) : (A ++ B).getD k [] = A.getD k [] := by
  rw [List.getD_eq_getElem?_getD, List.getElem?_append_left h, List.getD_eq_getElem?_getD]
theorem getG_last (A : List (List Pa)) (m : List Pa) : (A ++ [m]).getD A.length [] = m := by
  rw [List.getD_eq_getElem?_getD, List.getElem?_append_right (Nat.le_refl _)]; simp
theorem getG_drop (A : List (List Pa)) (j k : Nat) : (A.drop j).getD k [] = A.getD (j + k) [] := by simp [List.getD_eq_getElem?_getD]
theorem Rl.drop {O G : List (List Pa)} (h : Rl O G) (j : Nat) : Rl (O.drop j) (G.drop j) :=
  ⟨by rw [List.length_drop, List.length_drop, h.len], fun k hk => by
    rw [getG_drop, getG_drop]; rw [List.length_drop] at hk; exact h.perm _ (by omega)⟩
theorem Rl.stay {O G : List (List Pa)} (h : Rl O G) : Rl (stayF O) (stayF G) := by
  unfold stayF
  rw [h.len]
  split
  · exact h.drop 1
  · exact h
theorem Rl.snoc {O G : List (List Pa)} (h : Rl O G) {a b : List Pa} (p : a.Perm b) : Rl (O ++ [a]) (G ++ [b]) := by
  refine ⟨by simp [h.len], fun k hk => ?_⟩
  rw [List.length_append] at hk
  rcases Nat.lt_or_ge k G.length with hl | hl
  · rw [getG_append_left (by rw [h.len]; exact hl), getG_append_left hl]; exact h.perm k hl
  · obtain rfl : k = G.length := by simp at hk; omega
    rw [getG_last]
    have := getG_last O a
    rw [h.len] at this
    rw [this]; exact p
theorem Rl.set {O G : List (List Pa)} (h : Rl O G) (k : Nat) {a b : List Pa} (p : a.Perm b) : Rl (O.set k a) (G.set k b) := by
  refine ⟨by simp [h.len], fun j hj => ?_⟩
  rw [List.length_set] at hj
  have h1 := h.perm j hj
  rw [List.getD_eq_getElem?_getD, List.getD_eq_getElem?_getD] at h1 ⊢
  rw [List.getElem?_set, List.getElem?_set]
  by_cases e : k = j
  · subst e
    rw [if_pos rfl, if_pos rfl, if_pos (by rw [h.len]; exact hj), if_pos hj]; exact p
  · rw [if_neg e, if_neg e]; exact h1
theorem Rl.erase {O G : List (List Pa)} (h : Rl O G) (k : Nat) (hk : k < G.length) : Rl (O.take k ++ O.drop (k + 1)) (G.eraseIdx k) := by
  have e : O.take k ++ O.drop (k + 1) = O.eraseIdx k := (List.eraseIdx_eq_take_drop_succ ..).symm
  rw [e]
  have hl := h.len
  refine ⟨by rw [List.length_eraseIdx, List.length_eraseIdx, if_pos (by omega), if_pos hk, hl], fun j hj => ?_⟩
  rw [List.length_eraseIdx, if_pos hk] at hj
  rw [List.getD_eq_getElem?_getD, List.getD_eq_getElem?_getD, List.getElem?_eraseIdx, List.getElem?_eraseIdx]
  split
  · rw [← List.getD_eq_getElem?_getD, ← List.getD_eq_getElem?_getD]; exact h.perm j (by omega)
  · rw [← List.getD_eq_getElem?_getD, ← List.getD_eq_getElem?_getD]; exact h.perm (j + 1) (by omega)
/- is a message the packet's, as the statement asks -/
def isOf (m : List Pa) (p : Pa) : Bool := (hd m).i == p.i && (hd m).f == p.f
theorem hd_perm {a b : List Pa} (h : a.Perm b) (hb : b ≠ []) : hd a ∈ b := by
  have ha : a ≠ [] := fun e => by subst e; exact hb (List.Perm.nil_eq h).symm
  exact h.mem_iff.1 (hd_mem ha)
theorem rl_is {O G : List (List Pa)} (h : Rl O G) (inv : Inv G) (t3 : To3 G) {p : Pa} (hp : p.t = 3) (k : Nat) (hk : k < G.length) : isOf (O.getD k []) p = (hd (G.getD k [])).with p := by
  have hm := getG_mem G k hk
  have hg := inv.good _ hm
  have h1 := hd_perm (h.perm k hk) hg.some
  obtain ⟨k1, k2, k3, k4⟩ := hg.key _ h1
  have h3 := t3 _ hm _ (hd_mem hg.some)
  unfold isOf Pa.with
  rw [k1, k2, h3, hp]
  simp
theorem inv_fnd {G : List (List Pa)} (inv : Inv G) {p : Pa} {k : Nat} (hk : k < G.length) (h : (hd (G.getD k [])).with p = true) : fndF G p = k := by
  refine fnd_at hk h (fun j hj => ?_)
  have hap := List.pairwise_iff_getElem.1 inv.apart j k (by omega) hk hj
  have e1 : G.getD j [] = G[j] := by rw [List.getD_eq_getElem?_getD, List.getElem?_eq_getElem (by omega)]; rfl
  have e2 : G.getD k [] = G[k] := by rw [List.getD_eq_getElem?_getD, List.getElem?_eq_getElem hk]; rfl
  rw [e2] at h
  rw [e1, ← with_right h]; exact hap
/- what the statement reckons of a message and a packet -/
def goodF (m : List Pa) (p : Pa) : Bool := (decide (m.length = 0) || (hd m).c == p.c) && m.all (fun q => q.x != p.x)
theorem good_eq {m n : List Pa} (h : m.Perm n) (hn : n = [] ∨ Good n) (p : Pa) : goodF m p = okW n p := by
  rcases hn with rfl | hg
  · obtain rfl := List.Perm.eq_nil h
    rfl
  · have hne := hg.some
    have h1 := hd_perm h hne
    have hl : ¬ (m.length = 0) := by rw [h.length_eq]; have := hg.pos; omega
    have hc := (hg.key _ h1).2.2.2
    rw [Bool.eq_iff_iff, okW_iff hg.up]
    unfold goodF
    rw [Bool.and_eq_true, decide_eq_false hl, Bool.false_or, beq_iff_eq, List.all_eq_true, hc]
    constructor
    · rintro ⟨a, b⟩
      exact ⟨fun q hq e => by have := b q (h.mem_iff.2 hq); simp [e] at this, fun _ => a⟩
    · rintro ⟨a, b⟩
      exact ⟨b hne, fun q hq => by have := a q (h.mem_iff.1 hq); simpa using this⟩
theorem all_take (m : List Pa) (x : Int) (k : Nat) (h : k < m.length) : (m.take (k + 1)).all (fun q => q.x != x) = ((m.take k).all (fun q => q.x != x) && ((m.getD k Pa.zero).x != x)) := by
  rw [takeK_snoc m k h, List.all_append]; simp
/- the message of a packet, opened -/
theorem Inv.of {G : List (List Pa)} (inv : Inv G) (p : Pa) : ofF G p = [] ∨ Good (ofF G p) := by
  by_cases hf : fndF G p < G.length
  · rw [ofF_old hf]; exact .inr (inv.good _ (getG_mem G _ hf))
  · rw [ofF_new hf]; exact .inl rfl
theorem Inv.ins {G : List (List Pa)} (inv : Inv G) {p : Pa} (hm : p.may = true) (ho : okW (ofF G p) p = true) : Good (insF (ofF G p) p) := by
  by_cases hf : fndF G p < G.length
  · rw [ofF_old hf] at ho ⊢
    exact (inv.good _ (getG_mem G _ hf)).ins hm (fnd_with hf) ho
  · rw [ofF_new hf, ins_nil]; exact good_one hm
theorem Inv.whole {G : List (List Pa)} (inv : Inv G) {p : Pa} (hm : p.may = true) (ho : okW (ofF G p) p = true) : joinB (insF (ofF G p) p) = decide (((ofF G p).length + 1 : Nat) = p.c) := by
  have hg := inv.ins hm ho
  rw [hg.join, hg.ins_c, ins_len]
theorem To3.add {G : List (List Pa)} (h : To3 G) {p : Pa} (hp : p.t = 3) : To3 (addF G p).2 := by
  have hs : To3 (stayF G) := fun m hm => h m ((stay_sub G).subset hm)
  have ho : To3 (opnF G p) := by
    unfold opnF; split
    · exact h
    · intro m hm
      rcases List.mem_append.1 hm with hm | hm
      · exact hs m hm
      · rw [List.mem_singleton.1 hm]; exact fun _ h => by cases h
  have hof : ∀ q ∈ ofF G p, q.t = 3 := ho _ (by unfold ofF; exact getG_mem _ _ (atF_lt G p))
  unfold addF
  split
  · split
    · split
      · exact fun m hm => ho m (List.mem_of_mem_eraseIdx hm)
      · intro m hm q hq
        rcases List.mem_or_eq_of_mem_set hm with hm | rfl
        · exact ho m hm q hq
        · rcases ins_mem.1 hq with rfl | hq
          · exact hp
          · exact hof q hq
    · exact ho
  · exact h
/- the text that the statement makes of a message's packets -/
def pickL (m : List Pa) (k : Nat) : List UInt8 := (m.filter (fun q => q.x == (k : Int))).flatMap Pa.l
def txtL (m : List Pa) (k : Nat) : List UInt8 := (List.range k).flatMap (pickL m)
theorem txt_succ (m : List Pa) (k : Nat) : txtL m (k + 1) = txtL m k ++ pickL m k := by
  unfold txtL; rw [List.range_succ, List.flatMap_append]; simp
theorem pick_take (m : List Pa) (k t : Nat) (h : t < m.length) : pickL (m.take (t + 1)) k = pickL (m.take t) k ++ if (m.getD t Pa.zero).x = (k : Int) then (m.getD t Pa.zero).l else [] := by
  unfold pickL
  rw [takeK_snoc m t h, List.filter_append, List.flatMap_append]
  congr 1
  generalize m.getD t Pa.zero = y
  by_cases e : y.x = (k : Int)
  · rw [if_pos e, List.filter_cons, if_pos (by simpa using e)]; simp
  · rw [if_neg e, List.filter_cons, if_neg (by simpa using e)]; rfl
theorem filter_at {n : List Pa} (h : ∀ j, j < n.length → (n.getD j Pa.zero).x = (j : Int)) (k : Nat) (hk : k < n.length) : n.filter (fun q => q.x == (k : Int)) = [n.getD k Pa.zero] := by
  have e : n = n.take k ++ n.getD k Pa.zero :: n.drop (k + 1) := by rw [← dropK_cons n k hk, List.take_append_drop]
  have h1 : (n.take k).filter (fun q => q.x == (k : Int)) = [] := by
    rw [List.filter_eq_nil_iff]
    intro q hq
    obtain ⟨j, hj, rfl⟩ := List.getElem_of_mem hq
    rw [List.length_take] at hj
    have := h j (by omega)
    rw [List.getD_eq_getElem?_getD, List.getElem?_eq_getElem (by omega)] at this
    simp at this
    simp [this]; omega
  have h2 : (n.drop (k + 1)).filter (fun q => q.x == (k : Int)) = [] := by
    rw [List.filter_eq_nil_iff]
    intro q hq
    obtain ⟨j, hj, rfl⟩ := List.getElem_of_mem hq
    rw [List.length_drop] at hj
    have := h (k + 1 + j) (by omega)
    rw [List.getD_eq_getElem?_getD, List.getElem?_eq_getElem (by omega)] at this
    simp at this
    simp [this]; omega
  have h3 := h k hk
  conv => lhs; rw [e]
  rw [List.filter_append, h1, List.filter_cons, if_pos (by rw [h3]; simp), h2]; rfl
theorem txt_full {m n : List Pa} (hp : m.Perm n) (hg : Good n) (hl : (n.length : Int) = (hd n).c) : txtL m n.length = joinL n := by
  have hx : ∀ j, j < n.length → (n.getD j Pa.zero).x = (j : Int) := fun j hj => hg.full hl j hj
  have h1 : ∀ k ∈ List.range n.length, pickL m k = (n.getD k Pa.zero).l := fun k hk => by
    have hk := List.mem_range.1 hk
    unfold pickL
    have := hp.filter (fun q => q.x == (k : Int))
    rw [filter_at hx k hk] at this
    rw [List.perm_singleton.1 this]; simp
  unfold txtL joinL
  rw [List.flatMap_def, List.map_congr_left h1, List.flatMap_def, map_getK]
theorem pick_len (m : List Pa) (k : Nat) (h : ∀ q ∈ m, q.l.length ≤ 32768) : (pickL m k).length ≤ m.length * 32768 := by
  unfold pickL
  induction m with
  | nil => simp
  | cons a r ih =>
    have h1 := ih (fun q hq => h q (List.mem_cons_of_mem _ hq))
    have h2 := h a (List.mem_cons_self ..)
    rw [List.filter_cons, List.length_cons]
    split
    · rw [List.flatMap_cons, List.length_append, Nat.add_mul]
      exact Nat.le_trans (Nat.add_le_add h2 h1) (by omega)
    · rw [Nat.add_mul]
      exact Nat.le_trans h1 (Nat.le_add_right _ _)
theorem txt_len (m : List Pa) (h : ∀ q ∈ m, q.l.length ≤ 32768) (k : Nat) : (txtL m k).length ≤ k * (m.length * 32768) := by
  induction k with
  | zero => simp [txtL]
  | succ k ih =>
    have := pick_len m k h
    rw [txt_succ, List.length_append, Nat.add_mul]; omega
end Go.Proofs.Ytdfakeddhoolcaa
