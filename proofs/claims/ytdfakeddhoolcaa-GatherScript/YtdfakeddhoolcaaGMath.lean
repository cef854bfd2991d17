/-
  Messages that are put together of packets, as plain functions of lists: which message a packet is of, where it stands in it, what becomes of them all by one packet more.
-/
import Derived.Test.YtdfakeddhoolcaaFAwake
namespace Go.Proofs.Ytdfakeddhoolcaa
/- a packet without where its data lies -/
def Pa.nm (x : Pa) : Pa := ⟨x.f, x.t, x.i, x.x, x.c, none, x.l.length, 0, x.l⟩
def hd (m : List Pa) : Pa := m.getD 0 Pa.zero
def fndF (G : List (List Pa)) (p : Pa) : Nat := G.findIdx (fun m => (hd m).with p)
def plcF (m : List Pa) (x : Int) : Nat := m.findIdx (fun q => !decide (q.x < x))
def dupF (m : List Pa) (x : Int) : Bool := decide (plcF m x < m.length) && ((m.getD (plcF m x) Pa.zero).x == x)
def misF (m : List Pa) (c : Int) : Bool := decide (0 < m.length) && ((hd m).c != c)
def okW (m : List Pa) (p : Pa) : Bool := !dupF m p.x && !misF m p.c
def insF (m : List Pa) (p : Pa) : List Pa := m.take (plcF m p.x) ++ p :: m.drop (plcF m p.x)
def stayF (G : List (List Pa)) : List (List Pa) := if 16 ≤ G.length then G.drop 1 else G
def atF (G : List (List Pa)) (p : Pa) : Nat := if fndF G p < G.length then fndF G p else (stayF G).length
def opnF (G : List (List Pa)) (p : Pa) : List (List Pa) := if fndF G p < G.length then G else stayF G ++ [[]]
def ofF (G : List (List Pa)) (p : Pa) : List Pa := (opnF G p).getD (atF G p) []
def addF (G : List (List Pa)) (p : Pa) : Option (List UInt8) × List (List Pa) :=
  if p.may = true then
    if okW (ofF G p) p = true then
      if joinB (insF (ofF G p) p) = true then (some (joinL (insF (ofF G p) p)), (opnF G p).eraseIdx (atF G p))
      else (none, (opnF G p).set (atF G p) (insF (ofF G p) p))
    else (none, opnF G p)
  else (none, G)
theorem fnd_at {G : List (List Pa)} {p : Pa} {k : Nat} (hk : k < G.length) (h : (hd (G.getD k [])).with p = true) (hl : ∀ j, j < k → (hd (G.getD j [])).with p = false) : fndF G p = k := by
  unfold fndF
  rw [List.findIdx_eq hk]
  refine ⟨?_, fun j hj => ?_⟩
  · rw [List.getD_eq_getElem?_getD, List.getElem?_eq_getElem hk] at h; exact h
  · have := hl j hj
    rw [List.getD_eq_getElem?_getD, List.getElem?_eq_getElem (by omega)] at this; exact this
theorem fnd_none {G : List (List Pa)} {p : Pa} (hl : ∀ j, j < G.length → (hd (G.getD j [])).with p = false) : fndF G p = G.length := by
  unfold fndF
  rw [List.findIdx_eq_length]
  intro m hm
  obtain ⟨j, hj, rfl⟩ := List.getElem_of_mem hm
  have := hl j hj
  rw [List.getD_eq_getElem?_getD, List.getElem?_eq_getElem hj] at this; exact this
theorem fnd_le (G : List (List Pa)) (p : Pa) : fndF G p ≤ G.length := List.findIdx_le_length
theorem plc_le (m : List Pa) (x : Int) : plcF m x ≤ m.length := List.findIdx_le_length
theorem plc_at {m : List Pa} {x : Int} {k : Nat} (hk : k ≤ m.length) (h : k < m.length → ¬ (m.getD k Pa.zero).x < x) (hl : ∀ j, j < k → (m.getD j Pa.zero).x < x) : plcF m x = k := by
  unfold plcF
  rcases Nat.lt_or_ge k m.length with hlt | hge
  · rw [List.findIdx_eq hlt]
    refine ⟨?_, fun j hj => ?_⟩
    · have := h hlt
      rw [List.getD_eq_getElem?_getD, List.getElem?_eq_getElem hlt] at this
      simp at this; simpa using this
    · have := hl j hj
      rw [List.getD_eq_getElem?_getD, List.getElem?_eq_getElem (by omega)] at this
      simp at this; simpa using this
  · obtain rfl : k = m.length := by omega
    rw [List.findIdx_eq_length]
    intro q hq
    obtain ⟨j, hj, rfl⟩ := List.getElem_of_mem hq
    have := hl j hj
    rw [List.getD_eq_getElem?_getD, List.getElem?_eq_getElem hj] at this
    simp at this; simpa using this
theorem plc_lt (m : List Pa) (x : Int) (j : Nat) (h : j < plcF m x) : (m.getD j Pa.zero).x < x := by
  have hl := plc_le m x
  have := List.not_of_lt_findIdx h
  rw [List.getD_eq_getElem?_getD, List.getElem?_eq_getElem (by omega)]
  simpa using this
theorem plc_ge (m : List Pa) (x : Int) (h : plcF m x < m.length) : x ≤ (m.getD (plcF m x) Pa.zero).x := by
  have := List.findIdx_getElem (p := fun q : Pa => !decide (q.x < x)) (xs := m) (w := h)
  rw [List.getD_eq_getElem?_getD, List.getElem?_eq_getElem h]
  show x ≤ (m[plcF m x]).x
  have h2 : (!decide ((m[plcF m x]).x < x)) = true := this
  simpa using h2
/- a message that began, and is not whole or just is: some packets, all of one message, that may be, rising -/
structure Good (m : List Pa) : Prop where
  some : m ≠ []
  may : ∀ q ∈ m, q.may = true
  key : ∀ q ∈ m, q.i = (hd m).i ∧ q.f = (hd m).f ∧ q.t = (hd m).t ∧ q.c = (hd m).c
  up : m.Pairwise (fun a b => a.x < b.x)
theorem with_iff (p q : Pa) : p.with q = true ↔ p.i = q.i ∧ p.f = q.f ∧ p.t = q.t := by simp [Pa.with]
theorem hd_mem {m : List Pa} (h : m ≠ []) : hd m ∈ m := by
  cases m with
  | nil => exact absurd rfl h
  | cons a r => exact List.mem_cons_self ..
theorem Good.pos {m : List Pa} (h : Good m) : 0 < m.length := by
  have := h.some
  cases m with
  | nil => exact absurd rfl this
  | cons a r => simp
theorem up_get {m : List Pa} (h : m.Pairwise (fun a b => a.x < b.x)) {i j : Nat} (hij : i < j) (hj : j < m.length) : (m.getD i Pa.zero).x < (m.getD j Pa.zero).x := by
  rw [List.getD_eq_getElem?_getD, List.getD_eq_getElem?_getD, List.getElem?_eq_getElem hj, List.getElem?_eq_getElem (by omega)]
  exact List.pairwise_iff_getElem.1 h i j (by omega) hj hij
theorem up_low {m : List Pa} (h : m.Pairwise (fun a b => a.x < b.x)) (h0 : ∀ q ∈ m, 0 ≤ q.x) : ∀ j, j < m.length → (j : Int) ≤ (m.getD j Pa.zero).x
  | 0, hj => h0 _ (getK_mem m 0 hj)
  | j + 1, hj => by
    have h1 := up_low h h0 j (by omega)
    have h2 := up_get h (show j < j + 1 by omega) hj
    omega
theorem up_high {m : List Pa} (h : m.Pairwise (fun a b => a.x < b.x)) (c : Int) (hc : ∀ q ∈ m, q.x < c) : ∀ d j, j + d + 1 = m.length → (m.getD j Pa.zero).x + d < c
  | 0, j, hj => by have := hc _ (getK_mem m j (by omega)); omega
  | d + 1, j, hj => by
    have h1 := up_high h c hc d (j + 1) (by omega)
    have h2 := up_get h (show j < j + 1 by omega) (by omega)
    omega
theorem Good.x {m : List Pa} (h : Good m) (q : Pa) (hq : q ∈ m) : 0 ≤ q.x ∧ q.x < (hd m).c ∧ (hd m).c ≤ 256 ∧ q.sn ≤ 32768 := by
  have h1 := (may_iff _ _ _).1 (h.may q hq)
  have h2 := (h.key q hq).2.2.2
  omega
theorem Good.len {m : List Pa} (h : Good m) : (m.length : Int) ≤ (hd m).c := by
  have hp := h.pos
  have := up_high h.up (hd m).c (fun q hq => (h.x q hq).2.1) (m.length - 1) 0 (by omega)
  have := up_low h.up (fun q hq => (h.x q hq).1) 0 hp
  omega
theorem Good.few {m : List Pa} (h : Good m) : m.length ≤ 256 := by
  have := h.len
  have := (h.x _ (hd_mem h.some)).2.2.1
  omega
/- of a message that is whole each stands at its place -/
theorem Good.full {m : List Pa} (h : Good m) (hl : (m.length : Int) = (hd m).c) (j : Nat) (hj : j < m.length) : (m.getD j Pa.zero).x = (j : Int) := by
  have h1 := up_low h.up (fun q hq => (h.x q hq).1) j hj
  have h2 := up_high h.up (hd m).c (fun q hq => (h.x q hq).2.1) (m.length - 1 - j) j (by omega)
  omega
theorem Good.join {m : List Pa} (h : Good m) : joinB m = decide ((m.length : Int) = (hd m).c) := by
  have hp := h.pos
  by_cases hl : (m.length : Int) = (hd m).c
  · rw [decide_eq_true hl]
    unfold joinB
    rw [Bool.and_eq_true]
    refine ⟨by cases m with | nil => simp at hp | cons a r => rfl, okL_of m 0 fun j hj => ?_⟩
    have hm := getK_mem m j hj
    obtain ⟨k1, k2, k3, k4⟩ := h.key _ hm
    unfold okK
    have hw : (m.getD j Pa.zero).with (m.getD 0 Pa.zero) = true := (with_iff _ _).2 ⟨k1, k2, k3⟩
    rw [h.may _ hm, h.full hl j hj, k4, ← hl, hw]
    simp
  · rw [decide_eq_false hl]
    rw [Bool.eq_false_iff]
    intro e
    unfold joinB at e
    rw [Bool.and_eq_true] at e
    have e2 := e.2
    cases m with
    | nil => simp at hp
    | cons a r =>
      rw [okL, Bool.and_eq_true] at e2
      have e3 := e2.1
      unfold okK at e3
      simp only [Bool.and_eq_true, beq_iff_eq] at e3
      exact hl e3.2.2.1.symm
theorem ins_mem {m : List Pa} {p q : Pa} : q ∈ insF m p ↔ q = p ∨ q ∈ m := by
  unfold insF
  rw [List.mem_append, List.mem_cons]
  have e := List.take_append_drop (plcF m p.x) m
  constructor
  · rintro (h | h | h)
    · exact .inr (List.mem_of_mem_take h)
    · exact .inl h
    · exact .inr (List.mem_of_mem_drop h)
  · rintro (h | h)
    · exact .inr (.inl h)
    · rw [← e, List.mem_append] at h
      rcases h with h | h
      · exact .inl h
      · exact .inr (.inr h)
theorem ins_len (m : List Pa) (p : Pa) : (insF m p).length = m.length + 1 := by
  have := plc_le m p.x
  unfold insF
  rw [List.length_append, List.length_cons, List.length_take, List.length_drop]
  omega
theorem ins_perm (m : List Pa) (p : Pa) : (insF m p).Perm (p :: m) := by
  unfold insF
  refine List.perm_middle.trans ?_
  rw [List.take_append_drop]
theorem ins_nil (p : Pa) : insF [] p = [p] := rfl
theorem dup_iff {m : List Pa} (h : m.Pairwise (fun a b => a.x < b.x)) (x : Int) : dupF m x = true ↔ ∃ q ∈ m, q.x = x := by
  unfold dupF
  rw [Bool.and_eq_true, decide_eq_true_eq, beq_iff_eq]
  constructor
  · rintro ⟨h1, h2⟩
    exact ⟨_, getK_mem m _ h1, h2⟩
  · rintro ⟨q, hq, rfl⟩
    obtain ⟨j, hj, rfl⟩ := List.getElem_of_mem hq
    have e : m.getD j Pa.zero = m[j] := by rw [List.getD_eq_getElem?_getD, List.getElem?_eq_getElem hj]; rfl
    have : plcF m m[j].x = j := by
      rw [← e]
      exact plc_at (by omega) (fun _ => by omega) (fun i hi => up_get h hi hj)
    rw [this]
    exact ⟨hj, by rw [e]⟩
theorem okW_iff {m : List Pa} (h : m.Pairwise (fun a b => a.x < b.x)) (p : Pa) : okW m p = true ↔ (∀ q ∈ m, q.x ≠ p.x) ∧ (m ≠ [] → (hd m).c = p.c) := by
  unfold okW
  rw [Bool.and_eq_true, Bool.not_eq_true', Bool.not_eq_true', Bool.eq_false_iff, Ne, dup_iff h, Bool.eq_false_iff]
  unfold misF
  cases m with
  | nil => simp
  | cons a r => simp
theorem ins_up {m : List Pa} (h : m.Pairwise (fun a b => a.x < b.x)) (p : Pa) (hx : ∀ q ∈ m, q.x ≠ p.x) : (insF m p).Pairwise (fun a b => a.x < b.x) := by
  have hle := plc_le m p.x
  unfold insF
  rw [List.pairwise_append]
  refine ⟨h.sublist (List.take_sublist _ _), ?_, ?_⟩
  · rw [List.pairwise_cons]
    refine ⟨fun q hq => ?_, h.sublist (List.drop_sublist _ _)⟩
    obtain ⟨j, hj, rfl⟩ := List.getElem_of_mem hq
    rw [List.length_drop] at hj
    have hlt : plcF m p.x < m.length := by omega
    have h1 := plc_ge m p.x hlt
    have h2 := hx _ (getK_mem m _ hlt)
    have e : (m.drop (plcF m p.x))[j]'(by rw [List.length_drop]; exact hj) = m.getD (plcF m p.x + j) Pa.zero := by
      rw [List.getElem_drop, List.getD_eq_getElem?_getD, List.getElem?_eq_getElem (by omega)]; rfl
    rw [e]
    rcases Nat.eq_zero_or_pos j with rfl | hj0
    · rw [Nat.add_zero]; omega
    · have := up_get h (show plcF m p.x < plcF m p.x + j by omega) (by omega)
      omega
  · intro a ha b hb
    obtain ⟨i, hi, rfl⟩ := List.getElem_of_mem ha
    rw [List.length_take] at hi
    have e : (m.take (plcF m p.x))[i]'(by rw [List.length_take]; exact hi) = m.getD i Pa.zero := by
      rw [List.getElem_take, List.getD_eq_getElem?_getD, List.getElem?_eq_getElem (by omega)]; rfl
    rw [e]
    have h1 := plc_lt m p.x i (by omega)
    rcases List.mem_cons.1 hb with rfl | hb
    · exact h1
    · obtain ⟨j, hj, rfl⟩ := List.getElem_of_mem hb
      rw [List.length_drop] at hj
      have e : (m.drop (plcF m p.x))[j]'(by rw [List.length_drop]; exact hj) = m.getD (plcF m p.x + j) Pa.zero := by
        rw [List.getElem_drop, List.getD_eq_getElem?_getD, List.getElem?_eq_getElem (by omega)]; rfl
      rw [e]
      exact up_get h (by omega) (by omega)
theorem good_one {p : Pa} (h : p.may = true) : Good [p] :=
  ⟨by simp, fun q hq => by rw [List.mem_singleton.1 hq]; exact h, fun q hq => by rw [List.mem_singleton.1 hq]; exact ⟨rfl, rfl, rfl, rfl⟩, List.pairwise_singleton _ _⟩
/- all of a message's are alike in this, the first one or another -/
theorem Good.ins {m : List Pa} (h : Good m) {p : Pa} (hp : p.may = true) (hk : (hd m).with p = true) (ho : okW m p = true) : Good (insF m p) := by
  obtain ⟨o1, o2⟩ := (okW_iff h.up p).1 ho
  have o2 := o2 h.some
  obtain ⟨k1, k2, k3⟩ := (with_iff _ _).1 hk
  have hall : ∀ q ∈ insF m p, q.i = p.i ∧ q.f = p.f ∧ q.t = p.t ∧ q.c = p.c := fun q hq => by
    rcases ins_mem.1 hq with rfl | hq
    · exact ⟨rfl, rfl, rfl, rfl⟩
    · obtain ⟨j1, j2, j3, j4⟩ := h.key q hq
      exact ⟨j1.trans k1, j2.trans k2, j3.trans k3, j4.trans o2⟩
  have hne : insF m p ≠ [] := by
    intro e
    have := ins_len m p
    rw [e] at this; simp at this
  refine ⟨hne, fun q hq => ?_, fun q hq => ?_, ins_up h.up p o1⟩
  · rcases ins_mem.1 hq with rfl | hq
    · exact hp
    · exact h.may q hq
  · obtain ⟨j1, j2, j3, j4⟩ := hall q hq
    obtain ⟨i1, i2, i3, i4⟩ := hall _ (hd_mem hne)
    exact ⟨j1.trans i1.symm, j2.trans i2.symm, j3.trans i3.symm, j4.trans i4.symm⟩
theorem Good.ins_c {m : List Pa} {p : Pa} (h : Good (insF m p)) : (hd (insF m p)).c = p.c := ((h.key p (ins_mem.2 (.inl rfl))).2.2.2).symm
/- messages that began: few, each good, no two of one -/
structure Inv (G : List (List Pa)) : Prop where
  few : G.length ≤ 16
  good : ∀ m ∈ G, Good m
  apart : G.Pairwise (fun m n => (hd m).with (hd n) = false)
theorem inv_nil : Inv [] := ⟨by simp, (fun _ h => by cases h), List.Pairwise.nil⟩
theorem getG_mem (G : List (List Pa)) (k : Nat) (h : k < G.length) : G.getD k [] ∈ G := by
  rw [List.getD_eq_getElem?_getD, List.getElem?_eq_getElem h]; exact List.getElem_mem h
theorem fnd_with {G : List (List Pa)} {p : Pa} (h : fndF G p < G.length) : (hd (G.getD (fndF G p) [])).with p = true := by
  have := List.findIdx_getElem (p := fun m : List Pa => (hd m).with p) (xs := G) (w := h)
  rw [List.getD_eq_getElem?_getD, List.getElem?_eq_getElem h]
  exact this
theorem fnd_not {G : List (List Pa)} {p : Pa} (h : ¬ fndF G p < G.length) : ∀ m ∈ G, (hd m).with p = false := by
  have e : fndF G p = G.length := by have := fnd_le G p; omega
  unfold fndF at e
  exact fun m hm => List.findIdx_eq_length.1 e m hm
theorem with_comm {p q r : Pa} (h : p.with q = true) : q.with r = p.with r := by
  obtain ⟨h1, h2, h3⟩ := (with_iff _ _).1 h
  unfold Pa.with; rw [h1, h2, h3]
theorem with_right {p q r : Pa} (h : p.with q = true) : r.with p = r.with q := by
  obtain ⟨h1, h2, h3⟩ := (with_iff _ _).1 h
  unfold Pa.with; rw [h1, h2, h3]
theorem ofF_old {G : List (List Pa)} {p : Pa} (h : fndF G p < G.length) : ofF G p = G.getD (fndF G p) [] := by
  unfold ofF opnF atF; rw [if_pos h, if_pos h]
theorem ofF_new {G : List (List Pa)} {p : Pa} (h : ¬ fndF G p < G.length) : ofF G p = [] := by
  unfold ofF opnF atF
  rw [if_neg h, if_neg h, List.getD_eq_getElem?_getD, List.getElem?_append_right (Nat.le_refl _)]
  simp
theorem atF_lt (G : List (List Pa)) (p : Pa) : atF G p < (opnF G p).length := by
  unfold atF opnF
  split <;> simp_all
theorem eraseG {G : List (List Pa)} {k : Nat} : G.eraseIdx k = G.take k ++ G.drop (k + 1) := List.eraseIdx_eq_take_drop_succ ..
theorem setG {G : List (List Pa)} {k : Nat} (h : k < G.length) (m : List Pa) : G.set k m = G.take k ++ m :: G.drop (k + 1) := by
  rw [List.set_eq_take_append_cons_drop, if_pos h]
theorem okW_nil (p : Pa) : okW [] p = true := rfl
theorem hd_ins {m : List Pa} {p : Pa} (h : Good (insF m p)) : p.with (hd (insF m p)) = true := by
  obtain ⟨k1, k2, k3, _⟩ := h.key p (ins_mem.2 (.inl rfl))
  exact (with_iff _ _).2 ⟨k1, k2, k3⟩
theorem stay_sub (G : List (List Pa)) : (stayF G).Sublist G := by
  unfold stayF; split
  · exact List.drop_sublist _ _
  · exact List.Sublist.refl _
theorem stay_len (G : List (List Pa)) (h : G.length ≤ 16) : (stayF G).length ≤ 15 := by
  unfold stayF; split
  · rw [List.length_drop]; omega
  · omega
theorem Inv.sub {G H : List (List Pa)} (h : Inv G) (s : H.Sublist G) : Inv H := ⟨Nat.le_trans s.length_le h.few, fun m hm => h.good m (s.subset hm), h.apart.sublist s⟩
/- what an Add makes of a message that had begun -/
theorem add_old {G : List (List Pa)} {p : Pa} (hm : p.may = true) (h : fndF G p < G.length) : addF G p =
    if okW (G.getD (fndF G p) []) p = true then
      if joinB (insF (G.getD (fndF G p) []) p) = true then (some (joinL (insF (G.getD (fndF G p) []) p)), G.eraseIdx (fndF G p))
      else (none, G.set (fndF G p) (insF (G.getD (fndF G p) []) p))
    else (none, G) := by
  unfold addF
  rw [if_pos hm, ofF_old h]
  unfold opnF atF
  rw [if_pos h, if_pos h]
theorem add_new {G : List (List Pa)} {p : Pa} (hm : p.may = true) (h : ¬ fndF G p < G.length) : addF G p =
    if p.c = 1 then (some p.l, stayF G) else (none, stayF G ++ [[p]]) := by
  unfold addF
  rw [if_pos hm, ofF_new h, if_pos (okW_nil p)]
  have hg := good_one hm
  have hj := hg.join
  rw [ins_nil, hj]
  unfold opnF atF
  rw [if_neg h, if_neg h]
  by_cases h1 : p.c = 1
  · rw [if_pos h1, if_pos (by show decide (((1 : Nat) : Int) = p.c) = true; simp [h1])]
    rw [List.eraseIdx_append_of_length_le (Nat.le_refl _)]
    simp [joinL]
  · rw [if_neg h1, if_neg (by show ¬ decide (((1 : Nat) : Int) = p.c) = true; simp; omega)]
    rw [List.set_append_right _ _ (Nat.le_refl _)]
    simp
theorem Inv.add {G : List (List Pa)} (h : Inv G) (p : Pa) : Inv (addF G p).2 := by
  by_cases hm : p.may = true
  · by_cases hf : fndF G p < G.length
    · rw [add_old hm hf]
      have hgm := getG_mem G _ hf
      have hw := fnd_with hf
      split
      · next ho =>
        split
        · exact h.sub (List.eraseIdx_sublist _ _)
        · have hgo := (h.good _ hgm).ins hm hw ho
          refine ⟨by rw [List.length_set]; exact h.few, fun m hm2 => ?_, ?_⟩
          · rcases List.mem_or_eq_of_mem_set hm2 with hm2 | rfl
            · exact h.good m hm2
            · exact hgo
          · show (G.set _ _).Pairwise _
            rw [List.pairwise_iff_getElem]
            intro i j hi hj hij
            rw [List.length_set] at hi hj
            have hap := List.pairwise_iff_getElem.1 h.apart i j hi hj hij
            have e2 : ∀ r, (hd (insF (G.getD (fndF G p) []) p)).with r = (hd (G.getD (fndF G p) [])).with r := fun r => by
              rw [with_comm (hd_ins hgo), with_comm hw]
            have e3 : ∀ r : Pa, r.with (hd (insF (G.getD (fndF G p) []) p)) = r.with (hd (G.getD (fndF G p) [])) := fun r => by
              rw [← with_right (hd_ins hgo), ← with_right hw]
            have eG : G.getD (fndF G p) [] = G[fndF G p] := by rw [List.getD_eq_getElem?_getD, List.getElem?_eq_getElem hf]; rfl
            rw [List.getElem_set, List.getElem_set]
            split
            · next e =>
              subst e
              rw [if_neg (by omega), e2]; exact (congrArg (fun z => (hd z).with (hd G[j])) eG).trans hap
            · split
              · next e =>
                subst e
                rw [e3]; exact (congrArg (fun z => (hd G[i]).with (hd z)) eG).trans hap
              · exact hap
      · exact h
    · rw [add_new hm hf]
      have hs := h.sub (stay_sub G)
      split
      · exact hs
      · refine ⟨?_, fun m hm2 => ?_, ?_⟩
        · show (stayF G ++ [[p]]).length ≤ 16
          have := stay_len G h.few
          rw [List.length_append]; simp; omega
        · rcases List.mem_append.1 hm2 with hm2 | hm2
          · exact hs.good m hm2
          · rw [List.mem_singleton.1 hm2]; exact good_one hm
        · show (stayF G ++ [[p]]).Pairwise _
          rw [List.pairwise_append]
          refine ⟨hs.apart, List.pairwise_singleton _ _, fun a ha b hb => ?_⟩
          rw [List.mem_singleton.1 hb]
          exact fnd_not hf a ((stay_sub G).subset ha)
  · unfold addF; rw [if_neg hm]; exact h
/- without where data lies it is all the same -/
theorem nm_with (p q : Pa) : p.nm.with q.nm = p.with q := rfl
theorem hd_nm (m : List Pa) : (hd (m.map Pa.nm)).with = (hd m).with := by
  cases m <;> rfl
theorem fnd_nm (G : List (List Pa)) (p : Pa) : fndF (G.map (·.map Pa.nm)) p.nm = fndF G p := by
  unfold fndF
  rw [List.findIdx_map]
  congr 1
  funext m
  show (hd (m.map Pa.nm)).with p.nm = (hd m).with p
  rw [hd_nm]; rfl
theorem getK_nm (m : List Pa) (k : Nat) (h : k < m.length) : (m.map Pa.nm).getD k Pa.zero = (m.getD k Pa.zero).nm := by
  rw [List.getD_eq_getElem?_getD, List.getD_eq_getElem?_getD, List.getElem?_map, List.getElem?_eq_getElem h]; rfl
theorem plc_nm (m : List Pa) (x : Int) : plcF (m.map Pa.nm) x = plcF m x := by
  unfold plcF
  rw [List.findIdx_map]; rfl
theorem okW_nm (m : List Pa) (p : Pa) : okW (m.map Pa.nm) p.nm = okW m p := by
  unfold okW dupF misF
  rw [show p.nm.x = p.x from rfl, show p.nm.c = p.c from rfl, plc_nm, List.length_map]
  congr 2
  · by_cases h : plcF m p.x < m.length
    · rw [getK_nm m _ h]; rfl
    · rw [decide_eq_false h]; rfl
  · cases m <;> rfl
theorem ins_nm (m : List Pa) (p : Pa) : insF (m.map Pa.nm) p.nm = (insF m p).map Pa.nm := by
  unfold insF
  rw [show p.nm.x = p.x from rfl, plc_nm, List.map_append, List.map_cons, List.map_take, List.map_drop]
theorem okL_nm (n : Nat) (q : Pa) : ∀ (k : Nat) (m : List Pa), (∀ x ∈ m, x.sn = x.l.length) → okL n q.nm k (m.map Pa.nm) = okL n q k m
  | _, [], _ => rfl
  | k, p :: r, h => by
    rw [List.map_cons, okL, okL, okL_nm n q (k + 1) r (fun x hx => h x (List.mem_cons_of_mem _ hx))]
    congr 1
    unfold okK Pa.may
    rw [show p.nm.sn = p.l.length from rfl, ← h p (List.mem_cons_self ..)]; rfl
theorem join_nm (m : List Pa) (h : ∀ x ∈ m, x.sn = x.l.length) : joinB (m.map Pa.nm) = joinB m := by
  cases m with
  | nil => rfl
  | cons a r =>
    unfold joinB
    rw [List.length_map]
    show (_ && okL _ a.nm 0 _) = (_ && okL _ a 0 _)
    rw [okL_nm _ _ _ _ h]; rfl
theorem joinL_nm (m : List Pa) : joinL (m.map Pa.nm) = joinL m := by
  unfold joinL
  rw [List.flatMap_map]; rfl
end Go.Proofs.Ytdfakeddhoolcaa
