/-
  A message's packets, and which of them have come: what a gather makes of the next one, beside another message's.
-/
import Derived.Test.YtdfakeddhoolcaaGMath
namespace Go.Proofs.Ytdfakeddhoolcaa
/- a message's packets -/
structure Sq (P : Nat → Pa) (n : Nat) : Prop where
  may : ∀ k, k < n → (P k).may = true
  x : ∀ k, k < n → (P k).x = (k : Int)
  c : ∀ k, k < n → (P k).c = (n : Int)
  key : ∀ j k, j < n → k < n → (P j).with (P k) = true
/- which of them have come: so many are missing -/
def One (P : Nat → Pa) (n : Nat) (seen : Nat → Bool) (r : Nat) (A : List (List Pa)) : Prop :=
  (A = [] ∧ r = n ∧ 0 < n ∧ ∀ k, k < n → seen k = false) ∨ ∃ m, A = [m] ∧ Good m ∧ (∀ q, q ∈ m ↔ ∃ k, k < n ∧ seen k = true ∧ q = P k) ∧ m.length + r = n ∧ 0 < r
def upd (seen : Nat → Bool) (k : Nat) : Nat → Bool := fun j => if j = k then true else seen j
def allL (P : Nat → Pa) (n : Nat) : List UInt8 := (List.range n).flatMap fun j => (P j).l
theorem One.pos {P : Nat → Pa} {n r : Nat} {seen : Nat → Bool} {A : List (List Pa)} (h : One P n seen r A) : 0 < r ∧ r ≤ n := by
  rcases h with ⟨_, h1, h2, _⟩ | ⟨m, _, hg, _, h1, h2⟩ <;> omega
theorem stay_few {G : List (List Pa)} (h : G.length < 16) : stayF G = G := by unfold stayF; rw [if_neg (by omega)]
theorem full_eq {P : Nat → Pa} {n : Nat} (hP : Sq P n) {m : List Pa} (hg : Good m) (hm : ∀ q, q ∈ m → ∃ k, k < n ∧ q = P k) (hl : m.length = n) : m = (List.range n).map P := by
  have hc : (hd m).c = (n : Int) := by
    obtain ⟨k, hk, e⟩ := hm _ (hd_mem hg.some)
    rw [e]; exact hP.c k hk
  apply List.ext_getElem (by simp [hl])
  intro j h1 h2
  have hx := hg.full (by rw [hc, hl]) j h1
  have e : m.getD j Pa.zero = m[j] := by rw [List.getD_eq_getElem?_getD, List.getElem?_eq_getElem h1]; rfl
  rw [e] at hx
  obtain ⟨k, hk, e2⟩ := hm _ (List.getElem_mem h1)
  rw [e2, hP.x k hk] at hx
  have : k = j := by omega
  rw [e2, this]; simp
theorem one_add {P : Nat → Pa} {n r k : Nat} {seen : Nat → Bool} {G A B : List (List Pa)} (hP : Sq P n) (hG : G = A ++ B ∨ G = B ++ A) (hA : One P n seen r A) (hB : ∀ m ∈ B, (hd m).with (P k) = false) (hl : B.length ≤ 1) (hk : k < n) :
    (seen k = true → addF G (P k) = (none, G)) ∧
    (seen k = false → 1 < r → ∃ A', (addF G (P k)).1 = none ∧ ((addF G (P k)).2 = A' ++ B ∨ (addF G (P k)).2 = B ++ A') ∧ One P n (upd seen k) (r - 1) A') ∧
    (seen k = false → r = 1 → addF G (P k) = (some (allL P n), B)) := by
  have hmay := hP.may k hk
  rcases hA with ⟨rfl, rfl, h0, hs⟩ | ⟨m, rfl, hg, hm, hlen, hr⟩
  · have hGB : G = B := by rcases hG with h | h <;> simpa using h
    subst hGB
    have hnf : ¬ fndF G (P k) < G.length := by
      rw [fnd_none (fun j hj => hB _ (getG_mem G j hj))]; omega
    have hst := stay_few (G := G) (by omega)
    rw [add_new hmay hnf, hst, hP.c k hk]
    refine ⟨fun h => ?_, fun _ h => ?_, fun _ h => ?_⟩
    · rw [hs k hk] at h; cases h
    · rw [if_neg (by omega)]
      refine ⟨[[P k]], rfl, .inr rfl, .inr ⟨[P k], rfl, good_one hmay, fun q => ?_, by simp; omega, by omega⟩⟩
      rw [List.mem_singleton]
      constructor
      · rintro rfl; exact ⟨k, hk, by simp [upd], rfl⟩
      · rintro ⟨j, hj, h1, rfl⟩
        unfold upd at h1
        split at h1
        · next e => rw [e]
        · rw [hs j hj] at h1; cases h1
    · rw [if_pos (by omega)]
      subst h
      obtain rfl : k = 0 := by omega
      simp [allL]
  · obtain ⟨k0, hk0, hs0, e0⟩ := (hm _).1 (hd_mem hg.some)
    have hw : (hd m).with (P k) = true := by rw [e0]; exact hP.key k0 k hk0 hk
    have hcm : (hd m).c = (n : Int) := by rw [e0]; exact hP.c k0 hk0
    obtain ⟨i, hi, hfi, hgi, hse, her⟩ : ∃ i, i < G.length ∧ fndF G (P k) = i ∧ G.getD i [] = m ∧ (∀ m', G.set i m' = [m'] ++ B ∨ G.set i m' = B ++ [m']) ∧ G.eraseIdx i = B := by
      rcases hG with rfl | rfl
      · refine ⟨0, by simp, fnd_at (by simp) (by simpa using hw) (fun j hj => by omega), by simp, fun m' => .inl (by simp), by simp⟩
      · refine ⟨B.length, by simp, fnd_at (by simp) ?_ (fun j hj => ?_), ?_, fun m' => .inr ?_, ?_⟩
        · rw [List.getD_eq_getElem?_getD, List.getElem?_append_right (Nat.le_refl _)]; simpa using hw
        · rw [List.getD_eq_getElem?_getD, List.getElem?_append_left hj, ← List.getD_eq_getElem?_getD]
          exact hB _ (getG_mem B j hj)
        · rw [List.getD_eq_getElem?_getD, List.getElem?_append_right (Nat.le_refl _)]; simp
        · rw [List.set_append_right _ _ (Nat.le_refl _)]; simp
        · rw [List.eraseIdx_append_of_length_le (Nat.le_refl _)]; simp
    rw [add_old hmay (by rw [hfi]; exact hi), hfi, hgi, her]
    refine ⟨fun h => ?_, fun h h1 => ?_, fun h h1 => ?_⟩
    · have : okW m (P k) = false := by
        rw [Bool.eq_false_iff]
        intro e
        exact ((okW_iff hg.up _).1 e).1 (P k) ((hm _).2 ⟨k, hk, h, rfl⟩) rfl
      rw [if_neg (by rw [this]; decide)]
    all_goals
      have hok : okW m (P k) = true := by
        refine (okW_iff hg.up _).2 ⟨fun q hq e => ?_, fun _ => by rw [hcm, hP.c k hk]⟩
        obtain ⟨j, hj, hsj, rfl⟩ := (hm q).1 hq
        rw [hP.x j hj, hP.x k hk] at e
        have : j = k := by omega
        rw [this, h] at hsj; cases hsj
      have hgi := hg.ins hmay hw hok
      have hlen2 := ins_len m (P k)
      have hjn := hgi.join
      rw [hgi.ins_c, hP.c k hk, hlen2] at hjn
      have hmem : ∀ q, q ∈ insF m (P k) ↔ ∃ j, j < n ∧ upd seen k j = true ∧ q = P j := fun q => by
        rw [ins_mem, hm]
        constructor
        · rintro (rfl | ⟨j, hj, hsj, rfl⟩)
          · exact ⟨k, hk, by simp [upd], rfl⟩
          · exact ⟨j, hj, by unfold upd; split <;> simp_all, rfl⟩
        · rintro ⟨j, hj, hsj, rfl⟩
          unfold upd at hsj
          split at hsj
          · next e => rw [e]; exact .inl rfl
          · exact .inr ⟨j, hj, hsj, rfl⟩
    · rw [if_pos hok, hjn, if_neg (by simp; omega)]
      exact ⟨[insF m (P k)], rfl, hse _, .inr ⟨_, rfl, hgi, hmem, by omega, by omega⟩⟩
    · rw [if_pos hok, hjn, if_pos (by simp; omega)]
      rw [full_eq hP hgi (fun q hq => by obtain ⟨j, hj, _, e⟩ := (hmem q).1 hq; exact ⟨j, hj, e⟩) (by omega)]
      simp [joinL, allL, List.flatMap_map]
theorem Inv.small {G : List (List Pa)} (h : Inv G) : ∀ m ∈ G, m ≠ [] ∧ m.length ≤ 256 := fun m hm => ⟨(h.good m hm).some, (h.good m hm).few⟩
/- those that Split makes -/
def pkF (f t i : Int) (l : List UInt8) (s c k : Nat) : Pa := ⟨f, t, i, (k : Int), (c : Int), none, (pcF l s k).length, 0, pcF l s k⟩
theorem spl_nm {f t i : Int} {s : Nat} {l : List UInt8} {c : Nat} {L : List Pa} (h : Spl f t i s l c L) (k : Nat) (hk : k < c) : (L.getD k Pa.zero).nm = pkF f t i l s c k := by
  obtain ⟨h1, h2, h3, h4, h5, h6⟩ := h.2 k hk
  unfold Pa.nm pkF
  rw [h1, h2, h3, h4, h5, h6]
theorem sq_pk (f t i : Int) (l : List UInt8) (s c : Nat) (hs : s ≤ 32768) (hc : c ≤ 256) (hc0 : 1 ≤ c) : Sq (pkF f t i l s c) c := by
  refine ⟨fun k hk => (may_iff _ _ _).2 ⟨?_, ?_, ?_, ?_, ?_⟩, fun k hk => rfl, fun k hk => rfl, fun j k hj hk => (with_iff _ _).2 ⟨rfl, rfl, rfl⟩⟩
  · show (1 : Int) ≤ (c : Int); omega
  · show (c : Int) ≤ 256; omega
  · show (0 : Int) ≤ (k : Int); omega
  · show (k : Int) < (c : Int); omega
  · show (pcF l s k).length ≤ 32768; rw [pc_len]; omega
theorem all_pk (f t i : Int) (l : List UInt8) (s : Nat) (hs : 1 ≤ s) : allL (pkF f t i l s (cntF l.length s)) (cntF l.length s) = l := by
  unfold allL
  exact pcs_join l s hs
theorem One.len {P : Nat → Pa} {n r : Nat} {seen : Nat → Bool} {A : List (List Pa)} (h : One P n seen r A) : A.length = if r < n then 1 else 0 := by
  rcases h with ⟨rfl, h1, h2, _⟩ | ⟨m, rfl, hg, _, h1, h2⟩
  · rw [if_neg (by omega)]; rfl
  · have := hg.pos
    rw [if_pos (by omega)]; rfl
theorem One.le {P : Nat → Pa} {n r : Nat} {seen : Nat → Bool} {A : List (List Pa)} (h : One P n seen r A) : A.length ≤ 1 := by
  rw [h.len]; split <;> omega
theorem One.ext {P : Nat → Pa} {n r r' : Nat} {seen seen' : Nat → Bool} {A : List (List Pa)} (h : One P n seen r A) (hr : r = r') (hs : ∀ k, k < n → seen k = seen' k) : One P n seen' r' A := by
  subst hr
  rcases h with ⟨h0, h1, h2, h3⟩ | ⟨m, h0, hg, h1, h2, h3⟩
  · exact .inl ⟨h0, h1, h2, fun k hk => by rw [← hs k hk]; exact h3 k hk⟩
  · refine .inr ⟨m, h0, hg, fun q => ?_, h2, h3⟩
    rw [h1]
    constructor
    · rintro ⟨k, hk, a, b⟩; exact ⟨k, hk, by rw [← hs k hk]; exact a, b⟩
    · rintro ⟨k, hk, a, b⟩; exact ⟨k, hk, by rw [hs k hk]; exact a, b⟩
/- a single message alone -/
theorem one_next {P : Nat → Pa} {n r k : Nat} {seen : Nat → Bool} {G : List (List Pa)} (hP : Sq P n) (hA : One P n seen r G) (hk : k < n) (hs : seen k = false) (hr : 1 < r) : (addF G (P k)).1 = none ∧ One P n (upd seen k) (r - 1) (addF G (P k)).2 := by
  obtain ⟨A', h1, h2, h3⟩ := (one_add (G := G) (B := []) hP (.inl (List.append_nil _).symm) hA (fun _ h => by cases h) (by simp) hk).2.1 hs hr
  refine ⟨h1, ?_⟩
  have e : (addF G (P k)).2 = A' := by rcases h2 with h | h <;> simpa using h
  rw [e]; exact h3
theorem one_again {P : Nat → Pa} {n r k : Nat} {seen : Nat → Bool} {G : List (List Pa)} (hP : Sq P n) (hA : One P n seen r G) (hk : k < n) (hs : seen k = true) : addF G (P k) = (none, G) :=
  (one_add (G := G) (B := []) hP (.inl (List.append_nil _).symm) hA (fun _ h => by cases h) (by simp) hk).1 hs
theorem one_last {P : Nat → Pa} {n r k : Nat} {seen : Nat → Bool} {G : List (List Pa)} (hP : Sq P n) (hA : One P n seen r G) (hk : k < n) (hs : seen k = false) (hr : r = 1) : addF G (P k) = (some (allL P n), []) :=
  (one_add (G := G) (B := []) hP (.inl (List.append_nil _).symm) hA (fun _ h => by cases h) (by simp) hk).2.2 hs hr
theorem one_nil {P : Nat → Pa} {n : Nat} (h : 0 < n) : One P n (fun _ => false) n [] := .inl ⟨rfl, rfl, h, fun _ _ => rfl⟩
/- where all are there they are so many -/
theorem up_all {m : List Pa} (h : m.Pairwise (fun a b => a.x < b.x)) (h0 : ∀ q ∈ m, 0 ≤ q.x) (c : Nat) (ha : ∀ k : Nat, k < c → ∃ q ∈ m, q.x = (k : Int)) : ∀ k, k < c → k < m.length ∧ (m.getD k Pa.zero).x = (k : Int) := by
  intro k
  induction k using Nat.strongRecOn with
  | _ k ih =>
    intro hk
    obtain ⟨q, hq, hx⟩ := ha k hk
    obtain ⟨i, hi, rfl⟩ := List.getElem_of_mem hq
    have e : m.getD i Pa.zero = m[i] := by rw [List.getD_eq_getElem?_getD, List.getElem?_eq_getElem hi]; rfl
    rw [← e] at hx
    have hik : k ≤ i := by
      rcases Nat.lt_or_ge i k with h1 | h1
      · have := (ih i h1 (by omega)).2; omega
      · exact h1
    have hlow := up_low h h0 k (by omega)
    refine ⟨by omega, ?_⟩
    rcases Nat.lt_or_ge k i with h2 | h2
    · have := up_get h h2 hi; omega
    · obtain rfl : i = k := by omega
      exact hx
theorem one_full {P : Nat → Pa} {n r : Nat} {seen : Nat → Bool} {A : List (List Pa)} (hP : Sq P n) (h : One P n seen r A) (hs : ∀ k, k < n → seen k = true) : False := by
  rcases h with ⟨_, _, h2, h3⟩ | ⟨m, _, hg, h1, h2, h3⟩
  · have := h3 0 h2; rw [hs 0 h2] at this; cases this
  · have := (up_all hg.up (fun q hq => (hg.x q hq).1) n (fun k hk => ⟨P k, (h1 _).2 ⟨k, hk, hs k hk, rfl⟩, hP.x k hk⟩) (n - 1) (by omega)).1
    omega
theorem one_rest {P : Nat → Pa} {n k : Nat} {seen : Nat → Bool} {A : List (List Pa)} (hP : Sq P n) (h : One P n seen 1 A) (hk : k < n) (hs : seen k = false) (j : Nat) (hj : j < n) (hne : j ≠ k) : seen j = true := by
  rcases h with ⟨_, h1, _, _⟩ | ⟨m, _, hg, hm, hlen, _⟩
  · omega
  · obtain ⟨k0, hk0, hs0, e0⟩ := (hm _).1 (hd_mem hg.some)
    have hw : (hd m).with (P k) = true := by rw [e0]; exact hP.key k0 k hk0 hk
    have hcm : (hd m).c = (n : Int) := by rw [e0]; exact hP.c k0 hk0
    have hok : okW m (P k) = true := by
      refine (okW_iff hg.up _).2 ⟨fun q hq e => ?_, fun _ => by rw [hcm, hP.c k hk]⟩
      obtain ⟨i, hi, hsi, rfl⟩ := (hm q).1 hq
      rw [hP.x i hi, hP.x k hk] at e
      have : i = k := by omega
      rw [this, hs] at hsi; cases hsi
    have hgi := hg.ins (hP.may k hk) hw hok
    have hf := full_eq hP hgi (fun q hq => by
      rcases ins_mem.1 hq with rfl | hq
      · exact ⟨k, hk, rfl⟩
      · obtain ⟨i, hi, _, e⟩ := (hm q).1 hq; exact ⟨i, hi, e⟩) (by rw [ins_len]; omega)
    have hin : P j ∈ insF m (P k) := by rw [hf]; exact List.mem_map.2 ⟨j, List.mem_range.2 hj, rfl⟩
    rcases ins_mem.1 hin with e | hin
    · have := congrArg Pa.x e
      rw [hP.x j hj, hP.x k hk] at this; omega
    · obtain ⟨i, hi, hsi, e⟩ := (hm _).1 hin
      have := congrArg Pa.x e
      rw [hP.x j hj, hP.x i hi] at this
      have : j = i := by omega
      rw [this]; exact hsi
end Go.Proofs.Ytdfakeddhoolcaa
