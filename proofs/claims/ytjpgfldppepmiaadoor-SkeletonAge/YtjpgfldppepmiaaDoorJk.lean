/-
  A round of all a server's objects: how many ended, and what its service is told: a contract.
  Objects that are made one behind the other, and grow old together: the table in a closed form.
  How many objects are left when they have grown old together.
  One half, its server, and the row of its capabilities; what a touching request leaves.
-/
import Derived.Test.YtjpgfldppepmiaaDoorJj
import Derived.Test.YtjpgfldppepmiaaDoorJe
namespace Go.Proofs.YtjpgfldppepmiaaDoor
section
open Go.RowKit
variable {w0 w w1 w2 w' : World} {A : Ad} {p r : Nat} {ws : List Nat} {s s1 : Hs}
theorem Sv.aged (x : Sv w0 w A p ws s) {T' : Nat → Ob} (tb : Tb w' A.g p A.go T') (f : Foot (fun j => j = A.g) w w') : Sv w0 w' A p ws (s.tab s.t s.es T') := by
  obtain ⟨C, hC⟩ := x.od.tb.blk
  obtain ⟨q1, q2, q3, q4, q5⟩ := x.od.tk.noBlk hC (by decide) (by decide) (by decide) (by decide)
  refine ⟨⟨⟨x.od.tk.orc.foot f (fun e => q1 (Eq.symm e)) (fun e => q2 (Eq.symm e)) (fun r hr e => q5 (by rw [← (show r = A.g from e)]; exact hr)), x.od.tk.tape.foot f (fun e => q3 (Eq.symm e)) (fun e => q4 (Eq.symm e)),
    ⟨x.od.tk.new.b0, x.od.tk.new.a0, x.od.tk.new.h0, x.od.tk.new.bel.trans (f.below x.od.tk.new.bel.size fun j e => by have e : j = A.g := e; rw [e]; exact x.od.new), Nat.le_trans x.od.tk.new.bs f.size⟩⟩, tb, x.od.new⟩,
    (f.block _ (lt_of_heap x.box) (fun e => x.noT x.box odd_svc (.inr e))).trans x.box, owns_foot x.dn f (fun r hr e => ?_), owns_foot x.gn f (fun r hr e => ?_), x.hn, x.n0, Nat.le_trans x.nw f.size, x.s0⟩
  · obtain ⟨cur, h1, _⟩ := owns_block x.dn hr
    exact x.noT h1 odd_u64 (.inr e)
  · obtain ⟨cur, h1, _⟩ := owns_block x.gn hr
    exact x.noT h1 odd_int (.inr e)
theorem tb_age (w : World) (x : Sv w0 w A p ws s) :
    Calls Tryd.prog 43 #[.pointer (some ⟨A.g, 0, none⟩)] w fun e w' => ∃ ao cap, e = .returned (.slice ao (goneL s.T 64).length cap) ∧ w'.ownsRow w.heap.size 3 1 (.slice ao (goneL s.T 64).length cap) (goneL s.T 64).length (cellsG (goneL s.T 64)) ∧ Sv w0 w' A p ws (s.tab s.t s.es (agT s.T 64)) ∧ Foot (SvS A) w w' := by
  refine (age_any w x.od.tb).mono ?_
  rintro e w1 ⟨ao, n, cap, rfl, rfl, ho, ht, hf⟩
  exact ⟨ao, cap, rfl, ho, x.aged ht hf, hf.mono (fun j e => .inl (.inr e))⟩
def ToldRel (w0 w : World) (A : Ad) (p r : Nat) (ws : List Nat) (s : Hs) (vr : Value) (L : List Int) (gk : Nat) (vi : Value) (wr : World) : Prop :=
  ∃ k : Nat, vi = .int .i64 (k : Int) ∧ k + gk = L.length ∧ ∃ v dv nv, Sv w0 wr (A.upd v dv nv) p ws ⟨s.t, s.es, agT s.T 64, s.D, s.G ++ L.take k⟩ ∧ (∀ w2 s2, SvEnd w0 wr (A.upd v dv nv) p ws w2 s2 → SvEnd w0 w A p ws w2 s2) ∧ Sr wr r A.g A.sb ∧ (∃ B, wr.ownsRow B 3 1 vr L.length (cellsG L)) ∧ ∀ b, vr.ownBlock = some b → ¬ SvS (A.upd v dv nv) b
theorem take_succ (L : List Int) {k : Nat} (h : k < L.length) : L.take (k + 1) = L.take k ++ [L.getD k 0] := by
  rw [List.take_add_one, List.getElem?_eq_getElem h, List.getD_eq_getElem?_getD, List.getElem?_eq_getElem h]; rfl
set_option maxRecDepth 20000 in
set_option maxHeartbeats 3200000 in
theorem sage_any (w : World) (h : Sr w r A.g A.sb) (x : Sv w0 w A p ws s) (hl : s.G.length ≤ 1000000) :
    Calls Tryd.prog 17 #[.pointer (some ⟨r, 0, none⟩)] w fun e w' => e = .returned (.int .i64 ((goneL s.T 64).length : Nat)) ∧ SvEnd w0 w A p ws w' ⟨s.t, s.es, agT s.T 64, s.D, s.G ++ goneL s.T 64⟩ := by
  have HS := hide h
  have HX := hide x
  have HL := hide hl
  have c0 := h.c0
  have hgl := goneL_len s.T 64
  obtain ⟨L, hLL⟩ : ∃ L, goneL s.T 64 = L := ⟨_, rfl⟩
  rw [hLL] at hgl ⊢
  have HEL := hide hLL
  clear h x hl hLL
  go_enter Tryd.func17, Tryd.ntmps17
  go_wp2_with fail
  refine (whole_any HS.out).mono ?_; rintro e wx ⟨rfl, rfl⟩
  go_wp2_with fail
  refine (tb_age _ HX.out).mono ?_; rintro e w1 ⟨ao, cap, rfl, ho, S1, F1⟩
  have HE1 : Hid (SvEnd w0 wx A p ws w1 (s.tab s.t s.es (agT s.T 64))) := ⟨A.v, A.dv, A.nv, S1, F1, Moved.refl _ _, Moved.refl _ _, Moved.refl _ _⟩
  have HS1 := hide (HS.out.kh (HX.out.kh HE1.out))
  rw [HEL.out] at ho
  rw [HEL.out]
  have HGL := hide hgl
  obtain ⟨ro, rcap, hro, -, hc1, hc2, -⟩ := owns_lies ho
  obtain ⟨rfl, rfl⟩ : ro = ao ∧ rcap = cap := by cases hro; exact ⟨rfl, rfl⟩
  have hc2' : rcap ≤ 9223372036854775807 := hc2
  have hll : (L.length : Int) ≤ 64 := by omega
  have HRR : Hid (ToldRel w0 wx A p r ws s (.slice ro L.length rcap) L L.length (.int .i64 0) w1) := by
    refine ⟨0, rfl, by omega, A.v, A.dv, A.nv, (by rw [List.take_zero, List.append_nil]; exact S1), fun w2 s2 E2 => SvEnd.on F1 (Moved.refl _ _) (Moved.refl _ _) (Moved.refl _ _) E2, HS1.out, ⟨_, ho⟩, fun b hb e => ?_⟩
    obtain ⟨cur, h1, h2⟩ := owns_block ho hb
    have := (HX.out.up (show SvS A b from e)).2
    omega
  clear c0 ho S1 F1 hro hgl hc2 HX HS HE1 HS1
  go_wp2_with fail
  go_loopg [16] L.length (fun gk vi wr => ToldRel w0 wx A p r ws s (.slice ro L.length rcap) L gk vi wr)
  case atStart => exact HRR.out
  case round =>
    obtain ⟨k, rfl, hk, v, dv, nv, S, on1, HSr, ⟨B, ho⟩, hnb⟩ := hrel
    have HSV := hide S
    have HON := hide on1
    have HSR := hide HSr
    have HO := hide ho
    have HNB := hide hnb
    clear S on1 HSr ho hnb HRR
    cases gk with
    | zero =>
      obtain rfl : k = L.length := by omega
      have hlt : ¬ ((L.length : Int) < (L.length : Int)) := by omega
      clear hk
      go_wp2
      go_ret
      have h := HSV.out
      rw [List.take_length] at h
      exact ⟨rfl, HON.out _ _ h.stay⟩
    | succ g1 =>
      have hkn : k < L.length := by omega
      have hk1 : (k : Int) < (L.length : Int) := by omega
      have hk0 : (0 : Int) ≤ (k : Int) := by omega
      obtain ⟨b, hb1, x0⟩ := owns_one HO.out hkn
      obtain ⟨z, hz⟩ : ∃ z, L.getD k 0 = z := ⟨_, rfl⟩
      rw [hz] at x0
      have HZ := hide hz
      have HK := hide hk
      have HKN := hide hkn
      clear hz hk hkn
      subst hb1
      go_wp2_with fail
      refine (srv_gone z _ (A := A.upd v dv nv) HSR.out HSV.out (by show (s.G ++ L.take k).length ≤ _; rw [List.length_append, List.length_take]; have := HL.out; have := HKN.out; have := HGL.out; omega)).mono ?_; rintro e w2 ⟨rfl, E⟩
      have HKH := hide (HSV.out.kh E)
      obtain ⟨v', dv', nv', S', F', m1, m2, m3⟩ := E
      have HSV' := hide S'
      have HON' : Hid (∀ w3 s2, SvEnd w0 w2 (A.upd v' dv' nv') p ws w3 s2 → SvEnd w0 wx A p ws w3 s2) := fun w3 s2 E2 => HON.out _ _ (SvEnd.on F' m1 m2 m3 E2)
      have HO' := hide (owns_foot HO.out F' (fun q hq e => HNB.out q hq e))
      have HNB' : Hid (∀ b', (Value.slice (some ⟨b, 0, none⟩) L.length rcap).ownBlock = some b' → ¬ SvS (A.upd v' dv' nv') b') := fun b' hb e => by
        rcases SvS.upd (A := A.upd v dv nv) m1 m2 m3 e with e | e
        · exact HNB.out b' hb e
        · obtain ⟨cur, h1, _⟩ := owns_block HO.out hb
          have := lt_of_heap h1
          omega
      clear S' F' m1 m2 m3 x0
      go_wp2_with fail
      go_roundg g1
      case measure => have := HK.out; omega
      case rel =>
        refine ⟨k + 1, by go_num, by have := HK.out; omega, v', dv', nv', ?_, HON'.out, HSR.out.kh HKH.out, ⟨B, HO'.out⟩, HNB'.out⟩
        rw [take_succ L HKN.out, HZ.out, ← List.append_assoc]
        exact HSV'.out
end
end Go.Proofs.YtjpgfldppepmiaaDoor
namespace Go.Proofs.YtjpgfldppepmiaaDoor
section
open Go.RowKit
/- behind so many that are made -/
def crT (i : Nat) : Nat → Ob := fun k => if k < i then ⟨0, 0, (k : Int), 24⟩ else Ob.zero
theorem crT_zero : crT 0 = noneO := by funext k; unfold crT; rw [if_neg (by omega)]; rfl
theorem crT_succ (i : Nat) : updO (crT i) i ⟨0, 0, (i : Int), 24⟩ = crT (i + 1) := by
  funext k
  unfold updO crT
  by_cases e : k = i
  · subst e; rw [if_pos rfl, if_pos (by omega)]
  · rw [if_neg e]
    by_cases h : k < i
    · rw [if_pos h, if_pos (by omega)]
    · rw [if_neg h, if_neg (by omega)]
theorem crT_free {i : Nat} (h : i < 64) : freeO (crT i) = i := freeO_eq h (by unfold crT; rw [if_neg (by omega)]; rfl) (fun j hj => by unfold crT; rw [if_pos hj]; show 24 ≠ 0; omega)
/- behind k rounds, of which the k-th's touching has come to below m: n objects, f: those that are touched -/
def rdO (f : Nat → Bool) (n k j : Nat) : Ob :=
  if j = 0 then ⟨0, 0, 0, 24⟩ else if n < j then Ob.zero
  else if f j = true then ⟨0, 0, (j : Int), if k = 0 then 24 else 23⟩
  else if k < 24 then ⟨0, 0, (j : Int), 24 - k⟩ else Ob.zero
def tcT (f : Nat → Bool) (n k m : Nat) : Nat → Ob := fun j => if 1 ≤ j ∧ j < m ∧ j ≤ n ∧ f j = true then ⟨0, 0, (j : Int), 24⟩ else rdO f n k j
theorem crT_rd (f : Nat → Bool) (n : Nat) : crT (n + 1) = tcT f n 0 1 := by
  funext j
  unfold crT tcT rdO
  rw [if_neg (show ¬ (1 ≤ j ∧ j < 1 ∧ j ≤ n ∧ f j = true) by omega)]
  by_cases h0 : j = 0
  · subst h0; rw [if_pos (by omega), if_pos rfl]; rfl
  · rw [if_neg h0]
    by_cases h1 : n < j
    · rw [if_neg (by omega), if_pos h1]
    · rw [if_pos (by omega), if_neg h1]
      cases f j <;> simp
theorem tcT_succ {f : Nat → Bool} {n k m : Nat} (h1 : 1 ≤ m) (hm : m ≤ n) (hf : f m = true) : updO (tcT f n k m) m (touO (tcT f n k m m)) = tcT f n k (m + 1) := by
  funext j
  by_cases e : j = m
  · subst e
    rw [updO_same]
    unfold tcT rdO
    rw [if_neg (show ¬ (1 ≤ j ∧ j < j ∧ j ≤ n ∧ f j = true) by omega), if_neg (show ¬ j = 0 by omega), if_neg (show ¬ n < j by omega), if_pos hf, if_pos (show 1 ≤ j ∧ j < j + 1 ∧ j ≤ n ∧ f j = true from ⟨h1, by omega, hm, hf⟩)]; rfl
  · unfold updO
    rw [if_neg e]
    unfold tcT
    by_cases h : 1 ≤ j ∧ j < m ∧ j ≤ n ∧ f j = true
    · rw [if_pos h, if_pos ⟨h.1, by omega, h.2.2⟩]
    · rw [if_neg h, if_neg (fun q => h ⟨q.1, by omega, q.2.2⟩)]
theorem tcT_skip {f : Nat → Bool} {n k m : Nat} (hf : f m = false) : tcT f n k m = tcT f n k (m + 1) := by
  funext j
  unfold tcT
  by_cases h : 1 ≤ j ∧ j < m ∧ j ≤ n ∧ f j = true
  · rw [if_pos h, if_pos ⟨h.1, by omega, h.2.2⟩]
  · rw [if_neg h, if_neg (fun q => h ⟨q.1, by
      have : j ≠ m := fun e => by rw [e, hf] at q; exact absurd q.2.2.2 (by simp)
      omega, q.2.2⟩)]
/- a round's age -/
theorem agO_t {z : Int} : agO ⟨0, 0, z, 24⟩ = ⟨0, 0, z, 23⟩ := rfl
theorem tcT_age (f : Nat → Bool) (n k : Nat) (hn : n < 64) : agT (tcT f n k (n + 1)) 64 = tcT f n (k + 1) 1 := by
  funext j
  unfold agT
  have R1 : tcT f n (k + 1) 1 j = rdO f n (k + 1) j := by unfold tcT; rw [if_neg (by omega)]
  rw [R1]
  by_cases h0 : j = 0
  · subst h0
    rw [if_neg (by omega)]
    unfold tcT rdO
    rw [if_neg (by omega), if_pos rfl, if_pos rfl]
  by_cases h1 : n < j
  · have e1 : tcT f n k (n + 1) j = Ob.zero := by unfold tcT rdO; rw [if_neg (by omega), if_neg h0, if_pos h1]
    rw [e1]
    have e2 : rdO f n (k + 1) j = Ob.zero := by unfold rdO; rw [if_neg h0, if_pos h1]
    rw [e2]
    split <;> rfl
  · rw [if_pos (by omega)]
    cases hf : f j with
    | true =>
      have e1 : tcT f n k (n + 1) j = ⟨0, 0, (j : Int), 24⟩ := by unfold tcT; rw [if_pos ⟨by omega, by omega, by omega, hf⟩]
      rw [e1]
      unfold rdO
      rw [if_neg h0, if_neg h1, if_pos hf, if_neg (by omega)]; rfl
    | false =>
      have hf' : ¬ f j = true := by rw [hf]; simp
      have e1 : tcT f n k (n + 1) j = if k < 24 then ⟨0, 0, (j : Int), 24 - k⟩ else Ob.zero := by
        unfold tcT rdO
        rw [if_neg (show ¬ (1 ≤ j ∧ j < n + 1 ∧ j ≤ n ∧ f j = true) from fun q => hf' q.2.2.2), if_neg h0, if_neg h1, if_neg hf']
      have e2 : rdO f n (k + 1) j = if k + 1 < 24 then ⟨0, 0, (j : Int), 24 - (k + 1)⟩ else Ob.zero := by
        unfold rdO
        rw [if_neg h0, if_neg h1, if_neg hf']
      rw [e1, e2]
      by_cases hk : k < 24
      · rw [if_pos hk]
        unfold agO
        simp only
        rw [if_neg (show ¬ 24 - k = 0 by omega)]
        by_cases hk2 : k = 23
        · subst hk2; rfl
        · rw [if_neg (show ¬ 24 - k = 1 by omega), if_pos (show k + 1 < 24 by omega)]
          congr 1
      · rw [if_neg hk, if_neg (show ¬ k + 1 < 24 by omega)]; rfl
/- how many of the first ones are not touched -/
def untF (f : Nat → Bool) (i : Nat) : Nat := ((List.range i).filter fun j => decide (1 ≤ j) && !f j).length
theorem untF_succ (f : Nat → Bool) (i : Nat) : untF f (i + 1) = untF f i + (if 1 ≤ i ∧ f i = false then 1 else 0) := by
  unfold untF
  rw [List.range_succ, List.filter_append, List.length_append]
  by_cases h : 1 ≤ i ∧ f i = false
  · rw [if_pos h]; simp [h.1, h.2]
  · rw [if_neg h]
    by_cases h1 : 1 ≤ i
    · have : f i = true := by cases hf : f i with | true => rfl | false => exact absurd ⟨h1, hf⟩ h
      simp [this]
    · simp [h1]
theorem gone_at {f : Nat → Bool} {n k : Nat} : ∀ i, i ≤ n + 1 → (goneL (tcT f n k (n + 1)) i).length = if k = 23 then untF f i else 0
  | 0, _ => by simp [goneL, untF]
  | i + 1, h => by
    rw [goneL_succ, List.length_append, gone_at i (by omega), untF_succ]
    by_cases hi : 1 ≤ i
    · cases hf : f i with
      | true =>
        have e : (tcT f n k (n + 1) i).l = 24 := by unfold tcT; rw [if_pos ⟨hi, by omega, by omega, hf⟩]
        rw [e, if_neg (show ¬ (1 ≤ i ∧ 24 = 1) by omega), if_neg (show ¬ (1 ≤ i ∧ true = false) by simp)]; simp
      | false =>
        have hf' : ¬ f i = true := by rw [hf]; simp
        have e : (tcT f n k (n + 1) i).l = 24 - k := by
          unfold tcT rdO
          rw [if_neg (show ¬ (1 ≤ i ∧ i < n + 1 ∧ i ≤ n ∧ f i = true) from fun q => hf' q.2.2.2), if_neg (show ¬ i = 0 by omega), if_neg (show ¬ n < i by omega), if_neg hf']
          by_cases hk : k < 24
          · rw [if_pos hk]
          · rw [if_neg hk]; show 0 = _; omega
        rw [e]
        by_cases hk : k = 23
        · rw [if_pos hk, if_pos hk, if_pos (show 1 ≤ i ∧ 24 - k = 1 by omega)]; simp [hi]
        · rw [if_neg hk, if_neg hk, if_neg (show ¬ (1 ≤ i ∧ 24 - k = 1) by omega)]; rfl
    · rw [if_neg (show ¬ (1 ≤ i ∧ (tcT f n k (n + 1) i).l = 1) from fun q => hi q.1), if_neg (show ¬ (1 ≤ i ∧ f i = false) from fun q => hi q.1)]; simp
theorem gone_past {f : Nat → Bool} {n k : Nat} : ∀ d, n + 1 + d ≤ 64 → (goneL (tcT f n k (n + 1)) (n + 1 + d)).length = if k = 23 then untF f (n + 1) else 0
  | 0, _ => gone_at _ (Nat.le_refl _)
  | d + 1, h => by
    have e : (tcT f n k (n + 1) (n + 1 + d)).l = 0 := by
      unfold tcT rdO
      rw [if_neg (by omega), if_neg (by omega), if_pos (by omega)]; rfl
    rw [show n + 1 + (d + 1) = (n + 1 + d) + 1 by omega, goneL_succ, e, if_neg (by omega), List.append_nil]
    exact gone_past d (by omega)
end
end Go.Proofs.YtjpgfldppepmiaaDoor
namespace Go.Proofs.YtjpgfldppepmiaaDoor
section
open Go.RowKit
theorem rd_l (f : Nat → Bool) (n k j : Nat) : (tcT f n k 1 j).l = if j = 0 then 24 else if n < j then 0 else if f j = true then (if k = 0 then 24 else 23) else 24 - k := by
  unfold tcT rdO
  rw [if_neg (show ¬ (1 ≤ j ∧ j < 1 ∧ j ≤ n ∧ f j = true) by omega)]
  by_cases h0 : j = 0
  · rw [if_pos h0, if_pos h0]
  · rw [if_neg h0, if_neg h0]
    by_cases h1 : n < j
    · rw [if_pos h1, if_pos h1]; rfl
    · rw [if_neg h1, if_neg h1]
      cases hf : f j with
      | true => rw [if_pos rfl, if_pos rfl]
      | false =>
        rw [if_neg (show ¬ (false = true) by simp), if_neg (show ¬ (false = true) by simp)]
        by_cases hk : k < 24
        · rw [if_pos hk]
        · rw [if_neg hk]; show 0 = _; omega
theorem len_at {f : Nat → Bool} {n k : Nat} : ∀ i, i ≤ n + 1 → lenF (tcT f n k 1) i + (if 24 ≤ k then untF f i else 0) = i
  | 0, _ => by simp [lenF, untF]
  | i + 1, h => by
    have ih := len_at (f := f) (n := n) (k := k) i (by omega)
    rw [lenF_succ, untF_succ, rd_l]
    by_cases h0 : i = 0
    · subst h0
      rw [if_pos rfl, if_pos (by omega), if_neg (show ¬ (1 ≤ 0 ∧ f 0 = false) by omega)]
      split at ih <;> (rename_i hk; first | rw [if_pos hk] | rw [if_neg hk]) <;> omega
    · rw [if_neg h0, if_neg (show ¬ n < i by omega)]
      cases hf : f i with
      | true =>
        rw [if_pos rfl, if_neg (show ¬ (1 ≤ i ∧ true = false) by simp)]
        have : 0 < (if k = 0 then 24 else 23) := by split <;> omega
        rw [if_pos this]
        split at ih <;> (rename_i hk; first | rw [if_pos hk] | rw [if_neg hk]) <;> omega
      | false =>
        rw [if_neg (show ¬ (false = true) by simp), if_pos (show 1 ≤ i ∧ false = false from ⟨by omega, rfl⟩)]
        by_cases hk : 24 ≤ k
        · rw [if_pos hk] at ih ⊢
          rw [if_neg (show ¬ 0 < 24 - k by omega)]; omega
        · rw [if_neg hk] at ih ⊢
          rw [if_pos (show 0 < 24 - k by omega)]; omega
theorem len_past {f : Nat → Bool} {n k : Nat} : ∀ d, n + 1 + d ≤ 64 → lenF (tcT f n k 1) (n + 1 + d) = lenF (tcT f n k 1) (n + 1)
  | 0, _ => rfl
  | d + 1, h => by
    rw [show n + 1 + (d + 1) = (n + 1 + d) + 1 by omega, lenF_succ, rd_l, if_neg (show ¬ n + 1 + d = 0 by omega), if_pos (show n < n + 1 + d by omega), if_neg (by omega), Nat.add_zero]
    exact len_past d (by omega)
end
end Go.Proofs.YtjpgfldppepmiaaDoor
namespace Go.Proofs.YtjpgfldppepmiaaDoor
section
open Go.RowKit
variable {w0 w w1 w' : World} {A : Ad} {rr : Nat} {ws : List Nat} {s s1 : Hs} {v : Value} {L : List Cp}
structure Bh (w0 w : World) (A : Ad) (rr : Nat) (ws : List Nat) (s : Hs) (v : Value) (L : List Cp) : Prop where
  x : Sv w0 w A 5 ws s
  sr : Sr w rr A.g A.sb
  row : w.ownsRow w0.heap.size 41 4 v L.length (cellsC L)
theorem Bh.grow (h : Bh w0 w A rr ws s v L) (b : Below w.heap.size w w') : Bh w0 w' A rr ws s v L := ⟨h.x.grow b, h.sr.grow b, owns_grow h.row b⟩
theorem Bh.drewN (h : Bh w0 w A rr ws s v L) (q : Nat) : Bh w0 (w.drewN q) A rr ws s v L := ⟨h.x.drewN q, h.sr, h.row⟩
theorem Bh.left (h : Bh w0 w A rr ws s v L) (E : SvEnd w0 w A 5 ws w' s1) : ∃ va dv nv, Bh w0 w' (A.upd va dv nv) rr ws s1 v L := by
  have k := h.x.kh E
  obtain ⟨va, dv, nv, S, _⟩ := E
  exact ⟨va, dv, nv, S, h.sr.kh k, owns_kh h.row k cap_odd3⟩
theorem Bh.app {v' : Value} {L' : List Cp} (h : Bh w0 w A rr ws s v L) (f : Foot (fun k => v.ownBlock = some k) w w') (hr : w'.ownsRow w0.heap.size 41 4 v' L'.length (cellsC L')) : Bh w0 w' A rr ws s v' L' := by
  refine ⟨h.x.off f (fun b e => ?_), h.sr.foot f (fun e => ?_), hr⟩
  · obtain ⟨cur, h1, h2⟩ := owns_block h.row e
    exact ⟨h2, .inr ⟨cur, _, h1, cap_odd3⟩⟩
  · obtain ⟨cur, h1, _⟩ := owns_block h.row e
    have h2 : w.heap[rr]? = some _ := h.sr
    rw [h1] at h2
    cases h2
/- the capabilities of objects that were made of a tape of zeros -/
def capsL (i : Nat) : List Cp := (List.range i).map fun k => ⟨5, k, 255, 0⟩
theorem capsL_len (i : Nat) : (capsL i).length = i := by simp [capsL]
theorem capsL_succ (i : Nat) : capsL (i + 1) = capsL i ++ [⟨5, i, 255, 0⟩] := by simp [capsL, List.range_succ]
theorem capsL_at {i k : Nat} (h : k < i) : (capsL i).getD k Cp.zero = ⟨5, k, 255, 0⟩ := by
  unfold capsL
  rw [List.getD_eq_getElem?_getD, List.getElem?_map, List.getElem?_range h]; rfl
theorem cre_Z {i : Nat} (h : i < 64) : creF (List.replicate 64 0) i [] 5 (crT i) (i : Int) = ⟨⟨5, i, 255, 0⟩, 0, i + 1, [], crT (i + 1)⟩ := by
  have e : (List.replicate 64 0).getD i 0 = 0 := by
    rw [List.getD_eq_getElem?_getD, List.getElem?_replicate]
    split <;> simp
  rw [cre_at (i : Int) (crT_free h) h (by simp; omega), e, crT_succ]
/- a request that touches an object -/
theorem tc_at {f : Nat → Bool} {n k i : Nat} (h1 : 1 ≤ i) (hi : i ≤ n) (hf : f i = true) : tcT f n k i i = ⟨0, 0, (i : Int), if k = 0 then 24 else 23⟩ := by
  unfold tcT rdO
  rw [if_neg (show ¬ (1 ≤ i ∧ i < i ∧ i ≤ n ∧ f i = true) by omega), if_neg (by omega), if_neg (by omega), if_pos hf]
theorem touch_out {f : Nat → Bool} {n k i t ar : Nat} {D G : List Int} (h1 : 1 ≤ i) (hi : i ≤ n) (hn : n < 64) (hf : f i = true) :
    outF ws 5 ⟨t, [], tcT f n k i, D, G⟩ 2 ⟨5, i, 255, 0⟩ ar = badF ⟨t, [], tcT f n k (i + 1), D, G⟩ 0 := by
  have e := tc_at (k := k) h1 hi hf
  have hh : hasO (tcT f n k i) i = true := by
    unfold hasO
    rw [e, decide_eq_true (show i < 64 by omega)]
    simp only [Bool.true_and]
    rw [decide_eq_true]
    show 0 < if k = 0 then 24 else 23
    split <;> omega
  have hK : chkF ws t [] 5 (tcT f n k i) ⟨5, i, 255, 0⟩ 0 = ⟨i, 0, t, []⟩ := by
    rw [chk_good (c := ⟨5, i, 255, 0⟩) rfl hh (by show HasA [] (tcT f n k i i).s 255 0; rw [e]; exact has_owner (Nat.zero_le _)), if_pos (show (255 &&& 0 : Nat) = 0 from rfl)]
  have hm : mayC ⟨5, i, 255, 0⟩ = true := by
    unfold mayC
    exact decide_eq_true ⟨by show 5 ≤ _; omega, by show i ≤ _; omega, by show 0 ≤ _; omega⟩
  unfold outF
  rw [hm, if_neg (by simp), if_neg (show ¬ (2 : Nat) = 1 by omega), if_pos rfl]
  show badF ⟨(chkF ws t [] 5 (tcT f n k i) ⟨5, i, 255, 0⟩ 0).t, (chkF ws t [] 5 (tcT f n k i) ⟨5, i, 255, 0⟩ 0).es, touT (tcT f n k i) (chkF ws t [] 5 (tcT f n k i) ⟨5, i, 255, 0⟩ 0), D, G⟩ (chkF ws t [] 5 (tcT f n k i) ⟨5, i, 255, 0⟩ 0).e = _
  rw [hK]
  unfold touT
  rw [if_pos rfl]
  show badF ⟨t, [], updO (tcT f n k i) i (touO (tcT f n k i i)), D, G⟩ 0 = _
  rw [tcT_succ h1 hi hf]
theorem tc_e (f : Nat → Bool) (n k i j : Nat) : (tcT f n k i j).e = 0 := by
  unfold tcT rdO
  split
  · rfl
  · split
    · rfl
    · split
      · rfl
      · split
        · rfl
        · split <;> rfl
theorem touch_any {f : Nat → Bool} {n k i t : Nat} {G : List Int} (h1 : 1 ≤ i) (hi : i ≤ n) (hn : n < 64) (hf : f i = true) (hG : G.length ≤ 64) (hg : Glob w0) (h : Bh w0 w A rr ws ⟨t, [], tcT f n k i, [], G⟩ v L) :
    Calls Tryd.prog 14 #[.pointer (some ⟨rr, 0, none⟩), .agg #[.int .u64 0, .int .u64 0, .int .u32 0, .int .u16 2, .int .u16 0, .int .u64 5, .int .u32 (i : Int), .int .u8 255, .int .u64 0, .int .u64 0, .slice none 0 0]] w fun e w' =>
      ∃ c0 c1 c2 c3 c5 c6 c7 c8 c9 co n2 cc, e = .returned (.agg #[.int .u64 c0, .int .u64 c1, .int .u32 c2, .int .u16 c3, .int .u16 0, .int .u64 c5, .int .u32 c6, .int .u8 c7, .int .u64 c8, .int .u64 c9, .slice co n2 cc]) ∧ SvEnd w0 w A 5 ws w' ⟨t, [], tcT f n k (i + 1), [], G⟩ := by
  have q : Okm w0 ⟨0, 0, 0, 2, 0, 5, i, 255, 0, 0⟩ none 0 := ⟨⟨by show 5 ≤ _; omega, by show i ≤ _; omega, by show 255 ≤ _; omega, by show 0 ≤ _; omega⟩, by show 2 ≤ _; omega, by show 0 ≤ _; omega, by omega, fun _ _ e => by cases e⟩
  have li : Lim ⟨t, [], tcT f n k i, [], G⟩ := ⟨by show 0 < _; omega, by show 0 ≤ _; omega, by show G.length ≤ _; omega, fun j => by show (tcT f n k i j).e ≤ _; rw [tc_e]; omega⟩
  refine (serve_any ⟨0, 0, 0, 2, 0, 5, i, 255, 0, 0⟩ none 0 0 [] w h.sr h.x (bts_nil w) q li hg _ rfl).mono ?_
  rw [touch_out h1 hi hn hf]
  rintro e w' ⟨m2, co, n2, cc, hm2, rfl, -, -, E⟩
  subst hm2
  exact ⟨_, _, _, _, _, _, _, _, _, _, _, _, rfl, E⟩
/- the Status of a reply -/
theorem fld4 (d0 d1 d2 d3 d4 d5 d6 d7 d8 d9 : Int) (d10 : Option Addr) (d11 d12 : Nat) (w : World) : (Instr.field 49 (.agg #[.int .u64 d0, .int .u64 d1, .int .u32 d2, .int .u16 d3, .int .u16 d4, .int .u64 d5, .int .u32 d6, .int .u8 d7, .int .u64 d8, .int .u64 d9, .slice d10 d11 d12]) 4).run Tryd.prog w = .ok (.int .u16 d4) w := by kernel_rfl
/- how many ended behind so many rounds -/
def gN (f : Nat → Bool) (k i : Nat) : Nat := if 24 ≤ k then untF f i else 0
theorem untF_le (f : Nat → Bool) : ∀ i, untF f i ≤ i
  | 0 => by simp [untF]
  | i + 1 => by
    have := untF_le f i
    rw [untF_succ]
    split <;> omega
theorem gN_one (f : Nat → Bool) (k : Nat) : gN f k 1 = 0 := by
  have e : untF f 1 = 0 := by rw [untF_succ, if_neg (show ¬ (1 ≤ 0 ∧ f 0 = false) by omega)]; rfl
  unfold gN
  rw [e]; split <;> rfl
theorem gone_len {f : Nat → Bool} {n k : Nat} {G : List Int} (hn : n < 64) (hG : G.length = gN f k (n + 1)) : (goneL (tcT f n k (n + 1)) 64).length = (if k = 23 then untF f (n + 1) else 0) ∧ (G ++ goneL (tcT f n k (n + 1)) 64).length = gN f (k + 1) (n + 1) := by
  have e := gone_past (f := f) (n := n) (k := k) (64 - (n + 1)) (by omega)
  rw [show n + 1 + (64 - (n + 1)) = 64 by omega] at e
  refine ⟨e, ?_⟩
  rw [List.length_append, e, hG]
  unfold gN
  by_cases h1 : k = 23
  · subst h1; rw [if_neg (by omega), if_pos rfl, if_pos (by omega)]; omega
  · rw [if_neg h1]
    by_cases h2 : 24 ≤ k
    · rw [if_pos h2, if_pos (by omega)]; rfl
    · rw [if_neg h2, if_neg (by omega)]
theorem left_len {f : Nat → Bool} {n k : Nat} (hn : n < 64) : lenF (tcT f n k 1) 64 + gN f k (n + 1) = n + 1 := by
  have e := len_past (f := f) (n := n) (k := k) (64 - (n + 1)) (by omega)
  rw [show n + 1 + (64 - (n + 1)) = 64 by omega] at e
  rw [e]
  exact len_at (n + 1) (by omega)
end
end Go.Proofs.YtjpgfldppepmiaaDoor
