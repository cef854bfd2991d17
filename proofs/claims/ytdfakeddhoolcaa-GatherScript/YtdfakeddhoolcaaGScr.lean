/-
  A gather and the statement's own row of messages in one memory: what stays of both when one of them turns.
-/
import Derived.Test.YtdfakeddhoolcaaGOpn
namespace Go.Proofs.Ytdfakeddhoolcaa
open Go.RowKit
theorem FarK.either {S T : Nat → Prop} {w : World} {ao : Option Addr} {n cap : Nat} {L : List Pa} (h : FarK S ao n L) (hp : Pks w ao n cap L) (hT : ∀ k, T k → S k ∨ w.heap.size ≤ k) : FarK T ao n L :=
  ⟨fun hn ad e x => by
    rcases hT _ x with y | y
    · exact h.1 hn ad e y
    · have := hp.1.lt (by omega) hn ad e; omega, fun q hq hn ad e x => by
    rcases hT _ x with y | y
    · exact h.2 q hq hn ad e y
    · have := Bts.lt (hp.2 q hq) hn ad e; omega⟩
theorem St.either {S T : Nat → Prop} {w : World} {g : Nat} {G : List (List Pa)} (h : St w g S G) (hT : ∀ k, T k → S k ∨ w.heap.size ≤ k) : St w g T G := by
  obtain ⟨bo, bc, Ms, h1, h2, h3⟩ := h
  refine ⟨bo, bc, Ms, h1, ⟨fun hn ad e x => ?_, fun m hm => (h2.2 m hm).either (h1.has m hm) hT⟩, h3⟩
  rcases hT _ x with y | y
  · exact h2.1 hn ad e y
  · have := h1.row.lt (by omega) hn ad e; omega
structure Sx (w0 wq : World) (g : Nat) (oo : Option Addr) (on oc : Nat) (Os : List Mg) (G : List (List Pa)) : Prop where
  st : St wq g (Bk oo) G
  row : Tl wq w0.heap.size oo on oc (cellsM Os)
  has : ∀ m ∈ Os, Pks wq m.a m.n m.c m.L
  far : ∀ m ∈ Os, FarK (fun k => k = g ∨ Bk oo k) m.a m.n m.L
  ne : ¬ Bk oo g
  bel : Below w0.heap.size w0 wq
  gl : w0.heap.size ≤ g
variable {w0 w w' : World} {g : Nat} {oo : Option Addr} {on oc : Nat} {Os : List Mg} {G G' : List (List Pa)}
theorem Sx.len (x : Sx w0 w g oo on oc Os G) : on = Os.length := by have := x.row.len; rw [cellsM_len] at this; exact this
theorem Sx.bk (x : Sx w0 w g oo on oc Os G) (k : Nat) (h : Bk oo k) : k < w.heap.size := by
  obtain ⟨ad, e, rfl⟩ := h; exact (x.row.lt ad e).1
theorem Sx.bk0 (x : Sx w0 w g oo on oc Os G) (k : Nat) (h : Bk oo k) : w0.heap.size ≤ k := by
  obtain ⟨ad, e, rfl⟩ := h; exact (x.row.lt ad e).2
theorem Sx.grow (x : Sx w0 w g oo on oc Os G) (b : Below w.heap.size w w') : Sx w0 w' g oo on oc Os G :=
  ⟨x.st.grow b, x.row.grow b, fun m hm => (x.has m hm).carry b, x.far, x.ne, x.bel.trans (b.mono x.bel.size), x.gl⟩
theorem Sx.add (x : Sx w0 w g oo on oc Os G) (st : St w' g (Bk oo) G') (ft : Foot (· = g) w w') : Sx w0 w' g oo on oc Os G' :=
  ⟨st, x.row.foot ft (fun ad e h => x.ne ⟨ad, e, h⟩), fun m hm => (x.has m hm).foot ft ((x.far m hm).mono (fun k e => .inl e)), x.far, x.ne, x.bel.trans (ft.below x.bel.size (fun k e => by rw [e]; exact x.gl)), x.gl⟩
theorem Sx.cut (x : Sx w0 w g oo on oc Os G) (h : 1 ≤ on) : Sx w0 w g (tailG 1 oo 1 oc) (on - 1) (oc - 1) (Os.drop 1) G := by
  have hr := x.row.cut 1 h
  have e : (cellsM Os).drop 1 = cellsM (Os.drop 1) := by unfold cellsM; rw [List.map_drop]
  rw [e] at hr
  exact ⟨x.st.either (fun k h => .inl (tail_bk 1 1 oc k h)), hr, fun m hm => x.has m (List.mem_of_mem_drop hm), fun m hm => (x.far m (List.mem_of_mem_drop hm)).mono (fun k h => h.imp id (tail_bk 1 1 oc k)), fun h => x.ne (tail_bk 1 1 oc g h), x.bel, x.gl⟩
theorem Sx.app {ty : TypeId} (x : Sx w0 w g oo on oc Os G) (hn : on ≤ 1000) :
    ∃ bo c w', (Builtin.append_ #[28, 28] ty #[.slice oo on oc, .slice (some ⟨w.heap.size, 0, none⟩) 1 1]).run Try.prog (w.alloc (.cells #[.slice none 0 0] 41)) = .ok (.slice bo (on + 1) c) w' ∧ Sx w0 w' g bo (on + 1) c (Os ++ [Mg.zero]) G ∧ Foot (Bk oo) w w' ∧ Mvd w oo bo := by
  obtain ⟨bo, c, w', hr, ht, ft, mv⟩ := tl_app (ty := ty) (.slice none 0 0) rfl x.row (by omega) x.bel.size
  have hcs : cellsM Os ++ [.slice none 0 0] = cellsM (Os ++ [Mg.zero]) := by simp [cellsM, Mg.v, Mg.zero]
  rw [hcs] at ht
  have hne : ¬ Bk bo g := fun h => by
    rcases mv g h with h | h
    · exact x.ne h
    · have := x.st.lt; omega
  have hpk : ∀ m ∈ Os, Pks w' m.a m.n m.c m.L := fun m hm => (x.has m hm).foot ft ((x.far m hm).mono (fun k h => .inr h))
  refine ⟨bo, c, w', hr, ⟨?_, ht, fun m hm => ?_, fun m hm => ?_, hne, x.bel.trans (ft.below x.bel.size (fun k h => x.bk0 k h)), x.gl⟩, ft, mv⟩
  · obtain ⟨bo1, bc1, Ms1, h1, h2, h3⟩ := x.st
    have hF : FarG (Bk bo) bo1 Ms1 := ⟨fun hn ad e y => by
      rcases mv _ y with z | z
      · exact h2.1 hn ad e z
      · have := h1.row.lt (by omega) hn ad e; omega, fun m hm => (h2.2 m hm).either (h1.has m hm) (fun k h => mv k h)⟩
    exact ⟨bo1, bc1, Ms1, h1.foot ft x.ne h2, hF, h3⟩
  · rcases List.mem_append.1 hm with hm | hm
    · exact hpk m hm
    · rw [List.mem_singleton.1 hm]; exact pks_nil _
  · rcases List.mem_append.1 hm with hm | hm
    · exact (x.far m hm).either (x.has m hm) (fun k h => by
        rcases h with h | h
        · exact .inl (.inl h)
        · exact (mv k h).imp (fun h => .inr h) id)
    · rw [List.mem_singleton.1 hm]; exact ⟨(fun h => by cases h), fun _ h => by cases h⟩
theorem Sx.set {w2 : World} (x : Sx w0 w g oo on oc Os G) {ad : Addr} (e : oo = some ad) (k : Nat) (hk : k < on) (b : Below w.heap.size w w2) (m : Mg) (hp : Pks w2 m.a m.n m.c m.L) (hf : FarK (fun k => k = g ∨ Bk oo k) m.a m.n m.L) :
    Sx w0 (w2.setCell (ad.add k) (.slice m.a m.n m.c)) g oo on oc (Os.set k m) G ∧ w2.frozen? (ad.add k) = false ∧ w2.cell? (ad.add k) = some (.slice (Os.getD k Mg.zero).a (Os.getD k Mg.zero).n (Os.getD k Mg.zero).c) := by
  have y := x.grow b
  obtain ⟨hr, hz⟩ := y.row.put e k hk (.slice m.a m.n m.c) rfl
  have hcs : (cellsM Os).set k (.slice m.a m.n m.c) = cellsM (Os.set k m) := by unfold cellsM; rw [List.map_set]; rfl
  rw [hcs] at hr
  have ft : Foot (Bk oo) w2 (w2.setCell (ad.add k) (.slice m.a m.n m.c)) := (foot_set w2 (ad.add k) _).mono (fun j h => ⟨ad, e, by rw [h, add_block]⟩)
  refine ⟨⟨y.st.foot ft y.ne, hr, fun n hn => ?_, fun n hn => ?_, y.ne, y.bel.trans (ft.below y.bel.size (fun k h => y.bk0 k h)), y.gl⟩, hz, ?_⟩
  · rcases List.mem_or_eq_of_mem_set hn with hn | rfl
    · exact (y.has n hn).foot ft ((y.far n hn).mono (fun k h => .inr h))
    · exact hp.foot ft (hf.mono (fun k h => .inr h))
  · rcases List.mem_or_eq_of_mem_set hn with hn | rfl
    · exact y.far n hn
    · exact hf
  · refine y.row.row.2.2.2.2 ad e k _ ?_
    have hl := y.len
    unfold cellsM
    rw [List.getElem?_map, List.getD_eq_getElem?_getD, List.getElem?_eq_getElem (by omega)]; rfl
theorem Sx.elem {ad : Addr} (x : Sx w0 w g (some ad) on oc Os G) (k : Nat) (hk : k < on) : w.cell? (ad.add k) = some (.slice (Os.getD k Mg.zero).a (Os.getD k Mg.zero).n (Os.getD k Mg.zero).c) := by
  refine x.row.row.2.2.2.2 ad rfl k _ ?_
  have hl := x.len
  unfold cellsM
  rw [List.getElem?_map, List.getD_eq_getElem?_getD, List.getElem?_eq_getElem (by omega)]; rfl
theorem Sx.fresh {w2 : World} {v : Value} {m : Nat} {Ns : List Mg} (x : Sx w0 w g oo on oc Os G) (b : Below w.heap.size w w2) (h : w2.ownsRow w.heap.size 41 1 v m (cellsM Ns)) (hs : ∀ n ∈ Ns, n ∈ Os) : ∃ bo c, v = .slice bo m c ∧ Sx w0 w2 g bo m c Ns G := by
  obtain ⟨bo, c, rfl, ht⟩ := tl_own h (cellsM_one Ns)
  have y := x.grow b
  have hnew : ∀ k, Bk bo k → w.heap.size ≤ k := fun k h => by obtain ⟨ad, e, rfl⟩ := h; exact (ht.lt ad e).2
  refine ⟨bo, c, rfl, ?_, ht.base x.bel.size, fun n hn => y.has n (hs n hn), fun n hn => (x.far n (hs n hn)).either (x.has n (hs n hn)) (fun k h => ?_), fun h => ?_, y.bel, y.gl⟩
  · exact (x.st.either (fun k h => .inr (hnew k h))).grow b
  · rcases h with h | h
    · exact .inl (.inl h)
    · exact .inr (hnew k h)
  · have := hnew g h
    have := x.st.lt
    omega
/- appends to an own row -/
theorem app_pk {W : World} {B n sn sc : Nat} {v : Value} {xs ys : List Value} {so : Option Addr} (own : W.ownsRow B 35 6 v n xs) (hl : Lies 6 W so sn sc ys) (ho : ∀ u ∈ ys, u.oneCell' = true) (hn : n + sn ≤ 100000) (hB : B ≤ W.heap.size) :
    ∃ v' w', (Builtin.append_ #[41, 41] 41 #[v, .slice so sn sc]).run Try.prog W = .ok v' w' ∧ w'.ownsRow B 35 6 v' (n + sn) (xs ++ ys) ∧ W.grownBy w' v.ownBlock := by
  obtain ⟨i0, hi0, hz0, hz1, hz2⟩ := info_parts Try.infoK
  cases so with
  | none =>
    obtain rfl : sc = 0 := hl.2.2.2.1 rfl
    obtain rfl : sn = 0 := by have := hl.2.1; omega
    obtain rfl : ys = [] := List.eq_nil_of_length_eq_zero (by simpa using hl.1)
    obtain ⟨a, cap, rfl, h2⟩ := owns_lies own
    exact ⟨_, _, app_none W Try.underlying41 hi0 a n cap h2.2.1 h2.2.2.2.1, by rw [List.append_nil]; exact own, ⟨rfl, rfl, rfl, Nat.le_refl _, fun _ _ _ => rfl⟩⟩
  | some ad =>
    obtain ⟨v', w3, hr, hown3, hgr3, _, _⟩ := run_append_own_at (P := Try.prog) W B 41 41 35 i0 _ 6 64 Try.underlying41 hi0 hz0 hz1 hz2 rfl (by omega) v n _ own ad sn sc ys hl.1 (hl.2.2.2.2 ad rfl) ho (by unfold maxLen; omega) (by omega) hB
    exact ⟨v', w3, hr, hown3, hgr3⟩
theorem app_ms {W : World} {B n sn sc : Nat} {v : Value} {xs ys : List Value} {so : Option Addr} (own : W.ownsRow B 41 1 v n xs) (hl : Lies 1 W so sn sc ys) (ho : ∀ u ∈ ys, u.oneCell' = true) (hn : n + sn ≤ 100000) (hB : B ≤ W.heap.size) :
    ∃ v' w', (Builtin.append_ #[28, 28] 28 #[v, .slice so sn sc]).run Try.prog W = .ok v' w' ∧ w'.ownsRow B 41 1 v' (n + sn) (xs ++ ys) ∧ W.grownBy w' v.ownBlock := by
  obtain ⟨i0, hi0, hz0, hz1, hz2⟩ := info_parts Try.infoO
  cases so with
  | none =>
    obtain rfl : sc = 0 := hl.2.2.2.1 rfl
    obtain rfl : sn = 0 := by have := hl.2.1; omega
    obtain rfl : ys = [] := List.eq_nil_of_length_eq_zero (by simpa using hl.1)
    obtain ⟨a, cap, rfl, h2⟩ := owns_lies own
    exact ⟨_, _, app_none W Try.underlying28 hi0 a n cap h2.2.1 h2.2.2.2.1, by rw [List.append_nil]; exact own, ⟨rfl, rfl, rfl, Nat.le_refl _, fun _ _ _ => rfl⟩⟩
  | some ad =>
    obtain ⟨v', w3, hr, hown3, hgr3, _, _⟩ := run_append_own_at (P := Try.prog) W B 28 28 41 i0 _ 1 24 Try.underlying28 hi0 hz0 hz1 hz2 rfl (by omega) v n _ own ad sn sc ys hl.1 (hl.2.2.2.2 ad rfl) ho (by unfold maxLen; omega) (by omega) hB
    exact ⟨v', w3, hr, hown3, hgr3⟩
/- a message with one packet more, in new memory: the row first, or the packet -/
structure NewM (W : World) (p : Pa) (L : List Pa) (na : Option Addr) (nn nc : Nat) (w2 : World) : Prop where
  pks : Pks w2 na nn nc (L ++ [p])
  new : New W na
  b : Below W.heap.size W w2
theorem lies_one (W : World) (p : Pa) : Lies 6 (W.alloc (.cells #[.int .i64 p.f, .int .i64 p.t, .int .u64 p.i, .int .i64 p.x, .int .i64 p.c, .slice p.so p.sn p.sc] 35)) (some ⟨W.heap.size, 0, none⟩) 1 1 (cellsK [p]) := lies_alloc rfl rfl (by omega)
theorem newM {W w2 : World} {p : Pa} {ma : Option Addr} {mn mc : Nat} {L : List Pa} {v : Value} (hm : Pks W ma mn mc L) (hp : p.has W) (b : Below W.heap.size W w2) (ho : w2.ownsRow W.heap.size 35 6 v (mn + 1) (cellsK L ++ cellsK [p])) : ∃ na nc, v = .slice na (mn + 1) nc ∧ NewM W p L na (mn + 1) nc w2 := by
  rw [← cellsK_append] at ho
  obtain ⟨na, nc, rfl, hl⟩ := owns_lies ho
  refine ⟨na, nc, rfl, ⟨hl, fun x hx => ?_⟩, owns_new ho, b⟩
  rcases List.mem_append.1 hx with hx | hx
  · exact Bts.carry (hm.2 x hx) b
  · rw [List.mem_singleton.1 hx]; exact Bts.carry hp b
theorem apps_a {W : World} {p : Pa} {ma : Option Addr} {mn mc : Nat} {L : List Pa} (hm : Pks W ma mn mc L) (hp : p.has W) (hn : mn ≤ 1000) :
    ∃ v1 w1 na nc w2, (Builtin.append_ #[41, 41] 41 #[.slice none 0 0, .slice ma mn mc]).run Try.prog W = .ok v1 w1 ∧ Below W.heap.size W w1 ∧
      (Builtin.append_ #[41, 41] 41 #[v1, .slice (some ⟨w1.heap.size, 0, none⟩) 1 1]).run Try.prog (w1.alloc (.cells #[.int .i64 p.f, .int .i64 p.t, .int .u64 p.i, .int .i64 p.x, .int .i64 p.c, .slice p.so p.sn p.sc] 35)) = .ok (.slice na (mn + 1) nc) w2 ∧ NewM W p L na (mn + 1) nc w2 := by
  obtain ⟨v1, w1, r1, o1, g1⟩ := app_pk (owns_nil W W.heap.size _ _) hm.1 (cellsK_one L) (by omega) (Nat.le_refl _)
  have b1 : Below W.heap.size W w1 := (grown_foot g1).below (Nat.le_refl _) (fun k e => by cases e)
  have bA := below_alloc w1 (.cells #[.int .i64 p.f, .int .i64 p.t, .int .u64 p.i, .int .i64 p.x, .int .i64 p.c, .slice p.so p.sn p.sc] 35)
  rw [Nat.zero_add, List.nil_append] at o1
  obtain ⟨v2, w2, r2, o2, g2⟩ := app_pk (owns_carry o1 bA) (lies_one w1 p) (cellsK_one [p]) (by omega) (Nat.le_trans b1.size bA.size)
  have b2 := below_grown (below_one b1 bA) (Nat.le_trans b1.size bA.size) (owns_carry o1 bA) g2
  obtain ⟨na, nc, rfl, hN⟩ := newM hm hp b2 o2
  exact ⟨v1, w1, na, nc, w2, r1, b1, r2, hN⟩
theorem apps_b {W : World} {p : Pa} {ma : Option Addr} {mn mc : Nat} {L : List Pa} (hm : Pks W ma mn mc L) (hp : p.has W) (hn : mn ≤ 1000) :
    ∃ v1 w1 na nc w2, (Builtin.append_ #[41, 41] 41 #[.slice none 0 0, .slice ma mn mc]).run Try.prog (W.alloc (.cells #[.int .i64 p.f, .int .i64 p.t, .int .u64 p.i, .int .i64 p.x, .int .i64 p.c, .slice p.so p.sn p.sc] 35)) = .ok v1 w1 ∧ Below W.heap.size W w1 ∧
      (Builtin.append_ #[41, 41] 41 #[v1, .slice (some ⟨W.heap.size, 0, none⟩) 1 1]).run Try.prog w1 = .ok (.slice na (mn + 1) nc) w2 ∧ NewM W p L na (mn + 1) nc w2 := by
  obtain ⟨X, hX⟩ : ∃ X, W.alloc (.cells #[.int .i64 p.f, .int .i64 p.t, .int .u64 p.i, .int .i64 p.x, .int .i64 p.c, .slice p.so p.sn p.sc] 35) = X := ⟨_, rfl⟩
  have bA : Below W.heap.size W X := hX ▸ below_alloc W _
  have hL1 : Lies 6 X (some ⟨W.heap.size, 0, none⟩) 1 1 (cellsK [p]) := hX ▸ lies_one W p
  rw [hX]
  obtain ⟨v1, w1, r1, o1, g1⟩ := app_pk (owns_nil X W.heap.size _ _) (hm.carry bA).1 (cellsK_one L) (by omega) bA.size
  have bX : Below X.heap.size X w1 := (grown_foot g1).below (Nat.le_refl _) (fun k e => by cases e)
  rw [Nat.zero_add, List.nil_append] at o1
  obtain ⟨v2, w2, r2, o2, g2⟩ := app_pk o1 (hL1.carry bX (Nat.le_refl _)) (cellsK_one [p]) (by omega) (below_one bA bX).size
  have b2 := below_grown (below_one bA bX) (below_one bA bX).size o1 g2
  obtain ⟨na, nc, rfl, hN⟩ := newM hm hp b2 o2
  exact ⟨v1, w1, na, nc, w2, r1, below_one bA bX, r2, hN⟩
/- append(append(nil, row[:k]...), row[k+1:]...) -/
theorem cut_ms {W : World} {ad : Addr} {k : Nat} (x : Sx w0 W g (some ad) on oc Os G) (hk : k < on) (hn : on ≤ 1000) :
    ∃ v1 w1 bo c w2, (Builtin.append_ #[28, 28] 28 #[.slice none 0 0, .slice (some ad) k oc]).run Try.prog W = .ok v1 w1 ∧
      (Builtin.append_ #[28, 28] 28 #[v1, .slice (tailG 1 (some ad) (k + 1) oc) (on - (k + 1)) (oc - (k + 1))]).run Try.prog w1 = .ok (.slice bo (on - 1) c) w2 ∧ Below W.heap.size W w2 ∧ Sx w0 w2 g bo (on - 1) c (Os.take k ++ Os.drop (k + 1)) G := by
  have h1 := x.row.row.head k (by omega)
  have h2 := x.row.row.tail (k + 1) (by omega)
  rw [Nat.mul_one] at h1 h2
  obtain ⟨v1, w1, r1, o1, g1⟩ := app_ms (owns_nil W W.heap.size _ _) h1 (fun u hu => cellsM_one Os u (List.mem_of_mem_take hu)) (by omega) (Nat.le_refl _)
  have b1 : Below W.heap.size W w1 := (grown_foot g1).below (Nat.le_refl _) (fun k e => by cases e)
  rw [Nat.zero_add, List.nil_append] at o1
  obtain ⟨v2, w2, r2, o2, g2⟩ := app_ms o1 (h2.carry b1 (Nat.le_refl _)) (fun u hu => cellsM_one Os u (List.mem_of_mem_drop hu)) (by omega) b1.size
  have b2 := below_grown b1 b1.size o1 g2
  have e : (cellsM Os).take k ++ (cellsM Os).drop (k + 1) = cellsM (Os.take k ++ Os.drop (k + 1)) := by unfold cellsM; rw [List.map_append, List.map_take, List.map_drop]
  rw [e, show k + (on - (k + 1)) = on - 1 by omega] at o2
  obtain ⟨bo, c, rfl, y⟩ := x.fresh b2 o2 (fun n hn => by
    rcases List.mem_append.1 hn with h | h
    · exact List.mem_of_mem_take h
    · exact List.mem_of_mem_drop h)
  exact ⟨v1, w1, bo, c, w2, r1, r2, b2, y⟩
/- all that a round knows behind the gather's answer: the packet in its variable, the bytes that were answered -/
structure Rd (w0 w : World) (g b : Nat) (y : Pa) (ro : Option Addr) (rn rc : Nat) (bl : List UInt8) (oo : Option Addr) (on oc : Nat) (Os : List Mg) (G : List (List Pa)) : Prop where
  sx : Sx w0 w g oo on oc Os G
  box : BoxK w b y
  nb : ¬ Bk oo b
  bt : Bts w ro rn rc bl
  off : OffO (Bk oo) rn ro
variable {b : Nat} {y : Pa} {ro : Option Addr} {rn rc : Nat} {bl : List UInt8}
theorem Rd.grow (x : Rd w0 w g b y ro rn rc bl oo on oc Os G) (h : Below w.heap.size w w') : Rd w0 w' g b y ro rn rc bl oo on oc Os G :=
  ⟨x.sx.grow h, x.box.carry h (Nat.le_refl _), x.nb, x.bt.carry h, x.off⟩
theorem Rd.cut (x : Rd w0 w g b y ro rn rc bl oo on oc Os G) (h : 1 ≤ on) : Rd w0 w g b y ro rn rc bl (tailG 1 oo 1 oc) (on - 1) (oc - 1) (Os.drop 1) G :=
  ⟨x.sx.cut h, x.box, fun h => x.nb (tail_bk 1 1 oc b h), x.bt, fun hn ad e h => x.off hn ad e (tail_bk 1 1 oc _ h)⟩
theorem Rd.app {ty : TypeId} (x : Rd w0 w g b y ro rn rc bl oo on oc Os G) (hn : on ≤ 1000) :
    ∃ bo c w', (Builtin.append_ #[28, 28] ty #[.slice oo on oc, .slice (some ⟨w.heap.size, 0, none⟩) 1 1]).run Try.prog (w.alloc (.cells #[.slice none 0 0] 41)) = .ok (.slice bo (on + 1) c) w' ∧ Rd w0 w' g b y ro rn rc bl bo (on + 1) c (Os ++ [Mg.zero]) G := by
  obtain ⟨bo, c, w', hr, hx, ft, mv⟩ := x.sx.app (ty := ty) hn
  refine ⟨bo, c, w', hr, hx, (ft.block b (lt_of_heap x.box) x.nb).trans x.box, fun h => ?_, Bts.footN x.bt ft x.off, fun hn ad e h => ?_⟩
  · rcases mv b h with h | h
    · exact x.nb h
    · have := lt_of_heap x.box; omega
  · rcases mv _ h with h | h
    · exact x.off hn ad e h
    · have := x.bt.lt hn ad e; omega
theorem Rd.set {w2 : World} (x : Rd w0 w g b y ro rn rc bl oo on oc Os G) {ad : Addr} (e : oo = some ad) (k : Nat) (hk : k < on) (h : Below w.heap.size w w2) (m : Mg) (hp : Pks w2 m.a m.n m.c m.L) (hf : FarK (fun k => k = g ∨ Bk oo k) m.a m.n m.L) :
    Rd w0 (w2.setCell (ad.add k) (.slice m.a m.n m.c)) g b y ro rn rc bl oo on oc (Os.set k m) G := by
  have ft : Foot (Bk oo) w2 (w2.setCell (ad.add k) (.slice m.a m.n m.c)) := (foot_set w2 (ad.add k) _).mono (fun j h => ⟨ad, e, by rw [h, add_block]⟩)
  have z := x.grow h
  exact ⟨(x.sx.set e k hk h m hp hf).1, (ft.block b (lt_of_heap z.box) x.nb).trans z.box, x.nb, Bts.footN z.bt ft x.off, x.off⟩
theorem Rd.rows {ad : Addr} {k : Nat} (x : Rd w0 w g b y ro rn rc bl (some ad) on oc Os G) (hk : k < on) (hn : on ≤ 1000) :
    ∃ v1 w1 bo c w2, (Builtin.append_ #[28, 28] 28 #[.slice none 0 0, .slice (some ad) k oc]).run Try.prog w = .ok v1 w1 ∧
      (Builtin.append_ #[28, 28] 28 #[v1, .slice (tailG 1 (some ad) (k + 1) oc) (on - (k + 1)) (oc - (k + 1))]).run Try.prog w1 = .ok (.slice bo (on - 1) c) w2 ∧ Sx w0 w2 g bo (on - 1) c (Os.take k ++ Os.drop (k + 1)) G := by
  obtain ⟨v1, w1, bo, c, w2, r1, r2, b2, y⟩ := cut_ms x.sx hk hn
  exact ⟨v1, w1, bo, c, w2, r1, r2, y⟩
/- the message with the packet, in new memory -/
theorem Rd.far_new {w2 : World} {na : Option Addr} {nn nc : Nat} {m : Mg} (x : Rd w0 w g b y ro rn rc bl oo on oc Os G) (hm : m ∈ Os) (hy : y.has w0) (h : NewM w y m.L na nn nc w2) : FarK (fun k => k = g ∨ Bk oo k) na nn (m.L ++ [y]) := by
  have hlow : ∀ k, (k = g ∨ Bk oo k) → w0.heap.size ≤ k ∧ k < w.heap.size := fun k h => by
    rcases h with rfl | h
    · exact ⟨x.sx.gl, x.sx.st.lt⟩
    · exact ⟨x.sx.bk0 k h, x.sx.bk k h⟩
  refine ⟨OffO.new h.new (fun k h => (hlow k h).2), fun q hq => ?_⟩
  rcases List.mem_append.1 hq with hq | hq
  · exact (x.sx.far m hm).2 q hq
  · rw [List.mem_singleton.1 hq]
    intro hn ad e h
    have := Bts.lt hy hn ad e
    have := (hlow _ h).1
    omega
end Go.Proofs.Ytdfakeddhoolcaa
