/-
  OracleSame (P6.1): asked the same again, in any order, all answers are the same, and nothing is drawn. No condition: every input that can be read.
-/
import Derived.Test.YtckpdgheoacbfaaRows
import Derived.Test.YtckpdgheoacbfaaOStep
import Derived.Deep.RegionHeld3
import Derived.Deep.DrawnRows
import Derived.WalkKit
import Derived.WalkSpells
import Derived.WalkLawsBesides
import Derived.Deep.QuietTactic
import Derived.BigQuiet
import Derived.ProofKit
import Derived.OpenShut
import Derived.ShutString
import Derived.ChangeOld
import Derived.Below
import Derived.SizedLaws
namespace Go.Proofs.Ytckpdgheoacbfaa

open Go.RowKit
attribute [local go_sem ↓] Go.wp_at_zero Go.wp_at_succ
/- what was told first: an answer, and whether there was one -/
structure Tl where
  x : Nat
  ok : Bool
def Tl.zero : Tl := ⟨0, false⟩
def Tl.cells (y : Tl) : List Value := [.int .u64 (y.x : Int), .bool y.ok]
theorem Tl.cells_len (y : Tl) : y.cells.length = 2 := rfl
def cellsT (ts : List Tl) : List Value := ts.flatMap Tl.cells
theorem cellsT_snoc (ts : List Tl) (y : Tl) : cellsT (ts ++ [y]) = cellsT ts ++ y.cells := by simp [cellsT]
theorem tl_one (y : Tl) : ∀ u ∈ y.cells, u.oneCell' = true := by
  intro u hu
  simp only [Tl.cells, List.mem_cons, List.not_mem_nil, or_false] at hu
  rcases hu with rfl | rfl <;> rfl
theorem cellsT_get (ts : List Tl) (k f : Nat) (h : k < ts.length) (hf : f < 2) : (cellsT ts)[k * 2 + f]? = (ts.getD k Tl.zero).cells[f]? := by
  induction ts generalizing k with
  | nil => simp at h
  | cons x r ih =>
    simp only [cellsT, List.flatMap_cons] at ih ⊢
    cases k with
    | zero => rw [List.getElem?_append_left (by rw [Tl.cells_len]; omega)]; simp
    | succ k =>
      rw [List.getElem?_append_right (by rw [Tl.cells_len]; omega), Tl.cells_len, show (k + 1) * 2 + f - 2 = k * 2 + f from by omega, ih k (by simpa using h)]
      rfl
theorem Try.infoT : (Try.prog.info? 51).map (fun i => (i.zero, i.size, i.bytes)) = some (some (.agg #[.int .u64 0, .bool false]), 2, 16) := by kernel_rfl
/- an answer that was told is told again; where none was, there is no draw left -/
def Tol1 (ws : List Nat) (t : Nat) (es : List Ent) (a : Qu) (y : Tl) : Prop :=
  (y.ok = true ∧ ∃ j, findE es ((a.o % 2 : Nat) : Int) (a.q % 5 * 3) = some j ∧ (es.getD j Ent.zero).o = y.x) ∨ (y.ok = false ∧ t = ws.length)
def Tol (ws : List Nat) (t : Nat) (es : List Ent) (xs : List Qu) (ts : List Tl) : Prop := ∀ j, j < ts.length → Tol1 ws t es (xs.getD j Qu.zero) (ts.getD j Tl.zero)
theorem find_keep {es : List Ent} {f : Int} {i j : Nat} (x : Ent) (h : findE es f i = some j) : findE (es ++ [x]) f i = some j ∧ ((es ++ [x]).getD j Ent.zero) = es.getD j Ent.zero := by
  rw [findE_snoc, h, getD_snoc_lt _ _ _ (findE_some h).1]; exact ⟨rfl, rfl⟩
theorem Tol1.step {ws : List Nat} {t t' : Nat} {es es' : List Ent} {f : Int} {i x : Nat} {er : Value} {a : Qu} {y : Tl} (h : Tol1 ws t es a y) (s : Step ws t es t' es' f i x er) : Tol1 ws t' es' a y := by
  rcases s with ⟨_, _, rfl, rfl⟩ | ⟨_, _, ht, _, rfl, rfl⟩ | ⟨_, _, _, _, rfl, rfl⟩
  · exact h
  · rcases h with ⟨h1, j, h2, h3⟩ | ⟨h1, h2⟩
    · have := find_keep ⟨f, i, x⟩ h2
      exact .inl ⟨h1, j, this.1, by rw [this.2]; exact h3⟩
    · omega
  · exact h
theorem Tol.step {ws : List Nat} {t t' : Nat} {es es' : List Ent} {f : Int} {i x : Nat} {er : Value} {xs : List Qu} {ts : List Tl} (h : Tol ws t es xs ts) (s : Step ws t es t' es' f i x er) {y : Tl} (hy : Tol1 ws t' es' (xs.getD ts.length Qu.zero) y) : Tol ws t' es' xs (ts ++ [y]) := by
  intro j hj
  simp only [List.length_append, List.length_singleton] at hj
  rcases Nat.lt_or_ge j ts.length with hl | hl
  · have e : (ts ++ [y]).getD j Tl.zero = ts.getD j Tl.zero := by rw [List.getD_eq_getElem?_getD, List.getD_eq_getElem?_getD, List.getElem?_append_left hl]
    rw [e]; exact (h j hl).step s
  · obtain rfl : j = ts.length := by omega
    have e : (ts ++ [y]).getD ts.length Tl.zero = y := by rw [List.getD_eq_getElem?_getD, List.getElem?_append_right (Nat.le_refl _)]; simp
    rw [e]; exact hy
theorem step_told {ws : List Nat} {t t' : Nat} {es es' : List Ent} {o q p x : Nat} {er : Value} (hp : (o : Int) % 2 = (p : Int)) (s : Step ws t es t' es' p (q % 5 * 3) x er) :
    (er = .nilIface ∧ Tol1 ws t' es' ⟨o, q⟩ ⟨x, true⟩) ∨ (er = .iface 38 (.int .i64 7) ∧ Tol1 ws t' es' ⟨o, q⟩ ⟨x, false⟩) := by
  have e : ((o % 2 : Nat) : Int) = (p : Int) := by omega
  rcases s with ⟨h1, ⟨j, h2, h3⟩, rfl, rfl⟩ | ⟨h1, h2, ht, _, rfl, rfl⟩ | ⟨h1, _, _, h4, rfl, rfl⟩
  · exact .inl ⟨h1, .inl ⟨rfl, j, by show findE _ ((o % 2 : Nat) : Int) _ = _; rw [e]; exact h2, h3⟩⟩
  · refine .inl ⟨h1, .inl ⟨rfl, es.length, ?_, ?_⟩⟩
    · show findE _ ((o % 2 : Nat) : Int) _ = _; rw [e, findE_snoc, h2]; simp
    · rw [getD_snoc_end]
  · exact .inr ⟨h1, .inr ⟨rfl, h4⟩⟩
/- asked again where no draw is left -/
theorem ask_same (w0 : World) (B g m a h k : Nat) (v : Value) (ws : List Nat) (es : List Ent) (f q : Nat) (w : World) (S : St w0 w B g m a h k v ws ws.length es) (hf : f ≤ 1) :
    Calls Try.prog 15 #[.pointer (some ⟨g, 0, none⟩), .int .i64 (f : Int), .int .u64 (inF q : Nat)] w fun e w' => ∃ (x : Nat) (er : Value), e = .returned (.tuple #[.int .u64 (x : Int), er]) ∧ ∃ r, w' = w.drewN r := by
  have ec := inF_cut q
  have hb : -9223372036854775808 ≤ (f : Int) ∧ (f : Int) ≤ 9223372036854775807 := by omega
  cases hfind : findE es f (q % 5 * 3) with
  | some j => exact (ask_known g m B j _ _ v es f (inF q) w S.orc hb (inF_le q) (by rw [ec]; exact hfind) rfl).mono fun e w' ⟨h1, h2⟩ => ⟨_, _, h1, h2⟩
  | none => exact (ask_end g m B a h k v es ws f (inF q) w S.orc S.tape hb (inF_le q) (by rw [ec]; exact hfind)).mono fun e w' ⟨h1, h2⟩ => ⟨0, _, h1, h2⟩
theorem ask_told (w0 : World) (B g m a h k : Nat) (v : Value) (ws : List Nat) (t : Nat) (es : List Ent) (f q j x : Nat) (w : World) (S : St w0 w B g m a h k v ws t es) (hf : f ≤ 1) (hj : findE es f (q % 5 * 3) = some j) (hx : (es.getD j Ent.zero).o = x) :
    Calls Try.prog 15 #[.pointer (some ⟨g, 0, none⟩), .int .i64 (f : Int), .int .u64 (inF q : Nat)] w fun e w' => e = .returned (.tuple #[.int .u64 (x : Int), .nilIface]) ∧ ∃ r, w' = w.drewN r :=
  ask_known g m B j x _ v es f (inF q) w S.orc (by omega) (inF_le q) (by rw [inF_cut]; exact hj) hx
/- the row of what was told -/
def TsAt (w : World) (r : Nat) (ts : List Tl) : Prop := ∀ j, j < ts.length → w.cell? ⟨r, j * 2, none⟩ = some (.int .u64 ((ts.getD j Tl.zero).x : Nat)) ∧ w.cell? ⟨r, j * 2 + 1, none⟩ = some (.bool (ts.getD j Tl.zero).ok)
theorem owns_told {w : World} {base n : Nat} {v : Value} {ts : List Tl} (h : w.ownsRow base 51 2 v n (cellsT ts)) (hn : 0 < n) : ∃ r cap, v = .slice (some ⟨r, 0, none⟩) n cap ∧ n ≤ cap ∧ cap ≤ 9223372036854775807 ∧ r < w.heap.size ∧ TsAt w r ts := by
  rcases h.2 with ⟨_, h0⟩ | ⟨r, cap, cur, rfl, h1, h2, h3, h4, h5, h6⟩
  · omega
  · refine ⟨r, cap, rfl, h3, h4, lt_of_heap h2, fun j hj => ?_⟩
    have hc := fun f hf u hu => h.cells (g := r) rfl (j * 2 + f) u (by rw [cellsT_get ts j f hj hf]; exact hu)
    simp only [add0] at hc
    exact ⟨hc 0 (by omega) _ rfl, hc 1 (by omega) _ rfl⟩
theorem TsAt.grow {w w' : World} {r : Nat} {ts : List Tl} (h : TsAt w r ts) (b : Below w.heap.size w w') (hr : r < w.heap.size) : TsAt w' r ts := fun j hj => ⟨(b.cell hr).trans (h j hj).1, (b.cell hr).trans (h j hj).2⟩
theorem told_ask {w w' w0 : World} {B g m a h k t base n : Nat} {v v1 : Value} {ws : List Nat} {es : List Ent} {ts : List Tl} (x : w.ownsRow base 51 2 v1 n (cellsT ts)) (S : St w0 w B g m a h k v ws t es) (F : Foot (AskS g m a v) w w') : w'.ownsRow base 51 2 v1 n (cellsT ts) := by
  refine owns_foot x F fun r hr e => ?_
  obtain ⟨cur, hx, _⟩ := owns_block x hr
  obtain ⟨y, c, hm⟩ := S.orc.map.isMap
  rcases e with e | e | e | e
  · rw [e, S.orc.box] at hx; cases hx
  · rw [e, hm] at hx; cases hx
  · rw [e, S.tape.box] at hx; cases hx
  · obtain ⟨cur, h1, _⟩ := owns_block S.orc.row e; rw [hx] at h1; cases h1
theorem St.told {w w' w0 : World} {B g m a h k t base n : Nat} {v v1 : Value} {ws : List Nat} {es : List Ent} {ts : List Tl} (S : St w0 w B g m a h k v ws t es) (x : w.ownsRow base 51 2 v1 n (cellsT ts)) (hb : w0.heap.size ≤ base) (F : Foot (fun k => v1.ownBlock = some k) w w') : St w0 w' B g m a h k v ws t es := by
  obtain ⟨y, c, hm⟩ := S.orc.map.isMap
  have no : ∀ b, (∀ cur, w.heap[b]? ≠ some (.cells cur 51 (0, 0))) → ¬ v1.ownBlock = some b := fun b hn e => by obtain ⟨cur, h1, _⟩ := owns_block x e; exact hn cur h1
  have hrow : w.heap[h]? = some _ := S.tape.row
  refine ⟨S.orc.foot F (no g fun cur e => ?_) (no m fun cur e => ?_) (fun r hr => no r fun cur e => ?_), S.tape.foot F (no a fun cur e => ?_) (no h fun cur e => ?_), ⟨S.new.b0, S.new.a0, S.new.h0, S.new.bel.trans (F.below S.new.bel.size fun k e => ?_), Nat.le_trans S.new.bs F.size⟩, S.few⟩
  · rw [S.orc.box] at e; cases e
  · rw [hm] at e; cases e
  · obtain ⟨cur2, h1, _⟩ := owns_block S.orc.row hr; rw [h1] at e; cases e
  · rw [S.tape.box] at e; cases e
  · rw [hrow] at e; simp at e
  · obtain ⟨_, _, h1⟩ := owns_block x e; omega
theorem news_told (w : World) (y : Tl) (g : Nat) (hg : w.heap.size = g) : ∀ j u, y.cells[j]? = some u → (w.alloc (.cells #[.int .u64 (y.x : Int), .bool y.ok] 51)).cell? ((⟨g, 0, none⟩ : Addr).add j) = some u := by
  subst hg
  exact World.news_of_block (cs := #[.int .u64 (y.x : Int), .bool y.ok]) (t := 51) (fr := (0, 0)) (heap_alloc_new _ _)
def SameRel (w : World) (B g m a h kk : Nat) (ws : List Nat) (xs : List Qu) (n : Nat) (gk : Nat) (s6 i : Value) (wr : World) : Prop :=
  ∃ (k : Nat) (v : Value) (t : Nat) (es : List Ent) (oo : Option Addr) (cc : Nat) (ts : List Tl), k + gk = n ∧ i = .int .i64 k ∧ s6 = .slice oo k cc ∧ Hid (St w wr B g m a h kk v ws t es) ∧ Hid (ts.length = k) ∧
    Hid (wr.ownsRow w.heap.size 51 2 (.slice oo k cc) k (cellsT ts)) ∧ Hid (Tol ws t es xs ts)
set_option maxHeartbeats 3200000 in
theorem walk_same (ao : Option Addr) (n cap : Nat) (us : List Nat) (bo : Option Addr) (n2 cap2 : Nat) (xs : List Qu) (w : World) (hu : U64s w ao n cap us) (hb : n ≤ 17592186043904) (hx : Qus w bo n2 cap2 xs) (hs2 : cap2 * 16 ≤ 140737488351232) :
    Calls Try.prog 4 #[.slice ao n cap, .slice bo n2 cap2] w fun e w' => e = .returned (.bool true) ∧ Below w.heap.size w w' := by
  have HU := hide hu
  have HQ := hide hx
  have hc2 : cap2 ≤ 9223372036854775807 := hx.2.2.1
  have HL := hide (show (cutN us).length = n by rw [cutN_len]; exact hu.1.symm)
  have hnc : n2 ≤ cap2 := hx.2.1
  obtain ⟨i0, hi0, hz0, hz1, hz2⟩ := info_parts Try.infoT
  have hn16 : n2 * 16 ≤ 140737488351232 := by omega
  clear hu hx hs2
  go_enter Try.func4, Try.ntmps4
  go_wp2_with fail
  refine (awake_any _).mono ?_; rintro e w1 ⟨rfl, bel1⟩
  go_wp2_with fail
  refine (of_any ao n cap us _ (HU.out.carry bel1) hb).mono ?_; rintro e w2 ⟨a, h, kk, rfl, T, _, ha, hh, bel2⟩
  have HT := hide T
  have HB := hide (bel1.trans (bel2.mono bel1.size))
  have HA := hide (Nat.le_trans bel1.size ha)
  have HH := hide (Nat.le_trans bel1.size hh)
  clear T ha hh bel1 bel2
  go_wp2_with fail
  refine (oof_any _ ⟨_, rfl⟩ _).mono ?_; rintro e w3 ⟨g, m, rfl, O3, bel3⟩
  have HS : Hid (St w w3 w2.heap.size g m a h kk (.slice none 0 0) (cutN us) 0 []) := ⟨O3, HT.out.grow bel3, ⟨HB.out.size, HA.out, HH.out, HB.out.trans (bel3.mono HB.out.size), bel3.size⟩, few_nil⟩
  clear O3 bel3 HT HB HA HH
  go_wp2_with fail
  go_loopg [6, 22] n2 (fun gk s6 i wr => SameRel w w2.heap.size g m a h kk (cutN us) xs n2 gk s6 i wr)
  case atStart => exact ⟨0, _, 0, [], none, 0, [], by omega, rfl, rfl, HS, rfl, World.ownsRow_nil _ _ _ _, fun j hj => by simp at hj⟩
  case round =>
    obtain ⟨k, v, t, es, oo, cc, ts, hk, rfl, rfl, HSr, HTL, HW, HTo⟩ := hrel
    cases gk with
    | zero =>
      have hlt : ¬ ((k : Int) < (n2 : Int)) := by omega
      obtain rfl : k = n2 := by omega
      go_wp2_with fail
      refine (oleft_any g m _ a h _ kk v es (cutN us) _ HSr.out.orc HSr.out.tape).mono ?_; rintro e w5 ⟨rfl, q5, rfl⟩
      obtain ⟨z, hz⟩ : ∃ z : Int, ((cutN us).length : Int) - t = z := ⟨_, rfl⟩
      rw [hz]
      have HZ := hide hz
      clear hz
      have HS5 := hide (HSr.out.drewN q5)
      have HW5 : Hid ((wr.drewN q5).ownsRow w.heap.size 51 2 (.slice oo k cc) k (cellsT ts)) := HW.out
      obtain ⟨w6, hw6⟩ : ∃ w6, wr.drewN q5 = w6 := ⟨_, rfl⟩
      rw [hw6] at HS5 HW5 ⊢
      clear HSr HW hw6
      go_wp2_with fail
      go_loopg [12] k (fun gk i wr => ∃ c : Int, i = .int .i64 c ∧ c = (gk : Int) - 1 ∧ gk ≤ k ∧ Hid (Below w6.heap.size w6 wr))
      case atStart => exact ⟨_, rfl, rfl, Nat.le_refl _, Below.refl _ _⟩
      case round =>
        rename World => wq
        obtain ⟨c, rfl, hc, hle, HB2⟩ := hrel
        have HSq := hide (HS5.out.grow HB2.out)
        cases gk with
        | zero =>
          have hlt2 : ¬ (0 ≤ c) := by omega
          go_wp2_with fail
          refine (oleft_any g m _ a h _ kk v es (cutN us) _ HSq.out.orc HSq.out.tape).mono ?_; rintro e w7 ⟨rfl, q7, rfl⟩
          rw [HZ.out]
          go_wp2
          go_ret
          exact ⟨by simp, below_drewN HSq.out.new.bel _⟩
        | succ j =>
          obtain rfl : c = (j : Int) := by omega
          clear hc
          have hge : (0 : Int) ≤ (j : Int) := by omega
          have hjk : (j : Int) < (k : Int) := by omega
          have hjk2 : j < k := by omega
          obtain ⟨r, c5, e5, hc5, hc6, hr, TA⟩ := owns_told HW5.out (by omega)
          obtain ⟨rfl, _, rfl⟩ := Value.slice.inj e5
          obtain ⟨x, ok, hte⟩ : ∃ x ok, ts.getD j Tl.zero = ⟨x, ok⟩ := ⟨_, _, rfl⟩
          have HTE := hide hte
          have JT := hide (show j < ts.length by rw [HTL.out]; exact hjk2)
          cases bo with
          | none => have := HQ.out.2.2.2.1 rfl; omega
          | some ad =>
            obtain ⟨o, q, hoq⟩ : ∃ o q, xs.getD j Qu.zero = ⟨o, q⟩ := ⟨_, _, rfl⟩
            obtain ⟨⟨ho, hq⟩, e0, e1⟩ := (HQ.out.carry HSq.out.new.bel).elem j hjk2 o q hoq
            obtain ⟨p, hp, hp1⟩ : ∃ p : Nat, (o : Int) % 2 = (p : Int) ∧ p ≤ 1 := ⟨o % 2, by omega, by omega⟩
            have ht2 : (o : Int).tmod 2 = (p : Int) := by rw [Int.tmod_eq_emod_of_nonneg (by omega)]; exact hp
            have hwr : IntKind.i64.wrap (p : Int) = (p : Int) := IntWalk.i64_in _ (by omega)
            have LC := hide (And.intro (lt_of_cell e0) (lt_of_cell e1))
            have CQ : Hid (wq.drew.cell? (ad.add (j * 2)) = some (.int .u8 (o : Int)) ∧ wq.drew.cell? ⟨(ad.add (j * 2)).block, (ad.add (j * 2)).off + 1, none⟩ = some (.int .u64 (q : Int))) := ⟨e0, e1⟩
            have HX : Hid (St w wq.drew w2.heap.size g m a h kk v (cutN us) t es) := HSq.out.drewN 1
            have TQ : Hid (TsAt wq.drew r ts) := TA.grow (w' := wq.drew) HB2.out.drew hr
            have RQ : Hid (r < wq.drew.heap.size) := Nat.lt_of_lt_of_le hr HB2.out.size
            have B6 : Hid (Below w6.heap.size w6 wq.drew) := HB2.out.drew
            have HQ1 := hide hq
            have hto := HTo.out j JT.out
            rw [hoq, hte] at hto
            have HP1 := hide hp1
            have HLJ := hide hle
            clear hoq hq ho e0 e1 TA hte e5 hp1 hle
            rcases hto with ⟨hok, jj, hf, hx⟩ | ⟨hok, htt⟩
            · obtain rfl : ok = true := hok
              have HF := hide (show findE es (p : Int) (q % 5 * 3) = some jj by have := hf; rwa [show (((⟨o, q⟩ : Qu).o % 2 : Nat) : Int) = (p : Int) from by show ((o % 2 : Nat) : Int) = _; omega] at this)
              have HXX := hide hx
              clear hf hx hp
              go_wp2_with fail
              go_region_held3 (fun w' => w'.cell? (ad.add (j * 2)) = some (.int .u8 (o : Int)) ∧ w'.cell? ⟨(ad.add (j * 2)).block, (ad.add (j * 2)).off + 1, none⟩ = some (.int .u64 (q : Int))) (first | exact CQ.out | exact CI.out)
                (first
                  | (go_at_call 13; refine (in_any o q _ HQ1.out).mono ?_; rintro e wi ⟨rfl, beli⟩; have hSi := hide (HX.out.grow beli); have CI := hide (And.intro ((beli.cell (p := ad.add (j * 2)) LC.out.1).trans CQ.out.1) ((beli.cell (p := ⟨(ad.add (j * 2)).block, (ad.add (j * 2)).off + 1, none⟩) LC.out.2).trans CQ.out.2)))
                  | (go_at_call 15; refine (ask_told w _ g m a h kk v _ _ es p q jj x _ hSi.out HP1.out HF.out HXX.out).mono ?_; rintro e wj ⟨rfl, r2, rfl⟩))
              have TJ := (TQ.out.grow beli RQ.out) j JT.out
              rw [HTE.out] at TJ
              have t0 : (wi.drewN r2).cell? ⟨r, j * 2, none⟩ = some (.int .u64 (x : Int)) := TJ.1
              have t1 := TJ.2
              have BJ := hide (below_drewN (B6.out.trans (beli.mono B6.out.size)) r2)
              clear TJ hSi CI beli
              go_wp2
              go_roundg j
              case measure => omega
              case rel => exact ⟨_, rfl, by omega, by have := HLJ.out; omega, BJ⟩
            · obtain rfl : ok = false := hok
              subst htt
              clear hp
              go_wp2_with fail
              go_region_held3 (fun w' => w'.cell? (ad.add (j * 2)) = some (.int .u8 (o : Int)) ∧ w'.cell? ⟨(ad.add (j * 2)).block, (ad.add (j * 2)).off + 1, none⟩ = some (.int .u64 (q : Int))) (first | exact CQ.out | exact CI.out)
                (first
                  | (go_at_call 13; refine (in_any o q _ HQ1.out).mono ?_; rintro e wi ⟨rfl, beli⟩; have hSi := hide (HX.out.grow beli); have CI := hide (And.intro ((beli.cell (p := ad.add (j * 2)) LC.out.1).trans CQ.out.1) ((beli.cell (p := ⟨(ad.add (j * 2)).block, (ad.add (j * 2)).off + 1, none⟩) LC.out.2).trans CQ.out.2)))
                  | (go_at_call 15; refine (ask_same w _ g m a h kk v _ es p q _ hSi.out HP1.out).mono ?_; rintro e wj ⟨y, er, rfl, r2, rfl⟩))
              have TJ := (TQ.out.grow beli RQ.out) j JT.out
              rw [HTE.out] at TJ
              have t0 : (wi.drewN r2).cell? ⟨r, j * 2, none⟩ = some (.int .u64 (x : Int)) := TJ.1
              have t1 := TJ.2
              have BJ := hide (below_drewN (B6.out.trans (beli.mono B6.out.size)) r2)
              clear TJ hSi CI beli
              go_wp2
              go_roundg j
              case measure => omega
              case rel => exact ⟨_, rfl, by omega, by have := HLJ.out; omega, BJ⟩
    | succ g1 =>
      have hlt : ((k : Int) < (n2 : Int)) := by omega
      have hkn : k < n2 := by omega
      cases bo with
      | none => have := HQ.out.2.2.2.1 rfl; omega
      | some ad =>
        obtain ⟨o, q, hoq⟩ : ∃ o q, xs.getD k Qu.zero = ⟨o, q⟩ := ⟨_, _, rfl⟩
        obtain ⟨⟨ho, hq⟩, e0, e1⟩ := (HQ.out.carry HSr.out.new.bel).elem k hkn o q hoq
        obtain ⟨p, hp, hp1⟩ : ∃ p : Nat, (o : Int) % 2 = (p : Int) ∧ p ≤ 1 := ⟨o % 2, by omega, by omega⟩
        have ht2 : (o : Int).tmod 2 = (p : Int) := by rw [Int.tmod_eq_emod_of_nonneg (by omega)]; exact hp
        have hwr : IntKind.i64.wrap (p : Int) = (p : Int) := IntWalk.i64_in _ (by omega)
        obtain ⟨X, hX⟩ : ∃ X, wr.alloc (.cells #[.int .u8 (o : Int), .int .u64 (q : Int)] 32) = X := ⟨_, rfl⟩
        have HX : Hid (St w X.drew w2.heap.size g m a h kk v (cutN us) t es) := hX ▸ (HSr.out.grow (below_alloc wr _)).drewN 1
        have QX : Hid (QBox X.drew wr.heap.size o q) := hX ▸ QBox.new wr o q
        have WX : Hid (X.drew.ownsRow w.heap.size 51 2 (.slice oo k cc) k (cellsT ts)) := by rw [← hX]; exact HW.out.alloc _
        have HP1 := hide hp1
        have HP := hide hp
        have HQ1 := hide hq
        have HXQ := hide hoq
        clear hoq hp1 hq ho hp
        go_wp2_with fail
        go_region_held3 (fun w' => w'.cell? ⟨wr.heap.size, 0, none⟩ = some (.int .u8 (o : Int)) ∧ w'.cell? ⟨wr.heap.size, 1, none⟩ = some (.int .u64 (q : Int))) (first | exact ⟨QX.out.c0, QX.out.c1⟩ | exact ⟨hQi.out.c0, hQi.out.c1⟩ | exact ⟨hQj.out.c0, hQj.out.c1⟩)
          (first
            | (go_at_call 13; refine (in_any o q _ HQ1.out).mono ?_; rintro e wi ⟨rfl, beli⟩; have hSi := hide (HX.out.grow beli); have hQi := hide (QX.out.grow beli))
            | (go_at_call 15; refine (ask_any w _ g m a h kk v _ _ es p q _ hSi.out HP1.out).mono ?_; rintro e wj ⟨x, er, v', t', es', rfl, sj, Fj, hvj, stj⟩; have hQj := hide (hQi.out.ask hSi.out Fj)))
        have HS1 := hide sj
        have HT1 : Hid (∀ y : Tl, Tol1 (cutN us) t' es' (xs.getD k Qu.zero) y → Tol (cutN us) t' es' xs (ts ++ [y])) := fun y hy => HTo.out.step stj (by rw [HTL.out]; exact hy)
        have HT2 := step_told HP.out stj
        have WJ := hide (told_ask (owns_foot WX.out (below_foot (fun _ => False) beli) (fun _ _ => id)) hSi.out Fj)
        clear sj stj Fj hvj hSi hQi hQj beli
        rcases HT2 with ⟨rfl, hto⟩ | ⟨rfl, hto⟩
        · have HTO := hide (HT1.out _ (by rw [HXQ.out]; exact hto))
          clear hto HT1
          go_wp2_with (at_builtin; refine wpList_append_lies _ rfl _ _ 49 rfl w.heap.size 51 i0 _ 2 16 Try.underlying49 hi0 hz0 hz1 hz2 rfl (by omega) _ k (cellsT ts) rfl (WJ.out.alloc _) ⟨wj.heap.size, 0, none⟩ 1 1 (Tl.cells ⟨x, true⟩) rfl rfl ?c1 (tl_one _) (by omega) (by unfold maxLen; omega) (by omega) ?c3 (wj.heap.size + 1) (by simp) ?_)
          case c1 => exact news_told wj ⟨x, true⟩ _ rfl
          case c3 => exact Nat.le_trans HS1.out.new.bel.size (below_alloc wj _).size
          intro gg cap3 w6 hown hgrow hat hlt6
          have F6 : Foot (fun j => (Value.slice oo k cc).ownBlock = some j) wj w6 := (foot_alloc _ wj _).trans (foot_grown hgrow) (fun j e => .inl e)
          have HS6 := hide (HS1.out.told WJ.out (Nat.le_refl _) F6)
          have HW6 : Hid (w6.ownsRow w.heap.size 51 2 (.slice (some ⟨gg, 0, none⟩) (k + 1) cap3) (k + 1) (cellsT (ts ++ [⟨x, true⟩]))) := by rw [cellsT_snoc]; exact hown
          clear hown hgrow hat hlt6 F6 HS1 WJ
          go_wp2
          go_roundg g1
          case measure => omega
          case rel => exact ⟨k + 1, v', t', es', _, cap3, _, by omega, by go_num, rfl, HS6, (by show (ts ++ [_]).length = _; rw [List.length_append, HTL.out]; rfl), HW6, HTO⟩
        · have HTO := hide (HT1.out _ (by rw [HXQ.out]; exact hto))
          clear hto HT1
          go_wp2_with (at_builtin; refine wpList_append_lies _ rfl _ _ 49 rfl w.heap.size 51 i0 _ 2 16 Try.underlying49 hi0 hz0 hz1 hz2 rfl (by omega) _ k (cellsT ts) rfl (WJ.out.alloc _) ⟨wj.heap.size, 0, none⟩ 1 1 (Tl.cells ⟨x, false⟩) rfl rfl ?d1 (tl_one _) (by omega) (by unfold maxLen; omega) (by omega) ?d3 (wj.heap.size + 1) (by simp) ?_)
          case d1 => exact news_told wj ⟨x, false⟩ _ rfl
          case d3 => exact Nat.le_trans HS1.out.new.bel.size (below_alloc wj _).size
          intro gg cap3 w6 hown hgrow hat hlt6
          have F6 : Foot (fun j => (Value.slice oo k cc).ownBlock = some j) wj w6 := (foot_alloc _ wj _).trans (foot_grown hgrow) (fun j e => .inl e)
          have HS6 := hide (HS1.out.told WJ.out (Nat.le_refl _) F6)
          have HW6 : Hid (w6.ownsRow w.heap.size 51 2 (.slice (some ⟨gg, 0, none⟩) (k + 1) cap3) (k + 1) (cellsT (ts ++ [⟨x, false⟩]))) := by rw [cellsT_snoc]; exact hown
          clear hown hgrow hat hlt6 F6 HS1 WJ
          go_wp2
          go_roundg g1
          case measure => omega
          case rel => exact ⟨k + 1, v', t', es', _, cap3, _, by omega, by go_num, rfl, HS6, (by show (ts ++ [_]).length = _; rw [List.length_append, HTL.out]; rfl), HW6, HTO⟩

end Go.Proofs.Ytckpdgheoacbfaa

namespace Go.Proofs.Ytckpdgheoacbfaa.oracleSame
open Go.ChangeShapes Go.WideShapes Go.ChangeAt Go.RowKit
set_option linter.unusedVariables false

theorem own : ownKnob Try.prog.godebug = none := by kernel_rfl
theorem laidOut : laidOutB Try.prog = true := by kernel_rfl

theorem walk (a0 : Option Addr) (len0 cap0 : Nat) (z0 : List Int) (a1 : Option Addr) (len1 cap1 : Nat) (z1 : List Qu) (w : World) (w0 : RowOf .u64 w a0 len0 cap0 z0) (s0 : cap0 * 8 ≤ 140737488351232) (w1 : Qus w a1 len1 cap1 z1) (s1 : cap1 * 16 ≤ 140737488351232) :
    Calls Try.prog 4 #[.slice a0 len0 cap0, .slice a1 len1 cap1] w fun e w' => e = .returned (.bool true) ∧ Below w.heap.size w w' :=
  by obtain ⟨us, hu⟩ := w0.u64s; exact walk_same a0 len0 cap0 us a1 len1 cap1 z1 w hu (by have := hu.2.1; omega) w1 s1

set_option maxRecDepth 100000 in
theorem lifted (os : Os) (started : os.Started) (H : Type) (enc : TypeId × Value → H) :
    ReturnsInHanded {} Try.checked os 4 .any (Rows.oracleSameSpec.pre6 enc Try.prog Try.f4 Rows.oracleSameRow.domain false) (Rows.oracleSameSpec.post enc Try.prog Try.f4 false true false false) := by
  refine returnsInHanded_of_change_sized (C := Try.checked) own started (by kernel_rfl) Try.func4
    (ChangeSpec.witness6 (enc := enc) (C := Try.checked) false ⟨#[], #[.slice none 0 0, .slice none 0 0], []⟩ 8 (by kernel_rfl) (by kernel_rfl) (by kernel_rfl) (by kernel_rfl)) ?_
  intro W base args ds gs before hval0 hW hcnd hsz0 _
  have hval : ∀ (j : Nat) t v, Try.f4.params[j]? = some t → args[j]? = some v → Value.okWide Try.prog W .any base t v := hval0
  have hW' := hW
  obtain ⟨p, q, hA0, hV, rfl, hfz, hnd⟩ := hW
  have hA : DataW.TrodAll enc Try.prog W 0 (fun _ => true) true Try.f4.params.toList args.toList ds p := hA0
  have hsz : (DataW.weightsEach Try.prog (Try.f4.params.toList ++ Rows.oracleSameSpec.plain.varTypes Try.prog) (ds ++ gs)).all (· ≤ reachBytes) = true := hsz0
  rw [Try.params4] at hA hval hsz
  obtain ⟨v0, vs0, d0, ds0, p0, q0, hargs, rfl, rfl, h0, r0⟩ := trodAll_cons hA
  obtain ⟨v1, vs1, d1, ds1, p1, q1, rfl, rfl, rfl, h1, r1⟩ := trodAll_cons r0
  obtain ⟨rfl, rfl, rfl⟩ := trodAll_nil r1
  obtain rfl : args = #[v0, v1] := by cases args; simp_all
  obtain ⟨rfl, rfl⟩ := trodVars_none hV
  obtain ⟨a0, len0, cap0, rfl⟩ := okWide_slice Try.underlying22 (hval 0 22 v0 rfl rfl)
  have k0 := h0
  have lt0 : ∀ x ∈ p0, x.block < W.heap.size := by obtain ⟨m, hm⟩ := k0; exact DataW.trod_lt m _ _ _ hm
  obtain ⟨z0, w0, s0⟩ : ∃ zs, RowOf .u64 W a0 len0 cap0 zs ∧ cap0 * 8 ≤ 140737488351232 := by
    obtain ⟨fuel, hf⟩ := h0
    rcases open_ints Try.underlying22 Try.underlying30 (by kernel_rfl) hf with ⟨hcs, _⟩ | ⟨x, l, c, zs, hcs, _, hl, hm, hz, hx, hcell, hwz⟩
    · simp [Value.cells] at hcs
      obtain ⟨rfl, rfl, rfl⟩ := hcs
      exact ⟨[], .inl ⟨rfl, rfl, rfl, rfl⟩, by omega⟩
    · simp [Value.cells] at hcs
      obtain ⟨rfl, rfl, rfl⟩ := hcs
      have hd := congrArg Prod.fst hx
      simp only at hd
      subst hd
      have hs := sized_slice hsz (j := 0) (t := 22) (e := 30) rfl rfl Try.underlying22
      rw [bytesOf30] at hs
      simp only [lits, List.length_map, List.length_take, List.length_drop, reachBytes] at hs
      have hz' : zs.length = cap0 := by simpa using hz
      exact ⟨zs, .inr ⟨_, rfl, hl, hm, hz', hcell, hwz⟩, by omega⟩
  obtain ⟨a1, len1, cap1, rfl⟩ := okWide_slice Try.underlying23 (hval 1 23 v1 rfl rfl)
  have k1 := h1
  have lt1 : ∀ x ∈ p1, x.block < W.heap.size := by obtain ⟨m, hm⟩ := k1; exact DataW.trod_lt m _ _ _ hm
  obtain ⟨z1, w1, s1⟩ : ∃ zs, Qus W a1 len1 cap1 zs ∧ cap1 * 16 ≤ 140737488351232 := by
    obtain ⟨fuel, hf⟩ := h1
    obtain ⟨xs, hc, hd⟩ := open_qus hf
    refine ⟨xs, hc, ?_⟩
    rcases hd with ⟨_, h0⟩ | ⟨els, sp, hd, hlen⟩
    · omega
    · simp only at hd
      subst hd
      have hs := sized_slice hsz (j := 1) (t := 23) (e := 32) rfl rfl Try.underlying23
      rw [bytesA] at hs
      simp only [reachBytes] at hs
      omega
  clear hA0 hval0
  refine (walk a0 len0 cap0 z0 a1 len1 cap1 z1 W w0 s0 w1 s1).mono fun e W' ⟨he, bel⟩ => ?_
  subst he
  exact ⟨_, rfl, _, _, _, [], _, [], hW', trodAll_mk1 (shut_bool Try.underlying4 _), (trodAll_cons_mk (Below.trod laidOut (by kernel_rfl) (of_decide_eq_true (by kernel_rfl)) k0 bel lt0) (trodAll_cons_mk (Below.trod laidOut (by kernel_rfl) (of_decide_eq_true (by kernel_rfl)) k1 bel lt1) trodAll_mk0)), rfl, bel.frame _, fun h => by cases h⟩

theorem over : Rows.oracleSameRow.holds Try.pinned (OpenSpec.ofChange Rows.oracleSameSpec) :=
  OpenClaim.holds_of_wide 4 Try.f4 rfl rfl rfl rfl rfl rfl rfl ⟨rfl, rfl, rfl, rfl, rfl⟩ rfl rfl rfl rfl rfl (by kernel_rfl) Try.func4 (by kernel_rfl)
    (of_decide_eq_true (by kernel_rfl)) (by unfold Func.isWrapper; first | (rw [if_pos (by decide +kernel)]; kernel_rfl) | (rw [if_neg (by decide +kernel)]; exact ⟨rfl, rfl⟩))
    (fun os started H enc _ => lifted os started H enc)
end Go.Proofs.Ytckpdgheoacbfaa.oracleSame

namespace Go.Proofs.Ytckpdgheoacbfaa
theorem oracleSame_holds : Rows.OracleSameSaid := oracleSame.over
#print axioms oracleSame_holds
end Go.Proofs.Ytckpdgheoacbfaa
