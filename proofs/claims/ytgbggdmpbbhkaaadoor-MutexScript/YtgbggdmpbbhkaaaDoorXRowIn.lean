/-
  The statements' own without and first, as contracts; a lock and a row of one's own in one memory: what stays of each when the other turns.
-/
import Derived.Test.YtgbggdmpbbhkaaaDoorXSeq
import Derived.Test.YtgbggdmpbbhkaaaDoorQNum
namespace Go.Proofs.YtgbggdmpbbhkaaaDoor
open Go.RowKit
def WoEnd (w : World) (R : List Int) (e : Ending) (w' : World) : Prop := ∃ ro rc, e = .returned (.slice ro R.length rc) ∧ Tl w' w.heap.size ro R.length rc R ∧ Below w.heap.size w w'
def WoRel (w : World) (L : List Int) (x : Int) (n gk : Nat) (vi vo : Value) (wr : World) : Prop := ∃ i m : Nat, i + gk = n ∧ m ≤ i ∧ vi = .int .i64 (i : Int) ∧ wr.ownsRow w.heap.size 3 1 vo m (cellsI (dropL (L.take i) x)) ∧ Below w.heap.size w wr
set_option maxRecDepth 20000 in
set_option maxHeartbeats 800000 in
theorem without_any (x : Int) (ao : Option Addr) (n cap : Nat) (L : List Int) (w : World) (hA : Nums w ao n cap L) (hn : n ≤ 17592186044416) :
    Calls Tryd.prog 6 #[.slice ao n cap, .int .i64 x] w fun e w' => WoEnd w (dropL L x) e w' := by
  have hcap : cap ≤ 9223372036854775807 := hA.2.2.1
  have hnc := hA.2.1
  have HA := hide hA
  have HL := hide hA.len
  obtain ⟨R, hR⟩ : ∃ R, dropL L x = R := ⟨_, rfl⟩
  rw [hR]
  have HR := hide hR
  clear hA hR
  go_enter Tryd.func6, Tryd.ntmps6
  go_wp2
  go_loopg [10, 5] n (fun gk vi vo wr => WoRel w L x n gk vi vo wr)
  case atStart => exact ⟨0, 0, by omega, Nat.le_refl _, rfl, owns_nil _ _ _ _, Below.refl _ _⟩
  case round =>
    obtain ⟨i, m, hi, hm, rfl, hown, b⟩ := hrel
    have HO := hide hown
    have HB := hide b
    have HI := hide hi
    obtain ⟨oo, oc, rfl, hl⟩ := owns_lies hown
    clear hown b
    cases gk with
    | zero =>
      obtain rfl : i = n := by omega
      have hlt : ¬ ((i : Int) < (i : Int)) := by omega
      have HLI : Hid (Nums wr oo m oc (dropL (L.take i) x)) := hl
      clear hi hl
      go_wp2
      go_ret
      have e : dropL (L.take i) x = R := by rw [← HR.out, HL.out, List.take_length]
      have hA := HLI.out
      rw [e] at hA
      have hlen := hA.len
      have ho := HO.out
      rw [e] at ho
      subst hlen
      obtain ⟨ro, rc, e1, ht⟩ := tl_own ho
      cases e1
      exact ⟨oo, oc, rfl, ht, HB.out⟩
    | succ g1 =>
      have hlt : (i : Int) < (n : Int) := by omega
      have hltn : i < n := by omega
      have HS := hide (dropL_snoc L x i (by rw [← HL.out]; exact hltn))
      clear hi hl
      have A1 := HA.out.carry HB.out
      obtain ⟨ad, rfl⟩ := HA.out.there hltn
      have c0 := A1.elem i hltn
      obtain ⟨y, hy⟩ : ∃ y, L.getD i 0 = y := ⟨_, rfl⟩
      rw [hy] at HS c0
      clear A1 hy
      by_cases hxy : y = x
      · go_wp2
        go_roundg g1
        case measure => omega
        case rel =>
          refine ⟨i + 1, m, by have := HI.out; omega, by omega, by go_num, ?_, HB.out⟩
          rw [HS.out, if_pos hxy, List.append_nil]; exact HO.out
      · obtain ⟨X, hX⟩ : ∃ X, wr.alloc (.cells #[.int .i64 y] 3) = X := ⟨_, rfl⟩
        have bX : Below wr.heap.size wr X := hX ▸ below_alloc wr _
        have oX : X.ownsRow w.heap.size 3 1 (.slice oo m oc) m (cellsI (dropL (L.take i) x)) := hX ▸ HO.out.alloc _
        have nX : Nums X (some ⟨wr.heap.size, 0, none⟩) 1 1 [y] := by
          refine ⟨rfl, Nat.le_refl _, (show 1 ≤ maxLen by decide), (fun e => by cases e), fun ad e j u hu => ?_⟩
          obtain rfl := Option.some.inj e
          exact World.news_of_block (hX ▸ heap_alloc_new wr _) j u hu
        obtain ⟨v', w', hr, hown', hgr⟩ := app_own (ty := 25) Tryd.underlying25 oX nX (by omega) (Nat.le_trans HB.out.size bX.size)
        have HRUN := hide hr
        have HO' := hide hown'
        have HB' := hide (below_grown (HB.out.trans (bX.mono HB.out.size)) (Nat.le_trans HB.out.size bX.size) oX hgr)
        clear bX oX nX hr hown' hgr
        go_wp2_with (at_builtin; refine wpList_append_run rfl _ _ _ rfl _ _ _ _ rfl rfl HRUN.out ?_)
        go_wp2
        go_roundg g1
        case measure => omega
        case rel =>
          refine ⟨i + 1, m + 1, by have := HI.out; omega, by omega, by go_num, ?_, HB'.out⟩
          rw [HS.out, if_neg hxy]; exact HO'.out
set_option maxHeartbeats 800000 in
theorem first_any (ao : Option Addr) (n cap : Nat) (L : List Int) (w : World) (hA : Nums w ao n cap L) :
    Calls Tryd.prog 10 #[.slice ao n cap] w fun e w' => e = .returned (.int .i64 (holdF L)) ∧ w' = w := by
  obtain ⟨y, hy⟩ : ∃ y, holdF L = y := ⟨_, rfl⟩
  rw [hy]
  have HY := hide hy
  have hc : cap ≤ 9223372036854775807 := hA.2.2.1
  have hnc := hA.2.1
  have HN := hide hA
  have hn := hA.len
  clear hy hA
  by_cases h0 : n = 0
  · subst h0
    have HE : Hid (y = -1) := by show _ = _; rw [← HY.out, List.eq_nil_of_length_eq_zero hn.symm]; rfl
    clear hn
    go_enter Tryd.func10, Tryd.ntmps10
    go_wp2
    go_ret
    exact ⟨by rw [HE.out]; rfl, rfl⟩
  · obtain ⟨ad, rfl⟩ := HN.out.there (k := 0) (by omega)
    have hp : (0 : Int) < (n : Int) := by omega
    have hz : ¬ ((n : Int) = 0) := by omega
    have c1 := HN.out.elem 0 (by omega)
    rw [← holdF_get L (by omega), HY.out] at c1
    have c2 := c1
    rw [addZ] at c2
    clear hn
    go_enter Tryd.func10, Tryd.ntmps10
    go_wp2
    go_ret
    exact ⟨rfl, rfl⟩
/- a lock of the line L, and a row of one's own that holds R -/
structure SP (w0 w : World) (g : Nat) (L R : List Int) (ao : Option Addr) (c : Nat) (so : Option Addr) (n tc : Nat) : Prop where
  mx : Mx w g L ao c
  tl : Tl w w0.heap.size so n tc R
  off : 0 < L.length → ∀ ad bd, ao = some ad → so = some bd → ad.block ≠ bd.block
  bel : Below w0.heap.size w0 w
  gl : w0.heap.size ≤ g
variable {w0 w w' : World} {g : Nat} {L R : List Int} {ao : Option Addr} {c : Nat} {so : Option Addr} {n tc : Nat}
theorem SP.ne (x : SP w0 w g L R ao c so n tc) (bd : Addr) (e : so = some bd) : bd.block ≠ g := fun h => by
  obtain ⟨cur, _, _, h3, _⟩ := x.tl.own bd e
  rw [h, x.mx.box] at h3
  cases h3
theorem SP.grow (x : SP w0 w g L R ao c so n tc) (b : Below w.heap.size w w') : SP w0 w' g L R ao c so n tc := ⟨x.mx.grow b, x.tl.grow b, x.off, below_one x.bel b, x.gl⟩
theorem SP.lock (x : SP w0 w g L R ao c so n tc) {M : List Int} (h : MxEnd w g M ao L.length w') : ∃ ao' c', SP w0 w' g M R ao' c' so n tc := by
  obtain ⟨ao', c', m, f, hn⟩ := h
  refine ⟨ao', c', m, x.tl.foot f (fun ad e h => x.ne ad e h), fun h0 ad bd e e2 => ?_, x.bel.trans (f.below x.bel.size (fun j e => by rw [e]; exact x.gl)), x.gl⟩
  rcases hn with ⟨rfl, hl⟩ | hn
  · exact x.off (by omega) ad bd e e2
  · have := hn ad e
    have := (x.tl.lt bd e2).1
    omega
theorem SP.app {ty : TypeId} (x : SP w0 w g L R ao c so n tc) (z : Int) (hn : n ≤ 1000000) :
    ∃ bo bc W, (Builtin.append_ #[25, 25] ty #[.slice so n tc, .slice (some ⟨w.heap.size, 0, none⟩) 1 1]).run Tryd.prog (w.alloc (.cells #[.int .i64 z] 3)) = .ok (.slice bo (n + 1) bc) W ∧ SP w0 W g L (R ++ [z]) ao c bo (n + 1) bc := by
  obtain ⟨bo, bc, W, hr, t, f, m⟩ := tl_app (ty := ty) z x.tl hn x.bel.size
  refine ⟨bo, bc, W, hr, x.mx.foot f (fun ⟨ad, e, h⟩ => x.ne ad e h) (fun h0 ad e ⟨bd, e2, h⟩ => x.off h0 ad bd e e2 h.symm), t, fun h0 ad bd e e2 => ?_, x.bel.trans (f.below x.bel.size (fun j ⟨ad, e, h⟩ => by have := (x.tl.lt ad e).2; omega)), x.gl⟩
  rcases m bd e2 with ⟨a0, e0, h⟩ | h
  · rw [← h]; exact x.off h0 ad a0 e e0
  · have := x.mx.row.lt h0 ad e; omega
theorem SP.cut (x : SP w0 w g L R ao c so n tc) (hn : 1 ≤ n) : SP w0 w g L (R.drop 1) ao c (tailA so 1 tc) (n - 1) (tc - 1) :=
  ⟨x.mx, x.tl.cut 1 hn, fun h0 ad bd e e2 => by
    obtain ⟨a0, e0, h⟩ := tail_block so 1 tc bd e2
    rw [← h]; exact x.off h0 ad a0 e e0, x.bel, x.gl⟩
theorem SP.fresh (x : SP w0 w g L R ao c so n tc) {M : List Int} {ro : Option Addr} {m rc : Nat} (t : Tl w' w.heap.size ro m rc M) (b : Below w.heap.size w w') : SP w0 w' g L M ao c ro m rc :=
  ⟨x.mx.grow b, t.base x.bel.size, fun h0 ad bd e e2 => by
    have h1 := x.mx.row.lt h0 ad e
    have h2 := (t.lt bd e2).2
    omega, below_one x.bel b, x.gl⟩
theorem sp_new {w w1 : World} (b : Below w.heap.size w w1) : SP w (w1.alloc (.cells #[.slice none 0 0] 27)) w1.heap.size [] [] none 0 none 0 0 :=
  ⟨mx_new w1, tl_nil _ _, fun h => absurd h (by decide), below_one b (below_alloc w1 _), b.size⟩
end Go.Proofs.YtgbggdmpbbhkaaaDoor
