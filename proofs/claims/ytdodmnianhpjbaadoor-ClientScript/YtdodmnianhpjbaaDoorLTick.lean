/-
  What a client's Tick answers, as a contract.
-/
import Derived.Test.YtdodmnianhpjbaaDoorLAge
import Derived.Test.YtdodmnianhpjbaaDoorLGet
namespace Go.Proofs.YtdodmnianhpjbaaDoor
open Go.RowKit
variable {w w' : World} {g : Nat} {rp wt tr : Int} {T L : List Cl}
/- a call one tick later, and whether it is sent again then -/
def olderF (wt tr : Int) (y : Cl) : Cl × Bool :=
  if y.s = 1 then (if y.a + 1 < wt then (⟨1, y.m, y.n, y.a + 1⟩, false) else if tr ≤ y.n then (⟨3, Ms.zero, 0, 0⟩, false) else (⟨1, y.m, y.n + 1, 0⟩, true)) else (y, false)
theorem olderF_nm (wt tr : Int) (y : Cl) : olderF wt tr y.nm = ((olderF wt tr y).1.nm, (olderF wt tr y).2) := by
  obtain ⟨s, m, n, a⟩ := y
  have hz : Ms.zero.nm = Ms.zero := rfl
  by_cases h1 : s = 1 <;> by_cases h2 : a + 1 < wt <;> by_cases h3 : tr ≤ n <;> simp [olderF, Cl.nm, h1, h2, h3, hz]
theorem olderF_msg {wt tr : Int} {y y2 : Cl} {b : Bool} (h : olderF wt tr y = (y2, b)) : y2.m = y.m ∨ (b = false ∧ y2.m = Ms.zero) := by
  unfold olderF at h
  repeat' split at h
  all_goals (cases h; first | exact .inl rfl | exact .inr ⟨rfl, rfl⟩)
theorem olderF_ok {wt tr : Int} {y y2 : Cl} {b : Bool} (hw : 1 ≤ wt) (h : olderF wt tr y = (y2, b)) (ho : y.ok wt tr) : y2.ok wt tr := by
  obtain ⟨s, m, n, a⟩ := y
  unfold olderF at h
  unfold Cl.ok at ho
  repeat' split at h
  all_goals (cases h; dsimp only at *; unfold Cl.ok; dsimp only)
  · omega
  · omega
  · omega
  · exact ho
theorem older_any (y : Cl) (w : World) (x : Ct w g rp wt tr T) (ho : y.ok wt tr) (y2 : Cl) (b : Bool) (h : olderF wt tr y = (y2, b)) :
    Calls Tryd.prog 19 #[.pointer (some ⟨g, 0, none⟩), .agg #[.int .i64 y.s, .int .u64 y.m.ta, .int .u64 y.m.rp, .int .u32 y.m.id, .int .u16 y.m.op, .int .u16 y.m.st, .int .u64 y.m.p, .int .u32 y.m.o, .int .u8 y.m.r, .int .u64 y.m.c, .int .u64 y.m.ar, .slice y.m.so y.m.sn y.m.sc, .int .i64 y.n, .int .i64 y.a]] w fun e w' => e = .returned (.tuple #[.agg #[.int .i64 y2.s, .int .u64 y2.m.ta, .int .u64 y2.m.rp, .int .u32 y2.m.id, .int .u16 y2.m.op, .int .u16 y2.m.st, .int .u64 y2.m.p, .int .u32 y2.m.o, .int .u8 y2.m.r, .int .u64 y2.m.c, .int .u64 y2.m.ar, .slice y2.m.so y2.m.sn y2.m.sc, .int .i64 y2.n, .int .i64 y2.a], .bool b]) ∧ Below w.heap.size w w' := by
  by_cases h1 : y.s = 1
  · obtain ⟨s, m, n, a⟩ := y
    obtain rfl : s = 1 := h1
    have hk : 0 ≤ a ∧ a < wt ∧ 1 ≤ n ∧ n ≤ tr := by
      rcases ho with ho | ho | ho
      · exact ho.2
      · cases ho
      · cases ho
    unfold olderF at h
    rw [if_pos rfl] at h
    dsimp only at h
    by_cases h2 : a + 1 < wt
    · rw [if_pos h2] at h
      cases h
      exact older_young m n a (a + 1) w x hk.1 rfl h2
    · rw [if_neg h2] at h
      by_cases h3 : tr ≤ n
      · rw [if_pos h3] at h
        cases h
        exact older_fails m n a (a + 1) w x hk.1 hk.2.1 rfl h2 h3
      · rw [if_neg h3] at h
        cases h
        exact older_again m n a (a + 1) (n + 1) w x hk.1 hk.2.1 rfl h2 h3 hk.2.2.1 rfl
  · unfold olderF at h
    rw [if_neg h1] at h
    cases h
    exact older_idle y w x h1
def tickL (wt tr : Int) (L : List Cl) : List Cl := L.map fun y => (olderF wt tr y).1
def tickM (wt tr : Int) (L : List Cl) : List Ms := (L.filter fun y => (olderF wt tr y).2).map Cl.m
theorem tickL_nm (wt tr : Int) (T : List Cl) : (tickL wt tr T).map Cl.nm = tickL wt tr (T.map Cl.nm) := by
  unfold tickL
  rw [List.map_map, List.map_map]
  apply List.map_congr_left
  intro y _
  show _ = (olderF wt tr y.nm).1
  rw [olderF_nm]; rfl
theorem tickM_snoc (wt tr : Int) (L : List Cl) (y : Cl) : tickM wt tr (L ++ [y]) = tickM wt tr L ++ (if (olderF wt tr y).2 then [y.m] else []) := by
  unfold tickM
  rw [List.filter_append, List.map_append]
  congr 1
  rw [List.filter_cons]
  split <;> rfl
/- behind so many rounds -/
def tickT (wt tr : Int) (T : List Cl) (i : Nat) : List Cl := tickL wt tr (T.take i) ++ T.drop i
theorem tickT_len (T : List Cl) (i : Nat) : (tickT wt tr T i).length = T.length := by
  unfold tickT tickL
  rw [List.length_append, List.length_map, ← List.length_append, List.take_append_drop]
theorem take_cl (T : List Cl) (i : Nat) (h : i < T.length) : T.take (i + 1) = T.take i ++ [cl T i] := by
  unfold cl
  rw [List.take_add_one, List.getElem?_eq_getElem h, List.getD_eq_getElem?_getD, List.getElem?_eq_getElem h]; rfl
theorem drop_cl (T : List Cl) (i : Nat) (h : i < T.length) : T.drop i = cl T i :: T.drop (i + 1) := by
  unfold cl
  rw [List.drop_eq_getElem_cons h, List.getD_eq_getElem?_getD, List.getElem?_eq_getElem h]; rfl
theorem tickT_at (T : List Cl) (i : Nat) (h : i < T.length) : cl (tickT wt tr T i) i = cl T i := by
  have hl : (tickL wt tr (T.take i)).length = i := by unfold tickL; rw [List.length_map, List.length_take]; omega
  rw [tickT, drop_cl T i h]
  show ((tickL wt tr (T.take i) ++ (cl T i :: T.drop (i + 1)))).getD i Cl.zero = _
  rw [List.getD_eq_getElem?_getD, List.getElem?_append_right (by omega), hl, Nat.sub_self]; rfl
theorem tickT_set (T : List Cl) (i : Nat) (h : i < T.length) : (tickT wt tr T i).set i (olderF wt tr (cl T i)).1 = tickT wt tr T (i + 1) := by
  have hl : (tickL wt tr (T.take i)).length = i := by unfold tickL; rw [List.length_map, List.length_take]; omega
  rw [tickT, drop_cl T i h, List.set_append_right _ _ (by omega), hl, Nat.sub_self, List.set_cons_zero, tickT, take_cl T i h]
  unfold tickL
  rw [List.map_append, List.append_assoc]; rfl
structure TkR (w : World) (g : Nat) (rp wt tr : Int) (T : List Cl) (i : Nat) (v : Value) (R : List Ms) (wr : World) : Prop where
  ct : Ct wr g rp wt tr (tickT wt tr T i)
  own : wr.ownsRow w.heap.size 35 11 v R.length (cellsM R)
  has : ∀ x ∈ R, x.has wr ∧ OwnD wr x
  nm : R.map Ms.nm = tickM wt tr ((T.take i).map Cl.nm)
  ft : Foot (· = g) w wr
  few : R.length ≤ i
def TickRel (w : World) (g : Nat) (rp wt tr : Int) (T : List Cl) (n gk : Nat) (v vi : Value) (wr : World) : Prop := ∃ i R, i + gk = n ∧ vi = .int .i64 (i : Int) ∧ TkR w g rp wt tr T i v R wr
theorem TkR.grow {i : Nat} {v : Value} {R : List Ms} {wr w2 : World} (h : TkR w g rp wt tr T i v R wr) (b : Below wr.heap.size wr w2) : TkR w g rp wt tr T i v R w2 :=
  ⟨h.ct.grow b, owns_carry h.own b, fun x hx => ⟨Bts.carry (h.has x hx).1 b, (h.has x hx).2.grow b⟩, h.nm, h.ft.then (below_foot _ b), h.few⟩
theorem Ct.type {w : World} (x : Ct w g rp wt tr T) : ∃ cur, w.heap[g]? = some (.cells cur 63 (0, 0)) := by
  obtain ⟨C, h2, _⟩ := x.box; exact ⟨C, h2⟩
/- the call is laid anew; it is not sent -/
theorem TkR.lay {i : Nat} {v : Value} {R : List Ms} {wr : World} (h : TkR w g rp wt tr T i v R wr) (hi : i < T.length) (y2 : Cl) (b : Bool) (ho : olderF wt tr (cl T i) = (y2, b)) :
    Ct (lay14 wr g (4 + i * 14) y2) g rp wt tr (tickT wt tr T (i + 1)) ∧ (lay14 wr g (4 + i * 14) y2).ownsRow w.heap.size 35 11 v R.length (cellsM R) ∧ (∀ x ∈ R, x.has (lay14 wr g (4 + i * 14) y2) ∧ OwnD (lay14 wr g (4 + i * 14) y2) x) ∧ Foot (· = g) w (lay14 wr g (4 + i * 14) y2) ∧ y2.m.has (lay14 wr g (4 + i * 14) y2) ∧ y2.m.sn ≤ 140737488355328 := by
  have hT := tickT_len (wt := wt) (tr := tr) T i
  have hm : cl (tickT wt tr T i) i ∈ tickT wt tr T i := cl_mem _ _ (by omega)
  rw [tickT_at T i hi] at hm
  have hh := h.ct.has _ hm
  have hok := h.ct.ok _ hm
  have hy2 : y2.m.has wr ∧ OwnD wr y2.m ∧ y2.m.sn ≤ 140737488355328 := by
    rcases olderF_msg ho with e | ⟨_, e⟩
    · rw [e]; exact hh
    · rw [e]; exact ⟨bts_nil wr, fun hn => absurd hn (by decide), by decide⟩
  have c := h.ct.lay i (by omega) y2 (olderF_ok h.ct.rng.1 ho hok) hy2
  have ch := c.has y2 (List.mem_iff_getElem?.2 ⟨i, by rw [List.getElem?_set]; simp; omega⟩)
  have e2 : y2 = (olderF wt tr (cl T i)).1 := by rw [ho]
  rw [e2, tickT_set T i hi, ← e2] at c
  obtain ⟨cur, hg⟩ := h.ct.type
  have f := foot_lay14 wr g (4 + i * 14) y2
  have nb : ∀ k cur, wr.heap[k]? = some (.cells cur 5 (0, 0)) → ¬ k = g := fun k cur e i => by
    rw [i, hg] at e; cases e
  refine ⟨c, owns_foot h.own f (fun k hk e => ?_), fun x hx => ⟨(h.has x hx).2.has (h.has x hx).1 f nb, (h.has x hx).2.foot f nb⟩, h.ft.then f, ch.1, ch.2.2⟩
  obtain ⟨c2, h2⟩ := owns_type h.own hk
  rw [e, hg] at h2; cases h2
def TickEnd (w : World) (g : Nat) (rp wt tr : Int) (L : List Cl) (e : Ending) (w' : World) : Prop := ∃ ao cap R, e = .returned (.slice ao R.length cap) ∧ Mss w' ao R.length cap R ∧ R.map Ms.nm = tickM wt tr L ∧ StEnd w g rp wt tr (tickL wt tr L) w'
theorem TkR.end {v : Value} {R : List Ms} {wr : World} (h : TkR w g rp wt tr T T.length v R wr) : TickEnd w g rp wt tr (T.map Cl.nm) (.returned v) wr := by
  obtain ⟨ao, cap, rfl, hl⟩ := owns_lies h.own
  have hn := h.nm
  have hc := h.ct
  unfold tickT at hc
  rw [List.take_length] at hn hc
  rw [List.drop_length, List.append_nil] at hc
  exact ⟨ao, cap, R, rfl, ⟨hl, fun x hx => (h.has x hx).1⟩, hn, ⟨_, hc, tickL_nm wt tr T⟩, h.ft⟩
/- a request more -/
theorem TkR.more {i : Nat} {v : Value} {R : List Ms} {W w2 : World} {m p : Ms} (c : Ct W g rp wt tr (tickT wt tr T (i + 1))) (own : W.ownsRow w.heap.size 35 11 v R.length (cellsM R)) (has : ∀ x ∈ R, x.has W ∧ OwnD W x) (ft : Foot (· = g) w W) (few : R.length ≤ i) (hi : i ≤ 64)
    (E : AlEnd W m p w2) :
    ∃ v' w3, (Builtin.append_ #[50, 50] 50 #[v, .slice (some ⟨w2.heap.size, 0, none⟩) 1 1]).run Tryd.prog (w2.alloc (.cells #[.int .u64 p.ta, .int .u64 p.rp, .int .u32 p.id, .int .u16 p.op, .int .u16 p.st, .int .u64 p.p, .int .u32 p.o, .int .u8 p.r, .int .u64 p.c, .int .u64 p.ar, .slice p.so p.sn p.sc] 35)) = .ok v' w3 ∧ Ct w3 g rp wt tr (tickT wt tr T (i + 1)) ∧ w3.ownsRow w.heap.size 35 11 v' (R ++ [p]).length (cellsM (R ++ [p])) ∧ (∀ x ∈ R ++ [p], x.has w3 ∧ OwnD w3 x) ∧ Foot (· = g) w w3 := by
  have o2 := owns_carry own E.b
  obtain ⟨v', w3, hr, ho, hf, hb⟩ := app_more p o2 (by omega) (Nat.le_trans ft.size E.b.size)
  have nt : ∀ k cur t, w2.heap[k]? = some (.cells cur t (0, 0)) → t = 63 ∨ t = 5 → ¬ v.ownBlock = some k := fun k cur t h ht e => by
    obtain ⟨c2, h2⟩ := owns_type o2 e
    rw [h2] at h
    cases h
    rcases ht with ht | ht <;> cases ht
  have n8 : ∀ k cur, w2.heap[k]? = some (.cells cur 5 (0, 0)) → ¬ v.ownBlock = some k := fun k cur h => nt k cur _ h (.inr rfl)
  refine ⟨v', w3, hr, (c.grow E.b).foot hf nt, ?_, fun x hx => ?_, ((ft.then (below_foot _ E.b)).trans hf (fun j hj => .inr (owns_lt own hj).2))⟩
  · rw [List.length_append, cellsM_append]; exact ho
  · have hx2 : x.has w2 ∧ OwnD w2 x := by
      rcases List.mem_append.1 hx with h | h
      · exact ⟨Bts.carry (has x h).1 E.b, (has x h).2.grow E.b⟩
      · rw [List.mem_singleton.1 h]; exact ⟨E.has, E.own⟩
    exact ⟨hx2.2.has hx2.1 hf n8, hx2.2.foot hf n8⟩
set_option maxRecDepth 20000 in
set_option maxHeartbeats 6400000 in
theorem tick_at (w : World) (x : Ct w g rp wt tr T) :
    Calls Tryd.prog 13 #[.pointer (some ⟨g, 0, none⟩)] w fun e w' => TickEnd w g rp wt tr (T.map Cl.nm) e w' := by
  have c3 := x.c3
  obtain ⟨n, hn⟩ : ∃ n, T.length = n := ⟨_, rfl⟩
  rw [hn] at c3
  have hn64 : n ≤ 64 := by have := x.few; omega
  have HX := hide x
  have HN := hide hn
  have HT0 : Hid (TkR w g rp wt tr T 0 (.slice none 0 0) [] w) := ⟨by unfold tickT tickL; rw [List.take_zero, List.drop_zero]; exact x, owns_nil _ _ _ _, (fun _ h => by cases h), rfl, Foot.refl _ _, Nat.le_refl _⟩
  clear x hn
  go_enter Tryd.func13, Tryd.ntmps13
  go_wp2
  go_loopg [3, 11] n (fun gk v vi wr => TickRel w g rp wt tr T n gk v vi wr)
  case atStart => exact ⟨0, [], by omega, rfl, HT0.out⟩
  case round =>
    obtain ⟨i, R, hi, rfl, h⟩ := hrel
    have HH := hide h
    clear h c3
    cases gk with
    | zero =>
      obtain rfl : i = n := by omega
      have HE := hide (by have := HH.out; rw [← HN.out] at this; exact this.end)
      go_wp2
      go_ret
      exact HE.out
    | succ g1 =>
      have hlt : (i : Int) < (n : Int) := by omega
      have hl64 : (i : Int) < 64 := by omega
      have hiT : i < T.length := by have := HN.out; omega
      obtain ⟨y, hy⟩ : ∃ y, cl T i = y := ⟨_, rfl⟩
      obtain ⟨⟨y2, b⟩, hob⟩ : ∃ z, olderF wt tr y = z := ⟨_, rfl⟩
      have hyk : cl (tickT wt tr T i) i = y := by rw [tickT_at T i hiT]; exact hy
      have hyo : y.ok wt tr := HH.out.ct.ok y (by rw [← hyk]; exact cl_mem _ _ (by rw [tickT_len]; exact hiT))
      obtain ⟨d0, d1, d2, d3, d4, d5, d6, d7, d8, d9, d10, d11, d12, d13⟩ := HH.out.ct.at i (by omega) y hyk
      have HYO := hide hyo
      have HOB := hide hob
      have HYY := hide hy
      have HIT := hide hiT
      clear hyk hyo hob hy hiT
      go_wp2_with fail
      refine (older_any y _ HH.out.ct HYO.out y2 b HOB.out).mono ?_; rintro e w1 ⟨rfl, b1⟩
      clear d0 d1 d2 d3 d4 d5 d6 d7 d8 d9 d10 d11 d12 d13
      obtain ⟨Y, hY⟩ : ∃ Y, w1.alloc (.cells #[.int .i64 y2.s, .int .u64 y2.m.ta, .int .u64 y2.m.rp, .int .u32 y2.m.id, .int .u16 y2.m.op, .int .u16 y2.m.st, .int .u64 y2.m.p, .int .u32 y2.m.o, .int .u8 y2.m.r, .int .u64 y2.m.c, .int .u64 y2.m.ar, .slice y2.m.so y2.m.sn y2.m.sc, .int .i64 y2.n, .int .i64 y2.a] 60) = Y := ⟨_, rfl⟩
      have bY : Below w1.heap.size w1 Y := hY ▸ below_alloc w1 _
      have by1 : BoxC Y w1.heap.size y2 := hY ▸ boxC_new w1 y2
      have hY2 := HH.out.grow (below_one b1 bY)
      have xy := hY2.ct
      obtain ⟨k0, k1, k2, k3, k4, k5, k6, k7, k8, k9, k10, k11, k12, k13⟩ := by1.all
      obtain ⟨e0, e1, e2, e3, e4, e5, e6, e7, e8, e9, e10, e11, e12, e13⟩ := xy.at i (by omega) _ rfl
      have fz0 := xy.z (4 + i * 14)
      have fz1 := xy.z (4 + i * 14 + 1)
      have fz2 := xy.z (4 + i * 14 + 2)
      have fz3 := xy.z (4 + i * 14 + 3)
      have fz4 := xy.z (4 + i * 14 + 4)
      have fz5 := xy.z (4 + i * 14 + 5)
      have fz6 := xy.z (4 + i * 14 + 6)
      have fz7 := xy.z (4 + i * 14 + 7)
      have fz8 := xy.z (4 + i * 14 + 8)
      have fz9 := xy.z (4 + i * 14 + 9)
      have fz10 := xy.z (4 + i * 14 + 10)
      have fz11 := xy.z (4 + i * 14 + 11)
      have fz12 := xy.z (4 + i * 14 + 12)
      have fz13 := xy.z (4 + i * 14 + 13)
      have hng : w1.heap.size ≠ g := by have := HH.out.ct.lt; have := b1.size; omega
      obtain ⟨V, hV⟩ : ∃ V, lay14 Y g (4 + i * 14) y2 = V := ⟨_, rfl⟩
      have hVy := hY2.lay HIT.out y2 b (by rw [HYY.out]; exact HOB.out)
      rw [hV] at hVy
      have HV := hide hVy
      have HBV : Hid (BoxC V w1.heap.size y2) := by rw [← hV]; exact by1.foot (foot_lay14 Y g _ y2) hng
      simp only [lay14] at hV
      clear hVy bY b1 by1 hY2 xy
      go_upto_region 6 with fail
      go_cut [] from 12 to 38 (fun wx => wx = V.drew)
      case first =>
        go_region_with (fail)
        all_goals (go_wp2_with fail; go_meet; rfl)
      case rest =>
        obtain ⟨W, hW⟩ : ∃ W, V.drew = W := ⟨_, rfl⟩
        have bW : Below V.heap.size V W := hW ▸ below_d V 1
        have hcW : wc = W := hcut.trans hW
        obtain ⟨c1, o1, a1, f1, g1h, g1s⟩ := HV.out
        have HC := hide (c1.grow bW)
        have HO := hide (owns_carry o1 bW)
        have HA : Hid (∀ x ∈ R, x.has W ∧ OwnD W x) := fun x hx => ⟨Bts.carry (a1 x hx).1 bW, (a1 x hx).2.grow bW⟩
        have HF := hide (f1.then (below_foot _ bW))
        have HM : Hid (y2.m.has W ∧ y2.m.sn ≤ 140737488355328) := ⟨Bts.carry g1h bW, g1s⟩
        obtain ⟨l0, l1, l2, l3, l4, l5, l6, l7, l8, l9, l10, l11, l12, l13⟩ := (HBV.out.grow bW).all
        have HNM : Hid (tickM wt tr ((T.take (i + 1)).map Cl.nm) = R.map Ms.nm ++ (if b then [y.m.nm] else [])) := by
          show _ = _
          rw [take_cl T i HIT.out, List.map_append, List.map_singleton, tickM_snoc, HH.out.nm, HYY.out, olderF_nm, HOB.out]; rfl
        clear c1 o1 a1 f1 g1h g1s bW hcut k0 e0 fz0 k1 e1 fz1 k2 e2 fz2 k3 e3 fz3 k4 e4 fz4 k5 e5 fz5 k6 e6 fz6 k7 e7 fz7 k8 e8 fz8 k9 e9 fz9 k10 e10 fz10 k11 e11 fz11 k12 e12 fz12 k13 e13 fz13
        subst hcW
        cases b with
        | false =>
          have HE : Hid (TkR w g rp wt tr T (i + 1) u3 R wc) := ⟨HC.out, HO.out, HA.out, by rw [HNM.out]; simp, HF.out, by have := HH.out.few; omega⟩
          go_wp2
          go_roundg g1
          case measure => omega
          case rel => exact ⟨i + 1, R, by omega, by go_num, HE.out⟩
        | true =>
          have hmm : y2.m.nm = y.m.nm := by
            rcases olderF_msg HOB.out with e | ⟨e, _⟩
            · rw [e]
            · cases e
          have HMM := hide hmm
          clear hmm
          go_wp2_with fail
          refine (alone_any y2.m _ HM.out.1 HM.out.2).mono ?_; rintro e w2 ⟨p', rfl, E⟩
          obtain ⟨v', w3, hr, c3, o3, a3, f3⟩ := TkR.more HC.out HO.out HA.out HF.out HH.out.few (by omega) E
          have HE : Hid (TkR w g rp wt tr T (i + 1) v' (R ++ [p']) w3) := ⟨c3, o3, a3, by rw [HNM.out, List.map_append, List.map_singleton, E.nm, HMM.out]; rfl, f3, by rw [List.length_append]; have := HH.out.few; show R.length + 1 ≤ _; omega⟩
          have HR := hide hr
          clear hr c3 o3 a3 f3 E l0 l1 l2 l3 l4 l5 l6 l7 l8 l9 l10 l11 l12 l13
          go_wp2_with (at_builtin; refine wpList_append_run rfl _ _ _ rfl _ _ _ _ rfl rfl HR.out ?_)
          go_wp2
          go_roundg g1
          case measure => omega
          case rel => exact ⟨i + 1, R ++ [p'], by omega, by go_num, HE.out⟩
theorem tick_any (w : World) (x : St w g rp wt tr L) :
    Calls Tryd.prog 13 #[.pointer (some ⟨g, 0, none⟩)] w fun e w' => TickEnd w g rp wt tr L e w' := by
  obtain ⟨T, x, rfl⟩ := x
  exact tick_at w x
end Go.Proofs.YtdodmnianhpjbaaDoor
