/-
  What a row's seen, asked and pick answer, as contracts.
-/
import Derived.Test.YtibdhjohjkdgdaaDoorMBox
namespace Go.Proofs.YtibdhjohjkdgdaaDoor
open Go.RowKit Go.Conc
/- a row of messages in a channel, with their data -/
structure Qu (w : World) (c N : Nat) (K : List Ms) : Prop where
  ch : Ch w c N K
  has : ∀ x ∈ K, x.has w ∧ x.sn ≤ 140737488355328
  few : K.length ≤ N ∧ N ≤ 64
theorem len_chan {w : World} {c N : Nat} {K : List Ms} (h : Ch w c N K) (ty : TypeId) : (Builtin.len_ #[58] ty #[.chan (some c)]).run Tryd.prog w = .ok (.int .i64 (K.length : Int)) w := by
  obtain ⟨s, r, h⟩ := h
  rw [← vals_size K]; exact run_len_chan (P := Tryd.prog) (w := w) 58 ty Tryd.underlying58 h
theorem app_one {W : World} {B n : Nat} {v : Value} {xs : List Value} (p : Ms) (own : W.ownsRow B 35 11 v n xs) (hn : n ≤ 99999) (hB : B ≤ W.heap.size) :
    ∃ ao c w', (Builtin.append_ #[41, 41] 41 #[v, .slice (some ⟨W.heap.size, 0, none⟩) 1 1]).run Tryd.prog (W.alloc (.cells #[.int .u64 p.ta, .int .u64 p.rp, .int .u32 p.id, .int .u16 p.op, .int .u16 p.st, .int .u64 p.p, .int .u32 p.o, .int .u8 p.r, .int .u64 p.c, .int .u64 p.ar, .slice p.so p.sn p.sc] 35)) = .ok (.slice ao (n + 1) c) w' ∧ w'.ownsRow B 35 11 (.slice ao (n + 1) c) (n + 1) (xs ++ cellsM [p]) ∧ Foot (fun k => v.ownBlock = some k) W w' ∧ ∀ k, v.ownBlock = some k → B ≤ k := by
  obtain ⟨v', w', hr, ho, hf, _⟩ := app_more p own hn hB
  obtain ⟨ao, c, rfl, _⟩ := owns_lies ho
  exact ⟨ao, c, w', hr, ho, hf, fun k h => (owns_lt own h).2⟩
def SeenRel (w : World) (c N : Nat) (K : List Ms) (n gk : Nat) (vs vi : Value) (wr : World) : Prop :=
  ∃ (i : Nat) (M : List Ms), i + gk = n ∧ vi = .int .i64 (i : Int) ∧ wr.ownsRow w.heap.size 35 11 vs i (cellsM M) ∧ M.map Ms.nm = (K.take i).map Ms.nm ∧ Ch wr c N (K.drop i ++ K.take i) ∧ Foot (· = c) w wr
def SeenEnd (w : World) (c N : Nat) (K : List Ms) (e : Ending) (w' : World) : Prop :=
  ∃ v M, e = .returned v ∧ w'.ownsRow w.heap.size 35 11 v K.length (cellsM M) ∧ M.map Ms.nm = K.map Ms.nm ∧ Ch w' c N K ∧ Foot (· = c) w w'
set_option maxRecDepth 20000 in
set_option maxHeartbeats 3200000 in
theorem seen_any (c N : Nat) (K : List Ms) (w : World) (x : Qu w c N K) :
    Calls Tryd.prog 28 #[.chan (some c)] w fun e w' => SeenEnd w c N K e w' := by
  have HX := hide x
  have hlen := len_chan x.ch
  obtain ⟨n, hn⟩ : ∃ n, K.length = n := ⟨_, rfl⟩
  have HN := hide hn
  have hfew : n ≤ N ∧ N ≤ 64 := hn ▸ x.few
  have h64 : n ≤ 64 := by omega
  rw [hn] at hlen
  clear x hn
  go_enter Tryd.func28, Tryd.ntmps28
  go_wp2
  clear hlen
  go_loopg [3, 8] n (fun gk vs vi wr => SeenRel w c N K n gk vs vi wr)
  case atStart => exact ⟨0, [], by omega, rfl, owns_nil _ _ _ _, rfl, by simpa using HX.out.ch, Foot.refl _ _⟩
  case round =>
    obtain ⟨i, M, hi, rfl, own, hM, hc, f⟩ := hrel
    have HO := hide own
    have HM := hide hM
    have HC := hide hc
    have HF := hide f
    obtain ⟨so, sc, rfl, _⟩ := owns_lies own
    clear own hM hc f
    cases gk with
    | zero =>
      obtain rfl : i = n := by omega
      have hlt : ¬ ((i : Int) < (i : Int)) := by omega
      go_wp2
      go_ret
      have e1 : K.take i = K := by rw [← HN.out, List.take_length]
      have e2 : K.drop i = [] := by rw [← HN.out, List.drop_length]
      exact ⟨_, M, rfl, by rw [HN.out]; exact HO.out, by rw [HM.out, e1], by have := HC.out; rwa [e1, e2] at this, HF.out⟩
    | succ g1 =>
      have hin : i < n := by omega
      have hlt : (i : Int) < (n : Int) := by omega
      have hik : i < K.length := by rw [HN.out]; exact hin
      obtain ⟨p, hp⟩ : ∃ p, K.getD i Ms.zero = p := ⟨_, rfl⟩
      have HP := hide hp
      have hc1 := HC.out
      rw [dropM_cons K i hik, hp, List.cons_append] at hc1
      have HC1 := hide hc1
      have HT := hide (takeM_snoc K i hik)
      have HPK := hide (HX.out.has p (hp ▸ getM_mem K i hik))
      clear hp hc1 hik
      go_wp2_with fail
      refine (get_some p (K.drop (i + 1) ++ K.take i) c N _ HC1.out).mono ?_; rintro e w1 ⟨rfl, C1, F1⟩
      have HF1 := hide (HF.out.then F1)
      have HO1 := hide (HC1.out.owns F1 HO.out)
      obtain ⟨Y, hY⟩ : ∃ Y, w1.alloc (.cells #[.int .u64 p.ta, .int .u64 p.rp, .int .u32 p.id, .int .u16 p.op, .int .u16 p.st, .int .u64 p.p, .int .u32 p.o, .int .u8 p.r, .int .u64 p.c, .int .u64 p.ar, .slice p.so p.sn p.sc] 35) = Y := ⟨_, rfl⟩
      have bY : Below w1.heap.size w1 Y := hY ▸ below_alloc w1 _
      have hbx : BoxM Y w1.heap.size p := hY ▸ boxM_new w1 p
      have HBX := hide hbx
      have HBY := hide bY
      have HC2 := hide (C1.grow bY)
      obtain ⟨k0, k1, k2, k3, k4, k5, k6, k7, k8, k9, k10⟩ := hbx.all
      clear C1 F1 bY hbx
      go_wp2_with fail
      refine (put_room p c N (K.drop (i + 1) ++ K.take i) _ HC2.out (by have := HN.out; simp only [List.length_append, List.length_drop, List.length_take]; omega)).mono ?_; rintro e w3 ⟨rfl, C3, F3⟩
      have hb3 : BoxM w3 w1.heap.size p := HC2.out.other F3 HBX.out
      have HO3 := hide (HC2.out.owns F3 (owns_carry HO1.out HBY.out))
      have HF3 := hide ((HF1.out.then (below_foot _ HBY.out)).then F3)
      have HC3 := hide C3
      obtain ⟨m0, m1, m2, m3, m4, m5, m6, m7, m8, m9, m10⟩ := hb3.all
      clear k0 k1 k2 k3 k4 k5 k6 k7 k8 k9 k10
      clear C3 F3 hb3
      go_wp2_with fail
      refine (alone_any p _ (HX.out.ch.bts HF3.out HPK.out.1) HPK.out.2).mono ?_; rintro e w4 ⟨p', rfl, E4⟩
      have HE4 := hide E4
      obtain ⟨ao, ac, w5, hr, ho5, hf5, hB5⟩ := app_one p' (owns_carry HO3.out E4.b) (by omega) (below_foot (fun _ => False) E4.b |>.size |> Nat.le_trans HF3.out.size)
      have HR := hide hr
      have HO5 := hide ho5
      have F4 : Foot (· = c) w w4 := HF3.out.then (below_foot _ E4.b)
      have HF5 : Hid (Foot (· = c) w w5) := F4.trans hf5 (fun j e => .inr (hB5 j e))
      have HC5 : Hid (Ch w5 c N (K.drop (i + 1) ++ K.take i ++ [p])) := (HC3.out.grow E4.b).foot hf5 (fun e => by have := hB5 c e; have := HX.out.ch.lt; omega)
      clear hr ho5 hf5 hB5 F4 E4 m0 m1 m2 m3 m4 m5 m6 m7 m8 m9 m10
      go_wp2_with (at_builtin; refine wpList_append_run rfl _ _ _ rfl _ _ _ _ rfl rfl HR.out ?_)
      go_wp2
      go_roundg g1
      case measure => omega
      case rel =>
        refine ⟨i + 1, M ++ [p'], by omega, by go_num, ?_, ?_, ?_, HF5.out⟩
        · rw [cellsM_append]; exact HO5.out
        · rw [HT.out, List.map_append, List.map_append, HM.out, HP.out]
          show _ ++ [p'.nm] = _ ++ [p.nm]
          rw [HE4.out.nm]
        · have := HC5.out
          rw [HT.out, HP.out, ← List.append_assoc]; exact this
/- a row of truths of one's own -/
theorem Tryd.infoT : (Tryd.prog.info? 4).map (fun i => (i.zero, i.size, i.bytes)) = some (some (.bool false), 1, 1) := by kernel_rfl
theorem app_truth {W : World} {B n : Nat} {v : Value} {xs : List Value} (t : Bool) (own : W.ownsRow B 4 1 v n xs) (hn : n ≤ 99999) (hB : B ≤ W.heap.size) :
    ∃ ao c w', (Builtin.append_ #[52, 52] 52 #[v, .slice (some ⟨W.heap.size, 0, none⟩) 1 1]).run Tryd.prog (W.alloc (.cells #[.bool t] 4)) = .ok (.slice ao (n + 1) c) w' ∧ w'.ownsRow B 4 1 (.slice ao (n + 1) c) (n + 1) (xs ++ [.bool t]) ∧ Foot (fun k => v.ownBlock = some k) W w' ∧ ∀ k, v.ownBlock = some k → B ≤ k := by
  have b := below_alloc W (.cells #[.bool t] 4)
  obtain ⟨i0, hi0, hz0, hz1, hz2⟩ := info_parts Tryd.infoT
  have hl : Lies 1 (W.alloc (.cells #[.bool t] 4)) (some ⟨W.heap.size, 0, none⟩) 1 1 [.bool t] := lies_alloc rfl rfl (by omega)
  obtain ⟨v', w3, hr, hown3, hgr3, _, hbl⟩ := run_append_own_at (P := Tryd.prog) (W.alloc (.cells #[.bool t] 4)) B 52 52 4 i0 _ 1 1 Tryd.underlying52 hi0 hz0 hz1 hz2 rfl (by omega) v n _ (owns_carry own b) ⟨W.heap.size, 0, none⟩ 1 1 [.bool t] hl.1 (hl.2.2.2.2 _ rfl) (fun u hu => by rw [List.mem_singleton.1 hu]; rfl) (by unfold maxLen; omega) (by omega) (Nat.le_trans hB b.size)
  obtain ⟨ao, c, rfl, _⟩ := owns_lies hown3
  exact ⟨ao, c, w3, hr, hown3, (below_foot _ b).then (grown_foot hgr3), fun k h => (owns_lt own h).2⟩
def truths (q : Ms → Bool) (K : List Ms) : List Value := K.map fun x => .bool (q x)
theorem truths_snoc (q : Ms → Bool) (K : List Ms) (x : Ms) : truths q (K ++ [x]) = truths q K ++ [.bool (q x)] := by simp [truths]
theorem truths_len (q : Ms → Bool) (K : List Ms) : (truths q K).length = K.length := by simp [truths]
theorem truths_get (q : Ms → Bool) (K : List Ms) (i : Nat) (h : i < K.length) : (truths q K)[i]? = some (.bool (q (K.getD i Ms.zero))) := by
  simp [truths, List.getElem?_eq_getElem h, List.getD_eq_getElem?_getD]
def AskRel (w : World) (q : Ms → Bool) (c N : Nat) (K M : List Ms) (v9 : Value) (n gk : Nat) (vs vi : Value) (wr : World) : Prop :=
  ∃ i : Nat, i + gk = n ∧ vi = .int .i64 (i : Int) ∧ wr.ownsRow w.heap.size 4 1 vs i (truths q (K.take i)) ∧ wr.ownsRow w.heap.size 35 11 v9 n (cellsM M) ∧ Ch wr c N K ∧ Foot (· = c) w wr
def AskEnd (w : World) (q : Ms → Bool) (c N : Nat) (K : List Ms) (e : Ending) (w' : World) : Prop :=
  ∃ v, e = .returned v ∧ w'.ownsRow w.heap.size 4 1 v K.length (truths q K) ∧ Ch w' c N K ∧ Foot (· = c) w w'
set_option maxRecDepth 20000 in
set_option maxHeartbeats 3200000 in
theorem asked_any {F : Nat} {cap : Array Value} {g : Nat} {o : Obj} {q : Ms → Bool} (hF : AsksOf F cap g o q) (c N : Nat) (K : List Ms) (w : World) (x : Qu w c N K) (hg : w.heap[g]? = some o) (hgc : g ≠ c) :
    Calls Tryd.prog 21 #[.chan (some c), .func (.func F) #[] cap] w fun e w' => AskEnd w q c N K e w' := by
  have HX := hide x
  have HFF := hide hF
  have HG : Hid (w.heap[g]? = some o) := hg
  have HGC := hide hgc
  have h64 : K.length ≤ 64 := Nat.le_trans x.few.1 x.few.2
  clear x hF hg hgc
  go_enter Tryd.func21, Tryd.ntmps21
  go_wp2_with fail
  refine (seen_any c N K _ HX.out).mono ?_; rintro e w1 ⟨v, M, rfl, own1, hM, C1, F1⟩
  obtain ⟨n, hn⟩ : ∃ n, K.length = n := ⟨_, rfl⟩
  have HN := hide hn
  rw [hn] at own1 h64
  have HO1 := hide own1
  obtain ⟨mo, mc, rfl, hl1⟩ := owns_lies own1
  have hnc := hl1.2.1
  have hcm : mc ≤ 9223372036854775807 := hl1.2.2.1
  have HMN := hide hM
  have HC1 := hide C1
  have HF1 := hide F1
  clear own1 hM C1 F1 hn hl1
  go_wp2
  go_loopg [5, 11] n (fun gk vs vi wr => AskRel w q c N K M (.slice mo n mc) n gk vs vi wr)
  case atStart => exact ⟨0, by omega, rfl, owns_nil _ _ _ _, HO1.out, HC1.out, HF1.out⟩
  case round =>
    obtain ⟨i, hi, rfl, own, ownM, hc, f⟩ := hrel
    have HO := hide own
    have HOM := hide ownM
    have HC := hide hc
    have HF := hide f
    obtain ⟨so, sc, rfl, _⟩ := owns_lies own
    clear own ownM hc f
    cases gk with
    | zero =>
      obtain rfl : i = n := by omega
      have hlt : ¬ ((i : Int) < (i : Int)) := by omega
      go_wp2
      go_ret
      have e1 : K.take i = K := by rw [← HN.out, List.take_length]
      exact ⟨_, rfl, by have := HO.out; rw [e1] at this; rw [HN.out]; exact this, HC.out, HF.out⟩
    | succ g1 =>
      have hin : i < n := by omega
      have hlt : (i : Int) < (n : Int) := by omega
      have hik : i < K.length := by rw [HN.out]; exact hin
      obtain ⟨mo2, mc2, he, hl⟩ := owns_lies HOM.out
      obtain ⟨rfl, rfl⟩ : mo = mo2 ∧ mc = mc2 := by cases he; exact ⟨rfl, rfl⟩
      obtain ⟨ad, hbo⟩ := hl.there (k := i) hin
      subst hbo
      obtain ⟨p, hp⟩ : ∃ p, M.getD i Ms.zero = p := ⟨_, rfl⟩
      obtain ⟨k0, k1, k2, k3, k4, k5, k6, k7, k8, k9, k10⟩ := lies_elem hl i hin p hp _ rfl
      have HT := hide (takeM_snoc K i hik)
      have HQ : Hid (q p = q (K.getD i Ms.zero)) := HFF.out.nm _ _ (by rw [← hp, ← getM_nm, HMN.out, getM_nm])
      obtain ⟨Y, hY⟩ : ∃ Y, wr.alloc (.cells #[.int .u64 p.ta, .int .u64 p.rp, .int .u32 p.id, .int .u16 p.op, .int .u16 p.st, .int .u64 p.p, .int .u32 p.o, .int .u8 p.r, .int .u64 p.c, .int .u64 p.ar, .slice p.so p.sn p.sc] 35) = Y := ⟨_, rfl⟩
      have bY : Below wr.heap.size wr Y := hY ▸ below_alloc wr _
      have hbx : BoxM Y wr.heap.size p := hY ▸ boxM_new wr p
      obtain ⟨y0, y1, y2, y3, y4, y5, y6, y7, y8, y9, y10⟩ := hbx.all
      have HBY := hide bY
      clear hp he hl hbx bY hik
      go_wp2_with fail
      have fg := HF.out.block g (lt_of_heap HG.out) HGC.out
      refine (agrees_any HFF.out p _ ((HBY.out.block g (Nat.lt_of_lt_of_le (lt_of_heap HG.out) HF.out.size)).trans (fg.trans HG.out))).mono ?_; rintro e w3 ⟨rfl, b3⟩
      obtain ⟨t, ht⟩ : ∃ t, q p = t := ⟨_, rfl⟩
      rw [ht]
      rw [ht] at HQ
      have b4 := below_one HBY.out b3
      have F4 : Foot (· = c) w w3 := HF.out.then (below_foot _ b4)
      obtain ⟨ao, ac, w5, hr, ho5, hf5, hB5⟩ := app_truth t (owns_carry HO.out b4) (by omega) F4.size
      have HR := hide hr
      have HO5 := hide ho5
      have HF5 : Hid (Foot (· = c) w w5) := F4.trans hf5 (fun j e => .inr (hB5 j e))
      have HC5 : Hid (Ch w5 c N K) := (HC.out.grow b4).foot hf5 (fun e => by have := hB5 c e; have := HX.out.ch.lt; omega)
      have HM5 := hide (owns_foot (owns_carry HOM.out b4) hf5 (fun k h e => by
        obtain ⟨c1, h1⟩ := owns_type (owns_carry HOM.out b4) h
        obtain ⟨c2, h2⟩ := owns_type (owns_carry HO.out b4) e
        exact two_types h1 h2 (by decide) rfl))
      clear hr ho5 hf5 hB5 F4 b4 b3 ht fg k0 k1 k2 k3 k4 k5 k6 k7 k8 k9 k10 y0 y1 y2 y3 y4 y5 y6 y7 y8 y9 y10
      go_wp2_with (at_builtin; refine wpList_append_run rfl _ _ _ rfl _ _ _ _ rfl rfl HR.out ?_)
      go_wp2
      go_roundg g1
      case measure => omega
      case rel =>
        refine ⟨i + 1, by omega, by go_num, ?_, HM5.out, HC5.out, HF5.out⟩
        rw [HT.out, truths_snoc, ← HQ.out]; exact HO5.out
def outF (q : Ms → Bool) (K : List Ms) : List Ms := K.filter q
def keepF (q : Ms → Bool) (K : List Ms) : List Ms := K.filter fun x => !q x
theorem outF_snoc (q : Ms → Bool) (K : List Ms) (x : Ms) (t : Bool) (h : q x = t) : outF q (K ++ [x]) = outF q K ++ (if t then [x] else []) ∧ keepF q (K ++ [x]) = keepF q K ++ (if t then [] else [x]) := by
  subst h
  unfold outF keepF
  rw [List.filter_append, List.filter_append]
  simp only [List.filter_cons, List.filter_nil]
  cases q x <;> simp
theorem outF_len (q : Ms → Bool) (K : List Ms) : (outF q K).length ≤ K.length := List.length_filter_le ..
theorem keepF_len (q : Ms → Bool) (K : List Ms) : (keepF q K).length ≤ K.length := List.length_filter_le ..
def PickRel (w : World) (q : Ms → Bool) (c N : Nat) (K : List Ms) (n gk : Nat) (vs vi : Value) (wr : World) : Prop :=
  ∃ i : Nat, i + gk = n ∧ vi = .int .i64 (i : Int) ∧ wr.ownsRow w.heap.size 35 11 vs (outF q (K.take i)).length (cellsM (outF q (K.take i))) ∧ Ch wr c N (K.drop i ++ keepF q (K.take i)) ∧ Foot (· = c) w wr
def PickEnd (w : World) (q : Ms → Bool) (c N : Nat) (K : List Ms) (e : Ending) (w' : World) : Prop :=
  ∃ v, e = .returned v ∧ w'.ownsRow w.heap.size 35 11 v (outF q K).length (cellsM (outF q K)) ∧ Ch w' c N (keepF q K) ∧ Foot (· = c) w w'
set_option maxRecDepth 20000 in
set_option maxHeartbeats 3200000 in
theorem pick_any (q : Ms → Bool) (c N : Nat) (K : List Ms) (mo : Option Addr) (mc n : Nat) (hn : K.length = n) (w : World) (hC : Ch w c N K) (hfew : n ≤ N ∧ N ≤ 64) (hT : Lies 1 w mo n mc (truths q K)) :
    Calls Tryd.prog 22 #[.chan (some c), .slice mo n mc] w fun e w' => PickEnd w q c N K e w' := by
  have HX := hide hC
  have HTR := hide hT
  have HN := hide hn
  have h64 : n ≤ 64 := by omega
  have hnc := hT.2.1
  have hcm : mc ≤ 9223372036854775807 := hT.2.2.1
  clear hC hn hT
  go_enter Tryd.func22, Tryd.ntmps22
  go_wp2
  go_loopg [5, 12] n (fun gk vs vi wr => PickRel w q c N K n gk vs vi wr)
  case atStart => exact ⟨0, by omega, rfl, owns_nil _ _ _ _, by simpa [keepF] using HX.out, Foot.refl _ _⟩
  case round =>
    obtain ⟨i, hi, rfl, own, hc, f⟩ := hrel
    have hle := outF_len q (K.take i)
    have hle2 := keepF_len q (K.take i)
    rw [List.length_take] at hle hle2
    obtain ⟨m, hm⟩ : ∃ m, (outF q (K.take i)).length = m := ⟨_, rfl⟩
    have HMM := hide hm
    have HLE2 := hide hle2
    rw [hm] at own hle
    have HO := hide own
    have HC := hide hc
    have HF := hide f
    obtain ⟨so, sc, rfl, _⟩ := owns_lies own
    clear own hc f hm hle2
    cases gk with
    | zero =>
      obtain rfl : i = n := by omega
      have hlt : ¬ ((i : Int) < (i : Int)) := by omega
      go_wp2
      go_ret
      have e1 : K.take i = K := by rw [← HN.out, List.take_length]
      have e2 : K.drop i = [] := by rw [← HN.out, List.drop_length]
      exact ⟨_, rfl, by have := HO.out; rw [e1] at this; have h2 := HMM.out; rw [e1] at h2; rw [h2]; exact this, by have := HC.out; rw [e1, e2] at this; exact this, HF.out⟩
    | succ g1 =>
      have hin : i < n := by omega
      have hlt : (i : Int) < (n : Int) := by omega
      have hik : i < K.length := by rw [HN.out]; exact hin
      obtain ⟨ad, hbo⟩ := HTR.out.there (k := i) hin
      subst hbo
      obtain ⟨p, hp⟩ : ∃ p, K.getD i Ms.zero = p := ⟨_, rfl⟩
      obtain ⟨t, ht⟩ : ∃ t, q p = t := ⟨_, rfl⟩
      have hcell : wr.cell? (ad.add i) = some (.bool t) := HX.out.cell HF.out (HTR.out.2.2.2.2 ad rfl i _ (by rw [truths_get q K i hik, hp, ht]))
      have hc1 := HC.out
      rw [dropM_cons K i hik, hp, List.cons_append] at hc1
      have HC1 := hide hc1
      have HT : Hid (K.take (i + 1) = K.take i ++ [p]) := by have := takeM_snoc K i hik; rwa [hp] at this
      have HSN := hide (outF_snoc q (K.take i) p t ht)
      clear hp hc1 hik ht
      go_wp2_with fail
      refine (get_some p (K.drop (i + 1) ++ keepF q (K.take i)) c N _ HC1.out).mono ?_; rintro e w1 ⟨rfl, C1, F1⟩
      have HF1 := hide (HF.out.then F1)
      have HO1 := hide (HC1.out.owns F1 HO.out)
      obtain ⟨Y, hY⟩ : ∃ Y, w1.alloc (.cells #[.int .u64 p.ta, .int .u64 p.rp, .int .u32 p.id, .int .u16 p.op, .int .u16 p.st, .int .u64 p.p, .int .u32 p.o, .int .u8 p.r, .int .u64 p.c, .int .u64 p.ar, .slice p.so p.sn p.sc] 35) = Y := ⟨_, rfl⟩
      have bY : Below w1.heap.size w1 Y := hY ▸ below_alloc w1 _
      have hbx : BoxM Y w1.heap.size p := hY ▸ boxM_new w1 p
      obtain ⟨k0, k1, k2, k3, k4, k5, k6, k7, k8, k9, k10⟩ := hbx.all
      have HC2 := hide (C1.grow bY)
      have HF2 := hide (HF1.out.then (below_foot _ bY))
      have HO2 := hide (owns_carry HO1.out bY)
      clear C1 F1 bY hbx hcell
      cases t with
      | true =>
        obtain ⟨ao, ac, w5, hr, ho5, hf5, hB5⟩ := app_one p HO2.out (by omega) HF2.out.size
        have HR := hide hr
        have HO5 := hide ho5
        have HF5 : Hid (Foot (· = c) w w5) := HF2.out.trans hf5 (fun j e => .inr (hB5 j e))
        have HC5 : Hid (Ch w5 c N (K.drop (i + 1) ++ keepF q (K.take i))) := HC2.out.foot hf5 (fun e => by have := hB5 c e; have := HX.out.lt; omega)
        clear hr ho5 hf5 hB5
        go_wp2_with (at_builtin; refine wpList_append_run rfl _ _ _ rfl _ _ _ _ rfl rfl HR.out ?_)
        go_wp2
        go_roundg g1
        case measure => omega
        case rel =>
          refine ⟨i + 1, by omega, by go_num, ?_, ?_, HF5.out⟩
          · rw [HT.out, HSN.out.1, if_pos trivial, cellsM_append, List.length_append, HMM.out]; exact HO5.out
          · rw [HT.out, HSN.out.2, if_pos trivial, List.append_nil]; exact HC5.out
      | false =>
        go_wp2_with fail
        refine (put_room p c N (K.drop (i + 1) ++ keepF q (K.take i)) _ HC2.out (by have := HN.out; have := HLE2.out; simp only [List.length_append, List.length_drop]; omega)).mono ?_; rintro e w3 ⟨rfl, C3, F3⟩
        have HO3 := hide (HC2.out.owns F3 HO2.out)
        have HF3 := hide (HF2.out.then F3)
        have HC3 := hide C3
        clear C3 F3 k0 k1 k2 k3 k4 k5 k6 k7 k8 k9 k10
        go_wp2
        go_roundg g1
        case measure => omega
        case rel =>
          refine ⟨i + 1, by omega, by go_num, ?_, ?_, HF3.out⟩
          · rw [HT.out, HSN.out.1, if_neg (by decide), List.append_nil, HMM.out]; exact HO3.out
          · rw [HT.out, HSN.out.2, if_neg (by decide), ← List.append_assoc]; exact HC3.out
end Go.Proofs.YtibdhjohjkdgdaaDoor
