/-
  What becomes of a gather's messages by one packet, as a contract.
-/
import Derived.Test.YtdfakeddhoolcaaGWith
import Derived.Deep.CutBlock
namespace Go.Proofs.Ytdfakeddhoolcaa
open Go.RowKit
def AddEnd (w : World) (g : Nat) (S : Nat → Prop) (G : List (List Pa)) (p : Pa) (e : Ending) (w' : World) : Prop :=
  St w' g S (addF G p).2 ∧ Foot (· = g) w w' ∧ ((addF G p).1 = none → e = .returned (.tuple #[.slice none 0 0, .bool false])) ∧
    ∀ l, (addF G p).1 = some l → ∃ ro rc, e = .returned (.tuple #[.slice ro l.length rc, .bool true]) ∧ Bts w' ro l.length rc l ∧ New w ro
theorem absM_raw (Ms : List Mg) : absM Ms = (rawM Ms).map (·.map Pa.nm) := by simp [absM, rawM]
theorem fnd_abs (Ms : List Mg) (p : Pa) : fndF (absM Ms) p.nm = fndF (rawM Ms) p := by rw [absM_raw, fnd_nm]
theorem absM_len (Ms : List Mg) : (absM Ms).length = Ms.length := by simp [absM]
theorem rawM_len (Ms : List Mg) : (rawM Ms).length = Ms.length := by simp [rawM]
theorem absM_get (Ms : List Mg) (k : Nat) : (absM Ms).getD k [] = (Ms.getD k Mg.zero).L.map Pa.nm := by
  unfold absM
  rw [List.getD_eq_getElem?_getD, List.getD_eq_getElem?_getD, List.getElem?_map]
  cases Ms[k]? <;> rfl
theorem stay_abs (Ms : List Mg) : absM (stayM Ms ++ [Mg.zero]) = stayF (absM Ms) ++ [[]] := by
  unfold stayM stayF
  rw [absM_len]
  split <;> simp [absM, Mg.zero]
theorem stay_abs_len (Ms : List Mg) : (stayF (absM Ms)).length = (stayM Ms).length := by
  unfold stayM stayF
  rw [absM_len]
  split <;> simp [absM]
/- behind find and begin: the packet's message is at a place -/
structure AMid (w : World) (g : Nat) (S : Nat → Prop) (G : List (List Pa)) (p : Pa) (at1 : Nat) (ao : Option Addr) (c : Nat) (Ns : List Mg) (wx : World) : Prop where
  gt : Gt wx g ao c Ns
  far : FarG S ao Ns
  foot : Foot (· = g) w wx
  abs : absM Ns = opnF G p.nm
  plc : at1 = atF G p.nm
  lt : at1 < Ns.length
  few : Ns.length ≤ 17
  low : ∀ m ∈ Ns, m.n ≤ 256
  box : BoxK wx w.heap.size p
  has : p.has wx
def MidAt (w : World) (g : Nat) (S : Nat → Prop) (G : List (List Pa)) (p : Pa) (v : Value) (wx : World) : Prop := ∃ (at1 : Nat) (ao : Option Addr) (c : Nat) (Ns : List Mg), v = .int .i64 (at1 : Int) ∧ AMid w g S G p at1 ao c Ns wx
variable {w wx w' : World} {g : Nat} {S : Nat → Prop} {G : List (List Pa)} {p : Pa} {at1 : Nat} {ao : Option Addr} {c : Nat} {Ns : List Mg}
theorem AMid.of (x : AMid w g S G p at1 ao c Ns wx) : ofF G p.nm = (Ns.getD at1 Mg.zero).L.map Pa.nm := by
  unfold ofF; rw [← x.abs, ← x.plc, absM_get]
theorem may_nm (h : p.has w) : p.nm.may = p.may := by
  have h1 : p.sn = p.l.length := h.1
  unfold Pa.may
  rw [show p.nm.sn = p.l.length from rfl, ← h1]; rfl
theorem AMid.bad (x : AMid w g S G p at1 ao c Ns wx) (hm : p.may = true) (ho : okW (Ns.getD at1 Mg.zero).L p = false) (b : Below wx.heap.size wx w') : AddEnd w g S G p.nm (.returned (.tuple #[.slice none 0 0, .bool false])) w' := by
  have e : addF G p.nm = (none, opnF G p.nm) := by
    unfold addF
    rw [if_pos (by rw [may_nm x.has]; exact hm), x.of, okW_nm, if_neg (by rw [ho]; decide)]
  unfold AddEnd
  rw [e]
  exact ⟨⟨ao, c, Ns, x.gt.grow b, x.far, x.abs⟩, x.foot.then (below_foot _ b), fun _ => rfl, fun l h => by cases h⟩
/- the message with the packet -/
structure ANew (wx : World) (L : List Pa) (p p' : Pa) (mo : Option Addr) (mc : Nat) (w2 : World) : Prop where
  pks : Pks w2 mo (L.length + 1) mc (insF L p')
  nm : p'.nm = p.nm
  new : New wx mo
  newp : New wx p'.so
  b : Below wx.heap.size wx w2
def WthAt (wx : World) (L : List Pa) (p : Pa) (v7 v8 : Value) (w2 : World) : Prop := ∃ mo mc p', v7 = .slice mo (L.length + 1) mc ∧ v8 = .bool true ∧ ANew wx L p p' mo mc w2
theorem below_ad (w : World) (o : Obj) : Below w.heap.size w (w.alloc o).drew := below_drewN (below_alloc w o) 1
theorem ANew.eq {L : List Pa} {p' : Pa} {mo : Option Addr} {mc : Nat} {w2 : World} (y : ANew wx L p p' mo mc w2) : (insF L p').map Pa.nm = insF (L.map Pa.nm) p.nm := by
  rw [← y.nm, ins_nm]
theorem ANew.sn {L : List Pa} {p' : Pa} {mo : Option Addr} {mc : Nat} {w2 : World} (y : ANew wx L p p' mo mc w2) : ∀ q ∈ insF L p', q.sn = q.l.length := fun q hq => (y.pks.2 q hq).1
theorem AMid.far_new (x : AMid w g S G p at1 ao c Ns wx) {p' : Pa} {mo : Option Addr} {mc : Nat} {w2 : World} (y : ANew wx (Ns.getD at1 Mg.zero).L p p' mo mc w2) (T : Nat → Prop) (hT : FarG T ao Ns) (hl : ∀ k, T k → k < wx.heap.size) : FarK T mo ((Ns.getD at1 Mg.zero).L.length + 1) (insF (Ns.getD at1 Mg.zero).L p') := by
  refine ⟨OffO.new y.new hl, fun q hq => ?_⟩
  rcases ins_mem.1 hq with rfl | hq
  · exact OffO.new y.newp hl
  · exact (hT.2 _ (getM_mem Ns at1 x.lt)).2 q hq
theorem AMid.whole (x : AMid w g S G p at1 ao c Ns wx) (hm : p.may = true) (ho : okW (Ns.getD at1 Mg.zero).L p = true) {p' : Pa} {mo : Option Addr} {mc : Nat} {w2 w3 w5 : World} (y : ANew wx (Ns.getD at1 Mg.zero).L p p' mo mc w2) (hj : joinB (insF (Ns.getD at1 Mg.zero).L p') = true)
    (hS : ∀ k, S k → k < w.heap.size) {ro : Option Addr} {rc : Nat} (hb : Bts w3 ro (joinL (insF (Ns.getD at1 Mg.zero).L p')).length rc (joinL (insF (Ns.getD at1 Mg.zero).L p'))) (hn : New w2 ro) (b3 : Below w2.heap.size w2 w3) {ao5 : Option Addr} {n5 c5 : Nat} (A5 : Lies 1 w5 ao5 n5 c5 (cellsM (Ns.take at1 ++ Ns.drop (at1 + 1)))) (b5 : Below w3.heap.size w3 w5) (hn5 : New w3 ao5) :
    AddEnd w g S G p.nm (.returned (.tuple #[.slice ro (joinL (insF (Ns.getD at1 Mg.zero).L p')).length rc, .bool true])) (w5.setCell ⟨g, 0, none⟩ (.slice ao5 n5 c5)) := by
  have e : addF G p.nm = (some (joinL (insF (Ns.getD at1 Mg.zero).L p')), (opnF G p.nm).eraseIdx (atF G p.nm)) := by
    unfold addF
    rw [if_pos (by rw [may_nm x.has]; exact hm), x.of, okW_nm, if_pos ho, ← y.eq, join_nm _ y.sn, if_pos hj, joinL_nm]
  have b35 : Below wx.heap.size wx w5 := below_one (below_one y.b b3) b5
  have hnx : New wx ao5 := hn5.le (below_one y.b b3).size
  have hsub : ∀ m ∈ Ns.take at1 ++ Ns.drop (at1 + 1), m ∈ Ns := fun m hm => by
    rcases List.mem_append.1 hm with h | h
    · exact List.mem_of_mem_take h
    · exact List.mem_of_mem_drop h
  have hend := gt_end x.gt A5 b35 hnx (fun m hm => (x.gt.has m (hsub m hm)).carry b35) (fun T h1 _ m hm => h1.2 m (hsub m hm))
  have hg := x.gt.lt
  unfold AddEnd
  rw [e]
  refine ⟨⟨_, _, _, hend.1, hend.2.2 S x.far (fun k hk => Nat.lt_of_lt_of_le (hS k hk) x.foot.size), ?_⟩, x.foot.then hend.2.1, (fun h => by cases h), fun l h => ?_⟩
  · rw [eraseG, ← x.abs, ← x.plc]
    unfold absM
    rw [List.map_append, List.map_take, List.map_drop]
  · cases h
    refine ⟨ro, rc, rfl, ?_, hn.le (Nat.le_trans x.foot.size y.b.size)⟩
    refine Bts.foot (hb.carry b5) (foot_set w5 ⟨g, 0, none⟩ _) (fun ad e _ => ?_)
    have := hn ad e
    have := y.b.size
    show ¬ ad.block = g
    omega
theorem AMid.kept (x : AMid w g S G p at1 ao c Ns wx) (hm : p.may = true) (ho : okW (Ns.getD at1 Mg.zero).L p = true) {p' : Pa} {mo : Option Addr} {mc : Nat} {w2 w3 w5 : World} (y : ANew wx (Ns.getD at1 Mg.zero).L p p' mo mc w2) (hj : joinB (insF (Ns.getD at1 Mg.zero).L p') = false)
    (hS : ∀ k, S k → k < w.heap.size) (b3 : Below w2.heap.size w2 w3) {ao5 : Option Addr} {n5 c5 : Nat} (A5 : Lies 1 w5 ao5 n5 c5 (cellsM (Ns.take at1 ++ ⟨mo, (Ns.getD at1 Mg.zero).L.length + 1, mc, insF (Ns.getD at1 Mg.zero).L p'⟩ :: Ns.drop (at1 + 1)))) (b5 : Below w3.heap.size w3 w5) (hn5 : New w3 ao5) :
    AddEnd w g S G p.nm (.returned (.tuple #[.slice none 0 0, .bool false])) (w5.setCell ⟨g, 0, none⟩ (.slice ao5 n5 c5)) := by
  have e : addF G p.nm = (none, (opnF G p.nm).set (atF G p.nm) (insF (ofF G p.nm) p.nm)) := by
    unfold addF
    rw [if_pos (by rw [may_nm x.has]; exact hm), x.of, okW_nm, if_pos ho, ← y.eq, join_nm _ y.sn, if_neg (by rw [hj]; decide)]
  have b35 : Below wx.heap.size wx w5 := below_one (below_one y.b b3) b5
  have hnx : New wx ao5 := hn5.le (below_one y.b b3).size
  have hcase : ∀ m ∈ Ns.take at1 ++ ⟨mo, (Ns.getD at1 Mg.zero).L.length + 1, mc, insF (Ns.getD at1 Mg.zero).L p'⟩ :: Ns.drop (at1 + 1), m ∈ Ns ∨ m = ⟨mo, (Ns.getD at1 Mg.zero).L.length + 1, mc, insF (Ns.getD at1 Mg.zero).L p'⟩ := fun m hm => by
    rcases List.mem_append.1 hm with h | h
    · exact .inl (List.mem_of_mem_take h)
    · rcases List.mem_cons.1 h with h | h
      · exact .inr h
      · exact .inl (List.mem_of_mem_drop h)
  have hend := gt_end x.gt A5 b35 hnx (fun m hm => by
    rcases hcase m hm with h | rfl
    · exact (x.gt.has m h).carry b35
    · exact y.pks.carry (below_one b3 b5)) (fun T h1 h2 m hm => by
    rcases hcase m hm with h | rfl
    · exact h1.2 m h
    · exact x.far_new y T h1 h2)
  unfold AddEnd
  rw [e]
  refine ⟨⟨_, _, _, hend.1, hend.2.2 S x.far (fun k hk => Nat.lt_of_lt_of_le (hS k hk) x.foot.size), ?_⟩, x.foot.then hend.2.1, (fun _ => rfl), fun l h => by cases h⟩
  show absM _ = (opnF G p.nm).set _ _
  rw [setG (by rw [← x.abs, absM_len, ← x.plc]; exact x.lt), x.of, ← y.eq, ← x.abs, ← x.plc]
  unfold absM
  rw [List.map_append, List.map_cons, List.map_take, List.map_drop]
set_option maxRecDepth 20000 in
set_option maxHeartbeats 6400000 in
theorem add_any (S : Nat → Prop) (G : List (List Pa)) (p : Pa) (w : World) (x : St w g S G) (hS : ∀ k, S k → k < w.heap.size) (hp : p.has w) (hpo : OffO (· = g) p.sn p.so) (h16 : G.length ≤ 16) (hG : ∀ m ∈ G, m ≠ [] ∧ m.length ≤ 256) :
    Calls Try.prog 9 #[.pointer (some ⟨g, 0, none⟩), .agg #[.int .i64 p.f, .int .i64 p.t, .int .u64 p.i, .int .i64 p.x, .int .i64 p.c, .slice p.so p.sn p.sc]] w fun e w' => AddEnd w g S G p.nm e w' := by
  obtain ⟨bo, bc, Ms, x, hfar, rfl⟩ := x
  obtain ⟨X, hX⟩ : ∃ X, w.alloc (.cells #[.int .i64 p.f, .int .i64 p.t, .int .u64 p.i, .int .i64 p.x, .int .i64 p.c, .slice p.so p.sn p.sc] 35) = X := ⟨_, rfl⟩
  have bX : Below w.heap.size w X := hX ▸ below_alloc w _
  have HBX : Hid (BoxK X w.heap.size p) := hX ▸ boxK_new w p
  have HWX := hide bX
  have HX := hide x
  have HFAR := hide hfar
  have HS := hide hS
  have HP := hide hp
  have HPO := hide hpo
  have HL16 : Hid (Ms.length ≤ 16) := by show _ ≤ _; rw [absM_len] at h16; exact h16
  have HMS : Hid (∀ m ∈ Ms, m.L ≠ [] ∧ m.n ≤ 256) := fun m hm => by
    have := hG (m.L.map Pa.nm) (List.mem_map.2 ⟨m, hm, rfl⟩)
    refine ⟨fun e => this.1 (by rw [e]; rfl), ?_⟩
    have h2 := this.2
    rw [List.length_map, ← (x.has m hm).len] at h2; exact h2
  have hsn : p.sn ≤ 9223372036854775807 := Nat.le_trans hp.2.1 hp.2.2.1
  have b0 := HBX.out.c0
  have b1 := HBX.out.c1
  have b2 := HBX.out.c2
  have b3 := HBX.out.c3
  have b4 := HBX.out.c4
  have b5 := HBX.out.c5
  clear x hfar bX hS hp hpo h16 hG
  go_enter Try.func9, Try.ntmps9
  go_wp2_with fail
  refine (may_any p _ hsn).mono ?_; rintro e w1 ⟨rfl, bm⟩
  have HB1 := hide (below_one HWX.out bm)
  have HBX1 := hide (HBX.out.carry bm (Nat.le_refl _))
  clear b0 b1 b2 b3 b4 b5 bm
  cases hm : p.may with
  | false =>
    have HE : Hid (addF (absM Ms) p.nm = (none, absM Ms)) := by show _ = _; unfold addF; rw [if_neg (by rw [may_nm HP.out, hm]; decide)]
    go_wp2
    go_ret2
    unfold AddEnd
    rw [HE.out]
    exact ⟨⟨bo, bc, Ms, HX.out.grow HB1.out, HFAR.out, rfl⟩, below_foot _ HB1.out, fun _ => rfl, fun l h => by cases h⟩
  | true =>
    have HM := hide hm
    have hsn2 : p.sn ≤ 32768 := ((may_iff _ _ _).1 hm).2.2.2.2
    have b0 := HBX1.out.c0
    have b1 := HBX1.out.c1
    have b2 := HBX1.out.c2
    have b3 := HBX1.out.c3
    have b4 := HBX1.out.c4
    have b5 := HBX1.out.c5
    clear hm
    go_wp2_with fail
    refine (find_any p _ (HX.out.grow HB1.out) (fun m hm => (HMS.out m hm).1)).mono ?_; rintro e w2 ⟨rfl, bf⟩
    have HB2 := hide (below_one HB1.out bf)
    have HBX2 := hide (HBX1.out.carry bf (Nat.le_refl _))
    obtain ⟨R, hR⟩ : ∃ R, fndI (rawM Ms) p = R := ⟨_, rfl⟩
    rw [hR]
    have HR := hide hR
    clear b0 b1 b2 b3 b4 b5 bf hR
    go_upto_if 18 with fail
    go_cut [6] from 17 to 20 (fun v wx => MidAt w g S (absM Ms) p v wx)
    case first =>
      by_cases hf : fndF (rawM Ms) p < (rawM Ms).length
      · have hR : R = ((fndF (rawM Ms) p : Nat) : Int) := by rw [← HR.out]; unfold fndI; rw [if_pos hf]
        have HF := hide hf
        obtain ⟨k, hk⟩ : ∃ k, fndF (rawM Ms) p = k := ⟨_, rfl⟩
        rw [hk] at hR
        subst hR
        have HK := hide hk
        have hneg : ¬ ((k : Int) < 0) := by omega
        clear hf hk
        go_wp2
        go_meet
        refine ⟨k, bo, bc, Ms, rfl, HX.out.grow HB2.out, HFAR.out, below_foot _ HB2.out, ?_, ?_, ?_, by have := HL16.out; omega, fun m hm => (HMS.out m hm).2, HBX2.out, HP.out.carry HB2.out⟩
        · unfold opnF; rw [if_pos (by rw [fnd_abs, absM_len, ← rawM_len]; exact HF.out)]
        · unfold atF; rw [if_pos (by rw [fnd_abs, absM_len, ← rawM_len]; exact HF.out), fnd_abs, HK.out]
        · rw [← HK.out, ← rawM_len]; exact HF.out
      · have hR : R = -1 := by rw [← HR.out]; unfold fndI; rw [if_neg hf]
        have HF := hide hf
        subst hR
        clear hf
        go_wp2_with fail
        refine (begin_any _ (HX.out.grow HB2.out) HL16.out).mono ?_; rintro e w3 ⟨ao, c, rfl, hend⟩
        have HEND := hide hend
        clear hend
        go_wp2
        go_meet
        have hlen : (stayM Ms).length ≤ 16 := by
          have := HL16.out
          unfold stayM; split
          · rw [List.length_drop]; omega
          · exact this
        obtain ⟨hgt, hft, hfr⟩ := HEND.out
        have hgw := HX.out.lt
        refine ⟨(stayM Ms).length, ao, c, stayM Ms ++ [Mg.zero], rfl, hgt, hfr S HFAR.out (fun k hk => Nat.lt_of_lt_of_le (HS.out k hk) HB2.out.size), (below_foot _ HB2.out).then hft, ?_, ?_, ?_, ?_, fun m hm => ?_, ?_, ?_⟩
        · unfold opnF; rw [if_neg (by rw [fnd_abs, absM_len, ← rawM_len]; exact HF.out), stay_abs]
        · unfold atF; rw [if_neg (by rw [fnd_abs, absM_len, ← rawM_len]; exact HF.out), stay_abs_len]
        · rw [List.length_append]; simp
        · rw [List.length_append]; simp; omega
        · rcases List.mem_append.1 hm with hm | hm
          · refine (HMS.out m ?_).2
            unfold stayM at hm; split at hm
            · exact List.mem_of_mem_drop hm
            · exact hm
          · rw [List.mem_singleton.1 hm]; exact Nat.zero_le _
        · unfold BoxK
          rw [hft.block _ (lt_of_heap HBX2.out) (by omega)]
          exact HBX2.out
        · exact Bts.footN (Bts.carry HP.out HB2.out) hft HPO.out
    case rest =>
      obtain ⟨at1, ao, c, Ns, rfl, mid⟩ := hcut
      have HMID := hide mid
      have hat := mid.lt
      have hfew := mid.few
      obtain ⟨ad, rfl⟩ := mid.gt.row.there (k := at1) hat
      have c0 := mid.gt.c0
      have c1 := mid.gt.elem at1 hat
      have hcc : c ≤ 9223372036854775807 := mid.gt.row.2.2.1
      have hnc := mid.gt.row.2.1
      have hPM := mid.gt.has _ (getM_mem Ns at1 hat)
      have hmn := mid.low _ (getM_mem Ns at1 hat)
      obtain ⟨m, hm⟩ : ∃ m, Ns.getD at1 Mg.zero = m := ⟨_, rfl⟩
      rw [hm] at c1 hPM hmn
      have HMM := hide hm
      obtain ⟨ma, mn, mc, mL⟩ := m
      simp only at c1 hPM hmn
      have HPM := hide hPM
      obtain ⟨n, hn⟩ : ∃ n, Ns.length = n := ⟨_, rfl⟩
      have HNL := hide hn
      rw [hn] at c0 hat hfew hnc
      have hati : (at1 : Int) < (n : Int) := by omega
      have hat1 : at1 ≤ 17 := by omega
      have p0 := mid.box.c0
      have p1 := mid.box.c1
      have p2 := mid.box.c2
      have p3 := mid.box.c3
      have p4 := mid.box.c4
      have p5 := mid.box.c5
      have HPH := hide mid.has
      have HML : Hid (mn = mL.length) := hPM.len
      clear hm hn hPM mid HX HB1 HB2 HBX HBX1 HBX2 HR HWX
      cases hok : okW mL p with
      | false =>
        have HOK : Hid (okW (Ns.getD at1 Mg.zero).L p = false) := by show _ = _; rw [HMM.out]; exact hok
        go_wp2_with fail
        go_region_with (first | (go_at_call 16; go_must (refine (wth_any ma mn mc mL p _ (HPM.out.carry (below_d wc 1)) (Bts.carry HPH.out (below_d wc 1)) hmn hsn2).mono ?_); rintro e w3 ⟨b3, _, hno⟩; obtain rfl := hno hok; have HB3 := hide (below_one (below_d wc 1) b3); clear b3 hno))
        all_goals
          go_wp2
          go_ret2
          exact HMID.out.bad HM.out HOK.out HB3.out
      | true =>
        have HOK : Hid (okW (Ns.getD at1 Mg.zero).L p = true) := by show _ = _; rw [HMM.out]; exact hok
        go_upto_region 6 with fail
        go_cut [7, 8] from 21 to 32 (fun v7 v8 wx => WthAt wc mL p v7 v8 wx)
        case first =>
          go_region_with (first | (go_at_call 16; go_must (refine (wth_any ma mn mc mL p _ (HPM.out.carry (below_d wc 1)) (Bts.carry HPH.out (below_d wc 1)) hmn hsn2).mono ?_); rintro e w3 ⟨b3, hy, _⟩; obtain ⟨mo, mc', p', rfl, P3, e3, _, N3, N4⟩ := hy hok; have HE3 : Hid (WthAt wc mL p (.slice mo (mL.length + 1) mc') (.bool true) w3) := (⟨mo, mc', p', rfl, rfl, ⟨P3, e3, N3, N4, below_one (below_d wc 1) b3⟩⟩ : WthAt wc mL p _ _ _); clear b3 hy P3 e3 N3 N4))
          all_goals
            go_wp2_with fail
            go_meet
            exact HE3.out
        case rest =>
          obtain ⟨mo, mo2, p', rfl, rfl, y⟩ := hcut
          rename World => wd
          have HY := hide y
          have HY2 : Hid (ANew wc (Ns.getD at1 Mg.zero).L p p' mo mo2 wd) := by show ANew _ _ _ _ _ _ _; rw [HMM.out]; exact y
          obtain ⟨l1, hl1⟩ : ∃ l1, mL.length + 1 = l1 := ⟨_, rfl⟩
          have HP1 := hide y.pks
          rw [hl1] at HP1 ⊢
          have HL1 := hide hl1
          clear y hl1 p0 p1 p2 p3 p4 p5 c1
          go_wp2_with fail
          refine (join_any _ l1 _ (insF mL p') _ HP1.out).mono ?_; rintro e w3 ⟨b3, hyes, hno⟩
          have HB3 := hide b3
          have bw3 : Below wc.heap.size wc w3 := below_one HY.out.b b3
          have HG3 := hide (HMID.out.gt.grow bw3)
          have c3 := HG3.out.c0
          rw [HNL.out] at c3
          have hc1 := fun W : World => cutG_head Try.underlying25 Try.sizeOfM W (some ad) n c at1 (by omega)
          have hc2 := fun W : World => cutG_tail Try.underlying25 Try.sizeOfM W (some ad) n c (at1 + 1) (by omega)
          have hL1 := HG3.out.row.head at1 (by rw [HNL.out]; omega)
          have hL2 := HG3.out.row.tail (at1 + 1) (by rw [HNL.out]; omega)
          rw [HNL.out] at hL2
          obtain ⟨ta, hta⟩ : ∃ X, tailG 1 (some ad) (at1 + 1) c = X := ⟨_, rfl⟩
          obtain ⟨tn, htn⟩ : ∃ X, n - (at1 + 1) = X := ⟨_, rfl⟩
          obtain ⟨tc, htc⟩ : ∃ X, c - (at1 + 1) = X := ⟨_, rfl⟩
          rw [hta, htn, htc] at hc2 hL2
          have hc2' : ∀ W : World, (Instr.slice 25 (.slice (some ad) n c) (some (.int .i64 ((at1 : Int) + 1))) none none).run Try.prog W = .ok (.slice ta tn tc) W := fun W => by rw [← hc2 W]; rfl
          have hww : IntKind.i64.wrap ((at1 : Int) + 1) = (at1 : Int) + 1 := by rw [IntKind.wrap_i64]; omega
          rw [Nat.mul_one] at hL1 hL2
          have hL1 : Lies 1 w3 (some ad) at1 c (cellsM (Ns.take at1)) := by unfold cellsM at hL1 ⊢; rw [List.map_take]; exact hL1
          have hL2 : Lies 1 w3 ta tn tc (cellsM (Ns.drop (at1 + 1))) := by unfold cellsM at hL2 ⊢; rw [List.map_drop]; exact hL2
          have htnn : at1 + 1 + tn = n := by omega
          have HTN := hide htnn
          have HLA := hide hL1
          have HLB := hide hL2
          clear hL1 hL2 hc2 hta htn htc bw3 b3 c0 htnn
          cases hj : joinB (insF mL p') with
          | true =>
            obtain ⟨ro, rc, rfl, B3, N3⟩ := hyes hj
            have HJ : Hid (joinB (insF (Ns.getD at1 Mg.zero).L p') = true) := by show _ = _; rw [HMM.out]; exact hj
            have HEQ : Hid (insF (Ns.getD at1 Mg.zero).L p' = insF mL p') := by show _ = _; rw [HMM.out]
            have HB := hide B3
            have HN3 := hide N3
            obtain ⟨jl, hjl⟩ : ∃ jl, (joinL (insF mL p')).length = jl := ⟨_, rfl⟩
            rw [hjl]
            have HJL := hide hjl
            obtain ⟨ps, hps⟩ : ∃ ps : List Prt, [⟨some ad, at1, c, cellsM (Ns.take at1)⟩, ⟨ta, tn, tc, cellsM (Ns.drop (at1 + 1))⟩] = ps := ⟨_, rfl⟩
            have HPA : Hid (Parts 1 (w3.alloc (.cells #[.slice (some ad) at1 c, .slice ta tn tc] 25)).drew ⟨w3.heap.size, 0, none⟩ ps) := by
              rw [← hps]
              exact (parts_two HLA.out HLB.out (cellsM_one _) (cellsM_one _)).carry (below_d _ 1)
            have HL2 : Hid (ps.length = 2) := by show _ = _; rw [← hps]; rfl
            have HSU : Hid (sumN ps 2 = at1 + tn) := by show _ = _; rw [← hps]; simp [sumN]
            have HFL : Hid (flatV ps 2 = cellsM (Ns.take at1 ++ Ns.drop (at1 + 1))) := by show _ = _; rw [← hps]; simp [flatV, cellsM]
            clear hps hjl B3 N3 hyes hno hok
            go_wp2_with fail
            go_region_with (first | (go_at_call 18; go_must (refine (concat_anyM _ 2 ps _ HL2.out (by omega) HPA.out (by rw [HSU.out]; have := HTN.out; omega)).mono ?_); rintro e w5 ⟨v5, rfl, ao5, c5, rfl, A5, b5, n5⟩; have b6 := below_one (below_ad w3 _) b5; have HEND := hide (HMID.out.whole HM.out HOK.out HY2.out HJ.out HS.out (by rw [HEQ.out]; exact HB.out) HN3.out HB3.out (HFL.out ▸ A5) b6 (n5.le (below_ad w3 (.cells #[.slice (some ad) at1 c, .slice ta tn tc] 25)).size)); have d5 := (HG3.out.grow b6).c0; have zz5 := (HG3.out.grow b6).z; clear A5 b5 b6 n5))
            all_goals
              go_wp2
              go_ret2
              have := HEND.out
              rw [HEQ.out, HJL.out] at this
              exact this
          | false =>
            obtain rfl := hno hj
            have HJ : Hid (joinB (insF (Ns.getD at1 Mg.zero).L p') = false) := by show _ = _; rw [HMM.out]; exact hj
            obtain ⟨Y, hY⟩ : ∃ Y, w3.alloc (.cells #[.slice mo l1 mo2] 52) = Y := ⟨_, rfl⟩
            have bY : Below w3.heap.size w3 Y := hY ▸ below_alloc w3 _
            have HBY := hide bY
            have cY := (HG3.out.grow bY).c0
            rw [HNL.out] at cY
            obtain ⟨ps, hps⟩ : ∃ ps : List Prt, [⟨some ad, at1, c, cellsM (Ns.take at1)⟩, ⟨some ⟨w3.heap.size, 0, none⟩, 1, 1, [.slice mo l1 mo2]⟩, ⟨ta, tn, tc, cellsM (Ns.drop (at1 + 1))⟩] = ps := ⟨_, rfl⟩
            have HPA : Hid (Parts 1 (Y.alloc (.cells #[.slice (some ad) at1 c, .slice (some ⟨w3.heap.size, 0, none⟩) 1 1, .slice ta tn tc] 25)).drew ⟨Y.heap.size, 0, none⟩ ps) := by
              rw [← hps]
              exact (parts_three (HLA.out.carry bY (Nat.le_refl _)) (hY ▸ lies_alloc (sz := 1) (n := 1) (X := w3) (T := 52) (C := #[.slice mo l1 mo2]) (cs := [.slice mo l1 mo2]) rfl rfl (by omega)) (HLB.out.carry bY (Nat.le_refl _)) (cellsM_one _) (by simp [Value.oneCell']) (cellsM_one _)).carry (below_d _ 1)
            have HL2 : Hid (ps.length = 3) := by show _ = _; rw [← hps]; rfl
            have HSU : Hid (sumN ps 3 = at1 + (1 + tn)) := by show _ = _; rw [← hps]; simp [sumN]
            have HFL : Hid (flatV ps 3 = cellsM (Ns.take at1 ++ ⟨mo, (Ns.getD at1 Mg.zero).L.length + 1, mo2, insF (Ns.getD at1 Mg.zero).L p'⟩ :: Ns.drop (at1 + 1))) := by
              show _ = _
              rw [← hps, HMM.out]
              simp [flatV, cellsM, Mg.v, HL1.out]
            clear hps hyes hno hok bY
            go_wp2_with fail
            go_region_with (first | (go_at_call 18; go_must (refine (concat_anyM _ 3 ps _ HL2.out (by omega) HPA.out (by rw [HSU.out]; have := HTN.out; omega)).mono ?_); rintro e w5 ⟨v5, rfl, ao5, c5, rfl, A5, b5, n5⟩; have bY2 := below_one HBY.out (below_ad Y (.cells #[.slice (some ad) at1 c, .slice (some ⟨w3.heap.size, 0, none⟩) 1 1, .slice ta tn tc] 25)); have b6 := below_one bY2 b5; have HEND := hide (HMID.out.kept HM.out HOK.out HY2.out HJ.out HS.out HB3.out (HFL.out ▸ A5) b6 (n5.le bY2.size)); have d5 := (HG3.out.grow b6).c0; have zz5 := (HG3.out.grow b6).z; clear A5 b5 b6 n5 bY2))
            all_goals
              go_wp2
              go_ret2
              exact HEND.out
end Go.Proofs.Ytdfakeddhoolcaa
