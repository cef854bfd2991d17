/-
  What Join answers, as a contract.
-/
import Derived.Test.YtdfakeddhoolcaaFSplit
import Derived.Laws.MakeOwn
namespace Go.Proofs.Ytdfakeddhoolcaa
open Go.RowKit
def okK (n : Nat) (q : Pa) (k : Nat) (p : Pa) : Bool := p.may && (p.x == (k : Int) && (p.c == (n : Int) && p.with q))
/- the packets from place k on are those of one message, of n packets, the first being q -/
def okL (n : Nat) (q : Pa) : Nat → List Pa → Bool
  | _, [] => true
  | k, p :: r => okK n q k p && okL n q (k + 1) r
def joinB (L : List Pa) : Bool := !L.isEmpty && okL L.length (L.getD 0 Pa.zero) 0 L
def joinL (L : List Pa) : List UInt8 := L.flatMap Pa.l
def JoinEnd (w : World) (L : List Pa) (e : Ending) (w' : World) : Prop :=
  Below w.heap.size w w' ∧ (joinB L = true → ∃ ro rc, e = .returned (.tuple #[.slice ro (joinL L).length rc, .bool true]) ∧ Bts w' ro (joinL L).length rc (joinL L) ∧ New w ro) ∧ (joinB L = false → e = .returned (.tuple #[.slice none 0 0, .bool false]))
theorem join_no {w w' : World} {L : List Pa} (h : joinB L = false) (b : Below w.heap.size w w') : JoinEnd w L (.returned (.tuple #[.slice none 0 0, .bool false])) w' := ⟨b, (fun e => by rw [h] at e; cases e), fun _ => rfl⟩
theorem joinL_snoc (L : List Pa) (k : Nat) (h : k < L.length) : joinL (L.take (k + 1)) = joinL (L.take k) ++ (L.getD k Pa.zero).l := by
  rw [takeK_snoc L k h]; simp [joinL]
theorem BoxK.six {w w' : World} {g : Nat} {x : Pa} (h : BoxK w g x) (b : Below w.heap.size w w') : (w'.cell? ⟨g, 0, none⟩ = some (.int .i64 x.f) ∧ w'.cell? ⟨g, 1, none⟩ = some (.int .i64 x.t) ∧ w'.cell? ⟨g, 2, none⟩ = some (.int .u64 x.i) ∧ w'.cell? ⟨g, 3, none⟩ = some (.int .i64 x.x) ∧ w'.cell? ⟨g, 4, none⟩ = some (.int .i64 x.c) ∧ w'.cell? ⟨g, 5, none⟩ = some (.slice x.so x.sn x.sc)) :=
  have k := h.carry b (Nat.le_refl _)
  ⟨k.c0, k.c1, k.c2, k.c3, k.c4, k.c5⟩
theorem Pks.six0 {w w' : World} {ad : Addr} {n cap : Nat} {L : List Pa} (h : Pks w (some ad) n cap L) (b : Below w.heap.size w w') (hn : 0 < n) (q : Pa) (hq : L.getD 0 Pa.zero = q) : (w'.cell? ad = some (.int .i64 q.f) ∧ w'.cell? { block := ad.block, off := ad.off + 1 } = some (.int .i64 q.t) ∧ w'.cell? { block := ad.block, off := ad.off + 2 } = some (.int .u64 q.i) ∧ w'.cell? { block := ad.block, off := ad.off + 3 } = some (.int .i64 q.x) ∧ w'.cell? { block := ad.block, off := ad.off + 4 } = some (.int .i64 q.c) ∧ w'.cell? { block := ad.block, off := ad.off + 5 } = some (.slice q.so q.sn q.sc)) := by
  have k := (h.carry b).elem 0 hn
  rw [Nat.zero_mul, addZ, hq] at k
  exact ⟨k.c0, k.c1, k.c2, k.c3, k.c4, k.c5⟩
theorem okL_may {n : Nat} {q : Pa} : ∀ (L : List Pa) (k : Nat), okL n q k L = true → ∀ x ∈ L, x.may = true
  | [], _, _, x, hx => by cases hx
  | p :: r, k, h, x, hx => by
    rw [okL, Bool.and_eq_true] at h
    rcases List.mem_cons.1 hx with rfl | hx
    · have := h.1; unfold okK at this; rw [Bool.and_eq_true] at this; exact this.1
    · exact okL_may r (k + 1) h.2 x hx
theorem joinB_may {L : List Pa} (h : joinB L = true) (x : Pa) (hx : x ∈ L) : x.sn ≤ 32768 := by
  unfold joinB at h
  rw [Bool.and_eq_true] at h
  exact ((may_iff _ _ _).1 (okL_may L 0 h.2 x hx)).2.2.2.2
theorem owns_carry {w w' : World} {base : Nat} {e : TypeId} {size : Nat} {v : Value} {n : Nat} {xs : List Value} (h : w.ownsRow base e size v n xs) (b : Below w.heap.size w w') : w'.ownsRow base e size v n xs := by
  refine ⟨h.1, ?_⟩
  rcases h.2 with ⟨hv, hn⟩ | ⟨g, cap, cur, hv, hb, hg, h1, h2, h3, h4⟩
  · exact .inl ⟨hv, hn⟩
  · exact .inr ⟨g, cap, cur, hv, hb, (b.block g (lt_of_heap hg)).trans hg, h1, h2, h3, h4⟩
/- append(b, d...) of an own row of bytes -/
theorem app_bytes (W : World) (B : Nat) (vb : Value) (m : Nat) (l : List UInt8) (own : W.ownsRow B 5 1 vb m (cellsB l)) (so : Option Addr) (sn sc : Nat) (r : List UInt8) (hb : Bts W so sn sc r) (hB : B ≤ W.heap.size) (hsz : m + sn ≤ 140737488355328) :
    ∃ v' w', (Builtin.append_ #[30, 30] 30 #[vb, .slice so sn sc]).run Try.prog W = .ok v' w' ∧ w'.ownsRow B 5 1 v' (m + sn) (cellsB (l ++ r)) ∧ (∀ a, Below B a W → Below B a w') := by
  obtain ⟨i0, hi, hz0, hz1, hz2⟩ := info_parts Try.info5
  cases so with
  | none =>
    obtain ⟨rfl, rfl⟩ := hb.none rfl
    obtain rfl : r = [] := List.eq_nil_of_length_eq_zero hb.1.symm
    obtain ⟨oa, oc, rfl, hl⟩ := owns_lies own
    exact ⟨_, W, app_none W Try.underlying30 hi oa m oc hl.2.1 hl.2.2.2.1, by simpa using own, fun _ h => h⟩
  | some ad =>
    obtain ⟨v4, w4, hrun, hown4, hgr4, _, _⟩ := run_append_own_at (P := Try.prog) W B 30 30 5 i0 _ 1 1 Try.underlying30 hi hz0 hz1 hz2 rfl (by omega) vb m _ own ad sn sc (cellsB r) (by rw [cellsB_len]; have := hb.1; omega) (hb.news ad rfl) (cellsB_one _) (by unfold maxLen; omega) (by omega) hB
    exact ⟨v4, w4, hrun, by rw [cellsB_append]; exact hown4, fun a h => below_grown h hB own hgr4⟩
def J1 (w : World) (L : List Pa) (n : Nat) (q : Pa) (gk : Nat) (vz vi : Value) (wq : World) : Prop :=
  ∃ k z : Nat, k + gk = n ∧ vi = .int .i64 (k : Int) ∧ vz = .int .i64 (z : Int) ∧ z = (joinL (L.take k)).length ∧ z ≤ k * 32768 ∧ (1 ≤ k → n ≤ 256) ∧ okL n q k (L.drop k) = joinB L ∧ Below w.heap.size w wq
def J2 (w : World) (L : List Pa) (n : Nat) (gk : Nat) (vb vi : Value) (wq : World) : Prop :=
  ∃ k : Nat, k + gk = n ∧ vi = .int .i64 (k : Int) ∧ wq.ownsRow w.heap.size 5 1 vb (joinL (L.take k)).length (cellsB (joinL (L.take k))) ∧ (joinL (L.take k)).length ≤ k * 32768 ∧ Below w.heap.size w wq
set_option maxRecDepth 20000 in
set_option maxHeartbeats 3200000 in
theorem join_any (ao : Option Addr) (n cap : Nat) (L : List Pa) (w : World) (hp : Pks w ao n cap L) :
    Calls Try.prog 17 #[.slice ao n cap] w fun e w' => JoinEnd w L e w' := by
  have HP := hide hp
  have HN := hide hp.len
  have hnc := hp.1.2.1
  have hcap : cap ≤ 9223372036854775807 := hp.1.2.2.1
  clear hp
  by_cases h0 : n = 0
  · subst h0
    have HE : Hid (joinB L = false) := by
      show joinB L = false
      rw [List.eq_nil_of_length_eq_zero HN.out.symm]; rfl
    go_enter Try.func17, Try.ntmps17
    go_wp2
    go_ret2
    exact join_no HE.out (Below.refl _ _)
  · have hn0 : ((n : Int) == 0) = false := by simp; omega
    obtain ⟨ad, rfl⟩ := HP.out.there (k := 0) (by omega)
    obtain ⟨q, hq⟩ : ∃ q, L.getD 0 Pa.zero = q := ⟨_, rfl⟩
    have HQ := hide hq
    have HJ : Hid (okL n q 0 L = joinB L) := by
      show okL n q 0 L = joinB L
      unfold joinB
      rw [← HN.out, hq]
      cases L with
      | nil => exact absurd HN.out h0
      | cons x r => simp
    clear hq
    go_enter Try.func17, Try.ntmps17
    go_wp2
    go_loopg [4, 15] n (fun gk vz vi wq => J1 w L n q gk vz vi wq)
    case atStart => exact ⟨0, 0, by omega, rfl, rfl, rfl, by omega, (fun h => by omega), HJ.out, Below.refl _ _⟩
    case round =>
      obtain ⟨k, z, hk, rfl, rfl, hz, hz2, hf, hj, b⟩ := hrel
      have HZ := hide hz
      have HF := hide hf
      have HJ2 := hide hj
      have HB := hide b
      clear hz hf hj b HJ
      cases gk with
      | zero =>
        obtain rfl : k = n := by omega
        have hlt : ¬ ((k : Int) < (k : Int)) := by omega
        have hk256 : k ≤ 256 := HF.out (by omega)
        have HOKJ : Hid (joinB L = true) := by show joinB L = true; rw [← HJ2.out, List.drop_of_length_le (by rw [← HN.out]; exact Nat.le_refl _)]; rfl
        obtain ⟨i0, hi0, hz0, hz1, hz2'⟩ := info_parts Try.info5
        obtain ⟨Y, hrun, hown, hgr⟩ := run_make_own (P := Try.prog) wr w.heap.size 30 5 i0 _ 1 Try.underlying30 hi0 hz0 hz1 .i64 .i64 z (by rw [hz2']; omega) (by unfold maxLen; omega) HB.out.size
        have HOW := hide hown
        have HBY : Hid (Below w.heap.size w Y) := HB.out.grown hgr HB.out.size (fun j e => by cases e)
        clear hown hgr hi0 hz0 hz1 hz2' HJ2 HF
        go_wp2
        go_loopg [7, 54] k (fun gk vb vi wq => J2 w L k gk vb vi wq)
        case atStart => exact ⟨0, by omega, rfl, HOW.out, by simp [joinL], HBY.out⟩
        case round =>
          clear hrun HOW HBY HB hlt
          obtain ⟨j, hj, rfl, hown, hjl, b⟩ := hrel
          obtain ⟨oa, oc, rfl, hbo⟩ := owns_bts hown
          obtain ⟨m, hm⟩ : ∃ m, (joinL (L.take j)).length = m := ⟨_, rfl⟩
          rw [hm] at hown hbo hjl ⊢
          have HM := hide hm
          have HOW := hide hown
          have HBO := hide hbo
          have HB := hide b
          clear hm hown hbo b
          cases gk with
          | zero =>
            obtain rfl : j = k := by omega
            have hlt : ¬ ((j : Int) < (j : Int)) := by omega
            have HT : Hid (L.take j = L) := by show _ = _; rw [List.take_of_length_le (by rw [← HN.out]; exact Nat.le_refl _)]
            rw [HT.out] at HM HBO HOW
            have HNW := hide (owns_new HOW.out)
            go_wp2
            go_ret2
            exact ⟨HB.out, (fun _ => ⟨oa, oc, by rw [HM.out]; rfl, by rw [HM.out]; exact HBO.out, HNW.out⟩), (fun e => by rw [HOKJ.out] at e; cases e)⟩
          | succ g1 =>
            have hjk : j < k := by omega
            have hlt : (j : Int) < (k : Int) := by omega
            obtain ⟨c0, c1, c2, c3, c4, c5⟩ := (HP.out.over HB.out (Nat.le_refl _)).elem j hjk
            have hbt := HP.out.bts j hjk
            have hsn := joinL_snoc L j (by rw [← HN.out]; exact hjk)
            have hle : (L.getD j Pa.zero).sn ≤ 32768 := joinB_may HOKJ.out _ (getK_mem L j (by rw [← HN.out]; exact hjk))
            obtain ⟨y, hy⟩ : ∃ y, L.getD j Pa.zero = y := ⟨_, rfl⟩
            rw [hy] at c0 c1 c2 c3 c4 c5 hbt hsn hle
            have HSN := hide hsn
            have HYL := hide hbt.1
            obtain ⟨X, hX⟩ : ∃ X, wr.alloc (.cells #[.int .i64 y.f, .int .i64 y.t, .int .u64 y.i, .int .i64 y.x, .int .i64 y.c, .slice y.so y.sn y.sc] 35) = X := ⟨_, rfl⟩
            have hbx : BoxK X wr.heap.size y := hX ▸ boxK_new wr y
            have hwx : Below wr.heap.size wr X := hX ▸ below_alloc wr _
            have d5 := hbx.c5
            have hbX := HB.out.trans (hwx.mono HB.out.size)
            obtain ⟨v4, w4, hrun, hown4, hb4⟩ := app_bytes X w.heap.size _ m _ (owns_carry HOW.out hwx) y.so y.sn y.sc y.l (Bts.over hbt hbX (Nat.le_refl _)) hbX.size (by omega)
            have HRUN := hide hrun
            have HOW4 := hide hown4
            have HB4 := hide (hb4 w hbX)
            obtain ⟨oa4, oc4, rfl⟩ := owns_slice hown4
            clear hrun hown4 hb4 hbX hbx hwx hbt hsn hy
            go_wp2_with (at_builtin; refine wpList_append_run rfl _ _ _ rfl _ _ _ _ rfl rfl HRUN.out ?_)
            go_wp2
            go_roundg g1
            case measure => omega
            case rel => exact ⟨j + 1, by omega, by go_num, by rw [HSN.out, List.length_append, HM.out, ← HYL.out]; exact HOW4.out, by rw [HSN.out, List.length_append, HM.out, ← HYL.out]; omega, HB4.out⟩
      | succ g1 =>
        have hkn : k < n := by omega
        have hlt : (k : Int) < (n : Int) := by omega
        obtain ⟨c0, c1, c2, c3, c4, c5⟩ := (HP.out.over HB.out (Nat.le_refl _)).elem k hkn
        have hbt := HP.out.bts k hkn
        have hjj := HJ2.out
        rw [dropK_cons L k (by rw [← HN.out]; exact hkn)] at hjj
        have hsn := joinL_snoc L k (by rw [← HN.out]; exact hkn)
        obtain ⟨y, hy⟩ : ∃ y, L.getD k Pa.zero = y := ⟨_, rfl⟩
        rw [hy] at c0 c1 c2 c3 c4 c5 hbt hjj hsn
        rw [okL] at hjj
        have hyn : y.sn ≤ 9223372036854775807 := Nat.le_trans hbt.2.1 hbt.2.2.1
        have HYL := hide hbt.1
        have HSN := hide hsn
        obtain ⟨X, hX⟩ : ∃ X, wr.alloc (.cells #[.int .i64 y.f, .int .i64 y.t, .int .u64 y.i, .int .i64 y.x, .int .i64 y.c, .slice y.so y.sn y.sc] 35) = X := ⟨_, rfl⟩
        have HBX : Hid (BoxK X wr.heap.size y) := hX ▸ boxK_new wr y
        have HWX : Hid (Below wr.heap.size wr X) := hX ▸ below_alloc wr _
        have HPX := hide ((HP.out.over HB.out (Nat.le_refl _)).carry HWX.out)
        have bb : Below X.heap.size X X.drew := below_drewN (Below.refl _ _) 1
        have hS := hide (And.intro (HBX.out.six bb) (HPX.out.six0 bb (by omega) q HQ.out))
        obtain ⟨m, hm⟩ : ∃ m, y.may = m := ⟨_, rfl⟩
        have HM := hide hm
        have HOK : Hid (okK n q k y = (m && (y.x == (k : Int) && (y.c == (n : Int) && y.with q)))) := by show _ = _; unfold okK; rw [hm]
        have HJJ := hide hjj
        clear hy hm hbt hsn hjj HJ2
        cases m with
        | false =>
          have HNO : Hid (joinB L = false) := by show joinB L = false; rw [← HJJ.out, HOK.out]; rfl
          go_wp2_with fail
          refine wp_region_held_drew (S := fun w' => (w'.cell? ⟨wr.heap.size, 0, none⟩ = some (.int .i64 y.f) ∧ w'.cell? ⟨wr.heap.size, 1, none⟩ = some (.int .i64 y.t) ∧ w'.cell? ⟨wr.heap.size, 2, none⟩ = some (.int .u64 y.i) ∧ w'.cell? ⟨wr.heap.size, 3, none⟩ = some (.int .i64 y.x) ∧ w'.cell? ⟨wr.heap.size, 4, none⟩ = some (.int .i64 y.c) ∧ w'.cell? ⟨wr.heap.size, 5, none⟩ = some (.slice y.so y.sn y.sc)) ∧ (w'.cell? ad = some (.int .i64 q.f) ∧ w'.cell? { block := ad.block, off := ad.off + 1 } = some (.int .i64 q.t) ∧ w'.cell? { block := ad.block, off := ad.off + 2 } = some (.int .u64 q.i) ∧ w'.cell? { block := ad.block, off := ad.off + 3 } = some (.int .i64 q.x) ∧ w'.cell? { block := ad.block, off := ad.off + 4 } = some (.int .i64 q.c) ∧ w'.cell? { block := ad.block, off := ad.off + 5 } = some (.slice q.so q.sn q.sc))) (by kernel_rfl) hS.out (fun _ => ?_)
          refine wpAnyH_take (i := 0) (oi := { dst := some 20, op := Op.load 35 (Operand.tmp 6), type := 35, pos := "frag.go:43", after := #[], guard := none }) (v := (.agg #[.int .i64 y.f, .int .i64 y.t, .int .u64 y.i, .int .i64 y.x, .int .i64 y.c, .slice y.so y.sn y.sc])) rfl (by kernel_rfl) (by kernel_rfl) (by kernel_rfl) (fun _ _ _ h => h) (Or.inl ⟨by kernel_rfl, fun w hC => by (obtain ⟨⟨p0, p1, p2, p3, p4, p5⟩, r0, r1, r2, r3, r4, r5⟩ := hC; go_simp)⟩) hS.out ?_
          simp only [Act.put, List.setIfInBounds_toArray, List.set_cons_zero, List.set_cons_succ]
          refine wpAnyH_ready (rs := [1]) (by kernel_rfl) (by simp) ?_
          refine AllReadyH.cons (o := { dst := some 21, op := Op.call { callee := Callee.value (Operand.func 10), args := #[Operand.tmp 20], argTypes := #[35] }, type := 4, pos := "frag.go:43", after := #[{ on := 0, ground := Ground.data }], guard := none }) rfl (fun K hK => ?_) AllReadyH.nil
          go_simp
          refine (may_any y _ hyn).mono ?_; rintro e wx ⟨rfl, bx⟩; rw [HM.out]
          have bb := below_one bb bx
          have hS := hide (And.intro (HBX.out.six bb) (HPX.out.six0 bb (by omega) q HQ.out))
          refine hK.out _ _ hS.out (fun _ => ?_)
          clear hK
          refine wpAnyH_take (i := 2) (oi := { dst := some 22, op := Op.unOp UnOp.not 4 (Operand.tmp 21), type := 4, pos := "frag.go:43", after := #[{ on := 1, ground := Ground.data }], guard := none }) (v := (.bool true)) rfl (by kernel_rfl) (by kernel_rfl) (by kernel_rfl) (fun _ _ _ h => h) (Or.inl ⟨by kernel_rfl, fun w hC => by go_simp⟩) hS.out ?_
          simp only [Act.put, List.setIfInBounds_toArray, List.set_cons_zero, List.set_cons_succ]
          refine wpAnyH_take (i := 3) (oi := { dst := some 23, op := Op.move (Operand.tmp 22), type := 4, pos := "frag.go:43", after := #[{ on := 2, ground := Ground.data }, { on := 1, ground := Ground.chain }], guard := none }) (v := (.bool true)) rfl (by kernel_rfl) (by kernel_rfl) (by kernel_rfl) (fun _ _ _ h => h) (Or.inl ⟨by kernel_rfl, fun w hC => by go_simp⟩) hS.out ?_
          simp only [Act.put, List.setIfInBounds_toArray, List.set_cons_zero, List.set_cons_succ]
          refine wpAnyH_take (i := 4) (oi := { dst := some 24, op := Op.fieldAddr 35 (Operand.tmp 6) 3, type := 0, pos := "frag.go:43", after := #[{ on := 3, ground := Ground.guard }], guard := some (3, false) }) (v := undef) rfl (by kernel_rfl) (by kernel_rfl) (by kernel_rfl) (fun _ _ _ h => h) (Or.inr ⟨by kernel_rfl, rfl⟩) hS.out ?_
          simp only [Act.put, List.setIfInBounds_toArray, List.set_cons_zero, List.set_cons_succ]
          refine wpAnyH_take (i := 5) (oi := { dst := some 25, op := Op.load 3 (Operand.tmp 24), type := 3, pos := "frag.go:43", after := #[{ on := 4, ground := Ground.data }, { on := 3, ground := Ground.guard }], guard := some (3, false) }) (v := undef) rfl (by kernel_rfl) (by kernel_rfl) (by kernel_rfl) (fun _ _ _ h => h) (Or.inr ⟨by kernel_rfl, rfl⟩) hS.out ?_
          simp only [Act.put, List.setIfInBounds_toArray, List.set_cons_zero, List.set_cons_succ]
          refine wpAnyH_take (i := 6) (oi := { dst := some 26, op := Op.move (Operand.tmp 5), type := 3, pos := "frag.go:43", after := #[{ on := 3, ground := Ground.guard }], guard := some (3, false) }) (v := undef) rfl (by kernel_rfl) (by kernel_rfl) (by kernel_rfl) (fun _ _ _ h => h) (Or.inr ⟨by kernel_rfl, rfl⟩) hS.out ?_
          simp only [Act.put, List.setIfInBounds_toArray, List.set_cons_zero, List.set_cons_succ]
          refine wpAnyH_take (i := 7) (oi := { dst := some 27, op := Op.binOp BinOp.neq 3 (Operand.tmp 25) (Operand.tmp 26) 3, type := 4, pos := "frag.go:43", after := #[{ on := 5, ground := Ground.data }, { on := 6, ground := Ground.data }, { on := 3, ground := Ground.guard }], guard := some (3, false) }) (v := undef) rfl (by kernel_rfl) (by kernel_rfl) (by kernel_rfl) (fun _ _ _ h => h) (Or.inr ⟨by kernel_rfl, rfl⟩) hS.out ?_
          simp only [Act.put, List.setIfInBounds_toArray, List.set_cons_zero, List.set_cons_succ]
          refine wpAnyH_take (i := 8) (oi := { dst := some 28, op := Op.pick (Operand.tmp 23) (Operand.const (Value.bool true)) (Operand.tmp 27), type := 4, pos := "frag.go:43", after := #[{ on := 3, ground := Ground.data }, { on := 7, ground := Ground.data }], guard := none }) (v := (.bool true)) rfl (by kernel_rfl) (by kernel_rfl) (by kernel_rfl) (fun _ _ _ h => h) (Or.inl ⟨by kernel_rfl, fun w hC => by go_simp⟩) hS.out ?_
          simp only [Act.put, List.setIfInBounds_toArray, List.set_cons_zero, List.set_cons_succ]
          refine wpAnyH_take (i := 9) (oi := { dst := some 29, op := Op.move (Operand.tmp 28), type := 4, pos := "frag.go:43", after := #[{ on := 8, ground := Ground.data }, { on := 3, ground := Ground.chain }], guard := none }) (v := (.bool true)) rfl (by kernel_rfl) (by kernel_rfl) (by kernel_rfl) (fun _ _ _ h => h) (Or.inl ⟨by kernel_rfl, fun w hC => by go_simp⟩) hS.out ?_
          simp only [Act.put, List.setIfInBounds_toArray, List.set_cons_zero, List.set_cons_succ]
          refine wpAnyH_take (i := 10) (oi := { dst := some 30, op := Op.fieldAddr 35 (Operand.tmp 6) 4, type := 0, pos := "frag.go:43", after := #[{ on := 9, ground := Ground.guard }], guard := some (9, false) }) (v := undef) rfl (by kernel_rfl) (by kernel_rfl) (by kernel_rfl) (fun _ _ _ h => h) (Or.inr ⟨by kernel_rfl, rfl⟩) hS.out ?_
          simp only [Act.put, List.setIfInBounds_toArray, List.set_cons_zero, List.set_cons_succ]
          refine wpAnyH_take (i := 11) (oi := { dst := some 31, op := Op.load 3 (Operand.tmp 30), type := 3, pos := "frag.go:43", after := #[{ on := 10, ground := Ground.data }, { on := 9, ground := Ground.guard }], guard := some (9, false) }) (v := undef) rfl (by kernel_rfl) (by kernel_rfl) (by kernel_rfl) (fun _ _ _ h => h) (Or.inr ⟨by kernel_rfl, rfl⟩) hS.out ?_
          simp only [Act.put, List.setIfInBounds_toArray, List.set_cons_zero, List.set_cons_succ]
          refine wpAnyH_take (i := 12) (oi := { dst := some 32, op := Op.move (Operand.tmp 0), type := 41, pos := "frag.go:43", after := #[{ on := 9, ground := Ground.guard }], guard := some (9, false) }) (v := undef) rfl (by kernel_rfl) (by kernel_rfl) (by kernel_rfl) (fun _ _ _ h => h) (Or.inr ⟨by kernel_rfl, rfl⟩) hS.out ?_
          simp only [Act.put, List.setIfInBounds_toArray, List.set_cons_zero, List.set_cons_succ]
          refine wpAnyH_take (i := 13) (oi := { dst := some 33, op := Op.call { callee := Callee.builtin Builtin.len, args := #[Operand.tmp 32], argTypes := #[41] }, type := 3, pos := "frag.go:43", after := #[{ on := 12, ground := Ground.data }, { on := 9, ground := Ground.guard }], guard := some (9, false) }) (v := undef) rfl (by kernel_rfl) (by kernel_rfl) (by kernel_rfl) (fun _ _ _ h => h) (Or.inr ⟨by kernel_rfl, rfl⟩) hS.out ?_
          simp only [Act.put, List.setIfInBounds_toArray, List.set_cons_zero, List.set_cons_succ]
          refine wpAnyH_take (i := 14) (oi := { dst := some 34, op := Op.binOp BinOp.neq 3 (Operand.tmp 31) (Operand.tmp 33) 3, type := 4, pos := "frag.go:43", after := #[{ on := 11, ground := Ground.data }, { on := 13, ground := Ground.data }, { on := 9, ground := Ground.guard }], guard := some (9, false) }) (v := undef) rfl (by kernel_rfl) (by kernel_rfl) (by kernel_rfl) (fun _ _ _ h => h) (Or.inr ⟨by kernel_rfl, rfl⟩) hS.out ?_
          simp only [Act.put, List.setIfInBounds_toArray, List.set_cons_zero, List.set_cons_succ]
          refine wpAnyH_take (i := 15) (oi := { dst := some 35, op := Op.pick (Operand.tmp 29) (Operand.const (Value.bool true)) (Operand.tmp 34), type := 4, pos := "frag.go:43", after := #[{ on := 9, ground := Ground.data }, { on := 14, ground := Ground.data }], guard := none }) (v := (.bool true)) rfl (by kernel_rfl) (by kernel_rfl) (by kernel_rfl) (fun _ _ _ h => h) (Or.inl ⟨by kernel_rfl, fun w hC => by go_simp⟩) hS.out ?_
          simp only [Act.put, List.setIfInBounds_toArray, List.set_cons_zero, List.set_cons_succ]
          refine wpAnyH_take (i := 16) (oi := { dst := some 36, op := Op.move (Operand.tmp 35), type := 4, pos := "frag.go:43", after := #[{ on := 15, ground := Ground.data }, { on := 9, ground := Ground.chain }], guard := none }) (v := (.bool true)) rfl (by kernel_rfl) (by kernel_rfl) (by kernel_rfl) (fun _ _ _ h => h) (Or.inl ⟨by kernel_rfl, fun w hC => by go_simp⟩) hS.out ?_
          simp only [Act.put, List.setIfInBounds_toArray, List.set_cons_zero, List.set_cons_succ]
          refine wpAnyH_take (i := 17) (oi := { dst := some 37, op := Op.load 35 (Operand.tmp 6), type := 35, pos := "frag.go:43", after := #[{ on := 16, ground := Ground.guard }], guard := some (16, false) }) (v := undef) rfl (by kernel_rfl) (by kernel_rfl) (by kernel_rfl) (fun _ _ _ h => h) (Or.inr ⟨by kernel_rfl, rfl⟩) hS.out ?_
          simp only [Act.put, List.setIfInBounds_toArray, List.set_cons_zero, List.set_cons_succ]
          refine wpAnyH_take (i := 18) (oi := { dst := some 38, op := Op.move (Operand.tmp 0), type := 41, pos := "frag.go:43", after := #[{ on := 16, ground := Ground.guard }], guard := some (16, false) }) (v := undef) rfl (by kernel_rfl) (by kernel_rfl) (by kernel_rfl) (fun _ _ _ h => h) (Or.inr ⟨by kernel_rfl, rfl⟩) hS.out ?_
          simp only [Act.put, List.setIfInBounds_toArray, List.set_cons_zero, List.set_cons_succ]
          refine wpAnyH_take (i := 19) (oi := { dst := some 39, op := Op.indexAddr 41 (Operand.tmp 38) (Operand.const (Value.int IntKind.i64 0)), type := 0, pos := "frag.go:43", after := #[{ on := 18, ground := Ground.data }, { on := 16, ground := Ground.guard }], guard := some (16, false) }) (v := undef) rfl (by kernel_rfl) (by kernel_rfl) (by kernel_rfl) (fun _ _ _ h => h) (Or.inr ⟨by kernel_rfl, rfl⟩) hS.out ?_
          simp only [Act.put, List.setIfInBounds_toArray, List.set_cons_zero, List.set_cons_succ]
          refine wpAnyH_take (i := 20) (oi := { dst := some 40, op := Op.load 35 (Operand.tmp 39), type := 35, pos := "frag.go:43", after := #[{ on := 19, ground := Ground.data }, { on := 16, ground := Ground.guard }], guard := some (16, false) }) (v := undef) rfl (by kernel_rfl) (by kernel_rfl) (by kernel_rfl) (fun _ _ _ h => h) (Or.inr ⟨by kernel_rfl, rfl⟩) hS.out ?_
          simp only [Act.put, List.setIfInBounds_toArray, List.set_cons_zero, List.set_cons_succ]
          refine wpAnyH_take (i := 21) (oi := { dst := some 41, op := Op.call { callee := Callee.value (Operand.func 21), args := #[Operand.tmp 37, Operand.tmp 40], argTypes := #[35, 35] }, type := 4, pos := "frag.go:43", after := #[{ on := 17, ground := Ground.data }, { on := 20, ground := Ground.data }, { on := 16, ground := Ground.chain }, { on := 16, ground := Ground.guard }], guard := some (16, false) }) (v := undef) rfl (by kernel_rfl) (by kernel_rfl) (by kernel_rfl) (fun _ _ _ h => h) (Or.inr ⟨by kernel_rfl, rfl⟩) hS.out ?_
          simp only [Act.put, List.setIfInBounds_toArray, List.set_cons_zero, List.set_cons_succ]
          refine wpAnyH_take (i := 22) (oi := { dst := some 42, op := Op.unOp UnOp.not 4 (Operand.tmp 41), type := 4, pos := "frag.go:43", after := #[{ on := 21, ground := Ground.data }, { on := 16, ground := Ground.guard }], guard := some (16, false) }) (v := undef) rfl (by kernel_rfl) (by kernel_rfl) (by kernel_rfl) (fun _ _ _ h => h) (Or.inr ⟨by kernel_rfl, rfl⟩) hS.out ?_
          simp only [Act.put, List.setIfInBounds_toArray, List.set_cons_zero, List.set_cons_succ]
          refine wpAnyH_take (i := 23) (oi := { dst := some 43, op := Op.pick (Operand.tmp 36) (Operand.const (Value.bool true)) (Operand.tmp 42), type := 4, pos := "frag.go:43", after := #[{ on := 16, ground := Ground.data }, { on := 22, ground := Ground.data }], guard := none }) (v := (.bool true)) rfl (by kernel_rfl) (by kernel_rfl) (by kernel_rfl) (fun _ _ _ h => h) (Or.inl ⟨by kernel_rfl, fun w hC => by go_simp⟩) hS.out ?_
          simp only [Act.put, List.setIfInBounds_toArray, List.set_cons_zero, List.set_cons_succ]
          refine wpAnyH_done (by kernel_rfl) ?_ _
          go_wp2
          go_ret2
          exact join_no HNO.out (HB.out.trans ((below_one HWX.out bb).mono HB.out.size))
        | true =>
          cases hx : (y.x != (k : Int)) with
          | true =>
            have HNO : Hid (joinB L = false) := by show joinB L = false; rw [← HJJ.out, HOK.out]; simp at hx; simp [hx]
            go_wp2_with fail
            refine wp_region_held_drew (S := fun w' => (w'.cell? ⟨wr.heap.size, 0, none⟩ = some (.int .i64 y.f) ∧ w'.cell? ⟨wr.heap.size, 1, none⟩ = some (.int .i64 y.t) ∧ w'.cell? ⟨wr.heap.size, 2, none⟩ = some (.int .u64 y.i) ∧ w'.cell? ⟨wr.heap.size, 3, none⟩ = some (.int .i64 y.x) ∧ w'.cell? ⟨wr.heap.size, 4, none⟩ = some (.int .i64 y.c) ∧ w'.cell? ⟨wr.heap.size, 5, none⟩ = some (.slice y.so y.sn y.sc)) ∧ (w'.cell? ad = some (.int .i64 q.f) ∧ w'.cell? { block := ad.block, off := ad.off + 1 } = some (.int .i64 q.t) ∧ w'.cell? { block := ad.block, off := ad.off + 2 } = some (.int .u64 q.i) ∧ w'.cell? { block := ad.block, off := ad.off + 3 } = some (.int .i64 q.x) ∧ w'.cell? { block := ad.block, off := ad.off + 4 } = some (.int .i64 q.c) ∧ w'.cell? { block := ad.block, off := ad.off + 5 } = some (.slice q.so q.sn q.sc))) (by kernel_rfl) hS.out (fun _ => ?_)
            refine wpAnyH_take (i := 0) (oi := { dst := some 20, op := Op.load 35 (Operand.tmp 6), type := 35, pos := "frag.go:43", after := #[], guard := none }) (v := (.agg #[.int .i64 y.f, .int .i64 y.t, .int .u64 y.i, .int .i64 y.x, .int .i64 y.c, .slice y.so y.sn y.sc])) rfl (by kernel_rfl) (by kernel_rfl) (by kernel_rfl) (fun _ _ _ h => h) (Or.inl ⟨by kernel_rfl, fun w hC => by (obtain ⟨⟨p0, p1, p2, p3, p4, p5⟩, r0, r1, r2, r3, r4, r5⟩ := hC; go_simp)⟩) hS.out ?_
            simp only [Act.put, List.setIfInBounds_toArray, List.set_cons_zero, List.set_cons_succ]
            refine wpAnyH_ready (rs := [1]) (by kernel_rfl) (by simp) ?_
            refine AllReadyH.cons (o := { dst := some 21, op := Op.call { callee := Callee.value (Operand.func 10), args := #[Operand.tmp 20], argTypes := #[35] }, type := 4, pos := "frag.go:43", after := #[{ on := 0, ground := Ground.data }], guard := none }) rfl (fun K hK => ?_) AllReadyH.nil
            go_simp
            refine (may_any y _ hyn).mono ?_; rintro e wx ⟨rfl, bx⟩; rw [HM.out]
            have bb := below_one bb bx
            have hS := hide (And.intro (HBX.out.six bb) (HPX.out.six0 bb (by omega) q HQ.out))
            refine hK.out _ _ hS.out (fun _ => ?_)
            clear hK
            refine wpAnyH_take (i := 2) (oi := { dst := some 22, op := Op.unOp UnOp.not 4 (Operand.tmp 21), type := 4, pos := "frag.go:43", after := #[{ on := 1, ground := Ground.data }], guard := none }) (v := (.bool false)) rfl (by kernel_rfl) (by kernel_rfl) (by kernel_rfl) (fun _ _ _ h => h) (Or.inl ⟨by kernel_rfl, fun w hC => by go_simp⟩) hS.out ?_
            simp only [Act.put, List.setIfInBounds_toArray, List.set_cons_zero, List.set_cons_succ]
            refine wpAnyH_take (i := 3) (oi := { dst := some 23, op := Op.move (Operand.tmp 22), type := 4, pos := "frag.go:43", after := #[{ on := 2, ground := Ground.data }, { on := 1, ground := Ground.chain }], guard := none }) (v := (.bool false)) rfl (by kernel_rfl) (by kernel_rfl) (by kernel_rfl) (fun _ _ _ h => h) (Or.inl ⟨by kernel_rfl, fun w hC => by go_simp⟩) hS.out ?_
            simp only [Act.put, List.setIfInBounds_toArray, List.set_cons_zero, List.set_cons_succ]
            refine wpAnyH_take (i := 4) (oi := { dst := some 24, op := Op.fieldAddr 35 (Operand.tmp 6) 3, type := 0, pos := "frag.go:43", after := #[{ on := 3, ground := Ground.guard }], guard := some (3, false) }) (v := (.pointer (some ⟨wr.heap.size, 3, none⟩))) rfl (by kernel_rfl) (by kernel_rfl) (by kernel_rfl) (fun _ _ _ h => h) (Or.inl ⟨by kernel_rfl, fun w hC => by go_simp⟩) hS.out ?_
            simp only [Act.put, List.setIfInBounds_toArray, List.set_cons_zero, List.set_cons_succ]
            refine wpAnyH_take (i := 5) (oi := { dst := some 25, op := Op.load 3 (Operand.tmp 24), type := 3, pos := "frag.go:43", after := #[{ on := 4, ground := Ground.data }, { on := 3, ground := Ground.guard }], guard := some (3, false) }) (v := (.int .i64 y.x)) rfl (by kernel_rfl) (by kernel_rfl) (by kernel_rfl) (fun _ _ _ h => h) (Or.inl ⟨by kernel_rfl, fun w hC => by (obtain ⟨⟨p0, p1, p2, p3, p4, p5⟩, r0, r1, r2, r3, r4, r5⟩ := hC; go_simp)⟩) hS.out ?_
            simp only [Act.put, List.setIfInBounds_toArray, List.set_cons_zero, List.set_cons_succ]
            refine wpAnyH_take (i := 6) (oi := { dst := some 26, op := Op.move (Operand.tmp 5), type := 3, pos := "frag.go:43", after := #[{ on := 3, ground := Ground.guard }], guard := some (3, false) }) (v := (.int .i64 (k : Int))) rfl (by kernel_rfl) (by kernel_rfl) (by kernel_rfl) (fun _ _ _ h => h) (Or.inl ⟨by kernel_rfl, fun w hC => by go_simp⟩) hS.out ?_
            simp only [Act.put, List.setIfInBounds_toArray, List.set_cons_zero, List.set_cons_succ]
            refine wpAnyH_take (i := 7) (oi := { dst := some 27, op := Op.binOp BinOp.neq 3 (Operand.tmp 25) (Operand.tmp 26) 3, type := 4, pos := "frag.go:43", after := #[{ on := 5, ground := Ground.data }, { on := 6, ground := Ground.data }, { on := 3, ground := Ground.guard }], guard := some (3, false) }) (v := (.bool true)) rfl (by kernel_rfl) (by kernel_rfl) (by kernel_rfl) (fun _ _ _ h => h) (Or.inl ⟨by kernel_rfl, fun w hC => by go_simp⟩) hS.out ?_
            simp only [Act.put, List.setIfInBounds_toArray, List.set_cons_zero, List.set_cons_succ]
            refine wpAnyH_take (i := 8) (oi := { dst := some 28, op := Op.pick (Operand.tmp 23) (Operand.const (Value.bool true)) (Operand.tmp 27), type := 4, pos := "frag.go:43", after := #[{ on := 3, ground := Ground.data }, { on := 7, ground := Ground.data }], guard := none }) (v := (.bool true)) rfl (by kernel_rfl) (by kernel_rfl) (by kernel_rfl) (fun _ _ _ h => h) (Or.inl ⟨by kernel_rfl, fun w hC => by go_simp⟩) hS.out ?_
            simp only [Act.put, List.setIfInBounds_toArray, List.set_cons_zero, List.set_cons_succ]
            refine wpAnyH_take (i := 9) (oi := { dst := some 29, op := Op.move (Operand.tmp 28), type := 4, pos := "frag.go:43", after := #[{ on := 8, ground := Ground.data }, { on := 3, ground := Ground.chain }], guard := none }) (v := (.bool true)) rfl (by kernel_rfl) (by kernel_rfl) (by kernel_rfl) (fun _ _ _ h => h) (Or.inl ⟨by kernel_rfl, fun w hC => by go_simp⟩) hS.out ?_
            simp only [Act.put, List.setIfInBounds_toArray, List.set_cons_zero, List.set_cons_succ]
            refine wpAnyH_take (i := 10) (oi := { dst := some 30, op := Op.fieldAddr 35 (Operand.tmp 6) 4, type := 0, pos := "frag.go:43", after := #[{ on := 9, ground := Ground.guard }], guard := some (9, false) }) (v := undef) rfl (by kernel_rfl) (by kernel_rfl) (by kernel_rfl) (fun _ _ _ h => h) (Or.inr ⟨by kernel_rfl, rfl⟩) hS.out ?_
            simp only [Act.put, List.setIfInBounds_toArray, List.set_cons_zero, List.set_cons_succ]
            refine wpAnyH_take (i := 11) (oi := { dst := some 31, op := Op.load 3 (Operand.tmp 30), type := 3, pos := "frag.go:43", after := #[{ on := 10, ground := Ground.data }, { on := 9, ground := Ground.guard }], guard := some (9, false) }) (v := undef) rfl (by kernel_rfl) (by kernel_rfl) (by kernel_rfl) (fun _ _ _ h => h) (Or.inr ⟨by kernel_rfl, rfl⟩) hS.out ?_
            simp only [Act.put, List.setIfInBounds_toArray, List.set_cons_zero, List.set_cons_succ]
            refine wpAnyH_take (i := 12) (oi := { dst := some 32, op := Op.move (Operand.tmp 0), type := 41, pos := "frag.go:43", after := #[{ on := 9, ground := Ground.guard }], guard := some (9, false) }) (v := undef) rfl (by kernel_rfl) (by kernel_rfl) (by kernel_rfl) (fun _ _ _ h => h) (Or.inr ⟨by kernel_rfl, rfl⟩) hS.out ?_
            simp only [Act.put, List.setIfInBounds_toArray, List.set_cons_zero, List.set_cons_succ]
            refine wpAnyH_take (i := 13) (oi := { dst := some 33, op := Op.call { callee := Callee.builtin Builtin.len, args := #[Operand.tmp 32], argTypes := #[41] }, type := 3, pos := "frag.go:43", after := #[{ on := 12, ground := Ground.data }, { on := 9, ground := Ground.guard }], guard := some (9, false) }) (v := undef) rfl (by kernel_rfl) (by kernel_rfl) (by kernel_rfl) (fun _ _ _ h => h) (Or.inr ⟨by kernel_rfl, rfl⟩) hS.out ?_
            simp only [Act.put, List.setIfInBounds_toArray, List.set_cons_zero, List.set_cons_succ]
            refine wpAnyH_take (i := 14) (oi := { dst := some 34, op := Op.binOp BinOp.neq 3 (Operand.tmp 31) (Operand.tmp 33) 3, type := 4, pos := "frag.go:43", after := #[{ on := 11, ground := Ground.data }, { on := 13, ground := Ground.data }, { on := 9, ground := Ground.guard }], guard := some (9, false) }) (v := undef) rfl (by kernel_rfl) (by kernel_rfl) (by kernel_rfl) (fun _ _ _ h => h) (Or.inr ⟨by kernel_rfl, rfl⟩) hS.out ?_
            simp only [Act.put, List.setIfInBounds_toArray, List.set_cons_zero, List.set_cons_succ]
            refine wpAnyH_take (i := 15) (oi := { dst := some 35, op := Op.pick (Operand.tmp 29) (Operand.const (Value.bool true)) (Operand.tmp 34), type := 4, pos := "frag.go:43", after := #[{ on := 9, ground := Ground.data }, { on := 14, ground := Ground.data }], guard := none }) (v := (.bool true)) rfl (by kernel_rfl) (by kernel_rfl) (by kernel_rfl) (fun _ _ _ h => h) (Or.inl ⟨by kernel_rfl, fun w hC => by go_simp⟩) hS.out ?_
            simp only [Act.put, List.setIfInBounds_toArray, List.set_cons_zero, List.set_cons_succ]
            refine wpAnyH_take (i := 16) (oi := { dst := some 36, op := Op.move (Operand.tmp 35), type := 4, pos := "frag.go:43", after := #[{ on := 15, ground := Ground.data }, { on := 9, ground := Ground.chain }], guard := none }) (v := (.bool true)) rfl (by kernel_rfl) (by kernel_rfl) (by kernel_rfl) (fun _ _ _ h => h) (Or.inl ⟨by kernel_rfl, fun w hC => by go_simp⟩) hS.out ?_
            simp only [Act.put, List.setIfInBounds_toArray, List.set_cons_zero, List.set_cons_succ]
            refine wpAnyH_take (i := 17) (oi := { dst := some 37, op := Op.load 35 (Operand.tmp 6), type := 35, pos := "frag.go:43", after := #[{ on := 16, ground := Ground.guard }], guard := some (16, false) }) (v := undef) rfl (by kernel_rfl) (by kernel_rfl) (by kernel_rfl) (fun _ _ _ h => h) (Or.inr ⟨by kernel_rfl, rfl⟩) hS.out ?_
            simp only [Act.put, List.setIfInBounds_toArray, List.set_cons_zero, List.set_cons_succ]
            refine wpAnyH_take (i := 18) (oi := { dst := some 38, op := Op.move (Operand.tmp 0), type := 41, pos := "frag.go:43", after := #[{ on := 16, ground := Ground.guard }], guard := some (16, false) }) (v := undef) rfl (by kernel_rfl) (by kernel_rfl) (by kernel_rfl) (fun _ _ _ h => h) (Or.inr ⟨by kernel_rfl, rfl⟩) hS.out ?_
            simp only [Act.put, List.setIfInBounds_toArray, List.set_cons_zero, List.set_cons_succ]
            refine wpAnyH_take (i := 19) (oi := { dst := some 39, op := Op.indexAddr 41 (Operand.tmp 38) (Operand.const (Value.int IntKind.i64 0)), type := 0, pos := "frag.go:43", after := #[{ on := 18, ground := Ground.data }, { on := 16, ground := Ground.guard }], guard := some (16, false) }) (v := undef) rfl (by kernel_rfl) (by kernel_rfl) (by kernel_rfl) (fun _ _ _ h => h) (Or.inr ⟨by kernel_rfl, rfl⟩) hS.out ?_
            simp only [Act.put, List.setIfInBounds_toArray, List.set_cons_zero, List.set_cons_succ]
            refine wpAnyH_take (i := 20) (oi := { dst := some 40, op := Op.load 35 (Operand.tmp 39), type := 35, pos := "frag.go:43", after := #[{ on := 19, ground := Ground.data }, { on := 16, ground := Ground.guard }], guard := some (16, false) }) (v := undef) rfl (by kernel_rfl) (by kernel_rfl) (by kernel_rfl) (fun _ _ _ h => h) (Or.inr ⟨by kernel_rfl, rfl⟩) hS.out ?_
            simp only [Act.put, List.setIfInBounds_toArray, List.set_cons_zero, List.set_cons_succ]
            refine wpAnyH_take (i := 21) (oi := { dst := some 41, op := Op.call { callee := Callee.value (Operand.func 21), args := #[Operand.tmp 37, Operand.tmp 40], argTypes := #[35, 35] }, type := 4, pos := "frag.go:43", after := #[{ on := 17, ground := Ground.data }, { on := 20, ground := Ground.data }, { on := 16, ground := Ground.chain }, { on := 16, ground := Ground.guard }], guard := some (16, false) }) (v := undef) rfl (by kernel_rfl) (by kernel_rfl) (by kernel_rfl) (fun _ _ _ h => h) (Or.inr ⟨by kernel_rfl, rfl⟩) hS.out ?_
            simp only [Act.put, List.setIfInBounds_toArray, List.set_cons_zero, List.set_cons_succ]
            refine wpAnyH_take (i := 22) (oi := { dst := some 42, op := Op.unOp UnOp.not 4 (Operand.tmp 41), type := 4, pos := "frag.go:43", after := #[{ on := 21, ground := Ground.data }, { on := 16, ground := Ground.guard }], guard := some (16, false) }) (v := undef) rfl (by kernel_rfl) (by kernel_rfl) (by kernel_rfl) (fun _ _ _ h => h) (Or.inr ⟨by kernel_rfl, rfl⟩) hS.out ?_
            simp only [Act.put, List.setIfInBounds_toArray, List.set_cons_zero, List.set_cons_succ]
            refine wpAnyH_take (i := 23) (oi := { dst := some 43, op := Op.pick (Operand.tmp 36) (Operand.const (Value.bool true)) (Operand.tmp 42), type := 4, pos := "frag.go:43", after := #[{ on := 16, ground := Ground.data }, { on := 22, ground := Ground.data }], guard := none }) (v := (.bool true)) rfl (by kernel_rfl) (by kernel_rfl) (by kernel_rfl) (fun _ _ _ h => h) (Or.inl ⟨by kernel_rfl, fun w hC => by go_simp⟩) hS.out ?_
            simp only [Act.put, List.setIfInBounds_toArray, List.set_cons_zero, List.set_cons_succ]
            refine wpAnyH_done (by kernel_rfl) ?_ _
            go_wp2
            go_ret2
            exact join_no HNO.out (HB.out.trans ((below_one HWX.out bb).mono HB.out.size))
          | false =>
            cases hc : (y.c != (n : Int)) with
            | true =>
              have HNO : Hid (joinB L = false) := by show joinB L = false; rw [← HJJ.out, HOK.out]; simp at hc; simp [hc]
              go_wp2_with fail
              refine wp_region_held_drew (S := fun w' => (w'.cell? ⟨wr.heap.size, 0, none⟩ = some (.int .i64 y.f) ∧ w'.cell? ⟨wr.heap.size, 1, none⟩ = some (.int .i64 y.t) ∧ w'.cell? ⟨wr.heap.size, 2, none⟩ = some (.int .u64 y.i) ∧ w'.cell? ⟨wr.heap.size, 3, none⟩ = some (.int .i64 y.x) ∧ w'.cell? ⟨wr.heap.size, 4, none⟩ = some (.int .i64 y.c) ∧ w'.cell? ⟨wr.heap.size, 5, none⟩ = some (.slice y.so y.sn y.sc)) ∧ (w'.cell? ad = some (.int .i64 q.f) ∧ w'.cell? { block := ad.block, off := ad.off + 1 } = some (.int .i64 q.t) ∧ w'.cell? { block := ad.block, off := ad.off + 2 } = some (.int .u64 q.i) ∧ w'.cell? { block := ad.block, off := ad.off + 3 } = some (.int .i64 q.x) ∧ w'.cell? { block := ad.block, off := ad.off + 4 } = some (.int .i64 q.c) ∧ w'.cell? { block := ad.block, off := ad.off + 5 } = some (.slice q.so q.sn q.sc))) (by kernel_rfl) hS.out (fun _ => ?_)
              refine wpAnyH_take (i := 0) (oi := { dst := some 20, op := Op.load 35 (Operand.tmp 6), type := 35, pos := "frag.go:43", after := #[], guard := none }) (v := (.agg #[.int .i64 y.f, .int .i64 y.t, .int .u64 y.i, .int .i64 y.x, .int .i64 y.c, .slice y.so y.sn y.sc])) rfl (by kernel_rfl) (by kernel_rfl) (by kernel_rfl) (fun _ _ _ h => h) (Or.inl ⟨by kernel_rfl, fun w hC => by (obtain ⟨⟨p0, p1, p2, p3, p4, p5⟩, r0, r1, r2, r3, r4, r5⟩ := hC; go_simp)⟩) hS.out ?_
              simp only [Act.put, List.setIfInBounds_toArray, List.set_cons_zero, List.set_cons_succ]
              refine wpAnyH_ready (rs := [1]) (by kernel_rfl) (by simp) ?_
              refine AllReadyH.cons (o := { dst := some 21, op := Op.call { callee := Callee.value (Operand.func 10), args := #[Operand.tmp 20], argTypes := #[35] }, type := 4, pos := "frag.go:43", after := #[{ on := 0, ground := Ground.data }], guard := none }) rfl (fun K hK => ?_) AllReadyH.nil
              go_simp
              refine (may_any y _ hyn).mono ?_; rintro e wx ⟨rfl, bx⟩; rw [HM.out]
              have bb := below_one bb bx
              have hS := hide (And.intro (HBX.out.six bb) (HPX.out.six0 bb (by omega) q HQ.out))
              refine hK.out _ _ hS.out (fun _ => ?_)
              clear hK
              refine wpAnyH_take (i := 2) (oi := { dst := some 22, op := Op.unOp UnOp.not 4 (Operand.tmp 21), type := 4, pos := "frag.go:43", after := #[{ on := 1, ground := Ground.data }], guard := none }) (v := (.bool false)) rfl (by kernel_rfl) (by kernel_rfl) (by kernel_rfl) (fun _ _ _ h => h) (Or.inl ⟨by kernel_rfl, fun w hC => by go_simp⟩) hS.out ?_
              simp only [Act.put, List.setIfInBounds_toArray, List.set_cons_zero, List.set_cons_succ]
              refine wpAnyH_take (i := 3) (oi := { dst := some 23, op := Op.move (Operand.tmp 22), type := 4, pos := "frag.go:43", after := #[{ on := 2, ground := Ground.data }, { on := 1, ground := Ground.chain }], guard := none }) (v := (.bool false)) rfl (by kernel_rfl) (by kernel_rfl) (by kernel_rfl) (fun _ _ _ h => h) (Or.inl ⟨by kernel_rfl, fun w hC => by go_simp⟩) hS.out ?_
              simp only [Act.put, List.setIfInBounds_toArray, List.set_cons_zero, List.set_cons_succ]
              refine wpAnyH_take (i := 4) (oi := { dst := some 24, op := Op.fieldAddr 35 (Operand.tmp 6) 3, type := 0, pos := "frag.go:43", after := #[{ on := 3, ground := Ground.guard }], guard := some (3, false) }) (v := (.pointer (some ⟨wr.heap.size, 3, none⟩))) rfl (by kernel_rfl) (by kernel_rfl) (by kernel_rfl) (fun _ _ _ h => h) (Or.inl ⟨by kernel_rfl, fun w hC => by go_simp⟩) hS.out ?_
              simp only [Act.put, List.setIfInBounds_toArray, List.set_cons_zero, List.set_cons_succ]
              refine wpAnyH_take (i := 5) (oi := { dst := some 25, op := Op.load 3 (Operand.tmp 24), type := 3, pos := "frag.go:43", after := #[{ on := 4, ground := Ground.data }, { on := 3, ground := Ground.guard }], guard := some (3, false) }) (v := (.int .i64 y.x)) rfl (by kernel_rfl) (by kernel_rfl) (by kernel_rfl) (fun _ _ _ h => h) (Or.inl ⟨by kernel_rfl, fun w hC => by (obtain ⟨⟨p0, p1, p2, p3, p4, p5⟩, r0, r1, r2, r3, r4, r5⟩ := hC; go_simp)⟩) hS.out ?_
              simp only [Act.put, List.setIfInBounds_toArray, List.set_cons_zero, List.set_cons_succ]
              refine wpAnyH_take (i := 6) (oi := { dst := some 26, op := Op.move (Operand.tmp 5), type := 3, pos := "frag.go:43", after := #[{ on := 3, ground := Ground.guard }], guard := some (3, false) }) (v := (.int .i64 (k : Int))) rfl (by kernel_rfl) (by kernel_rfl) (by kernel_rfl) (fun _ _ _ h => h) (Or.inl ⟨by kernel_rfl, fun w hC => by go_simp⟩) hS.out ?_
              simp only [Act.put, List.setIfInBounds_toArray, List.set_cons_zero, List.set_cons_succ]
              refine wpAnyH_take (i := 7) (oi := { dst := some 27, op := Op.binOp BinOp.neq 3 (Operand.tmp 25) (Operand.tmp 26) 3, type := 4, pos := "frag.go:43", after := #[{ on := 5, ground := Ground.data }, { on := 6, ground := Ground.data }, { on := 3, ground := Ground.guard }], guard := some (3, false) }) (v := (.bool false)) rfl (by kernel_rfl) (by kernel_rfl) (by kernel_rfl) (fun _ _ _ h => h) (Or.inl ⟨by kernel_rfl, fun w hC => by go_simp⟩) hS.out ?_
              simp only [Act.put, List.setIfInBounds_toArray, List.set_cons_zero, List.set_cons_succ]
              refine wpAnyH_take (i := 8) (oi := { dst := some 28, op := Op.pick (Operand.tmp 23) (Operand.const (Value.bool true)) (Operand.tmp 27), type := 4, pos := "frag.go:43", after := #[{ on := 3, ground := Ground.data }, { on := 7, ground := Ground.data }], guard := none }) (v := (.bool false)) rfl (by kernel_rfl) (by kernel_rfl) (by kernel_rfl) (fun _ _ _ h => h) (Or.inl ⟨by kernel_rfl, fun w hC => by go_simp⟩) hS.out ?_
              simp only [Act.put, List.setIfInBounds_toArray, List.set_cons_zero, List.set_cons_succ]
              refine wpAnyH_take (i := 9) (oi := { dst := some 29, op := Op.move (Operand.tmp 28), type := 4, pos := "frag.go:43", after := #[{ on := 8, ground := Ground.data }, { on := 3, ground := Ground.chain }], guard := none }) (v := (.bool false)) rfl (by kernel_rfl) (by kernel_rfl) (by kernel_rfl) (fun _ _ _ h => h) (Or.inl ⟨by kernel_rfl, fun w hC => by go_simp⟩) hS.out ?_
              simp only [Act.put, List.setIfInBounds_toArray, List.set_cons_zero, List.set_cons_succ]
              refine wpAnyH_take (i := 10) (oi := { dst := some 30, op := Op.fieldAddr 35 (Operand.tmp 6) 4, type := 0, pos := "frag.go:43", after := #[{ on := 9, ground := Ground.guard }], guard := some (9, false) }) (v := (.pointer (some ⟨wr.heap.size, 4, none⟩))) rfl (by kernel_rfl) (by kernel_rfl) (by kernel_rfl) (fun _ _ _ h => h) (Or.inl ⟨by kernel_rfl, fun w hC => by go_simp⟩) hS.out ?_
              simp only [Act.put, List.setIfInBounds_toArray, List.set_cons_zero, List.set_cons_succ]
              refine wpAnyH_take (i := 11) (oi := { dst := some 31, op := Op.load 3 (Operand.tmp 30), type := 3, pos := "frag.go:43", after := #[{ on := 10, ground := Ground.data }, { on := 9, ground := Ground.guard }], guard := some (9, false) }) (v := (.int .i64 y.c)) rfl (by kernel_rfl) (by kernel_rfl) (by kernel_rfl) (fun _ _ _ h => h) (Or.inl ⟨by kernel_rfl, fun w hC => by (obtain ⟨⟨p0, p1, p2, p3, p4, p5⟩, r0, r1, r2, r3, r4, r5⟩ := hC; go_simp)⟩) hS.out ?_
              simp only [Act.put, List.setIfInBounds_toArray, List.set_cons_zero, List.set_cons_succ]
              refine wpAnyH_take (i := 12) (oi := { dst := some 32, op := Op.move (Operand.tmp 0), type := 41, pos := "frag.go:43", after := #[{ on := 9, ground := Ground.guard }], guard := some (9, false) }) (v := (.slice (some ad) n cap)) rfl (by kernel_rfl) (by kernel_rfl) (by kernel_rfl) (fun _ _ _ h => h) (Or.inl ⟨by kernel_rfl, fun w hC => by go_simp⟩) hS.out ?_
              simp only [Act.put, List.setIfInBounds_toArray, List.set_cons_zero, List.set_cons_succ]
              refine wpAnyH_take (i := 13) (oi := { dst := some 33, op := Op.call { callee := Callee.builtin Builtin.len, args := #[Operand.tmp 32], argTypes := #[41] }, type := 3, pos := "frag.go:43", after := #[{ on := 12, ground := Ground.data }, { on := 9, ground := Ground.guard }], guard := some (9, false) }) (v := (.int .i64 (n : Int))) rfl (by kernel_rfl) (by kernel_rfl) (by kernel_rfl) (fun _ _ _ h => h) (Or.inl ⟨by kernel_rfl, fun w hC => by go_simp⟩) hS.out ?_
              simp only [Act.put, List.setIfInBounds_toArray, List.set_cons_zero, List.set_cons_succ]
              refine wpAnyH_take (i := 14) (oi := { dst := some 34, op := Op.binOp BinOp.neq 3 (Operand.tmp 31) (Operand.tmp 33) 3, type := 4, pos := "frag.go:43", after := #[{ on := 11, ground := Ground.data }, { on := 13, ground := Ground.data }, { on := 9, ground := Ground.guard }], guard := some (9, false) }) (v := (.bool true)) rfl (by kernel_rfl) (by kernel_rfl) (by kernel_rfl) (fun _ _ _ h => h) (Or.inl ⟨by kernel_rfl, fun w hC => by go_simp⟩) hS.out ?_
              simp only [Act.put, List.setIfInBounds_toArray, List.set_cons_zero, List.set_cons_succ]
              refine wpAnyH_take (i := 15) (oi := { dst := some 35, op := Op.pick (Operand.tmp 29) (Operand.const (Value.bool true)) (Operand.tmp 34), type := 4, pos := "frag.go:43", after := #[{ on := 9, ground := Ground.data }, { on := 14, ground := Ground.data }], guard := none }) (v := (.bool true)) rfl (by kernel_rfl) (by kernel_rfl) (by kernel_rfl) (fun _ _ _ h => h) (Or.inl ⟨by kernel_rfl, fun w hC => by go_simp⟩) hS.out ?_
              simp only [Act.put, List.setIfInBounds_toArray, List.set_cons_zero, List.set_cons_succ]
              refine wpAnyH_take (i := 16) (oi := { dst := some 36, op := Op.move (Operand.tmp 35), type := 4, pos := "frag.go:43", after := #[{ on := 15, ground := Ground.data }, { on := 9, ground := Ground.chain }], guard := none }) (v := (.bool true)) rfl (by kernel_rfl) (by kernel_rfl) (by kernel_rfl) (fun _ _ _ h => h) (Or.inl ⟨by kernel_rfl, fun w hC => by go_simp⟩) hS.out ?_
              simp only [Act.put, List.setIfInBounds_toArray, List.set_cons_zero, List.set_cons_succ]
              refine wpAnyH_take (i := 17) (oi := { dst := some 37, op := Op.load 35 (Operand.tmp 6), type := 35, pos := "frag.go:43", after := #[{ on := 16, ground := Ground.guard }], guard := some (16, false) }) (v := undef) rfl (by kernel_rfl) (by kernel_rfl) (by kernel_rfl) (fun _ _ _ h => h) (Or.inr ⟨by kernel_rfl, rfl⟩) hS.out ?_
              simp only [Act.put, List.setIfInBounds_toArray, List.set_cons_zero, List.set_cons_succ]
              refine wpAnyH_take (i := 18) (oi := { dst := some 38, op := Op.move (Operand.tmp 0), type := 41, pos := "frag.go:43", after := #[{ on := 16, ground := Ground.guard }], guard := some (16, false) }) (v := undef) rfl (by kernel_rfl) (by kernel_rfl) (by kernel_rfl) (fun _ _ _ h => h) (Or.inr ⟨by kernel_rfl, rfl⟩) hS.out ?_
              simp only [Act.put, List.setIfInBounds_toArray, List.set_cons_zero, List.set_cons_succ]
              refine wpAnyH_take (i := 19) (oi := { dst := some 39, op := Op.indexAddr 41 (Operand.tmp 38) (Operand.const (Value.int IntKind.i64 0)), type := 0, pos := "frag.go:43", after := #[{ on := 18, ground := Ground.data }, { on := 16, ground := Ground.guard }], guard := some (16, false) }) (v := undef) rfl (by kernel_rfl) (by kernel_rfl) (by kernel_rfl) (fun _ _ _ h => h) (Or.inr ⟨by kernel_rfl, rfl⟩) hS.out ?_
              simp only [Act.put, List.setIfInBounds_toArray, List.set_cons_zero, List.set_cons_succ]
              refine wpAnyH_take (i := 20) (oi := { dst := some 40, op := Op.load 35 (Operand.tmp 39), type := 35, pos := "frag.go:43", after := #[{ on := 19, ground := Ground.data }, { on := 16, ground := Ground.guard }], guard := some (16, false) }) (v := undef) rfl (by kernel_rfl) (by kernel_rfl) (by kernel_rfl) (fun _ _ _ h => h) (Or.inr ⟨by kernel_rfl, rfl⟩) hS.out ?_
              simp only [Act.put, List.setIfInBounds_toArray, List.set_cons_zero, List.set_cons_succ]
              refine wpAnyH_take (i := 21) (oi := { dst := some 41, op := Op.call { callee := Callee.value (Operand.func 21), args := #[Operand.tmp 37, Operand.tmp 40], argTypes := #[35, 35] }, type := 4, pos := "frag.go:43", after := #[{ on := 17, ground := Ground.data }, { on := 20, ground := Ground.data }, { on := 16, ground := Ground.chain }, { on := 16, ground := Ground.guard }], guard := some (16, false) }) (v := undef) rfl (by kernel_rfl) (by kernel_rfl) (by kernel_rfl) (fun _ _ _ h => h) (Or.inr ⟨by kernel_rfl, rfl⟩) hS.out ?_
              simp only [Act.put, List.setIfInBounds_toArray, List.set_cons_zero, List.set_cons_succ]
              refine wpAnyH_take (i := 22) (oi := { dst := some 42, op := Op.unOp UnOp.not 4 (Operand.tmp 41), type := 4, pos := "frag.go:43", after := #[{ on := 21, ground := Ground.data }, { on := 16, ground := Ground.guard }], guard := some (16, false) }) (v := undef) rfl (by kernel_rfl) (by kernel_rfl) (by kernel_rfl) (fun _ _ _ h => h) (Or.inr ⟨by kernel_rfl, rfl⟩) hS.out ?_
              simp only [Act.put, List.setIfInBounds_toArray, List.set_cons_zero, List.set_cons_succ]
              refine wpAnyH_take (i := 23) (oi := { dst := some 43, op := Op.pick (Operand.tmp 36) (Operand.const (Value.bool true)) (Operand.tmp 42), type := 4, pos := "frag.go:43", after := #[{ on := 16, ground := Ground.data }, { on := 22, ground := Ground.data }], guard := none }) (v := (.bool true)) rfl (by kernel_rfl) (by kernel_rfl) (by kernel_rfl) (fun _ _ _ h => h) (Or.inl ⟨by kernel_rfl, fun w hC => by go_simp⟩) hS.out ?_
              simp only [Act.put, List.setIfInBounds_toArray, List.set_cons_zero, List.set_cons_succ]
              refine wpAnyH_done (by kernel_rfl) ?_ _
              go_wp2
              go_ret2
              exact join_no HNO.out (HB.out.trans ((below_one HWX.out bb).mono HB.out.size))
            | false =>
              obtain ⟨b, hb⟩ : ∃ b, y.with q = b := ⟨_, rfl⟩
              have HWI := hide hb
              clear hb
              cases b with
              | false =>
                have HNO : Hid (joinB L = false) := by show joinB L = false; rw [← HJJ.out, HOK.out]; rw [HWI.out]; simp
                go_wp2_with fail
                refine wp_region_held_drew (S := fun w' => (w'.cell? ⟨wr.heap.size, 0, none⟩ = some (.int .i64 y.f) ∧ w'.cell? ⟨wr.heap.size, 1, none⟩ = some (.int .i64 y.t) ∧ w'.cell? ⟨wr.heap.size, 2, none⟩ = some (.int .u64 y.i) ∧ w'.cell? ⟨wr.heap.size, 3, none⟩ = some (.int .i64 y.x) ∧ w'.cell? ⟨wr.heap.size, 4, none⟩ = some (.int .i64 y.c) ∧ w'.cell? ⟨wr.heap.size, 5, none⟩ = some (.slice y.so y.sn y.sc)) ∧ (w'.cell? ad = some (.int .i64 q.f) ∧ w'.cell? { block := ad.block, off := ad.off + 1 } = some (.int .i64 q.t) ∧ w'.cell? { block := ad.block, off := ad.off + 2 } = some (.int .u64 q.i) ∧ w'.cell? { block := ad.block, off := ad.off + 3 } = some (.int .i64 q.x) ∧ w'.cell? { block := ad.block, off := ad.off + 4 } = some (.int .i64 q.c) ∧ w'.cell? { block := ad.block, off := ad.off + 5 } = some (.slice q.so q.sn q.sc))) (by kernel_rfl) hS.out (fun _ => ?_)
                refine wpAnyH_take (i := 0) (oi := { dst := some 20, op := Op.load 35 (Operand.tmp 6), type := 35, pos := "frag.go:43", after := #[], guard := none }) (v := (.agg #[.int .i64 y.f, .int .i64 y.t, .int .u64 y.i, .int .i64 y.x, .int .i64 y.c, .slice y.so y.sn y.sc])) rfl (by kernel_rfl) (by kernel_rfl) (by kernel_rfl) (fun _ _ _ h => h) (Or.inl ⟨by kernel_rfl, fun w hC => by (obtain ⟨⟨p0, p1, p2, p3, p4, p5⟩, r0, r1, r2, r3, r4, r5⟩ := hC; go_simp)⟩) hS.out ?_
                simp only [Act.put, List.setIfInBounds_toArray, List.set_cons_zero, List.set_cons_succ]
                refine wpAnyH_ready (rs := [1]) (by kernel_rfl) (by simp) ?_
                refine AllReadyH.cons (o := { dst := some 21, op := Op.call { callee := Callee.value (Operand.func 10), args := #[Operand.tmp 20], argTypes := #[35] }, type := 4, pos := "frag.go:43", after := #[{ on := 0, ground := Ground.data }], guard := none }) rfl (fun K hK => ?_) AllReadyH.nil
                go_simp
                refine (may_any y _ hyn).mono ?_; rintro e wx ⟨rfl, bx⟩; rw [HM.out]
                have bb := below_one bb bx
                have hS := hide (And.intro (HBX.out.six bb) (HPX.out.six0 bb (by omega) q HQ.out))
                refine hK.out _ _ hS.out (fun _ => ?_)
                clear hK
                refine wpAnyH_take (i := 2) (oi := { dst := some 22, op := Op.unOp UnOp.not 4 (Operand.tmp 21), type := 4, pos := "frag.go:43", after := #[{ on := 1, ground := Ground.data }], guard := none }) (v := (.bool false)) rfl (by kernel_rfl) (by kernel_rfl) (by kernel_rfl) (fun _ _ _ h => h) (Or.inl ⟨by kernel_rfl, fun w hC => by go_simp⟩) hS.out ?_
                simp only [Act.put, List.setIfInBounds_toArray, List.set_cons_zero, List.set_cons_succ]
                refine wpAnyH_take (i := 3) (oi := { dst := some 23, op := Op.move (Operand.tmp 22), type := 4, pos := "frag.go:43", after := #[{ on := 2, ground := Ground.data }, { on := 1, ground := Ground.chain }], guard := none }) (v := (.bool false)) rfl (by kernel_rfl) (by kernel_rfl) (by kernel_rfl) (fun _ _ _ h => h) (Or.inl ⟨by kernel_rfl, fun w hC => by go_simp⟩) hS.out ?_
                simp only [Act.put, List.setIfInBounds_toArray, List.set_cons_zero, List.set_cons_succ]
                refine wpAnyH_take (i := 4) (oi := { dst := some 24, op := Op.fieldAddr 35 (Operand.tmp 6) 3, type := 0, pos := "frag.go:43", after := #[{ on := 3, ground := Ground.guard }], guard := some (3, false) }) (v := (.pointer (some ⟨wr.heap.size, 3, none⟩))) rfl (by kernel_rfl) (by kernel_rfl) (by kernel_rfl) (fun _ _ _ h => h) (Or.inl ⟨by kernel_rfl, fun w hC => by go_simp⟩) hS.out ?_
                simp only [Act.put, List.setIfInBounds_toArray, List.set_cons_zero, List.set_cons_succ]
                refine wpAnyH_take (i := 5) (oi := { dst := some 25, op := Op.load 3 (Operand.tmp 24), type := 3, pos := "frag.go:43", after := #[{ on := 4, ground := Ground.data }, { on := 3, ground := Ground.guard }], guard := some (3, false) }) (v := (.int .i64 y.x)) rfl (by kernel_rfl) (by kernel_rfl) (by kernel_rfl) (fun _ _ _ h => h) (Or.inl ⟨by kernel_rfl, fun w hC => by (obtain ⟨⟨p0, p1, p2, p3, p4, p5⟩, r0, r1, r2, r3, r4, r5⟩ := hC; go_simp)⟩) hS.out ?_
                simp only [Act.put, List.setIfInBounds_toArray, List.set_cons_zero, List.set_cons_succ]
                refine wpAnyH_take (i := 6) (oi := { dst := some 26, op := Op.move (Operand.tmp 5), type := 3, pos := "frag.go:43", after := #[{ on := 3, ground := Ground.guard }], guard := some (3, false) }) (v := (.int .i64 (k : Int))) rfl (by kernel_rfl) (by kernel_rfl) (by kernel_rfl) (fun _ _ _ h => h) (Or.inl ⟨by kernel_rfl, fun w hC => by go_simp⟩) hS.out ?_
                simp only [Act.put, List.setIfInBounds_toArray, List.set_cons_zero, List.set_cons_succ]
                refine wpAnyH_take (i := 7) (oi := { dst := some 27, op := Op.binOp BinOp.neq 3 (Operand.tmp 25) (Operand.tmp 26) 3, type := 4, pos := "frag.go:43", after := #[{ on := 5, ground := Ground.data }, { on := 6, ground := Ground.data }, { on := 3, ground := Ground.guard }], guard := some (3, false) }) (v := (.bool false)) rfl (by kernel_rfl) (by kernel_rfl) (by kernel_rfl) (fun _ _ _ h => h) (Or.inl ⟨by kernel_rfl, fun w hC => by go_simp⟩) hS.out ?_
                simp only [Act.put, List.setIfInBounds_toArray, List.set_cons_zero, List.set_cons_succ]
                refine wpAnyH_take (i := 8) (oi := { dst := some 28, op := Op.pick (Operand.tmp 23) (Operand.const (Value.bool true)) (Operand.tmp 27), type := 4, pos := "frag.go:43", after := #[{ on := 3, ground := Ground.data }, { on := 7, ground := Ground.data }], guard := none }) (v := (.bool false)) rfl (by kernel_rfl) (by kernel_rfl) (by kernel_rfl) (fun _ _ _ h => h) (Or.inl ⟨by kernel_rfl, fun w hC => by go_simp⟩) hS.out ?_
                simp only [Act.put, List.setIfInBounds_toArray, List.set_cons_zero, List.set_cons_succ]
                refine wpAnyH_take (i := 9) (oi := { dst := some 29, op := Op.move (Operand.tmp 28), type := 4, pos := "frag.go:43", after := #[{ on := 8, ground := Ground.data }, { on := 3, ground := Ground.chain }], guard := none }) (v := (.bool false)) rfl (by kernel_rfl) (by kernel_rfl) (by kernel_rfl) (fun _ _ _ h => h) (Or.inl ⟨by kernel_rfl, fun w hC => by go_simp⟩) hS.out ?_
                simp only [Act.put, List.setIfInBounds_toArray, List.set_cons_zero, List.set_cons_succ]
                refine wpAnyH_take (i := 10) (oi := { dst := some 30, op := Op.fieldAddr 35 (Operand.tmp 6) 4, type := 0, pos := "frag.go:43", after := #[{ on := 9, ground := Ground.guard }], guard := some (9, false) }) (v := (.pointer (some ⟨wr.heap.size, 4, none⟩))) rfl (by kernel_rfl) (by kernel_rfl) (by kernel_rfl) (fun _ _ _ h => h) (Or.inl ⟨by kernel_rfl, fun w hC => by go_simp⟩) hS.out ?_
                simp only [Act.put, List.setIfInBounds_toArray, List.set_cons_zero, List.set_cons_succ]
                refine wpAnyH_take (i := 11) (oi := { dst := some 31, op := Op.load 3 (Operand.tmp 30), type := 3, pos := "frag.go:43", after := #[{ on := 10, ground := Ground.data }, { on := 9, ground := Ground.guard }], guard := some (9, false) }) (v := (.int .i64 y.c)) rfl (by kernel_rfl) (by kernel_rfl) (by kernel_rfl) (fun _ _ _ h => h) (Or.inl ⟨by kernel_rfl, fun w hC => by (obtain ⟨⟨p0, p1, p2, p3, p4, p5⟩, r0, r1, r2, r3, r4, r5⟩ := hC; go_simp)⟩) hS.out ?_
                simp only [Act.put, List.setIfInBounds_toArray, List.set_cons_zero, List.set_cons_succ]
                refine wpAnyH_take (i := 12) (oi := { dst := some 32, op := Op.move (Operand.tmp 0), type := 41, pos := "frag.go:43", after := #[{ on := 9, ground := Ground.guard }], guard := some (9, false) }) (v := (.slice (some ad) n cap)) rfl (by kernel_rfl) (by kernel_rfl) (by kernel_rfl) (fun _ _ _ h => h) (Or.inl ⟨by kernel_rfl, fun w hC => by go_simp⟩) hS.out ?_
                simp only [Act.put, List.setIfInBounds_toArray, List.set_cons_zero, List.set_cons_succ]
                refine wpAnyH_take (i := 13) (oi := { dst := some 33, op := Op.call { callee := Callee.builtin Builtin.len, args := #[Operand.tmp 32], argTypes := #[41] }, type := 3, pos := "frag.go:43", after := #[{ on := 12, ground := Ground.data }, { on := 9, ground := Ground.guard }], guard := some (9, false) }) (v := (.int .i64 (n : Int))) rfl (by kernel_rfl) (by kernel_rfl) (by kernel_rfl) (fun _ _ _ h => h) (Or.inl ⟨by kernel_rfl, fun w hC => by go_simp⟩) hS.out ?_
                simp only [Act.put, List.setIfInBounds_toArray, List.set_cons_zero, List.set_cons_succ]
                refine wpAnyH_take (i := 14) (oi := { dst := some 34, op := Op.binOp BinOp.neq 3 (Operand.tmp 31) (Operand.tmp 33) 3, type := 4, pos := "frag.go:43", after := #[{ on := 11, ground := Ground.data }, { on := 13, ground := Ground.data }, { on := 9, ground := Ground.guard }], guard := some (9, false) }) (v := (.bool false)) rfl (by kernel_rfl) (by kernel_rfl) (by kernel_rfl) (fun _ _ _ h => h) (Or.inl ⟨by kernel_rfl, fun w hC => by go_simp⟩) hS.out ?_
                simp only [Act.put, List.setIfInBounds_toArray, List.set_cons_zero, List.set_cons_succ]
                refine wpAnyH_take (i := 15) (oi := { dst := some 35, op := Op.pick (Operand.tmp 29) (Operand.const (Value.bool true)) (Operand.tmp 34), type := 4, pos := "frag.go:43", after := #[{ on := 9, ground := Ground.data }, { on := 14, ground := Ground.data }], guard := none }) (v := (.bool false)) rfl (by kernel_rfl) (by kernel_rfl) (by kernel_rfl) (fun _ _ _ h => h) (Or.inl ⟨by kernel_rfl, fun w hC => by go_simp⟩) hS.out ?_
                simp only [Act.put, List.setIfInBounds_toArray, List.set_cons_zero, List.set_cons_succ]
                refine wpAnyH_take (i := 16) (oi := { dst := some 36, op := Op.move (Operand.tmp 35), type := 4, pos := "frag.go:43", after := #[{ on := 15, ground := Ground.data }, { on := 9, ground := Ground.chain }], guard := none }) (v := (.bool false)) rfl (by kernel_rfl) (by kernel_rfl) (by kernel_rfl) (fun _ _ _ h => h) (Or.inl ⟨by kernel_rfl, fun w hC => by go_simp⟩) hS.out ?_
                simp only [Act.put, List.setIfInBounds_toArray, List.set_cons_zero, List.set_cons_succ]
                refine wpAnyH_take (i := 17) (oi := { dst := some 37, op := Op.load 35 (Operand.tmp 6), type := 35, pos := "frag.go:43", after := #[{ on := 16, ground := Ground.guard }], guard := some (16, false) }) (v := (.agg #[.int .i64 y.f, .int .i64 y.t, .int .u64 y.i, .int .i64 y.x, .int .i64 y.c, .slice y.so y.sn y.sc])) rfl (by kernel_rfl) (by kernel_rfl) (by kernel_rfl) (fun _ _ _ h => h) (Or.inl ⟨by kernel_rfl, fun w hC => by (obtain ⟨⟨p0, p1, p2, p3, p4, p5⟩, r0, r1, r2, r3, r4, r5⟩ := hC; go_simp)⟩) hS.out ?_
                simp only [Act.put, List.setIfInBounds_toArray, List.set_cons_zero, List.set_cons_succ]
                refine wpAnyH_take (i := 18) (oi := { dst := some 38, op := Op.move (Operand.tmp 0), type := 41, pos := "frag.go:43", after := #[{ on := 16, ground := Ground.guard }], guard := some (16, false) }) (v := (.slice (some ad) n cap)) rfl (by kernel_rfl) (by kernel_rfl) (by kernel_rfl) (fun _ _ _ h => h) (Or.inl ⟨by kernel_rfl, fun w hC => by go_simp⟩) hS.out ?_
                simp only [Act.put, List.setIfInBounds_toArray, List.set_cons_zero, List.set_cons_succ]
                refine wpAnyH_take (i := 19) (oi := { dst := some 39, op := Op.indexAddr 41 (Operand.tmp 38) (Operand.const (Value.int IntKind.i64 0)), type := 0, pos := "frag.go:43", after := #[{ on := 18, ground := Ground.data }, { on := 16, ground := Ground.guard }], guard := some (16, false) }) (v := (.pointer (some ad))) rfl (by kernel_rfl) (by kernel_rfl) (by kernel_rfl) (fun _ _ _ h => h) (Or.inl ⟨by kernel_rfl, fun w hC => by go_simp⟩) hS.out ?_
                simp only [Act.put, List.setIfInBounds_toArray, List.set_cons_zero, List.set_cons_succ]
                refine wpAnyH_take (i := 20) (oi := { dst := some 40, op := Op.load 35 (Operand.tmp 39), type := 35, pos := "frag.go:43", after := #[{ on := 19, ground := Ground.data }, { on := 16, ground := Ground.guard }], guard := some (16, false) }) (v := (.agg #[.int .i64 q.f, .int .i64 q.t, .int .u64 q.i, .int .i64 q.x, .int .i64 q.c, .slice q.so q.sn q.sc])) rfl (by kernel_rfl) (by kernel_rfl) (by kernel_rfl) (fun _ _ _ h => h) (Or.inl ⟨by kernel_rfl, fun w hC => by (obtain ⟨⟨p0, p1, p2, p3, p4, p5⟩, r0, r1, r2, r3, r4, r5⟩ := hC; go_simp)⟩) hS.out ?_
                simp only [Act.put, List.setIfInBounds_toArray, List.set_cons_zero, List.set_cons_succ]
                refine wpAnyH_ready (rs := [21]) (by kernel_rfl) (by simp) ?_
                refine AllReadyH.cons (o := { dst := some 41, op := Op.call { callee := Callee.value (Operand.func 21), args := #[Operand.tmp 37, Operand.tmp 40], argTypes := #[35, 35] }, type := 4, pos := "frag.go:43", after := #[{ on := 17, ground := Ground.data }, { on := 20, ground := Ground.data }, { on := 16, ground := Ground.chain }, { on := 16, ground := Ground.guard }], guard := some (16, false) }) rfl (fun K hK => ?_) AllReadyH.nil
                go_simp
                refine (with_any y q _).mono ?_; rintro e wy ⟨rfl, bx⟩; rw [HWI.out]
                have bb := below_one bb bx
                have hS := hide (And.intro (HBX.out.six bb) (HPX.out.six0 bb (by omega) q HQ.out))
                refine hK.out _ _ hS.out (fun _ => ?_)
                clear hK
                refine wpAnyH_take (i := 22) (oi := { dst := some 42, op := Op.unOp UnOp.not 4 (Operand.tmp 41), type := 4, pos := "frag.go:43", after := #[{ on := 21, ground := Ground.data }, { on := 16, ground := Ground.guard }], guard := some (16, false) }) (v := (.bool true)) rfl (by kernel_rfl) (by kernel_rfl) (by kernel_rfl) (fun _ _ _ h => h) (Or.inl ⟨by kernel_rfl, fun w hC => by go_simp⟩) hS.out ?_
                simp only [Act.put, List.setIfInBounds_toArray, List.set_cons_zero, List.set_cons_succ]
                refine wpAnyH_take (i := 23) (oi := { dst := some 43, op := Op.pick (Operand.tmp 36) (Operand.const (Value.bool true)) (Operand.tmp 42), type := 4, pos := "frag.go:43", after := #[{ on := 16, ground := Ground.data }, { on := 22, ground := Ground.data }], guard := none }) (v := (.bool true)) rfl (by kernel_rfl) (by kernel_rfl) (by kernel_rfl) (fun _ _ _ h => h) (Or.inl ⟨by kernel_rfl, fun w hC => by go_simp⟩) hS.out ?_
                simp only [Act.put, List.setIfInBounds_toArray, List.set_cons_zero, List.set_cons_succ]
                refine wpAnyH_done (by kernel_rfl) ?_ _
                go_wp2
                go_ret2
                exact join_no HNO.out (HB.out.trans ((below_one HWX.out bb).mono HB.out.size))
              | true =>
                go_wp2_with fail
                refine wp_region_held_drew (S := fun w' => (w'.cell? ⟨wr.heap.size, 0, none⟩ = some (.int .i64 y.f) ∧ w'.cell? ⟨wr.heap.size, 1, none⟩ = some (.int .i64 y.t) ∧ w'.cell? ⟨wr.heap.size, 2, none⟩ = some (.int .u64 y.i) ∧ w'.cell? ⟨wr.heap.size, 3, none⟩ = some (.int .i64 y.x) ∧ w'.cell? ⟨wr.heap.size, 4, none⟩ = some (.int .i64 y.c) ∧ w'.cell? ⟨wr.heap.size, 5, none⟩ = some (.slice y.so y.sn y.sc)) ∧ (w'.cell? ad = some (.int .i64 q.f) ∧ w'.cell? { block := ad.block, off := ad.off + 1 } = some (.int .i64 q.t) ∧ w'.cell? { block := ad.block, off := ad.off + 2 } = some (.int .u64 q.i) ∧ w'.cell? { block := ad.block, off := ad.off + 3 } = some (.int .i64 q.x) ∧ w'.cell? { block := ad.block, off := ad.off + 4 } = some (.int .i64 q.c) ∧ w'.cell? { block := ad.block, off := ad.off + 5 } = some (.slice q.so q.sn q.sc))) (by kernel_rfl) hS.out (fun _ => ?_)
                refine wpAnyH_take (i := 0) (oi := { dst := some 20, op := Op.load 35 (Operand.tmp 6), type := 35, pos := "frag.go:43", after := #[], guard := none }) (v := (.agg #[.int .i64 y.f, .int .i64 y.t, .int .u64 y.i, .int .i64 y.x, .int .i64 y.c, .slice y.so y.sn y.sc])) rfl (by kernel_rfl) (by kernel_rfl) (by kernel_rfl) (fun _ _ _ h => h) (Or.inl ⟨by kernel_rfl, fun w hC => by (obtain ⟨⟨p0, p1, p2, p3, p4, p5⟩, r0, r1, r2, r3, r4, r5⟩ := hC; go_simp)⟩) hS.out ?_
                simp only [Act.put, List.setIfInBounds_toArray, List.set_cons_zero, List.set_cons_succ]
                refine wpAnyH_ready (rs := [1]) (by kernel_rfl) (by simp) ?_
                refine AllReadyH.cons (o := { dst := some 21, op := Op.call { callee := Callee.value (Operand.func 10), args := #[Operand.tmp 20], argTypes := #[35] }, type := 4, pos := "frag.go:43", after := #[{ on := 0, ground := Ground.data }], guard := none }) rfl (fun K hK => ?_) AllReadyH.nil
                go_simp
                refine (may_any y _ hyn).mono ?_; rintro e wx ⟨rfl, bx⟩; rw [HM.out]
                have bb := below_one bb bx
                have hS := hide (And.intro (HBX.out.six bb) (HPX.out.six0 bb (by omega) q HQ.out))
                refine hK.out _ _ hS.out (fun _ => ?_)
                clear hK
                refine wpAnyH_take (i := 2) (oi := { dst := some 22, op := Op.unOp UnOp.not 4 (Operand.tmp 21), type := 4, pos := "frag.go:43", after := #[{ on := 1, ground := Ground.data }], guard := none }) (v := (.bool false)) rfl (by kernel_rfl) (by kernel_rfl) (by kernel_rfl) (fun _ _ _ h => h) (Or.inl ⟨by kernel_rfl, fun w hC => by go_simp⟩) hS.out ?_
                simp only [Act.put, List.setIfInBounds_toArray, List.set_cons_zero, List.set_cons_succ]
                refine wpAnyH_take (i := 3) (oi := { dst := some 23, op := Op.move (Operand.tmp 22), type := 4, pos := "frag.go:43", after := #[{ on := 2, ground := Ground.data }, { on := 1, ground := Ground.chain }], guard := none }) (v := (.bool false)) rfl (by kernel_rfl) (by kernel_rfl) (by kernel_rfl) (fun _ _ _ h => h) (Or.inl ⟨by kernel_rfl, fun w hC => by go_simp⟩) hS.out ?_
                simp only [Act.put, List.setIfInBounds_toArray, List.set_cons_zero, List.set_cons_succ]
                refine wpAnyH_take (i := 4) (oi := { dst := some 24, op := Op.fieldAddr 35 (Operand.tmp 6) 3, type := 0, pos := "frag.go:43", after := #[{ on := 3, ground := Ground.guard }], guard := some (3, false) }) (v := (.pointer (some ⟨wr.heap.size, 3, none⟩))) rfl (by kernel_rfl) (by kernel_rfl) (by kernel_rfl) (fun _ _ _ h => h) (Or.inl ⟨by kernel_rfl, fun w hC => by go_simp⟩) hS.out ?_
                simp only [Act.put, List.setIfInBounds_toArray, List.set_cons_zero, List.set_cons_succ]
                refine wpAnyH_take (i := 5) (oi := { dst := some 25, op := Op.load 3 (Operand.tmp 24), type := 3, pos := "frag.go:43", after := #[{ on := 4, ground := Ground.data }, { on := 3, ground := Ground.guard }], guard := some (3, false) }) (v := (.int .i64 y.x)) rfl (by kernel_rfl) (by kernel_rfl) (by kernel_rfl) (fun _ _ _ h => h) (Or.inl ⟨by kernel_rfl, fun w hC => by (obtain ⟨⟨p0, p1, p2, p3, p4, p5⟩, r0, r1, r2, r3, r4, r5⟩ := hC; go_simp)⟩) hS.out ?_
                simp only [Act.put, List.setIfInBounds_toArray, List.set_cons_zero, List.set_cons_succ]
                refine wpAnyH_take (i := 6) (oi := { dst := some 26, op := Op.move (Operand.tmp 5), type := 3, pos := "frag.go:43", after := #[{ on := 3, ground := Ground.guard }], guard := some (3, false) }) (v := (.int .i64 (k : Int))) rfl (by kernel_rfl) (by kernel_rfl) (by kernel_rfl) (fun _ _ _ h => h) (Or.inl ⟨by kernel_rfl, fun w hC => by go_simp⟩) hS.out ?_
                simp only [Act.put, List.setIfInBounds_toArray, List.set_cons_zero, List.set_cons_succ]
                refine wpAnyH_take (i := 7) (oi := { dst := some 27, op := Op.binOp BinOp.neq 3 (Operand.tmp 25) (Operand.tmp 26) 3, type := 4, pos := "frag.go:43", after := #[{ on := 5, ground := Ground.data }, { on := 6, ground := Ground.data }, { on := 3, ground := Ground.guard }], guard := some (3, false) }) (v := (.bool false)) rfl (by kernel_rfl) (by kernel_rfl) (by kernel_rfl) (fun _ _ _ h => h) (Or.inl ⟨by kernel_rfl, fun w hC => by go_simp⟩) hS.out ?_
                simp only [Act.put, List.setIfInBounds_toArray, List.set_cons_zero, List.set_cons_succ]
                refine wpAnyH_take (i := 8) (oi := { dst := some 28, op := Op.pick (Operand.tmp 23) (Operand.const (Value.bool true)) (Operand.tmp 27), type := 4, pos := "frag.go:43", after := #[{ on := 3, ground := Ground.data }, { on := 7, ground := Ground.data }], guard := none }) (v := (.bool false)) rfl (by kernel_rfl) (by kernel_rfl) (by kernel_rfl) (fun _ _ _ h => h) (Or.inl ⟨by kernel_rfl, fun w hC => by go_simp⟩) hS.out ?_
                simp only [Act.put, List.setIfInBounds_toArray, List.set_cons_zero, List.set_cons_succ]
                refine wpAnyH_take (i := 9) (oi := { dst := some 29, op := Op.move (Operand.tmp 28), type := 4, pos := "frag.go:43", after := #[{ on := 8, ground := Ground.data }, { on := 3, ground := Ground.chain }], guard := none }) (v := (.bool false)) rfl (by kernel_rfl) (by kernel_rfl) (by kernel_rfl) (fun _ _ _ h => h) (Or.inl ⟨by kernel_rfl, fun w hC => by go_simp⟩) hS.out ?_
                simp only [Act.put, List.setIfInBounds_toArray, List.set_cons_zero, List.set_cons_succ]
                refine wpAnyH_take (i := 10) (oi := { dst := some 30, op := Op.fieldAddr 35 (Operand.tmp 6) 4, type := 0, pos := "frag.go:43", after := #[{ on := 9, ground := Ground.guard }], guard := some (9, false) }) (v := (.pointer (some ⟨wr.heap.size, 4, none⟩))) rfl (by kernel_rfl) (by kernel_rfl) (by kernel_rfl) (fun _ _ _ h => h) (Or.inl ⟨by kernel_rfl, fun w hC => by go_simp⟩) hS.out ?_
                simp only [Act.put, List.setIfInBounds_toArray, List.set_cons_zero, List.set_cons_succ]
                refine wpAnyH_take (i := 11) (oi := { dst := some 31, op := Op.load 3 (Operand.tmp 30), type := 3, pos := "frag.go:43", after := #[{ on := 10, ground := Ground.data }, { on := 9, ground := Ground.guard }], guard := some (9, false) }) (v := (.int .i64 y.c)) rfl (by kernel_rfl) (by kernel_rfl) (by kernel_rfl) (fun _ _ _ h => h) (Or.inl ⟨by kernel_rfl, fun w hC => by (obtain ⟨⟨p0, p1, p2, p3, p4, p5⟩, r0, r1, r2, r3, r4, r5⟩ := hC; go_simp)⟩) hS.out ?_
                simp only [Act.put, List.setIfInBounds_toArray, List.set_cons_zero, List.set_cons_succ]
                refine wpAnyH_take (i := 12) (oi := { dst := some 32, op := Op.move (Operand.tmp 0), type := 41, pos := "frag.go:43", after := #[{ on := 9, ground := Ground.guard }], guard := some (9, false) }) (v := (.slice (some ad) n cap)) rfl (by kernel_rfl) (by kernel_rfl) (by kernel_rfl) (fun _ _ _ h => h) (Or.inl ⟨by kernel_rfl, fun w hC => by go_simp⟩) hS.out ?_
                simp only [Act.put, List.setIfInBounds_toArray, List.set_cons_zero, List.set_cons_succ]
                refine wpAnyH_take (i := 13) (oi := { dst := some 33, op := Op.call { callee := Callee.builtin Builtin.len, args := #[Operand.tmp 32], argTypes := #[41] }, type := 3, pos := "frag.go:43", after := #[{ on := 12, ground := Ground.data }, { on := 9, ground := Ground.guard }], guard := some (9, false) }) (v := (.int .i64 (n : Int))) rfl (by kernel_rfl) (by kernel_rfl) (by kernel_rfl) (fun _ _ _ h => h) (Or.inl ⟨by kernel_rfl, fun w hC => by go_simp⟩) hS.out ?_
                simp only [Act.put, List.setIfInBounds_toArray, List.set_cons_zero, List.set_cons_succ]
                refine wpAnyH_take (i := 14) (oi := { dst := some 34, op := Op.binOp BinOp.neq 3 (Operand.tmp 31) (Operand.tmp 33) 3, type := 4, pos := "frag.go:43", after := #[{ on := 11, ground := Ground.data }, { on := 13, ground := Ground.data }, { on := 9, ground := Ground.guard }], guard := some (9, false) }) (v := (.bool false)) rfl (by kernel_rfl) (by kernel_rfl) (by kernel_rfl) (fun _ _ _ h => h) (Or.inl ⟨by kernel_rfl, fun w hC => by go_simp⟩) hS.out ?_
                simp only [Act.put, List.setIfInBounds_toArray, List.set_cons_zero, List.set_cons_succ]
                refine wpAnyH_take (i := 15) (oi := { dst := some 35, op := Op.pick (Operand.tmp 29) (Operand.const (Value.bool true)) (Operand.tmp 34), type := 4, pos := "frag.go:43", after := #[{ on := 9, ground := Ground.data }, { on := 14, ground := Ground.data }], guard := none }) (v := (.bool false)) rfl (by kernel_rfl) (by kernel_rfl) (by kernel_rfl) (fun _ _ _ h => h) (Or.inl ⟨by kernel_rfl, fun w hC => by go_simp⟩) hS.out ?_
                simp only [Act.put, List.setIfInBounds_toArray, List.set_cons_zero, List.set_cons_succ]
                refine wpAnyH_take (i := 16) (oi := { dst := some 36, op := Op.move (Operand.tmp 35), type := 4, pos := "frag.go:43", after := #[{ on := 15, ground := Ground.data }, { on := 9, ground := Ground.chain }], guard := none }) (v := (.bool false)) rfl (by kernel_rfl) (by kernel_rfl) (by kernel_rfl) (fun _ _ _ h => h) (Or.inl ⟨by kernel_rfl, fun w hC => by go_simp⟩) hS.out ?_
                simp only [Act.put, List.setIfInBounds_toArray, List.set_cons_zero, List.set_cons_succ]
                refine wpAnyH_take (i := 17) (oi := { dst := some 37, op := Op.load 35 (Operand.tmp 6), type := 35, pos := "frag.go:43", after := #[{ on := 16, ground := Ground.guard }], guard := some (16, false) }) (v := (.agg #[.int .i64 y.f, .int .i64 y.t, .int .u64 y.i, .int .i64 y.x, .int .i64 y.c, .slice y.so y.sn y.sc])) rfl (by kernel_rfl) (by kernel_rfl) (by kernel_rfl) (fun _ _ _ h => h) (Or.inl ⟨by kernel_rfl, fun w hC => by (obtain ⟨⟨p0, p1, p2, p3, p4, p5⟩, r0, r1, r2, r3, r4, r5⟩ := hC; go_simp)⟩) hS.out ?_
                simp only [Act.put, List.setIfInBounds_toArray, List.set_cons_zero, List.set_cons_succ]
                refine wpAnyH_take (i := 18) (oi := { dst := some 38, op := Op.move (Operand.tmp 0), type := 41, pos := "frag.go:43", after := #[{ on := 16, ground := Ground.guard }], guard := some (16, false) }) (v := (.slice (some ad) n cap)) rfl (by kernel_rfl) (by kernel_rfl) (by kernel_rfl) (fun _ _ _ h => h) (Or.inl ⟨by kernel_rfl, fun w hC => by go_simp⟩) hS.out ?_
                simp only [Act.put, List.setIfInBounds_toArray, List.set_cons_zero, List.set_cons_succ]
                refine wpAnyH_take (i := 19) (oi := { dst := some 39, op := Op.indexAddr 41 (Operand.tmp 38) (Operand.const (Value.int IntKind.i64 0)), type := 0, pos := "frag.go:43", after := #[{ on := 18, ground := Ground.data }, { on := 16, ground := Ground.guard }], guard := some (16, false) }) (v := (.pointer (some ad))) rfl (by kernel_rfl) (by kernel_rfl) (by kernel_rfl) (fun _ _ _ h => h) (Or.inl ⟨by kernel_rfl, fun w hC => by go_simp⟩) hS.out ?_
                simp only [Act.put, List.setIfInBounds_toArray, List.set_cons_zero, List.set_cons_succ]
                refine wpAnyH_take (i := 20) (oi := { dst := some 40, op := Op.load 35 (Operand.tmp 39), type := 35, pos := "frag.go:43", after := #[{ on := 19, ground := Ground.data }, { on := 16, ground := Ground.guard }], guard := some (16, false) }) (v := (.agg #[.int .i64 q.f, .int .i64 q.t, .int .u64 q.i, .int .i64 q.x, .int .i64 q.c, .slice q.so q.sn q.sc])) rfl (by kernel_rfl) (by kernel_rfl) (by kernel_rfl) (fun _ _ _ h => h) (Or.inl ⟨by kernel_rfl, fun w hC => by (obtain ⟨⟨p0, p1, p2, p3, p4, p5⟩, r0, r1, r2, r3, r4, r5⟩ := hC; go_simp)⟩) hS.out ?_
                simp only [Act.put, List.setIfInBounds_toArray, List.set_cons_zero, List.set_cons_succ]
                refine wpAnyH_ready (rs := [21]) (by kernel_rfl) (by simp) ?_
                refine AllReadyH.cons (o := { dst := some 41, op := Op.call { callee := Callee.value (Operand.func 21), args := #[Operand.tmp 37, Operand.tmp 40], argTypes := #[35, 35] }, type := 4, pos := "frag.go:43", after := #[{ on := 17, ground := Ground.data }, { on := 20, ground := Ground.data }, { on := 16, ground := Ground.chain }, { on := 16, ground := Ground.guard }], guard := some (16, false) }) rfl (fun K hK => ?_) AllReadyH.nil
                go_simp
                refine (with_any y q _).mono ?_; rintro e wy ⟨rfl, bx⟩; rw [HWI.out]
                have bb := below_one bb bx
                have hS := hide (And.intro (HBX.out.six bb) (HPX.out.six0 bb (by omega) q HQ.out))
                refine hK.out _ _ hS.out (fun _ => ?_)
                clear hK
                refine wpAnyH_take (i := 22) (oi := { dst := some 42, op := Op.unOp UnOp.not 4 (Operand.tmp 41), type := 4, pos := "frag.go:43", after := #[{ on := 21, ground := Ground.data }, { on := 16, ground := Ground.guard }], guard := some (16, false) }) (v := (.bool false)) rfl (by kernel_rfl) (by kernel_rfl) (by kernel_rfl) (fun _ _ _ h => h) (Or.inl ⟨by kernel_rfl, fun w hC => by go_simp⟩) hS.out ?_
                simp only [Act.put, List.setIfInBounds_toArray, List.set_cons_zero, List.set_cons_succ]
                refine wpAnyH_take (i := 23) (oi := { dst := some 43, op := Op.pick (Operand.tmp 36) (Operand.const (Value.bool true)) (Operand.tmp 42), type := 4, pos := "frag.go:43", after := #[{ on := 16, ground := Ground.data }, { on := 22, ground := Ground.data }], guard := none }) (v := (.bool false)) rfl (by kernel_rfl) (by kernel_rfl) (by kernel_rfl) (fun _ _ _ h => h) (Or.inl ⟨by kernel_rfl, fun w hC => by go_simp⟩) hS.out ?_
                simp only [Act.put, List.setIfInBounds_toArray, List.set_cons_zero, List.set_cons_succ]
                refine wpAnyH_done (by kernel_rfl) ?_ _
                obtain ⟨⟨p0, p1, p2, p3, p4, p5⟩, _⟩ := hS.out
                obtain ⟨m1, m2, m3, m4, m5⟩ := (may_iff _ _ _).1 HM.out
                have hcn : y.c = (n : Int) := by simpa using hc
                have hn256 : n ≤ 256 := by omega
                have HNX : Hid (okL n q (k + 1) (L.drop (k + 1)) = joinB L) := by
                  show _ = _
                  rw [← HJJ.out, HOK.out, HWI.out]
                  simp at hx
                  simp [hx, hcn]
                have HZ2 : Hid (z + y.sn = (joinL (L.take (k + 1))).length) := by show _ = _; rw [HSN.out, List.length_append, ← HZ.out, HYL.out]
                have HB2 := hide (HB.out.trans ((below_one HWX.out bb).mono HB.out.size))
                clear m1 m2 m3 m4 hcn hx hc bb p0 p1 p2 p3 p4 hX
                go_wp2
                go_roundg g1
                case measure => omega
                case rel => exact ⟨k + 1, z + y.sn, by omega, by go_num, by go_num, HZ2.out, by omega, fun _ => hn256, HNX.out, HB2.out⟩
end Go.Proofs.Ytdfakeddhoolcaa
