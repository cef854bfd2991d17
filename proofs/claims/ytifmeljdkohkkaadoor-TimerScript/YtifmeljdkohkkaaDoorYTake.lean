/-
  The statement's own take, as a contract: one is taken out of both rows, or none.
-/
import Derived.Test.YtifmeljdkohkkaaDoorYModel
namespace Go.Proofs.YtifmeljdkohkkaaDoor
open Go.RowKit
variable {w0 : World} {g a b : Nat} {now : Int} {rv vi vl : Value} {L : List Al} {I J : List Int}
def cutAt (K : List Int) (k : Nat) : List Int := K.take k ++ K.drop (k + 1)
/- append(append(nil, s[:k]...), s[k+1:]...) -/
theorem cut_row {W : World} {ad : Addr} {n c k : Nat} {K : List Int} (hK : Nums W (some ad) n c K) (hk : k < n) (hn : n ≤ 1000) :
    ∃ v1 w1 o2 d2 w2, (Builtin.append_ #[28, 28] 28 #[.slice none 0 0, .slice (some ad) k c]).run Tryd.prog W = .ok v1 w1 ∧
      (Builtin.append_ #[28, 28] 28 #[v1, .slice (tailA (some ad) (k + 1) c) (n - (k + 1)) (c - (k + 1))]).run Tryd.prog w1 = .ok (.slice o2 (k + (n - (k + 1))) d2) w2 ∧
      Below W.heap.size W w1 ∧ Below W.heap.size W w2 ∧ w2.ownsRow W.heap.size 3 1 (.slice o2 (k + (n - (k + 1))) d2) (k + (n - (k + 1))) (cellsI (cutAt K k)) := by
  obtain ⟨v1, w1, r1, ow1, g1⟩ := app_own (ty := 28) Tryd.underlying28 (show W.ownsRow W.heap.size 3 1 (.slice none 0 0) 0 (cellsI []) from owns_nil _ _ _ _) (hK.head k (by omega)) (by omega) (Nat.le_refl _)
  have b1 : Below W.heap.size W w1 := (grown_foot g1).below (Nat.le_refl _) (fun k e => by cases e)
  rw [Nat.zero_add] at ow1
  obtain ⟨v2, w2, r2, ow2, g2⟩ := app_own (ty := 28) Tryd.underlying28 ow1 ((hK.tail (k + 1) (by omega)).carry b1) (by omega) b1.size
  obtain ⟨o2, d2, rfl⟩ := owns_slice ow2
  exact ⟨v1, w1, o2, d2, w2, r1, r2, b1, below_grown b1 b1.size ow1 g2, by rw [List.nil_append] at ow2; exact ow2⟩
def TakeOut (w0 : World) (g a b : Nat) (now : Int) (rv vi vl : Value) (L : List Al) (I J : List Int) (x : Int) (e : Ending) (w' : World) : Prop :=
  ((x ∉ I) ∧ e = .returned (.bool false) ∧ TS w0 w' g a b now rv vi vl L I J) ∨
  ∃ k, k < I.length ∧ I.getD k 0 = x ∧ (∀ j, j < k → I.getD j 0 ≠ x) ∧ e = .returned (.bool true) ∧ ∃ v1 v2, TS w0 w' g a b now rv v1 v2 L (cutAt I k) (cutAt J k)
def TakeRel (w : World) (I : List Int) (x : Int) (n gk : Nat) (vi : Value) (wr : World) : Prop := ∃ i : Nat, i + gk = n ∧ vi = .int .i64 (i : Int) ∧ (∀ j, j < i → I.getD j 0 ≠ x) ∧ wr = w
set_option maxRecDepth 20000 in
set_option maxHeartbeats 3200000 in
theorem take_any (x : Int) (w : World) (hT : TS w0 w g a b now rv vi vl L I J) (hIJ : J.length = I.length) (hl : I.length ≤ 100) :
    Calls Tryd.prog 5 #[.int .i64 x, .pointer (some ⟨a, 0, none⟩), .pointer (some ⟨b, 0, none⟩)] w fun e w' => TakeOut w0 g a b now rv vi vl L I J x e w' := by
  obtain ⟨ai, c1, al, c2, rfl, rfl, nI, nJ⟩ := hT.nums
  have HT := hide hT
  have ka := hT.ca
  have kb := hT.cb
  obtain ⟨n, hn⟩ : ∃ n, I.length = n := ⟨_, rfl⟩
  rw [hIJ, hn] at nJ kb
  rw [hn] at nI ka hl
  have HLEN := hide hn
  have HLJ := hide (hIJ.trans hn)
  have HNI := hide nI
  have HNJ := hide nJ
  have hc1 : c1 ≤ 9223372036854775807 := nI.2.2.1
  have hc2 : c2 ≤ 9223372036854775807 := nJ.2.2.1
  have hn1 := nI.2.1
  have hn2 := nJ.2.1
  clear hT hn hIJ nI nJ
  go_enter Tryd.func5, Tryd.ntmps5
  go_wp2
  go_loopg [8] n (fun gk vi wr => TakeRel w I x n gk vi wr)
  case atStart => exact ⟨0, by omega, rfl, fun j hj => by omega, rfl⟩
  case round =>
    obtain ⟨i, hi, rfl, hno, rfl⟩ := hrel
    have HN := hide hno
    have HI := hide hi
    clear hno
    cases gk with
    | zero =>
      obtain rfl : i = n := by omega
      have hlt : ¬ ((i : Int) < (i : Int)) := by omega
      clear hi
      go_wp2
      go_ret
      exact .inl ⟨not_mem_of (fun j hj => HN.out j (by have := HLEN.out; omega)), rfl, HT.out⟩
    | succ g1 =>
      have hlt : (i : Int) < (n : Int) := by omega
      have hin : i < n := by omega
      obtain ⟨ad, rfl⟩ := HNI.out.there hin
      obtain ⟨bd, rfl⟩ := HNJ.out.there hin
      have c0 := HNI.out.elem i hin
      obtain ⟨y, hy⟩ : ∃ y, I.getD i 0 = y := ⟨_, rfl⟩
      rw [hy] at c0
      clear hi
      by_cases hyx : y = x
      · subst hyx
        have HY := hide hy
        have HIL : Hid (i < I.length) := by show _ < _; rw [HLEN.out]; exact hin
        have hc1a := fun W : World => cut_head_at Tryd.underlying28 W (some ad) n c1 i (by omega)
        have hc1b := fun W : World => cut_head_at Tryd.underlying28 W (some bd) n c2 i (by omega)
        have hc2a : ∀ W : World, (Instr.slice 28 (.slice (some ad) n c1) (some (.int .i64 ((i : Int) + 1))) none none).run Tryd.prog W = .ok (.slice (tailA (some ad) (i + 1) c1) (n - (i + 1)) (c1 - (i + 1))) W := fun W => cut_tail_at Tryd.underlying28 W (some ad) n c1 (i + 1) (by omega)
        have hc2b : ∀ W : World, (Instr.slice 28 (.slice (some bd) n c2) (some (.int .i64 ((i : Int) + 1))) none none).run Tryd.prog W = .ok (.slice (tailA (some bd) (i + 1) c2) (n - (i + 1)) (c2 - (i + 1))) W := fun W => cut_tail_at Tryd.underlying28 W (some bd) n c2 (i + 1) (by omega)
        have hww : IntKind.i64.wrap ((i : Int) + 1) = (i : Int) + 1 := by rw [IntKind.wrap_i64]; omega
        have TD : TS w0 wr.drew g a b now rv _ _ L I J := HT.out.grow (below_d wr 1)
        obtain ⟨v1, w1, o2, d2, w2, r1, r2, b1, b2, ow2⟩ := cut_row (W := wr.drew) HNI.out hin (by omega)
        have nJ2 : Nums w2 (some bd) n c2 J := (show Nums wr.drew (some bd) n c2 J from HNJ.out).carry b2
        obtain ⟨v3, w3, o4, d4, w4, r3, r4, b3, b4, ow4⟩ := cut_row (W := w2) nJ2 hin (by omega)
        have b24 := below_one b2 b4
        have ow2' := owns_grow ow2 b4
        have hap : ∀ k, (Value.slice o2 (i + (n - (i + 1))) d2).ownBlock = some k → (Value.slice o4 (i + (n - (i + 1))) d4).ownBlock ≠ some k := fun k e1 e2 => by
          have h1 := (owns_lt ow2 e1).1
          have h2 := (owns_lt ow4 e2).2
          omega
        have HEND := hide (TD.rows (below_foot (TSS _ _) b24) (owns_base ow2' TD.size) (owns_base ow4 (Nat.le_trans TD.size b2.size)) hap)
        obtain ⟨s1, s2, s3, s4, s5⟩ := TD.stores (below_foot (TSS _ _) b24) (.slice o2 (i + (n - (i + 1))) d2)
        rw [HLEN.out] at s1
        rw [HLJ.out] at s2 s4
        have cellsAt : ∀ W : World, Below wr.drew.heap.size wr.drew W → W.cell? ⟨a, 0, none⟩ = some (.slice (some ad) n c1) ∧ W.cell? ⟨b, 0, none⟩ = some (.slice (some bd) n c2) := fun W bw => by
          have := TD.grow bw
          have h1 := this.ca
          have h2 := this.cb
          rw [HLEN.out] at h1
          rw [HLJ.out] at h2
          exact ⟨h1, h2⟩
        have HC0 := hide (cellsAt wr.drew (Below.refl _ _))
        have HC1 := hide (cellsAt w1 b1)
        have HC2 := hide (cellsAt w2 b2)
        have HC3 := hide (cellsAt w3 (below_one b2 b3))
        have HC4 := hide (cellsAt w4 b24)
        obtain ⟨ta, hta⟩ : ∃ t, tailA (some ad) (i + 1) c1 = t := ⟨_, rfl⟩
        obtain ⟨tb, htb⟩ : ∃ t, tailA (some bd) (i + 1) c2 = t := ⟨_, rfl⟩
        obtain ⟨tc, htc⟩ : ∃ t, c1 - (i + 1) = t := ⟨_, rfl⟩
        obtain ⟨td, htd⟩ : ∃ t, c2 - (i + 1) = t := ⟨_, rfl⟩
        obtain ⟨m, hm⟩ : ∃ t, n - (i + 1) = t := ⟨_, rfl⟩
        rw [hta, htc, hm] at hc2a r2
        rw [htb, htd, hm] at hc2b r4
        rw [hm] at HEND s4 s5
        have HR1 := hide r1
        have HR2 := hide r2
        have HR3 := hide r3
        have HR4 := hide r4
        have hnc := owns_lies ow2'
        obtain ⟨_, _, e2, l2⟩ := owns_lies ow2'
        obtain ⟨_, _, e4, l4⟩ := owns_lies ow4
        clear TD r1 r2 r3 r4 b1 b2 b3 b4 b24 ow2 ow4 ow2' nJ2 hap cellsAt hta htb htc htd hm hy hnc e2 l2 e4 l4
        go_wp2_with fail
        refine region_till (fun W => W.cell? ⟨a, 0, none⟩ = some (.slice (some ad) n c1) ∧ W.cell? ⟨b, 0, none⟩ = some (.slice (some bd) n c2)) 18 (by kernel_rfl) ?_
        refine till_take [0, 18] (i := 0) (oi := { dst := some 17, op := Op.load 28 (Operand.tmp 1), type := 28, pos := "law.go:35", after := #[], guard := none }) (v := (.slice (some ad) n c1)) rfl (by kernel_rfl) (by kernel_rfl) (by kernel_rfl) (by kernel_rfl) (fun _ _ _ h => h) (Or.inl ⟨by kernel_rfl, fun w hC => by (obtain ⟨q1, q2⟩ := hC; go_simp)⟩) HC0.out ?_
        simp only [Act.put, List.setIfInBounds_toArray, List.set_cons_zero, List.set_cons_succ]
        refine till_take [1, 18] (i := 1) (oi := { dst := some 18, op := Op.move (Operand.tmp 5), type := 3, pos := "law.go:35", after := #[], guard := none }) (v := (.int .i64 (i : Int))) rfl (by kernel_rfl) (by kernel_rfl) (by kernel_rfl) (by kernel_rfl) (fun _ _ _ h => h) (Or.inl ⟨by kernel_rfl, fun w hC => by go_simp⟩) HC0.out ?_
        simp only [Act.put, List.setIfInBounds_toArray, List.set_cons_zero, List.set_cons_succ]
        refine till_take [2, 18] (i := 2) (oi := { dst := some 19, op := Op.slice 28 (Operand.tmp 17) none (some (Operand.tmp 18)) none, type := 28, pos := "law.go:35", after := #[{ on := 0, ground := Ground.data }, { on := 1, ground := Ground.data }], guard := none }) (v := (.slice (some ad) i c1)) rfl (by kernel_rfl) (by kernel_rfl) (by kernel_rfl) (by kernel_rfl) (fun _ _ _ h => h) (Or.inl ⟨by kernel_rfl, fun w hC => by go_simp⟩) HC0.out ?_
        simp only [Act.put, List.setIfInBounds_toArray, List.set_cons_zero, List.set_cons_succ]
        refine till_take [4, 18] (i := 4) (oi := { dst := some 21, op := Op.load 28 (Operand.tmp 1), type := 28, pos := "law.go:35", after := #[], guard := none }) (v := (.slice (some ad) n c1)) rfl (by kernel_rfl) (by kernel_rfl) (by kernel_rfl) (by kernel_rfl) (fun _ _ _ h => h) (Or.inl ⟨by kernel_rfl, fun w hC => by (obtain ⟨q1, q2⟩ := hC; go_simp)⟩) HC0.out ?_
        simp only [Act.put, List.setIfInBounds_toArray, List.set_cons_zero, List.set_cons_succ]
        refine till_take [5, 18] (i := 5) (oi := { dst := some 22, op := Op.move (Operand.tmp 5), type := 3, pos := "law.go:35", after := #[], guard := none }) (v := (.int .i64 (i : Int))) rfl (by kernel_rfl) (by kernel_rfl) (by kernel_rfl) (by kernel_rfl) (fun _ _ _ h => h) (Or.inl ⟨by kernel_rfl, fun w hC => by go_simp⟩) HC0.out ?_
        simp only [Act.put, List.setIfInBounds_toArray, List.set_cons_zero, List.set_cons_succ]
        refine till_take [6, 18] (i := 6) (oi := { dst := some 23, op := Op.binOp BinOp.add 3 (Operand.tmp 22) (Operand.const (Value.int IntKind.i64 1)) 3, type := 3, pos := "law.go:35", after := #[{ on := 5, ground := Ground.data }], guard := none }) (v := (.int .i64 ((i : Int) + 1))) rfl (by kernel_rfl) (by kernel_rfl) (by kernel_rfl) (by kernel_rfl) (fun _ _ _ h => h) (Or.inl ⟨by kernel_rfl, fun w hC => by go_simp⟩) HC0.out ?_
        simp only [Act.put, List.setIfInBounds_toArray, List.set_cons_zero, List.set_cons_succ]
        refine till_take [7, 18] (i := 7) (oi := { dst := some 24, op := Op.slice 28 (Operand.tmp 21) (some (Operand.tmp 23)) none none, type := 28, pos := "law.go:35", after := #[{ on := 4, ground := Ground.data }, { on := 6, ground := Ground.data }], guard := none }) (v := (.slice ta m tc)) rfl (by kernel_rfl) (by kernel_rfl) (by kernel_rfl) (by kernel_rfl) (fun _ _ _ h => h) (Or.inl ⟨by kernel_rfl, fun w hC => by go_simp⟩) HC0.out ?_
        simp only [Act.put, List.setIfInBounds_toArray, List.set_cons_zero, List.set_cons_succ]
        refine till_take [9, 11, 12, 17, 18] (i := 9) (oi := { dst := some 26, op := Op.load 28 (Operand.tmp 2), type := 28, pos := "law.go:35", after := #[], guard := none }) (v := (.slice (some bd) n c2)) rfl (by kernel_rfl) (by kernel_rfl) (by kernel_rfl) (by kernel_rfl) (fun _ _ _ h => h) (Or.inl ⟨by kernel_rfl, fun w hC => by (obtain ⟨q1, q2⟩ := hC; go_simp)⟩) HC0.out ?_
        simp only [Act.put, List.setIfInBounds_toArray, List.set_cons_zero, List.set_cons_succ]
        refine till_take [10, 11, 12, 17, 18] (i := 10) (oi := { dst := some 27, op := Op.move (Operand.tmp 5), type := 3, pos := "law.go:35", after := #[], guard := none }) (v := (.int .i64 (i : Int))) rfl (by kernel_rfl) (by kernel_rfl) (by kernel_rfl) (by kernel_rfl) (fun _ _ _ h => h) (Or.inl ⟨by kernel_rfl, fun w hC => by go_simp⟩) HC0.out ?_
        simp only [Act.put, List.setIfInBounds_toArray, List.set_cons_zero, List.set_cons_succ]
        refine till_take [11, 12, 17, 18] (i := 11) (oi := { dst := some 28, op := Op.slice 28 (Operand.tmp 26) none (some (Operand.tmp 27)) none, type := 28, pos := "law.go:35", after := #[{ on := 9, ground := Ground.data }, { on := 10, ground := Ground.data }], guard := none }) (v := (.slice (some bd) i c2)) rfl (by kernel_rfl) (by kernel_rfl) (by kernel_rfl) (by kernel_rfl) (fun _ _ _ h => h) (Or.inl ⟨by kernel_rfl, fun w hC => by go_simp⟩) HC0.out ?_
        simp only [Act.put, List.setIfInBounds_toArray, List.set_cons_zero, List.set_cons_succ]
        refine till_take [13, 16, 17, 18] (i := 13) (oi := { dst := some 30, op := Op.load 28 (Operand.tmp 2), type := 28, pos := "law.go:35", after := #[], guard := none }) (v := (.slice (some bd) n c2)) rfl (by kernel_rfl) (by kernel_rfl) (by kernel_rfl) (by kernel_rfl) (fun _ _ _ h => h) (Or.inl ⟨by kernel_rfl, fun w hC => by (obtain ⟨q1, q2⟩ := hC; go_simp)⟩) HC0.out ?_
        simp only [Act.put, List.setIfInBounds_toArray, List.set_cons_zero, List.set_cons_succ]
        refine till_take [14, 15, 16, 17, 18] (i := 14) (oi := { dst := some 31, op := Op.move (Operand.tmp 5), type := 3, pos := "law.go:35", after := #[], guard := none }) (v := (.int .i64 (i : Int))) rfl (by kernel_rfl) (by kernel_rfl) (by kernel_rfl) (by kernel_rfl) (fun _ _ _ h => h) (Or.inl ⟨by kernel_rfl, fun w hC => by go_simp⟩) HC0.out ?_
        simp only [Act.put, List.setIfInBounds_toArray, List.set_cons_zero, List.set_cons_succ]
        refine till_take [15, 16, 17, 18] (i := 15) (oi := { dst := some 32, op := Op.binOp BinOp.add 3 (Operand.tmp 31) (Operand.const (Value.int IntKind.i64 1)) 3, type := 3, pos := "law.go:35", after := #[{ on := 14, ground := Ground.data }], guard := none }) (v := (.int .i64 ((i : Int) + 1))) rfl (by kernel_rfl) (by kernel_rfl) (by kernel_rfl) (by kernel_rfl) (fun _ _ _ h => h) (Or.inl ⟨by kernel_rfl, fun w hC => by go_simp⟩) HC0.out ?_
        simp only [Act.put, List.setIfInBounds_toArray, List.set_cons_zero, List.set_cons_succ]
        refine till_take [16, 17, 18] (i := 16) (oi := { dst := some 33, op := Op.slice 28 (Operand.tmp 30) (some (Operand.tmp 32)) none none, type := 28, pos := "law.go:35", after := #[{ on := 13, ground := Ground.data }, { on := 15, ground := Ground.data }], guard := none }) (v := (.slice tb m td)) rfl (by kernel_rfl) (by kernel_rfl) (by kernel_rfl) (by kernel_rfl) (fun _ _ _ h => h) (Or.inl ⟨by kernel_rfl, fun w hC => by go_simp⟩) HC0.out ?_
        simp only [Act.put, List.setIfInBounds_toArray, List.set_cons_zero, List.set_cons_succ]
        refine till_ready (rs := [3]) (by kernel_rfl) (by simp) ?_
        refine AllTill.cons (o := { dst := some 20, op := Op.call { callee := Callee.builtin Builtin.append, args := #[Operand.const (Value.slice none 0 0), Operand.tmp 19], argTypes := #[28, 28] }, type := 28, pos := "law.go:35", after := #[{ on := 2, ground := Ground.data }], guard := none }) rfl (fun K hK => ?_) AllTill.nil
        refine step_run rfl _ _ _ rfl (.slice none 0 0) (.slice (some ad) i c1) v1 w1 rfl rfl HR1.out ?_
        refine hK.out _ _ (fun _ => HC1.out) ?_
        simp only [Act.put, List.setIfInBounds_toArray, List.set_cons_zero, List.set_cons_succ]
        refine till_ready (rs := [8]) (by kernel_rfl) (by simp) ?_
        refine AllTill.cons (o := { dst := some 25, op := Op.call { callee := Callee.builtin Builtin.append, args := #[Operand.tmp 20, Operand.tmp 24], argTypes := #[28, 28] }, type := 28, pos := "law.go:35", after := #[{ on := 3, ground := Ground.data }, { on := 7, ground := Ground.data }, { on := 3, ground := Ground.chain }], guard := none }) rfl (fun K hK => ?_) AllTill.nil
        refine step_run rfl _ _ _ rfl v1 (.slice ta m tc) (.slice o2 (i + m) d2) w2 rfl rfl HR2.out ?_
        refine hK.out _ _ (fun _ => HC2.out) ?_
        simp only [Act.put, List.setIfInBounds_toArray, List.set_cons_zero, List.set_cons_succ]
        refine till_ready (rs := [12]) (by kernel_rfl) (by simp) ?_
        refine AllTill.cons (o := { dst := some 29, op := Op.call { callee := Callee.builtin Builtin.append, args := #[Operand.const (Value.slice none 0 0), Operand.tmp 28], argTypes := #[28, 28] }, type := 28, pos := "law.go:35", after := #[{ on := 11, ground := Ground.data }, { on := 8, ground := Ground.chain }], guard := none }) rfl (fun K hK => ?_) AllTill.nil
        refine step_run rfl _ _ _ rfl (.slice none 0 0) (.slice (some bd) i c2) v3 w3 rfl rfl HR3.out ?_
        refine hK.out _ _ (fun _ => HC3.out) ?_
        simp only [Act.put, List.setIfInBounds_toArray, List.set_cons_zero, List.set_cons_succ]
        refine till_ready (rs := [17]) (by kernel_rfl) (by simp) ?_
        refine AllTill.cons (o := { dst := some 34, op := Op.call { callee := Callee.builtin Builtin.append, args := #[Operand.tmp 29, Operand.tmp 33], argTypes := #[28, 28] }, type := 28, pos := "law.go:35", after := #[{ on := 12, ground := Ground.data }, { on := 16, ground := Ground.data }, { on := 12, ground := Ground.chain }], guard := none }) rfl (fun K hK => ?_) AllTill.nil
        refine step_run rfl _ _ _ rfl v3 (.slice tb m td) (.slice o4 (i + m) d4) w4 rfl rfl HR4.out ?_
        refine hK.out _ _ (fun _ => HC4.out) ?_
        simp only [Act.put, List.setIfInBounds_toArray, List.set_cons_zero, List.set_cons_succ]
        refine till_ready (rs := [18]) (by kernel_rfl) (by simp) ?_
        refine AllTill.cons (o := { dst := none, op := Op.store 28 (Operand.tmp 1) (Operand.tmp 25), type := 0, pos := "law.go:35", after := #[{ on := 8, ground := Ground.data }, { on := 17, ground := Ground.chain }, { on := 0, ground := Ground.phase }, { on := 1, ground := Ground.phase }, { on := 2, ground := Ground.phase }, { on := 3, ground := Ground.phase }, { on := 4, ground := Ground.phase }, { on := 5, ground := Ground.phase }, { on := 6, ground := Ground.phase }, { on := 7, ground := Ground.phase }, { on := 8, ground := Ground.phase }, { on := 9, ground := Ground.textOnly Departure.inlinedCapture }, { on := 10, ground := Ground.textOnly Departure.lateStores }, { on := 11, ground := Ground.textOnly Departure.lateStoresUnsure }, { on := 12, ground := Ground.textOnly Departure.lateStoresUnsure }, { on := 13, ground := Ground.textOnly Departure.inlinedCapture }, { on := 14, ground := Ground.textOnly Departure.lateStores }, { on := 15, ground := Ground.textOnly Departure.lateStores }, { on := 16, ground := Ground.textOnly Departure.lateStoresUnsure }, { on := 17, ground := Ground.textOnly Departure.lateStoresUnsure }], guard := none }) rfl (fun K hK => ?_) AllTill.nil
        go_simp
        refine hK.out _ _ (fun h => absurd h (by decide)) ?_
        refine till_ready (rs := [19]) (by kernel_rfl) (by simp) ?_
        refine AllTill.cons (o := { dst := none, op := Op.store 28 (Operand.tmp 2) (Operand.tmp 34), type := 0, pos := "law.go:35", after := #[{ on := 17, ground := Ground.data }, { on := 18, ground := Ground.chain }, { on := 0, ground := Ground.phase }, { on := 1, ground := Ground.phase }, { on := 2, ground := Ground.phase }, { on := 3, ground := Ground.phase }, { on := 4, ground := Ground.phase }, { on := 5, ground := Ground.phase }, { on := 6, ground := Ground.phase }, { on := 7, ground := Ground.phase }, { on := 8, ground := Ground.phase }, { on := 9, ground := Ground.phase }, { on := 10, ground := Ground.phase }, { on := 11, ground := Ground.phase }, { on := 12, ground := Ground.phase }, { on := 13, ground := Ground.phase }, { on := 14, ground := Ground.phase }, { on := 15, ground := Ground.phase }, { on := 16, ground := Ground.phase }, { on := 17, ground := Ground.phase }, { on := 18, ground := Ground.phase }], guard := none }) rfl (fun K hK => ?_) AllTill.nil
        go_simp
        refine hK.out _ _ (fun h => absurd h (by decide)) ?_
        refine till_done (by kernel_rfl) ?_ _
        go_wp2
        go_ret
        exact .inr ⟨i, HIL.out, HY.out, HN.out, rfl, _, _, HEND.out⟩
      · have hyb : (y == x) = false := by simpa using hyx
        have HYX := hide hyx
        clear hyx
        go_wp2
        go_roundg g1
        case measure => omega
        case rel =>
          refine ⟨i + 1, by have := HI.out; omega, by go_num, fun j hj => ?_, rfl⟩
          by_cases e : j = i
          · rw [e, hy]; exact HYX.out
          · exact HN.out j (by omega)
end Go.Proofs.YtifmeljdkohkkaaDoor
