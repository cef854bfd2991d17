/-
  The walk of PortmapScript.
-/
import Derived.Test.YtlpjaklhmnbpeaaVTwo
import Derived.Deep.CutBlock
namespace Go.Proofs.Ytlpjaklhmnbpeaa
open Go.RowKit Go.Deep
def ScrRel (w : World) (g r : Nat) (y : Int) (n gk : Nat) (vk vn : Value) (wr : World) : Prop := ∃ (i : Nat) (now : Int) (L : List Pl) (rv vr : Value), i + gk = n ∧ vk = .int .i64 (i : Int) ∧ vn = .int .i64 now ∧ Sc w wr g r y rv vr L L ∧ Inv now L ∧ 0 ≤ now ∧ now ≤ 3 * (i : Int)
def AtChk (w : World) (g r : Nat) (y now : Int) (wx : World) : Prop := ∃ (L : List Pl) (rv vr : Value), Sc w wx g r y rv vr L L ∧ Inv now L
def AtCut (w : World) (g r hp hn : Nat) (y : Int) (L : List Pl) (p n now : Int) (wx : World) : Prop := ∃ (rv : Value) (ro : Option Addr) (rn rc : Nat) (M : List Pl), Sl w wx g r hp hn y rv ro rn rc L M p n ∧ rn ≤ 16 ∧ M ++ [⟨p, n, now⟩] = L
def PNs (X : World) (p n : Int) (v1 v2 : Value) (W : World) : Prop := ∃ hp hn, v1 = .pointer (some ⟨hp, 0, none⟩) ∧ v2 = .pointer (some ⟨hn, 0, none⟩) ∧ PN X W hp hn p n
theorem act_new (w : World) (o p n t : Int) : (w.alloc (.cells #[.int .u8 o, .int .u8 p, .int .u8 n, .int .u8 t] 34)).cell? ⟨w.heap.size, 0, none⟩ = some (.int .u8 o) ∧ (w.alloc (.cells #[.int .u8 o, .int .u8 p, .int .u8 n, .int .u8 t] 34)).cell? ⟨w.heap.size, 1, none⟩ = some (.int .u8 p) ∧ (w.alloc (.cells #[.int .u8 o, .int .u8 p, .int .u8 n, .int .u8 t] 34)).cell? ⟨w.heap.size, 2, none⟩ = some (.int .u8 n) ∧ (w.alloc (.cells #[.int .u8 o, .int .u8 p, .int .u8 n, .int .u8 t] 34)).cell? ⟨w.heap.size, 3, none⟩ = some (.int .u8 t) := by
  have h := heap_alloc_new w (.cells #[.int .u8 o, .int .u8 p, .int .u8 n, .int .u8 t] 34)
  exact ⟨by rw [cell_of_row _ _ _ _ _ _ h]; rfl, by rw [cell_of_row _ _ _ _ _ _ h]; rfl, by rw [cell_of_row _ _ _ _ _ _ h]; rfl, by rw [cell_of_row _ _ _ _ _ _ h]; rfl⟩
theorem len_is {B g : Nat} {age : Int} {rv : Value} {L : List Pl} {m : Nat} (w : World) (hT : Pm w B g age rv L) (hm : L.length = m) :
    Calls Try.prog 17 #[.pointer (some ⟨g, 0, none⟩)] w fun e w' => e = .returned (.int .i64 (m : Int)) ∧ w' = w := by subst hm; exact len_any w hT
def PRel (w : World) (g r : Nat) (y : Int) (rv vr : Value) (L : List Pl) (gk : Nat) (vp : Value) (wr : World) : Prop := ∃ k : Nat, k + gk = 24 ∧ vp = .int .u64 (k : Int) ∧ Sc w wr g r y rv vr L L
def IRel (w : World) (g r : Nat) (y T x : Int) (rv vr : Value) (L : List Pl) (m gk : Nat) (v1 v2 vj : Value) (wr : World) : Prop := ∃ (j : Nat) (wv : Int) (bv : Bool), j + gk = m ∧ vj = .int .i64 (j : Int) ∧ v1 = .int .i64 wv ∧ v2 = .bool bv ∧ wv = (seeV y T x (L.take j)).getD 0 ∧ bv = (seeV y T x (L.take j)).isSome ∧ Sc w wr g r y rv vr L L
theorem see_cases {y T x : Int} {S : Option Int} {z : Pl} : ((z.p == x && decide (T - z.a < y)) = true → see y T x S z = some z.n) ∧ ((z.p == x && decide (T - z.a < y)) = false → see y T x S z = S) := by
  unfold see
  exact ⟨fun h => if_pos h, fun h => if_neg (by rw [h]; decide)⟩
set_option maxRecDepth 20000 in
set_option maxHeartbeats 12800000 in
theorem walk_script (a : Int) (ao : Option Addr) (n cap : Nat) (xs : List Ac) (w : World) (hwa : (Lit.int .i8 a).wf = true) (ha : Acts w ao n cap xs) (hs : cap * 4 ≤ 140737488351232) :
    Calls Try.prog 3 #[.int .i8 a, .slice ao n cap] w fun e w' => e = .returned (.bool true) ∧ Below w.heap.size w w' := by
  have HA := hide ha
  have hcap : cap ≤ 9223372036854775807 := ha.2.2.1
  have hnc := ha.2.1
  have HNB : Hid (n ≤ 35184372088832) := by show _ ≤ _; omega
  have hab := bounds_i8 hwa
  obtain ⟨y, hy⟩ : ∃ y, max a 1 = y := ⟨_, rfl⟩
  have hy2 : max 1 a = y := by rw [Int.max_comm]; exact hy
  have HY : Hid (1 ≤ y ∧ y ≤ 127) := ⟨by omega, by omega⟩
  have hwra : IntKind.i64.wrap a = a := by rw [IntKind.wrap_i64]; omega
  clear ha hs hwa hab
  go_enter Try.func3, Try.ntmps3
  go_wp2_with fail
  refine (awake_any _).mono ?_; rintro e w1 ⟨rfl, b1⟩
  have HB1 := hide b1
  clear b1
  go_wp2_with fail
  refine (of_made _ y hy _).mono ?_; rintro e w2 ⟨g, rfl, t2, b2, hg⟩
  have HSC := hide (sc_new t2 (Nat.le_trans HB1.out.size hg) rfl (below_one HB1.out b2))
  clear t2 b2 hg
  go_wp2_with fail
  obtain ⟨r, hrr⟩ : ∃ r, w2.heap.size = r := ⟨_, rfl⟩
  rw [hrr] at HSC
  simp only [hrr]
  clear hrr hy hy2 hwra
  go_loopg [32, 9] n (fun gk vk vn wr => ScrRel w g r y n gk vk vn wr)
  case atStart => exact ⟨0, 0, [], _, _, by omega, rfl, rfl, HSC.out, inv_nil 0, Int.le_refl _, by omega⟩
  case round =>
    clear HSC HB1
    obtain ⟨i, now, L, rv, vr, hi, rfl, rfl, sc, inv, hnow0, hnow1⟩ := hrel
    have HS := hide sc
    have HI := hide hi
    clear sc
    cases gk with
    | zero =>
      obtain rfl : i = n := by omega
      have hlt : ¬ ((i : Int) < (i : Int)) := by omega
      clear hi hnow0 hnow1 inv
      go_wp2
      go_ret
      exact ⟨rfl, HS.out.bel⟩
    | succ g1 =>
      have hlt : (i : Int) < (n : Int) := by omega
      have hin : i < n := by omega
      obtain ⟨ad, rfl⟩ := HA.out.there hin
      obtain ⟨⟨ho, hpb, hnb, htb⟩, e0, e1, e2, e3⟩ := (HA.out.carry HS.out.bel).2.2.2.2 ad rfl i hin
      obtain ⟨⟨o, pp, nn, tt⟩, hact⟩ : ∃ y, xs.getD i Ac.zero = y := ⟨_, rfl⟩
      rw [hact] at ho hpb hnb htb e0 e1 e2 e3
      simp only at ho hpb hnb htb e0 e1 e2 e3
      rw [addS _ 0] at e1
      rw [addS _ 1] at e2
      rw [addS _ 2] at e3
      obtain ⟨X, hX⟩ : ∃ X, wr.alloc (.cells #[.int .u8 (o : Int), .int .u8 (pp : Int), .int .u8 (nn : Int), .int .u8 (tt : Int)] 34) = X := ⟨_, rfl⟩
      have bX : Below wr.heap.size wr X := hX ▸ below_alloc wr _
      have hd := act_new wr (o : Int) (pp : Int) (nn : Int) (tt : Int)
      rw [hX] at hd
      have d3 := hd.2.2.2
      have HD := hide hd
      have HSX := hide (HS.out.grow bX)
      obtain ⟨t1, ht1⟩ : ∃ t : Int, (tt : Int) % 4 = t := ⟨_, rfl⟩
      have hwt : IntKind.i64.wrap t1 = t1 := by rw [IntKind.wrap_i64]; omega
      obtain ⟨T, hT⟩ : ∃ T, now + t1 = T := ⟨_, rfl⟩
      have hwT : IntKind.i64.wrap (now + t1) = T := by have := HNB.out; rw [IntKind.wrap_i64]; omega
      have HT0 : Hid (0 ≤ T) := by show _ ≤ _; omega
      have HT1 : Hid (T ≤ 3 * ((i : Int) + 1)) := by show _ ≤ _; omega
      have HINV := hide (inv.later (show now ≤ T by omega))
      obtain ⟨p, hp0⟩ : ∃ p : Int, (pp : Int).tmod 24 = p := ⟨_, rfl⟩
      obtain ⟨nd, hn0⟩ : ∃ p : Int, (nn : Int).tmod 5 = p := ⟨_, rfl⟩
      have hpe : p = (pp : Int) % 24 := by rw [← hp0, Int.tmod_eq_emod_of_nonneg (by omega)]
      have hne : nd = (nn : Int) % 5 := by rw [← hn0, Int.tmod_eq_emod_of_nonneg (by omega)]
      have hwp : IntKind.u64.wrap p = p := by rw [IntKind.wrap_u64]; omega
      have hwn : IntKind.i64.wrap nd = nd := by rw [IntKind.wrap_i64]; omega
      have hwp8 : IntKind.u8.wrap p = p := by rw [IntKind.wrap_u8]; omega
      have hwn8 : IntKind.u8.wrap nd = nd := by rw [IntKind.wrap_u8]; omega
      obtain ⟨d, hdd⟩ : ∃ d, o % 4 = d := ⟨_, rfl⟩
      have hd1 : (o : Int) % 4 = (d : Int) := by omega
      have hd4 : d < 4 := by omega
      clear hact bX hi hd hT inv hnow0 hnow1 hpe hne hdd
      go_wp2_with fail
      go_upto_region 12 with fail
      go_cut [12, 13] from 33 to 49 (fun v1 v2 wx => PNs X p nd v1 v2 wx)
      case first =>
        obtain ⟨we, hwe⟩ : ∃ we, X = we := ⟨_, rfl⟩
        subst hwe
        rename World => we
        have hcc : ∀ W : World, Below we.heap.size we W → W.cell? ⟨wr.heap.size, 1, none⟩ = some (.int .u8 (pp : Int)) ∧ W.cell? ⟨wr.heap.size, 2, none⟩ = some (.int .u8 (nn : Int)) := fun W bw =>
          ⟨by rw [bw.cell (show wr.heap.size < _ from lt_of_cell HD.out.2.1)]; exact HD.out.2.1, by rw [bw.cell (show wr.heap.size < _ from lt_of_cell HD.out.2.2.1)]; exact HD.out.2.2.1⟩
        have HCC : Hid (∀ W : World, Below (World.drew we).heap.size (World.drew we) W → W.cell? ⟨wr.heap.size, 1, none⟩ = some (.int .u8 (pp : Int)) ∧ W.cell? ⟨wr.heap.size, 2, none⟩ = some (.int .u8 (nn : Int))) := fun W bw => hcc W (below_one (below_d we 1) bw)
        have HC0 := hide (hcc (World.drew we) (below_d we 1))
        have HSA := hide (hcc _ (below_two we (.cells #[.int .u64 p] 29) (.cells #[.int .i64 0] 3)))
        have HSB := hide (hcc _ (below_two we (.cells #[.int .i64 0] 3) (.cells #[.int .u64 p] 29)))
        clear hcc
        refine region_till (fun W => W.cell? ⟨wr.heap.size, 1, none⟩ = some (.int .u8 (pp : Int)) ∧ W.cell? ⟨wr.heap.size, 2, none⟩ = some (.int .u8 (nn : Int))) 11 (by kernel_rfl) ?_
        refine till_take [0, 11] (i := 0) (oi := { dst := some 42, op := Op.fieldAddr 34 (Operand.tmp 11) 1, type := 0, pos := "law.go:54", after := #[], guard := none }) (v := (.pointer (some ⟨wr.heap.size, 1, none⟩))) rfl (by kernel_rfl) (by kernel_rfl) (by kernel_rfl) (by kernel_rfl) (fun _ _ _ h => h) (Or.inl ⟨by kernel_rfl, fun w hC => by go_simp⟩) HC0.out ?_
        simp only [Act.put, List.setIfInBounds_toArray, List.set_cons_zero, List.set_cons_succ]
        refine till_take [1, 11] (i := 1) (oi := { dst := some 43, op := Op.load 5 (Operand.tmp 42), type := 5, pos := "law.go:54", after := #[{ on := 0, ground := Ground.data }], guard := none }) (v := (.int .u8 (pp : Int))) rfl (by kernel_rfl) (by kernel_rfl) (by kernel_rfl) (by kernel_rfl) (fun _ _ _ h => h) (Or.inl ⟨by kernel_rfl, fun w hC => by (obtain ⟨q1, q2⟩ := hC; go_simp)⟩) HC0.out ?_
        simp only [Act.put, List.setIfInBounds_toArray, List.set_cons_zero, List.set_cons_succ]
        refine till_take [2, 11] (i := 2) (oi := { dst := some 44, op := Op.binOp BinOp.rem 5 (Operand.tmp 43) (Operand.const (Value.int IntKind.u8 24)) 5, type := 5, pos := "law.go:54", after := #[{ on := 1, ground := Ground.data }], guard := none }) (v := (.int .u8 p)) rfl (by kernel_rfl) (by kernel_rfl) (by kernel_rfl) (by kernel_rfl) (fun _ _ _ h => h) (Or.inl ⟨by kernel_rfl, fun w hC => by go_simp⟩) HC0.out ?_
        simp only [Act.put, List.setIfInBounds_toArray, List.set_cons_zero, List.set_cons_succ]
        refine till_take [3, 11] (i := 3) (oi := { dst := some 45, op := Op.convert 5 29 (Operand.tmp 44), type := 29, pos := "law.go:54", after := #[{ on := 2, ground := Ground.data }], guard := none }) (v := (.int .u64 p)) rfl (by kernel_rfl) (by kernel_rfl) (by kernel_rfl) (by kernel_rfl) (fun _ _ _ h => h) (Or.inl ⟨by kernel_rfl, fun w hC => by go_simp⟩) HC0.out ?_
        simp only [Act.put, List.setIfInBounds_toArray, List.set_cons_zero, List.set_cons_succ]
        refine till_take [4, 11] (i := 4) (oi := { dst := some 46, op := Op.fieldAddr 34 (Operand.tmp 11) 2, type := 0, pos := "law.go:54", after := #[{ on := 10, ground := Ground.gcOnly Departure.lateStores }], guard := none }) (v := (.pointer (some ⟨wr.heap.size, 2, none⟩))) rfl (by kernel_rfl) (by kernel_rfl) (by kernel_rfl) (by kernel_rfl) (fun _ _ _ h => h) (Or.inl ⟨by kernel_rfl, fun w hC => by go_simp⟩) HC0.out ?_
        simp only [Act.put, List.setIfInBounds_toArray, List.set_cons_zero, List.set_cons_succ]
        refine till_take [5, 11] (i := 5) (oi := { dst := some 47, op := Op.load 5 (Operand.tmp 46), type := 5, pos := "law.go:54", after := #[{ on := 4, ground := Ground.data }, { on := 10, ground := Ground.gcOnly Departure.lateStores }], guard := none }) (v := (.int .u8 (nn : Int))) rfl (by kernel_rfl) (by kernel_rfl) (by kernel_rfl) (by kernel_rfl) (fun _ _ _ h => h) (Or.inl ⟨by kernel_rfl, fun w hC => by (obtain ⟨q1, q2⟩ := hC; go_simp)⟩) HC0.out ?_
        simp only [Act.put, List.setIfInBounds_toArray, List.set_cons_zero, List.set_cons_succ]
        refine till_take [6, 11] (i := 6) (oi := { dst := some 48, op := Op.binOp BinOp.rem 5 (Operand.tmp 47) (Operand.const (Value.int IntKind.u8 5)) 5, type := 5, pos := "law.go:54", after := #[{ on := 5, ground := Ground.data }, { on := 10, ground := Ground.gcOnly Departure.lateStores }], guard := none }) (v := (.int .u8 nd)) rfl (by kernel_rfl) (by kernel_rfl) (by kernel_rfl) (by kernel_rfl) (fun _ _ _ h => h) (Or.inl ⟨by kernel_rfl, fun w hC => by go_simp⟩) HC0.out ?_
        simp only [Act.put, List.setIfInBounds_toArray, List.set_cons_zero, List.set_cons_succ]
        refine till_take [7, 11] (i := 7) (oi := { dst := some 49, op := Op.convert 5 3 (Operand.tmp 48), type := 3, pos := "law.go:54", after := #[{ on := 6, ground := Ground.data }, { on := 10, ground := Ground.gcOnly Departure.lateStores }], guard := none }) (v := (.int .i64 nd)) rfl (by kernel_rfl) (by kernel_rfl) (by kernel_rfl) (by kernel_rfl) (fun _ _ _ h => h) (Or.inl ⟨by kernel_rfl, fun w hC => by go_simp⟩) HC0.out ?_
        simp only [Act.put, List.setIfInBounds_toArray, List.set_cons_zero, List.set_cons_succ]
        refine till_ready (rs := [8, 9]) (by kernel_rfl) (by simp) ?_
        refine AllTill.cons (o := { dst := some 12, op := Op.alloc 29, type := 0, pos := "law.go:54", after := #[], guard := none }) rfl (fun K hK => ?_) (AllTill.cons (o := { dst := some 13, op := Op.alloc 3, type := 0, pos := "law.go:54", after := #[], guard := none }) rfl (fun K hK => ?_) AllTill.nil)
        · go_simp
          refine hK.out _ _ (fun _ => HCC.out _ (below_alloc _ _)) ?_
          change Till _ _ _ _ _ _ _ _ _ (World.alloc (World.drew we) (.cells #[.int .u64 0] 29))
          refine till_ready (rs := [9]) (by kernel_rfl) (by simp) ?_
          refine AllTill.cons (o := { dst := some 13, op := Op.alloc 3, type := 0, pos := "law.go:54", after := #[], guard := none }) rfl (fun K hK => ?_) AllTill.nil
          go_simp
          refine hK.out _ _ (fun _ => HCC.out _ (below_one (below_alloc _ _) (below_alloc _ _))) ?_
          change Till _ _ _ _ _ _ _ _ _ (World.alloc (World.alloc (World.drew we) (.cells #[.int .u64 0] 29)) (.cells #[.int .i64 0] 3))
          refine till_ready (rs := [10]) (by kernel_rfl) (by simp) ?_
          refine AllTill.cons (o := { dst := none, op := Op.store 29 (Operand.tmp 12) (Operand.tmp 45), type := 0, pos := "law.go:54", after := #[{ on := 8, ground := Ground.data }, { on := 3, ground := Ground.data }, { on := 0, ground := Ground.phase }, { on := 1, ground := Ground.phase }, { on := 2, ground := Ground.phase }, { on := 3, ground := Ground.phase }, { on := 4, ground := Ground.textOnly Departure.lateStores }, { on := 5, ground := Ground.textOnly Departure.lateStores }, { on := 6, ground := Ground.textOnly Departure.lateStores }, { on := 7, ground := Ground.textOnly Departure.lateStores }, { on := 8, ground := Ground.phase }, { on := 9, ground := Ground.phase }], guard := none }) rfl (fun K hK => ?_) AllTill.nil
          go_simp
          refine hK.out _ _ (fun _ => HSA.out) ?_
          refine till_ready (rs := [11]) (by kernel_rfl) (by simp) ?_
          refine AllTill.cons (o := { dst := none, op := Op.store 3 (Operand.tmp 13) (Operand.tmp 49), type := 0, pos := "law.go:54", after := #[{ on := 9, ground := Ground.data }, { on := 7, ground := Ground.data }, { on := 10, ground := Ground.chain }, { on := 0, ground := Ground.phase }, { on := 1, ground := Ground.phase }, { on := 2, ground := Ground.phase }, { on := 3, ground := Ground.phase }, { on := 4, ground := Ground.phase }, { on := 5, ground := Ground.phase }, { on := 6, ground := Ground.phase }, { on := 7, ground := Ground.phase }, { on := 8, ground := Ground.phase }, { on := 9, ground := Ground.phase }, { on := 10, ground := Ground.phase }], guard := none }) rfl (fun K hK => ?_) AllTill.nil
          go_simp
          refine hK.out _ _ (fun h => absurd h (by decide)) ?_
          refine till_done (by kernel_rfl) ?_ _
          go_wp2_with fail
          go_meet
          exact ⟨_, _, rfl, rfl, pn_a we p nd⟩
        · go_simp
          refine hK.out _ _ (fun _ => HCC.out _ (below_alloc _ _)) ?_
          change Till _ _ _ _ _ _ _ _ _ (World.alloc (World.drew we) (.cells #[.int .i64 0] 3))
          refine till_ready (rs := [8]) (by kernel_rfl) (by simp) ?_
          refine AllTill.cons (o := { dst := some 12, op := Op.alloc 29, type := 0, pos := "law.go:54", after := #[], guard := none }) rfl (fun K hK => ?_) AllTill.nil
          go_simp
          refine hK.out _ _ (fun _ => HCC.out _ (below_one (below_alloc _ _) (below_alloc _ _))) ?_
          change Till _ _ _ _ _ _ _ _ _ (World.alloc (World.alloc (World.drew we) (.cells #[.int .i64 0] 3)) (.cells #[.int .u64 0] 29))
          refine till_ready (rs := [10]) (by kernel_rfl) (by simp) ?_
          refine AllTill.cons (o := { dst := none, op := Op.store 29 (Operand.tmp 12) (Operand.tmp 45), type := 0, pos := "law.go:54", after := #[{ on := 8, ground := Ground.data }, { on := 3, ground := Ground.data }, { on := 0, ground := Ground.phase }, { on := 1, ground := Ground.phase }, { on := 2, ground := Ground.phase }, { on := 3, ground := Ground.phase }, { on := 4, ground := Ground.textOnly Departure.lateStores }, { on := 5, ground := Ground.textOnly Departure.lateStores }, { on := 6, ground := Ground.textOnly Departure.lateStores }, { on := 7, ground := Ground.textOnly Departure.lateStores }, { on := 8, ground := Ground.phase }, { on := 9, ground := Ground.phase }], guard := none }) rfl (fun K hK => ?_) AllTill.nil
          go_simp
          refine hK.out _ _ (fun _ => HSB.out) ?_
          refine till_ready (rs := [11]) (by kernel_rfl) (by simp) ?_
          refine AllTill.cons (o := { dst := none, op := Op.store 3 (Operand.tmp 13) (Operand.tmp 49), type := 0, pos := "law.go:54", after := #[{ on := 9, ground := Ground.data }, { on := 7, ground := Ground.data }, { on := 10, ground := Ground.chain }, { on := 0, ground := Ground.phase }, { on := 1, ground := Ground.phase }, { on := 2, ground := Ground.phase }, { on := 3, ground := Ground.phase }, { on := 4, ground := Ground.phase }, { on := 5, ground := Ground.phase }, { on := 6, ground := Ground.phase }, { on := 7, ground := Ground.phase }, { on := 8, ground := Ground.phase }, { on := 9, ground := Ground.phase }, { on := 10, ground := Ground.phase }], guard := none }) rfl (fun K hK => ?_) AllTill.nil
          go_simp
          refine hK.out _ _ (fun h => absurd h (by decide)) ?_
          refine till_done (by kernel_rfl) ?_ _
          go_wp2_with fail
          go_meet
          exact ⟨_, _, rfl, rfl, pn_b we p nd⟩
      case rest =>
        obtain ⟨hp, hn, rfl, rfl, pn⟩ := hcut
        rename World => wv
        have HV1 := hide (sv_new HSX.out pn)
        have kp := pn.cp
        have kn := pn.cn
        have k0 : wv.cell? ⟨wr.heap.size, 0, none⟩ = some (.int .u8 (o : Int)) := by rw [pn.bel.cell (show wr.heap.size < _ from lt_of_cell HD.out.1)]; exact HD.out.1
        clear pn HSX HD HS d3 hwt hwT hwp hwn hwp8 hwn8 hp0 hn0 ht1 hX
        go_upto_block 2 with fail
        go_cut [] from 33 to 90 (fun wx => AtChk w g r y T wx)
        case first =>
          by_cases hda : d < 2
          ·
            by_cases hdz : d = 0
            · subst hdz
              go_wp2_with fail
              refine (learn_any p nd T _ HV1.out.sc.pm (by have := HINV.out.few; omega)).mono ?_; rintro e w3 ⟨rfl, h3⟩
              obtain ⟨rv3, V3⟩ := HV1.out.map h3
              have HV3 := hide V3
              have kp := V3.cp
              have kn := V3.cn
              clear h3 V3
              go_wp2_with fail
              refine (keep_any _ hp (isP p) _ _ HV3.out.sc (by have := HINV.out.few; omega) HV3.out.cp (kp2_asks hp p)).mono ?_; rintro e w4 ⟨rfl, h4⟩
              obtain ⟨vr4, V4⟩ := HV3.out.keep h4
              obtain ⟨qo, qc, rfl, hqn, hqc⟩ := OwnV.form V4.sc.ow
              obtain ⟨M4, hM4⟩ : ∃ M4, dropQ (isP p) L = M4 := ⟨_, rfl⟩
              have HM4 : Hid (M4.length ≤ 16) := by show _ ≤ _; rw [← hM4]; exact (HINV.out.drop (isP p)).few
              have HLL : Hid (learnL L p nd T = cutL M4 ++ [⟨p, nd, T⟩]) := by show learnL _ _ _ _ = _; unfold learnL; rw [hM4]
              rw [hM4] at V4 hqn
              obtain ⟨qn, hqq⟩ : ∃ k, M4.length = k := ⟨_, rfl⟩
              rw [hqq] at V4 hqn HM4
              have HQN := hide hqq
              have HV4 := hide V4
              have kr := V4.sc.cr
              have kz := V4.sc.zr
              obtain ⟨b16, hb16⟩ : ∃ b, ((qn : Int) == 16) = b := ⟨_, rfl⟩
              have HB16 := hide hb16
              clear h4 V4 hM4 hqq kp kn
              go_upto_if 72 with fail
              go_cut [] from 33 to 74 (fun wx => AtCut w g r hp hn y (learnL L p nd T) p nd T wx)
              case first =>
                cases b16 with
                | true =>
                  have h16 : (qn : Int) = 16 := by simpa using HB16.out
                  have hcutr : ∀ W : World, (Instr.slice 27 (.slice qo qn qc) (some (.int .i64 1)) none none).run Try.prog W = .ok (.slice (tailG 3 qo 1 qc) (qn - 1) (qc - 1)) W := fun W => cutG_tail Try.underlying27 Try.sizeOfL W qo qn qc 1 (by omega)
                  have HQ16 : Hid (qn = 16) := by show _ = _; omega
                  have HCT := hide (HV4.out.cut (by have := HQ16.out; omega))
                  obtain ⟨bo, hbo⟩ : ∃ b, tailG 3 qo 1 qc = b := ⟨_, rfl⟩
                  obtain ⟨bn, hbn⟩ : ∃ b, qn - 1 = b := ⟨_, rfl⟩
                  obtain ⟨bc, hbc⟩ : ∃ b, qc - 1 = b := ⟨_, rfl⟩
                  rw [hbo, hbn, hbc] at hcutr HCT
                  clear h16 hbo hbn hbc hb16
                  go_wp2_with fail
                  go_meet
                  exact ⟨_, bo, bn, bc, M4.drop 1, HCT.out, by have := HCT.out.li.1; rw [cellsV_len, List.length_drop, HQN.out] at this; have := HQ16.out; omega, by rw [HLL.out]; unfold cutL; rw [if_pos (by rw [HQN.out, HQ16.out]; omega)]⟩
                | false =>
                  have h16 : ¬ ((qn : Int) = 16) := by simpa using HB16.out
                  have HQ16 : Hid (qn < 16) := by show _ < _; have := HM4.out; omega
                  clear h16 hb16
                  go_wp2_with fail
                  go_meet
                  exact ⟨_, qo, qn, qc, M4, HV4.out.sl, by have := HQ16.out; omega, by rw [HLL.out]; unfold cutL; rw [if_neg (by rw [HQN.out]; have := HQ16.out; omega)]⟩
              case rest =>
                obtain ⟨rv5, ro, rn, rc, M5, sl, hrn, hl5⟩ := hcut
                clear hb16 HB16
                rename World => we
                have HSL := hide (sl.grow (below_d we 1))
                have HINL := hide ((HINV.out.later (now' := T) (Int.le_refl _)).learn p nd HT0.out)
                obtain ⟨va1, wa1, na, nc, wa2, ra1, ba1, ra2, NA⟩ := apps_a ⟨p, nd, T⟩ HSL.out.li (by omega)
                obtain ⟨vb1, wb1, nb, nc2, wb2, rb1, bb1, rb2, NB⟩ := apps_b ⟨p, nd, T⟩ HSL.out.li (by omega)
                have hcell : ∀ W : World, Below (World.drew we).heap.size (World.drew we) W → W.cell? ⟨r, 0, none⟩ = some (.slice ro rn rc) ∧ W.cell? ⟨hp, 0, none⟩ = some (.int .u64 p) ∧ W.cell? ⟨hn, 0, none⟩ = some (.int .i64 nd) := fun W bw => by
                  have h1 := HSL.out.grow bw
                  exact ⟨h1.cr, h1.cp, h1.cn⟩
                have hfro : ∀ W : World, Below (World.drew we).heap.size (World.drew we) W → W.frozen? ⟨r, 0, none⟩ = false := fun W bw => (HSL.out.grow bw).zr
                have HENDA := hide (hl5 ▸ HSL.out.store NA)
                have HENDB := hide (hl5 ▸ HSL.out.store NB)
                have hca := (hcell wa2 NA.1).1
                have hcb := (hcell wb2 NB.1).1
                have hfa := hfro wa2 NA.1
                have hfb := hfro wb2 NB.1
                have HC0 := hide (hcell _ (Below.refl _ _))
                have HCA1 := hide (hcell wa1 ba1)
                have HCA2 := hide (hcell (wa1.alloc (.cells #[.int .u64 p, .int .i64 nd, .int .i64 T] 31)) (below_one ba1 (below_alloc _ _)))
                have HCA3 := hide (hcell wa2 NA.1)
                have HCB1 := hide (hcell ((World.drew we).alloc (.cells #[.int .u64 p, .int .i64 nd, .int .i64 T] 31)) (below_alloc _ _))
                have HCB2 := hide (hcell wb1 bb1)
                have HCB3 := hide (hcell wb2 NB.1)
                have HRA1 := hide ra1
                have HRA2 := hide ra2
                have HRB1 := hide rb1
                have HRB2 := hide rb2
                clear sl hrn hl5 ra1 ba1 ra2 NA rb1 bb1 rb2 NB hcell hfro kr kz HV4 hqn hqc
                go_wp2_with fail
                refine region_till (fun W => W.cell? ⟨r, 0, none⟩ = some (.slice ro rn rc) ∧ W.cell? ⟨hp, 0, none⟩ = some (.int .u64 p) ∧ W.cell? ⟨hn, 0, none⟩ = some (.int .i64 nd)) 8 (by kernel_rfl) ?_
                refine till_take [0, 8] (i := 0) (oi := { dst := some 75, op := Op.load 27 (Operand.tmp 7), type := 27, pos := "law.go:62", after := #[], guard := none }) (v := (.slice ro rn rc)) rfl (by kernel_rfl) (by kernel_rfl) (by kernel_rfl) (by kernel_rfl) (fun _ _ _ h => h) (Or.inl ⟨by kernel_rfl, fun w hC => by (obtain ⟨q1, q2, q3⟩ := hC; go_simp)⟩) HC0.out ?_
                simp only [Act.put, List.setIfInBounds_toArray, List.set_cons_zero, List.set_cons_succ]
                refine till_take [2, 8] (i := 2) (oi := { dst := some 77, op := Op.load 29 (Operand.tmp 12), type := 29, pos := "law.go:62", after := #[], guard := none }) (v := (.int .u64 p)) rfl (by kernel_rfl) (by kernel_rfl) (by kernel_rfl) (by kernel_rfl) (fun _ _ _ h => h) (Or.inl ⟨by kernel_rfl, fun w hC => by (obtain ⟨q1, q2, q3⟩ := hC; go_simp)⟩) HC0.out ?_
                simp only [Act.put, List.setIfInBounds_toArray, List.set_cons_zero, List.set_cons_succ]
                refine till_take [3, 8] (i := 3) (oi := { dst := some 78, op := Op.load 3 (Operand.tmp 13), type := 3, pos := "law.go:62", after := #[], guard := none }) (v := (.int .i64 nd)) rfl (by kernel_rfl) (by kernel_rfl) (by kernel_rfl) (by kernel_rfl) (fun _ _ _ h => h) (Or.inl ⟨by kernel_rfl, fun w hC => by (obtain ⟨q1, q2, q3⟩ := hC; go_simp)⟩) HC0.out ?_
                simp only [Act.put, List.setIfInBounds_toArray, List.set_cons_zero, List.set_cons_succ]
                refine till_take [4, 8] (i := 4) (oi := { dst := some 79, op := Op.move (Operand.tmp 9), type := 3, pos := "law.go:62", after := #[], guard := none }) (v := (.int .i64 T)) rfl (by kernel_rfl) (by kernel_rfl) (by kernel_rfl) (by kernel_rfl) (fun _ _ _ h => h) (Or.inl ⟨by kernel_rfl, fun w hC => by go_simp⟩) HC0.out ?_
                simp only [Act.put, List.setIfInBounds_toArray, List.set_cons_zero, List.set_cons_succ]
                refine till_take [5, 8] (i := 5) (oi := { dst := some 80, op := Op.build 31 #[(0, Operand.tmp 77), (1, Operand.tmp 78), (2, Operand.tmp 79)], type := 31, pos := "law.go:62", after := #[{ on := 2, ground := Ground.data }, { on := 3, ground := Ground.data }, { on := 4, ground := Ground.data }], guard := none }) (v := (.agg #[.int .u64 p, .int .i64 nd, .int .i64 T])) rfl (by kernel_rfl) (by kernel_rfl) (by kernel_rfl) (by kernel_rfl) (fun _ _ _ h => h) (Or.inl ⟨by kernel_rfl, fun w hC => by go_simp⟩) HC0.out ?_
                simp only [Act.put, List.setIfInBounds_toArray, List.set_cons_zero, List.set_cons_succ]
                refine till_ready (rs := [1, 6]) (by kernel_rfl) (by simp) ?_
                refine AllTill.cons (o := { dst := some 76, op := Op.call { callee := Callee.builtin Builtin.append, args := #[Operand.const (Value.slice none 0 0), Operand.tmp 75], argTypes := #[27, 27] }, type := 27, pos := "law.go:62", after := #[{ on := 0, ground := Ground.data }], guard := none }) rfl (fun K hK => ?_) (AllTill.cons (o := { dst := some 81, op := Op.buildSlice 27 1 #[(0, Operand.tmp 80)], type := 27, pos := "law.go:62", after := #[{ on := 5, ground := Ground.data }], guard := none }) rfl (fun K hK => ?_) AllTill.nil)
                · refine step_run rfl _ _ _ rfl (.slice none 0 0) (.slice ro rn rc) va1 wa1 rfl rfl HRA1.out ?_
                  refine hK.out _ _ (fun _ => HCA1.out) ?_
                  simp only [Act.put, List.setIfInBounds_toArray, List.set_cons_zero, List.set_cons_succ]
                  refine till_ready (rs := [6]) (by kernel_rfl) (by simp) ?_
                  refine AllTill.cons (o := { dst := some 81, op := Op.buildSlice 27 1 #[(0, Operand.tmp 80)], type := 27, pos := "law.go:62", after := #[{ on := 5, ground := Ground.data }], guard := none }) rfl (fun K hK => ?_) AllTill.nil
                  go_simp
                  refine hK.out _ _ (fun _ => HCA2.out) ?_
                  change Till _ _ _ _ _ _ _ _ _ (World.alloc wa1 (.cells #[.int .u64 p, .int .i64 nd, .int .i64 T] 31))
                  refine till_ready (rs := [7]) (by kernel_rfl) (by simp) ?_
                  refine AllTill.cons (o := { dst := some 82, op := Op.call { callee := Callee.builtin Builtin.append, args := #[Operand.tmp 76, Operand.tmp 81], argTypes := #[27, 27] }, type := 27, pos := "law.go:62", after := #[{ on := 1, ground := Ground.data }, { on := 6, ground := Ground.data }, { on := 1, ground := Ground.chain }], guard := none }) rfl (fun K hK => ?_) AllTill.nil
                  refine step_run rfl _ _ _ rfl va1 (.slice (some ⟨(World.heap wa1).size, 0, none⟩) 1 1) (.slice na (rn + 1) nc) wa2 rfl rfl HRA2.out ?_
                  refine hK.out _ _ (fun _ => HCA3.out) ?_
                  simp only [Act.put, List.setIfInBounds_toArray, List.set_cons_zero, List.set_cons_succ]
                  refine till_ready (rs := [8]) (by kernel_rfl) (by simp) ?_
                  refine AllTill.cons (o := { dst := none, op := Op.store 27 (Operand.tmp 7) (Operand.tmp 82), type := 0, pos := "law.go:62", after := #[{ on := 7, ground := Ground.data }, { on := 7, ground := Ground.chain }, { on := 0, ground := Ground.phase }, { on := 1, ground := Ground.phase }, { on := 2, ground := Ground.phase }, { on := 3, ground := Ground.phase }, { on := 4, ground := Ground.phase }, { on := 5, ground := Ground.phase }, { on := 6, ground := Ground.phase }, { on := 7, ground := Ground.phase }], guard := none }) rfl (fun K hK => ?_) AllTill.nil
                  go_simp
                  refine hK.out _ _ (fun h => absurd h (by decide)) ?_
                  refine till_done (by kernel_rfl) ?_ _
                  go_wp2_with fail
                  go_meet
                  exact ⟨_, _, _, HENDA.out, HINL.out⟩
                · go_simp
                  refine hK.out _ _ (fun _ => HCB1.out) ?_
                  change Till _ _ _ _ _ _ _ _ _ (World.alloc (World.drew we) (.cells #[.int .u64 p, .int .i64 nd, .int .i64 T] 31))
                  refine till_ready (rs := [1]) (by kernel_rfl) (by simp) ?_
                  refine AllTill.cons (o := { dst := some 76, op := Op.call { callee := Callee.builtin Builtin.append, args := #[Operand.const (Value.slice none 0 0), Operand.tmp 75], argTypes := #[27, 27] }, type := 27, pos := "law.go:62", after := #[{ on := 0, ground := Ground.data }], guard := none }) rfl (fun K hK => ?_) AllTill.nil
                  refine step_run rfl _ _ _ rfl (.slice none 0 0) (.slice ro rn rc) vb1 wb1 rfl rfl HRB1.out ?_
                  refine hK.out _ _ (fun _ => HCB2.out) ?_
                  simp only [Act.put, List.setIfInBounds_toArray, List.set_cons_zero, List.set_cons_succ]
                  refine till_ready (rs := [7]) (by kernel_rfl) (by simp) ?_
                  refine AllTill.cons (o := { dst := some 82, op := Op.call { callee := Callee.builtin Builtin.append, args := #[Operand.tmp 76, Operand.tmp 81], argTypes := #[27, 27] }, type := 27, pos := "law.go:62", after := #[{ on := 1, ground := Ground.data }, { on := 6, ground := Ground.data }, { on := 1, ground := Ground.chain }], guard := none }) rfl (fun K hK => ?_) AllTill.nil
                  refine step_run rfl _ _ _ rfl vb1 (.slice (some ⟨(World.heap (World.drew we)).size, 0, none⟩) 1 1) (.slice nb (rn + 1) nc2) wb2 rfl rfl HRB2.out ?_
                  refine hK.out _ _ (fun _ => HCB3.out) ?_
                  simp only [Act.put, List.setIfInBounds_toArray, List.set_cons_zero, List.set_cons_succ]
                  refine till_ready (rs := [8]) (by kernel_rfl) (by simp) ?_
                  refine AllTill.cons (o := { dst := none, op := Op.store 27 (Operand.tmp 7) (Operand.tmp 82), type := 0, pos := "law.go:62", after := #[{ on := 7, ground := Ground.data }, { on := 7, ground := Ground.chain }, { on := 0, ground := Ground.phase }, { on := 1, ground := Ground.phase }, { on := 2, ground := Ground.phase }, { on := 3, ground := Ground.phase }, { on := 4, ground := Ground.phase }, { on := 5, ground := Ground.phase }, { on := 6, ground := Ground.phase }, { on := 7, ground := Ground.phase }], guard := none }) rfl (fun K hK => ?_) AllTill.nil
                  go_simp
                  refine hK.out _ _ (fun h => absurd h (by decide)) ?_
                  refine till_done (by kernel_rfl) ?_ _
                  go_wp2_with fail
                  go_meet
                  exact ⟨_, _, _, HENDB.out, HINL.out⟩
            · obtain rfl : d = 1 := by omega
              go_wp2_with fail
              refine (learn_any p nd T _ HV1.out.sc.pm (by have := HINV.out.few; omega)).mono ?_; rintro e w3 ⟨rfl, h3⟩
              obtain ⟨rv3, V3⟩ := HV1.out.map h3
              have HV3 := hide V3
              have kp := V3.cp
              have kn := V3.cn
              clear h3 V3
              go_wp2_with fail
              refine (keep_any _ hp (isP p) _ _ HV3.out.sc (by have := HINV.out.few; omega) HV3.out.cp (kp2_asks hp p)).mono ?_; rintro e w4 ⟨rfl, h4⟩
              obtain ⟨vr4, V4⟩ := HV3.out.keep h4
              obtain ⟨qo, qc, rfl, hqn, hqc⟩ := OwnV.form V4.sc.ow
              obtain ⟨M4, hM4⟩ : ∃ M4, dropQ (isP p) L = M4 := ⟨_, rfl⟩
              have HM4 : Hid (M4.length ≤ 16) := by show _ ≤ _; rw [← hM4]; exact (HINV.out.drop (isP p)).few
              have HLL : Hid (learnL L p nd T = cutL M4 ++ [⟨p, nd, T⟩]) := by show learnL _ _ _ _ = _; unfold learnL; rw [hM4]
              rw [hM4] at V4 hqn
              obtain ⟨qn, hqq⟩ : ∃ k, M4.length = k := ⟨_, rfl⟩
              rw [hqq] at V4 hqn HM4
              have HQN := hide hqq
              have HV4 := hide V4
              have kr := V4.sc.cr
              have kz := V4.sc.zr
              obtain ⟨b16, hb16⟩ : ∃ b, ((qn : Int) == 16) = b := ⟨_, rfl⟩
              have HB16 := hide hb16
              clear h4 V4 hM4 hqq kp kn
              go_upto_if 72 with fail
              go_cut [] from 33 to 74 (fun wx => AtCut w g r hp hn y (learnL L p nd T) p nd T wx)
              case first =>
                cases b16 with
                | true =>
                  have h16 : (qn : Int) = 16 := by simpa using HB16.out
                  have hcutr : ∀ W : World, (Instr.slice 27 (.slice qo qn qc) (some (.int .i64 1)) none none).run Try.prog W = .ok (.slice (tailG 3 qo 1 qc) (qn - 1) (qc - 1)) W := fun W => cutG_tail Try.underlying27 Try.sizeOfL W qo qn qc 1 (by omega)
                  have HQ16 : Hid (qn = 16) := by show _ = _; omega
                  have HCT := hide (HV4.out.cut (by have := HQ16.out; omega))
                  obtain ⟨bo, hbo⟩ : ∃ b, tailG 3 qo 1 qc = b := ⟨_, rfl⟩
                  obtain ⟨bn, hbn⟩ : ∃ b, qn - 1 = b := ⟨_, rfl⟩
                  obtain ⟨bc, hbc⟩ : ∃ b, qc - 1 = b := ⟨_, rfl⟩
                  rw [hbo, hbn, hbc] at hcutr HCT
                  clear h16 hbo hbn hbc hb16
                  go_wp2_with fail
                  go_meet
                  exact ⟨_, bo, bn, bc, M4.drop 1, HCT.out, by have := HCT.out.li.1; rw [cellsV_len, List.length_drop, HQN.out] at this; have := HQ16.out; omega, by rw [HLL.out]; unfold cutL; rw [if_pos (by rw [HQN.out, HQ16.out]; omega)]⟩
                | false =>
                  have h16 : ¬ ((qn : Int) = 16) := by simpa using HB16.out
                  have HQ16 : Hid (qn < 16) := by show _ < _; have := HM4.out; omega
                  clear h16 hb16
                  go_wp2_with fail
                  go_meet
                  exact ⟨_, qo, qn, qc, M4, HV4.out.sl, by have := HQ16.out; omega, by rw [HLL.out]; unfold cutL; rw [if_neg (by rw [HQN.out]; have := HQ16.out; omega)]⟩
              case rest =>
                obtain ⟨rv5, ro, rn, rc, M5, sl, hrn, hl5⟩ := hcut
                clear hb16 HB16
                rename World => we
                have HSL := hide (sl.grow (below_d we 1))
                have HINL := hide ((HINV.out.later (now' := T) (Int.le_refl _)).learn p nd HT0.out)
                obtain ⟨va1, wa1, na, nc, wa2, ra1, ba1, ra2, NA⟩ := apps_a ⟨p, nd, T⟩ HSL.out.li (by omega)
                obtain ⟨vb1, wb1, nb, nc2, wb2, rb1, bb1, rb2, NB⟩ := apps_b ⟨p, nd, T⟩ HSL.out.li (by omega)
                have hcell : ∀ W : World, Below (World.drew we).heap.size (World.drew we) W → W.cell? ⟨r, 0, none⟩ = some (.slice ro rn rc) ∧ W.cell? ⟨hp, 0, none⟩ = some (.int .u64 p) ∧ W.cell? ⟨hn, 0, none⟩ = some (.int .i64 nd) := fun W bw => by
                  have h1 := HSL.out.grow bw
                  exact ⟨h1.cr, h1.cp, h1.cn⟩
                have hfro : ∀ W : World, Below (World.drew we).heap.size (World.drew we) W → W.frozen? ⟨r, 0, none⟩ = false := fun W bw => (HSL.out.grow bw).zr
                have HENDA := hide (hl5 ▸ HSL.out.store NA)
                have HENDB := hide (hl5 ▸ HSL.out.store NB)
                have hca := (hcell wa2 NA.1).1
                have hcb := (hcell wb2 NB.1).1
                have hfa := hfro wa2 NA.1
                have hfb := hfro wb2 NB.1
                have HC0 := hide (hcell _ (Below.refl _ _))
                have HCA1 := hide (hcell wa1 ba1)
                have HCA2 := hide (hcell (wa1.alloc (.cells #[.int .u64 p, .int .i64 nd, .int .i64 T] 31)) (below_one ba1 (below_alloc _ _)))
                have HCA3 := hide (hcell wa2 NA.1)
                have HCB1 := hide (hcell ((World.drew we).alloc (.cells #[.int .u64 p, .int .i64 nd, .int .i64 T] 31)) (below_alloc _ _))
                have HCB2 := hide (hcell wb1 bb1)
                have HCB3 := hide (hcell wb2 NB.1)
                have HRA1 := hide ra1
                have HRA2 := hide ra2
                have HRB1 := hide rb1
                have HRB2 := hide rb2
                clear sl hrn hl5 ra1 ba1 ra2 NA rb1 bb1 rb2 NB hcell hfro kr kz HV4 hqn hqc
                go_wp2_with fail
                refine region_till (fun W => W.cell? ⟨r, 0, none⟩ = some (.slice ro rn rc) ∧ W.cell? ⟨hp, 0, none⟩ = some (.int .u64 p) ∧ W.cell? ⟨hn, 0, none⟩ = some (.int .i64 nd)) 8 (by kernel_rfl) ?_
                refine till_take [0, 8] (i := 0) (oi := { dst := some 75, op := Op.load 27 (Operand.tmp 7), type := 27, pos := "law.go:62", after := #[], guard := none }) (v := (.slice ro rn rc)) rfl (by kernel_rfl) (by kernel_rfl) (by kernel_rfl) (by kernel_rfl) (fun _ _ _ h => h) (Or.inl ⟨by kernel_rfl, fun w hC => by (obtain ⟨q1, q2, q3⟩ := hC; go_simp)⟩) HC0.out ?_
                simp only [Act.put, List.setIfInBounds_toArray, List.set_cons_zero, List.set_cons_succ]
                refine till_take [2, 8] (i := 2) (oi := { dst := some 77, op := Op.load 29 (Operand.tmp 12), type := 29, pos := "law.go:62", after := #[], guard := none }) (v := (.int .u64 p)) rfl (by kernel_rfl) (by kernel_rfl) (by kernel_rfl) (by kernel_rfl) (fun _ _ _ h => h) (Or.inl ⟨by kernel_rfl, fun w hC => by (obtain ⟨q1, q2, q3⟩ := hC; go_simp)⟩) HC0.out ?_
                simp only [Act.put, List.setIfInBounds_toArray, List.set_cons_zero, List.set_cons_succ]
                refine till_take [3, 8] (i := 3) (oi := { dst := some 78, op := Op.load 3 (Operand.tmp 13), type := 3, pos := "law.go:62", after := #[], guard := none }) (v := (.int .i64 nd)) rfl (by kernel_rfl) (by kernel_rfl) (by kernel_rfl) (by kernel_rfl) (fun _ _ _ h => h) (Or.inl ⟨by kernel_rfl, fun w hC => by (obtain ⟨q1, q2, q3⟩ := hC; go_simp)⟩) HC0.out ?_
                simp only [Act.put, List.setIfInBounds_toArray, List.set_cons_zero, List.set_cons_succ]
                refine till_take [4, 8] (i := 4) (oi := { dst := some 79, op := Op.move (Operand.tmp 9), type := 3, pos := "law.go:62", after := #[], guard := none }) (v := (.int .i64 T)) rfl (by kernel_rfl) (by kernel_rfl) (by kernel_rfl) (by kernel_rfl) (fun _ _ _ h => h) (Or.inl ⟨by kernel_rfl, fun w hC => by go_simp⟩) HC0.out ?_
                simp only [Act.put, List.setIfInBounds_toArray, List.set_cons_zero, List.set_cons_succ]
                refine till_take [5, 8] (i := 5) (oi := { dst := some 80, op := Op.build 31 #[(0, Operand.tmp 77), (1, Operand.tmp 78), (2, Operand.tmp 79)], type := 31, pos := "law.go:62", after := #[{ on := 2, ground := Ground.data }, { on := 3, ground := Ground.data }, { on := 4, ground := Ground.data }], guard := none }) (v := (.agg #[.int .u64 p, .int .i64 nd, .int .i64 T])) rfl (by kernel_rfl) (by kernel_rfl) (by kernel_rfl) (by kernel_rfl) (fun _ _ _ h => h) (Or.inl ⟨by kernel_rfl, fun w hC => by go_simp⟩) HC0.out ?_
                simp only [Act.put, List.setIfInBounds_toArray, List.set_cons_zero, List.set_cons_succ]
                refine till_ready (rs := [1, 6]) (by kernel_rfl) (by simp) ?_
                refine AllTill.cons (o := { dst := some 76, op := Op.call { callee := Callee.builtin Builtin.append, args := #[Operand.const (Value.slice none 0 0), Operand.tmp 75], argTypes := #[27, 27] }, type := 27, pos := "law.go:62", after := #[{ on := 0, ground := Ground.data }], guard := none }) rfl (fun K hK => ?_) (AllTill.cons (o := { dst := some 81, op := Op.buildSlice 27 1 #[(0, Operand.tmp 80)], type := 27, pos := "law.go:62", after := #[{ on := 5, ground := Ground.data }], guard := none }) rfl (fun K hK => ?_) AllTill.nil)
                · refine step_run rfl _ _ _ rfl (.slice none 0 0) (.slice ro rn rc) va1 wa1 rfl rfl HRA1.out ?_
                  refine hK.out _ _ (fun _ => HCA1.out) ?_
                  simp only [Act.put, List.setIfInBounds_toArray, List.set_cons_zero, List.set_cons_succ]
                  refine till_ready (rs := [6]) (by kernel_rfl) (by simp) ?_
                  refine AllTill.cons (o := { dst := some 81, op := Op.buildSlice 27 1 #[(0, Operand.tmp 80)], type := 27, pos := "law.go:62", after := #[{ on := 5, ground := Ground.data }], guard := none }) rfl (fun K hK => ?_) AllTill.nil
                  go_simp
                  refine hK.out _ _ (fun _ => HCA2.out) ?_
                  change Till _ _ _ _ _ _ _ _ _ (World.alloc wa1 (.cells #[.int .u64 p, .int .i64 nd, .int .i64 T] 31))
                  refine till_ready (rs := [7]) (by kernel_rfl) (by simp) ?_
                  refine AllTill.cons (o := { dst := some 82, op := Op.call { callee := Callee.builtin Builtin.append, args := #[Operand.tmp 76, Operand.tmp 81], argTypes := #[27, 27] }, type := 27, pos := "law.go:62", after := #[{ on := 1, ground := Ground.data }, { on := 6, ground := Ground.data }, { on := 1, ground := Ground.chain }], guard := none }) rfl (fun K hK => ?_) AllTill.nil
                  refine step_run rfl _ _ _ rfl va1 (.slice (some ⟨(World.heap wa1).size, 0, none⟩) 1 1) (.slice na (rn + 1) nc) wa2 rfl rfl HRA2.out ?_
                  refine hK.out _ _ (fun _ => HCA3.out) ?_
                  simp only [Act.put, List.setIfInBounds_toArray, List.set_cons_zero, List.set_cons_succ]
                  refine till_ready (rs := [8]) (by kernel_rfl) (by simp) ?_
                  refine AllTill.cons (o := { dst := none, op := Op.store 27 (Operand.tmp 7) (Operand.tmp 82), type := 0, pos := "law.go:62", after := #[{ on := 7, ground := Ground.data }, { on := 7, ground := Ground.chain }, { on := 0, ground := Ground.phase }, { on := 1, ground := Ground.phase }, { on := 2, ground := Ground.phase }, { on := 3, ground := Ground.phase }, { on := 4, ground := Ground.phase }, { on := 5, ground := Ground.phase }, { on := 6, ground := Ground.phase }, { on := 7, ground := Ground.phase }], guard := none }) rfl (fun K hK => ?_) AllTill.nil
                  go_simp
                  refine hK.out _ _ (fun h => absurd h (by decide)) ?_
                  refine till_done (by kernel_rfl) ?_ _
                  go_wp2_with fail
                  go_meet
                  exact ⟨_, _, _, HENDA.out, HINL.out⟩
                · go_simp
                  refine hK.out _ _ (fun _ => HCB1.out) ?_
                  change Till _ _ _ _ _ _ _ _ _ (World.alloc (World.drew we) (.cells #[.int .u64 p, .int .i64 nd, .int .i64 T] 31))
                  refine till_ready (rs := [1]) (by kernel_rfl) (by simp) ?_
                  refine AllTill.cons (o := { dst := some 76, op := Op.call { callee := Callee.builtin Builtin.append, args := #[Operand.const (Value.slice none 0 0), Operand.tmp 75], argTypes := #[27, 27] }, type := 27, pos := "law.go:62", after := #[{ on := 0, ground := Ground.data }], guard := none }) rfl (fun K hK => ?_) AllTill.nil
                  refine step_run rfl _ _ _ rfl (.slice none 0 0) (.slice ro rn rc) vb1 wb1 rfl rfl HRB1.out ?_
                  refine hK.out _ _ (fun _ => HCB2.out) ?_
                  simp only [Act.put, List.setIfInBounds_toArray, List.set_cons_zero, List.set_cons_succ]
                  refine till_ready (rs := [7]) (by kernel_rfl) (by simp) ?_
                  refine AllTill.cons (o := { dst := some 82, op := Op.call { callee := Callee.builtin Builtin.append, args := #[Operand.tmp 76, Operand.tmp 81], argTypes := #[27, 27] }, type := 27, pos := "law.go:62", after := #[{ on := 1, ground := Ground.data }, { on := 6, ground := Ground.data }, { on := 1, ground := Ground.chain }], guard := none }) rfl (fun K hK => ?_) AllTill.nil
                  refine step_run rfl _ _ _ rfl vb1 (.slice (some ⟨(World.heap (World.drew we)).size, 0, none⟩) 1 1) (.slice nb (rn + 1) nc2) wb2 rfl rfl HRB2.out ?_
                  refine hK.out _ _ (fun _ => HCB3.out) ?_
                  simp only [Act.put, List.setIfInBounds_toArray, List.set_cons_zero, List.set_cons_succ]
                  refine till_ready (rs := [8]) (by kernel_rfl) (by simp) ?_
                  refine AllTill.cons (o := { dst := none, op := Op.store 27 (Operand.tmp 7) (Operand.tmp 82), type := 0, pos := "law.go:62", after := #[{ on := 7, ground := Ground.data }, { on := 7, ground := Ground.chain }, { on := 0, ground := Ground.phase }, { on := 1, ground := Ground.phase }, { on := 2, ground := Ground.phase }, { on := 3, ground := Ground.phase }, { on := 4, ground := Ground.phase }, { on := 5, ground := Ground.phase }, { on := 6, ground := Ground.phase }, { on := 7, ground := Ground.phase }], guard := none }) rfl (fun K hK => ?_) AllTill.nil
                  go_simp
                  refine hK.out _ _ (fun h => absurd h (by decide)) ?_
                  refine till_done (by kernel_rfl) ?_ _
                  go_wp2_with fail
                  go_meet
                  exact ⟨_, _, _, HENDB.out, HINL.out⟩
          · by_cases hdb : d = 2
            ·
              subst hdb
              go_wp2_with fail
              refine (forget_any p _ HV1.out.sc.pm (by have := HINV.out.few; omega)).mono ?_; rintro e w3 ⟨rfl, h3⟩
              obtain ⟨rv3, V3⟩ := HV1.out.map h3
              have HV3 := hide V3
              clear h3 V3
              go_wp2_with fail
              refine (keep_any _ hp (isP p) _ _ HV3.out.sc (by have := HINV.out.few; omega) HV3.out.cp (kp3_asks hp p)).mono ?_; rintro e w4 ⟨rfl, h4⟩
              obtain ⟨vr4, V4⟩ := HV3.out.keep h4
              have HV4 := hide V4
              clear h4 V4
              go_wp2_with fail
              go_meet
              exact ⟨_, _, _, HV4.out.sc, HINV.out.drop _⟩
            ·
              obtain rfl : d = 3 := by omega
              go_wp2_with fail
              refine (gone_any nd _ HV1.out.sc.pm (by have := HINV.out.few; omega)).mono ?_; rintro e w3 ⟨rfl, h3⟩
              obtain ⟨rv3, V3⟩ := HV1.out.map h3
              have HV3 := hide V3
              clear h3 V3
              go_wp2_with fail
              refine (keep_any _ hn (isN nd) _ _ HV3.out.sc (by have := HINV.out.few; omega) HV3.out.cn (kp4_asks hn nd)).mono ?_; rintro e w4 ⟨rfl, h4⟩
              obtain ⟨vr4, V4⟩ := HV3.out.keep h4
              have HV4 := hide V4
              clear h4 V4
              go_wp2_with fail
              go_meet
              exact ⟨_, _, _, HV4.out.sc, HINV.out.drop _⟩
        case rest =>
          clear kp kn k0 hd1 hd4
          obtain ⟨L2, rv2, vr2, sc, inv⟩ := hcut
          rename World => wc
          have HS2 := hide sc
          have HINV2 := hide inv
          obtain ⟨mo, mc, rfl, hmn, hmc⟩ := OwnV.form sc.ow
          obtain ⟨m, hm⟩ : ∃ m, L2.length = m := ⟨_, rfl⟩
          rw [hm] at HS2 hmn
          have HML := hide hm
          have q1 : ∀ q, (wc.drewN q).cell? ⟨r, 0, none⟩ = some (.slice mo m mc) := fun q => by have := sc.cr; rw [hm] at this; exact this
          have hm16 : m ≤ 16 := by rw [← hm]; exact inv.few
          clear sc inv hm HV1 HINV
          go_wp2_with fail
          go_quiet ((go_at_call 17; exact Calls.quiet_of_same (len_is _ (HS2.out.pm.grow (below_d wc _)) HML.out)))
          generalize hV : World.drewN wc _ = V
          have HSV : Hid (Sc w V g r y rv2 (.slice mo m mc) L2 L2) := by show Sc _ _ _ _ _ _ _ _ _; rw [← hV]; exact HS2.out.grow (below_d wc _)
          clear hV q1 HS2
          go_wp2_with fail
          go_loopg [14] 24 (fun gk vp wr => PRel w g r y rv2 (.slice mo m mc) L2 gk vp wr)
          case atStart => exact ⟨0, by omega, rfl, HSV.out⟩
          case round =>
            rename World => wq
            clear HSV
            obtain ⟨k, hk, rfl, sc⟩ := hrel
            have HSQ := hide sc
            have HK := hide hk
            cases gk with
            | zero =>
              have hlt2 : ¬ ((k : Int) < 24) := by omega
              clear hk sc
              go_wp2
              go_roundg g1
              case measure => omega
              case rel => exact ⟨i + 1, T, L2, _, _, by have := HI.out; omega, by go_num, rfl, HSQ.out, HINV2.out, HT0.out, by have := HT1.out; omega⟩
            | succ g2 =>
              have hlt2 : (k : Int) < 24 := by omega
              have k7 := sc.cr
              clear hk sc
              go_wp2_with fail
              go_loopg [15, 16, 102] m (fun gk v1 v2 vj wr => IRel w g r y T (k : Int) rv2 (.slice mo m mc) L2 m gk v1 v2 vj wr)
              case atStart => exact ⟨0, 0, false, by omega, rfl, rfl, rfl, rfl, rfl, HSQ.out⟩
              case round =>
                rename World => wz
                clear HSQ k7
                obtain ⟨j, wv, bv, hj, rfl, rfl, rfl, hwv, hbv, sc⟩ := hrel
                have HSZ0 := hide sc
                have HJ := hide hj
                have HWV := hide hwv
                have HBV := hide hbv
                clear hwv hbv
                cases gk with
                | zero =>
                  obtain rfl : j = m := by omega
                  have hlt3 : ¬ ((j : Int) < (j : Int)) := by omega
                  have HFI : Hid (findI y L2 (k : Int) T = wv ∧ findB y L2 (k : Int) T = bv) := by
                    have e1 := HWV.out
                    have e2 := HBV.out
                    rw [List.take_of_length_le (by rw [HML.out]; omega), see_find HINV2.out] at e1 e2
                    exact ⟨e1.symm, e2.symm⟩
                  have hI : I64 T := ⟨by have := HT0.out; omega, by have := HT1.out; have := HNB.out; omega⟩
                  have hAA : ∀ z ∈ L2, I64 z.a := fun z hz => by
                    have := HINV2.out.when z hz
                    exact ⟨by omega, by have := HT1.out; have := HNB.out; omega⟩
                  have HII := hide hI
                  have HAA := hide hAA
                  clear hj sc hI hAA
                  go_wp2_with fail
                  refine (find_any (k : Int) T _ HSZ0.out.pm (by have := HY.out; omega) HII.out HAA.out).mono ?_; rintro e w9 ⟨rfl, b9⟩
                  rw [HFI.out.1, HFI.out.2]
                  have HS9 := hide (HSZ0.out.grow b9)
                  clear b9
                  go_wp2
                  go_roundg g2
                  case measure => omega
                  case rel => exact ⟨k + 1, by have := HK.out; omega, by go_num, HS9.out⟩
                | succ g3 =>
                  have hlt3 : (j : Int) < (m : Int) := by omega
                  have HJM : Hid (j < m) := by show _ < _; omega
                  obtain ⟨hh, ac, e, c0, c1, c2, _⟩ := sc.ow.elem j (by rw [HML.out]; exact HJM.out)
                  obtain ⟨rfl, rfl⟩ : mo = some ⟨hh, 0, none⟩ ∧ mc = ac := by cases e; exact ⟨rfl, rfl⟩
                  obtain ⟨z, hz⟩ : ∃ z, L2.getD j Pl.zero = z := ⟨_, rfl⟩
                  have hzw := HINV2.out.when _ (getV_mem L2 j (by rw [HML.out]; exact HJM.out))
                  rw [hz] at c0 c1 c2 hzw
                  have HZZ := hide hz
                  have hwz : IntKind.i64.wrap (T - z.a) = T - z.a := by have := HT1.out; have := HNB.out; rw [IntKind.wrap_i64]; omega
                  obtain ⟨Z, hZ⟩ : ∃ Z, wz.alloc (.cells #[.int .u64 z.p, .int .i64 z.n, .int .i64 z.a] 31) = Z := ⟨_, rfl⟩
                  have d0 : Z.cell? ⟨wz.heap.size, 0, none⟩ = some (.int .u64 z.p) := by rw [← hZ]; simp
                  have d1 : Z.cell? ⟨wz.heap.size, 1, none⟩ = some (.int .i64 z.n) := by rw [← hZ]; simp
                  have d2 : Z.cell? ⟨wz.heap.size, 2, none⟩ = some (.int .i64 z.a) := by rw [← hZ]; simp
                  have HSZ := hide (sc.grow (hZ ▸ below_alloc wz _ : Below wz.heap.size wz Z))
                  clear hj sc e hz hzw
                  cases hq1 : (z.p == (k : Int)) with
                  | false =>
                    have HE := hide ((see_cases (y := y) (T := T) (x := (k : Int)) (S := seeV y T (k : Int) (L2.take j)) (z := z)).2 (by rw [hq1]; rfl))
                    go_wp2
                    go_roundg g3
                    case measure => omega
                    case rel =>
                      refine ⟨j + 1, _, _, by have := HJ.out; omega, by go_num, rfl, rfl, ?_, ?_, HSZ.out⟩
                      · rw [seeV_snoc y T (k : Int) L2 j (by rw [HML.out]; exact HJM.out), HZZ.out, HE.out]; exact HWV.out
                      · rw [seeV_snoc y T (k : Int) L2 j (by rw [HML.out]; exact HJM.out), HZZ.out, HE.out]; exact HBV.out
                  | true =>
                    by_cases hq2 : T - z.a < y
                    ·
                      have HE := hide ((see_cases (y := y) (T := T) (x := (k : Int)) (S := seeV y T (k : Int) (L2.take j)) (z := z)).1 (by rw [hq1, decide_eq_true hq2]; rfl))
                      go_wp2
                      go_roundg g3
                      case measure => omega
                      case rel =>
                        refine ⟨j + 1, _, _, by have := HJ.out; omega, by go_num, rfl, rfl, ?_, ?_, HSZ.out⟩
                        · rw [seeV_snoc y T (k : Int) L2 j (by rw [HML.out]; exact HJM.out), HZZ.out, HE.out]; rfl
                        · rw [seeV_snoc y T (k : Int) L2 j (by rw [HML.out]; exact HJM.out), HZZ.out, HE.out]; rfl
                    ·
                      have HE := hide ((see_cases (y := y) (T := T) (x := (k : Int)) (S := seeV y T (k : Int) (L2.take j)) (z := z)).2 (by rw [hq1, decide_eq_false hq2]; rfl))
                      go_wp2
                      go_roundg g3
                      case measure => omega
                      case rel =>
                        refine ⟨j + 1, _, _, by have := HJ.out; omega, by go_num, rfl, rfl, ?_, ?_, HSZ.out⟩
                        · rw [seeV_snoc y T (k : Int) L2 j (by rw [HML.out]; exact HJM.out), HZZ.out, HE.out]; exact HWV.out
                        · rw [seeV_snoc y T (k : Int) L2 j (by rw [HML.out]; exact HJM.out), HZZ.out, HE.out]; exact HBV.out
end Go.Proofs.Ytlpjaklhmnbpeaa
