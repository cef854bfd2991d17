/-
  What a box's All answers, as a contract, at any function that asks.
-/
import Derived.Test.YtibdhjohjkdgdaaDoorMSeen
import Derived.Deep.RegionLaw
import Derived.Deep.RegionHeldLaw
namespace Go.Proofs.YtibdhjohjkdgdaaDoor
open Go.RowKit Go.Conc
theorem step_append_run {P : Program} {w : World} {ops : Array Oper} {o : Oper} {a : Act} {K : Act → World → Prop} {Q : Exit → Act → World → Prop} {E : Prop} (hgd : o.guard = none) (s x : Operand) (ts : Array TypeId)
    (ho : o.op = .call { callee := .builtin .append, args := #[s, x], argTypes := ts }) (v u v' : Value) (w' : World) (hs : a.eval s = v) (hx : a.eval x = u) (hr : (Builtin.append_ ts o.type #[v, u]).run P w = .ok v' w') (h : K (a.put o.dst v') w') :
    if Region.wanted o (yielded ops a.tmps) = true then Oper.wp P o a w K Q else E := by
  have hw : Region.wanted o (yielded ops a.tmps) = true := by simp [Region.wanted, hgd]
  rw [if_pos hw]
  unfold Oper.wp execOp
  simp only [ho, resolve, invoke, builtin, Sem.run_bind, Sem.run_pure, Result.andThen_ok, List.map_toArray, List.map_cons, List.map_nil, hs, hx, hr]
  exact h
variable {w w' : World} {b cu co N : Nat} {U O : List Ms}
theorem Bx.quU (x : Bx w b cu co N U O) : Qu w cu N U := ⟨x.urg, fun y hy => ⟨(x.has y (List.mem_append_left _ hy)).1, (x.has y (List.mem_append_left _ hy)).2.2⟩, x.few.1, x.few.2.2⟩
theorem Bx.quO (x : Bx w b cu co N U O) : Qu w co N O := ⟨x.oth, fun y hy => ⟨(x.has y (List.mem_append_right _ hy)).1, (x.has y (List.mem_append_right _ hy)).2.2⟩, x.few.2.1, x.few.2.2⟩
theorem has_foot {S : Nat → Prop} {y : Ms} (h : y.has w) (h' : OwnD w y) (f : Foot S w w') (hS : ∀ k cur, w.heap[k]? = some (.cells cur 5 (0, 0)) → ¬ S k) : y.has w' := by
  refine ⟨h.1, h.2.1, h.2.2.1, h.2.2.2.1, fun ad e j hj => ?_⟩
  have hc := h.2.2.2.2 ad e j hj
  obtain ⟨cur, hk⟩ := h' (by have := h.1; omega) ad e
  rw [f.cell _ (lt_of_cell hc) (by rw [add_block]; exact hS _ _ hk), hc]
theorem Bx.foot {S : Nat → Prop} (x : Bx w b cu co N U O) (f : Foot S w w') (h1 : ¬ S b) (h2 : ¬ S cu) (h3 : ¬ S co) (hS : ∀ k cur, w.heap[k]? = some (.cells cur 5 (0, 0)) → ¬ S k) : Bx w' b cu co N U O :=
  ⟨(f.block b (lt_of_heap x.box) h1).trans x.box, x.urg.foot f h2, x.oth.foot f h3, x.ne, fun y hy => ⟨has_foot (x.has y hy).1 (x.has y hy).2.1 f hS, (x.has y hy).2.1.foot f hS, (x.has y hy).2.2⟩, x.few⟩
structure AllEnd (w : World) (q : Ms → Bool) (b cu co N : Nat) (U O : List Ms) (v : Value) (w' : World) : Prop where
  row : w'.ownsRow w.heap.size 35 11 v (outF q U ++ outF q O).length (cellsM (outF q U ++ outF q O))
  bx : Bx w' b cu co N (keepF q U) (keepF q O)
  has : ∀ y ∈ U ++ O, y.has w' ∧ OwnD w' y
  ft : Foot (Two cu co) w w'
set_option maxRecDepth 20000 in
set_option maxHeartbeats 6400000 in
theorem all_any {F : Nat} {cap : Array Value} {g : Nat} {o : Obj} {q : Ms → Bool} (hF : AsksOf F cap g o q) (w : World) (x : Bx w b cu co N U O) (hg : w.heap[g]? = some o) (hgu : g ≠ cu) (hgo : g ≠ co) :
    Calls Tryd.prog 14 #[.pointer (some ⟨b, 0, none⟩), .func (.func F) #[] cap] w fun e w' => ∃ v, e = .returned v ∧ AllEnd w q b cu co N U O v w' := by
  have HX := hide x
  have HFF := hide hF
  have HG : Hid (w.heap[g]? = some o) := hg
  have HGU := hide hgu
  have HGO := hide hgo
  have c0 := x.c0
  clear x hF hg hgu hgo
  go_enter Tryd.func14, Tryd.ntmps14
  go_wp2_with fail
  refine (asked_any HFF.out cu N U _ HX.out.quU HG.out HGU.out).mono ?_; rintro e w1 ⟨v1, rfl, o1, C1, F1⟩
  have x1 := HX.out.turnU F1 C1 HX.out.few.1 (fun y hy => .inl hy)
  have HX1 := hide x1
  have HG1 : Hid (w1.heap[g]? = some o) := (F1.block g (lt_of_heap HG.out) HGU.out).trans HG.out
  have HO1 := hide o1
  have HF1 := hide (foot_u (d := co) F1)
  have c1 := x1.c1
  clear C1 F1 x1 c0 o1
  go_wp2_with fail
  refine (asked_any HFF.out co N O _ HX1.out.quO HG1.out HGO.out).mono ?_; rintro e w2 ⟨v2, rfl, o2, C2, F2⟩
  have x2 := HX1.out.turnO F2 C2 HX1.out.few.2.1 (fun y hy => .inl hy)
  have HX2 := hide x2
  have HO2 := hide o2
  have HO12 := hide (HX1.out.owns (foot_o (c := cu) F2) HO1.out)
  have HF2 := hide (HF1.out.then (foot_o (c := cu) F2))
  have HS0 : Hid (w2.drew.cell? ⟨b, 0, none⟩ = some (.chan (some cu)) ∧ w2.drew.cell? ⟨b, 1, none⟩ = some (.chan (some co))) := ⟨x2.c0, x2.c1⟩
  obtain ⟨nu, hnu⟩ : ∃ nu, U.length = nu := ⟨_, rfl⟩
  obtain ⟨no, hno⟩ : ∃ no, O.length = no := ⟨_, rfl⟩
  have HNU := hide hnu
  have HNO := hide hno
  have hfu : nu ≤ N ∧ N ≤ 64 := hnu ▸ HX.out.quU.few
  have hfo : no ≤ N ∧ N ≤ 64 := hno ▸ HX.out.quO.few
  rw [hnu] at HO12
  rw [hno] at HO2
  obtain ⟨ao1, ac1, rfl, l1⟩ := owns_lies HO12.out
  obtain ⟨ao2, ac2, rfl, l2⟩ := owns_lies HO2.out
  have HL1 := hide l1
  have HL2 := hide l2
  clear C2 F2 x2 c1 o2 hnu hno l1 l2
  go_wp2_with fail
  go_region_held_law (fun W => W.cell? ⟨b, 0, none⟩ = some (.chan (some cu)) ∧ W.cell? ⟨b, 1, none⟩ = some (.chan (some co)))
    (first | exact HS7.out | exact HS6.out | exact HS5.out | exact HS0.out)
    (first
      | (have hr7 := HR7.out; clear hr7; refine step_append_run (by rfl) _ _ _ (by rfl) _ _ _ _ (by rfl) (by rfl) HR7.out ?_)
      | (have hx5 := HX5.out
         clear hx5
         go_at_call 22
         refine (pick_any q co N O ao2 ac2 no HNO.out _ HX5.out.oth hfo HL5.out).mono ?_
         rintro e w6 ⟨v6, rfl, o6, C6, F6⟩
         have x6 := HX5.out.turnO F6 C6 (Nat.le_trans (keepF_len q O) HX5.out.few.2.1) (fun y hy => .inl ((List.mem_filter.1 hy).1))
         have HX6 := hide x6
         have HS6 : Hid (w6.cell? ⟨b, 0, none⟩ = some (.chan (some cu)) ∧ w6.cell? ⟨b, 1, none⟩ = some (.chan (some co))) := ⟨x6.c0, x6.c1⟩
         have HF6 := hide (foot_o (c := cu) F6)
         have h56 := HX5.out.owns HF6.out HO5.out
         have h66 := o6
         obtain ⟨ao6, ac6, rfl, l6⟩ := owns_lies o6
         have lu := outF_len q U
         have lo := outF_len q O
         have eu := HNU.out
         have eo := HNO.out
         have s1 := HF2.out.size
         have s5 := HF5.out.size
         have s6 := HF6.out.size
         obtain ⟨v7, w7, hr7, h77, g7⟩ := app_ms h56 l6 (cellsM_one _) (by omega) (Nat.le_trans (Nat.le_refl _) (by show w2.heap.size ≤ _; exact Nat.le_trans s5 s6))
         have HR7 := hide hr7
         have HO7 := hide h77
         have HO6B : Hid (∀ k, v5.ownBlock = some k → w2.heap.size ≤ k) := fun k h => (owns_lt h56 h).2
         have HTY : Hid (∀ k cur, w6.heap[k]? = some (.cells cur 5 (0, 0)) → ¬ v5.ownBlock = some k) := fun k cur hk e => by
           obtain ⟨c1, h1⟩ := owns_type h56 e
           exact two_types hk h1 (by decide) rfl
         have f7 := grown_foot g7
         have HF7 := hide f7
         have HS7 : Hid (w7.cell? ⟨b, 0, none⟩ = some (.chan (some cu)) ∧ w7.cell? ⟨b, 1, none⟩ = some (.chan (some co))) := by
           have hb : b < w2.heap.size := lt_of_heap HX2.out.box
           refine ⟨(f7.cell ⟨b, 0, none⟩ (lt_of_cell x6.c0) (fun e => ?_)).trans x6.c0, (f7.cell ⟨b, 1, none⟩ (lt_of_cell x6.c1) (fun e => ?_)).trans x6.c1⟩
           · have := HO6B.out b e; omega
           · have := HO6B.out b e; omega
         clear x6 o6 C6 F6 h56 h66 l6 lu lo eu eo s1 s5 s6 hr7 h77 g7 f7)
      | (go_at_call 22
         (
          refine (pick_any q cu N U ao1 ac1 nu HNU.out _ (HX2.out.drewN 1).urg hfu (HL1.out.drewN 1)).mono ?_
          rintro e w5 ⟨v5, rfl, o5, C5, F5⟩
          have x5 := (HX2.out.drewN 1).turnU F5 C5 (Nat.le_trans (keepF_len q U) HX2.out.few.1) (fun y hy => .inl ((List.mem_filter.1 hy).1))
          have HX5 := hide x5
          have HS5 : Hid (w5.cell? ⟨b, 0, none⟩ = some (.chan (some cu)) ∧ w5.cell? ⟨b, 1, none⟩ = some (.chan (some co))) := ⟨x5.c0, x5.c1⟩
          have HO5 := hide o5
          have HF5 := hide (foot_u (d := co) F5)
          have HL5 := hide ((HX2.out.drewN 1).lies HF5.out (HL2.out.drewN 1))
          clear x5 o5 C5 F5)))
  go_wp2
  go_ret
  have s2 := HF2.out.size
  have hlt : ∀ k, k < w2.heap.size → ¬ v5.ownBlock = some k := fun k hk e => by have := HO6B.out k e; omega
  have f6 : Foot (Two cu co) w w6 := ((HF2.out.then (foot_drewN _ w2 1)).then HF5.out).then HF6.out
  refine ⟨v7, by simp [Array.getD_eq_getD_getElem?], ?_, HX6.out.foot HF7.out (hlt b (lt_of_heap HX2.out.box)) (hlt cu HX2.out.urg.lt) (hlt co HX2.out.oth.lt) HTY.out, fun y hy => ?_, f6.trans HF7.out (fun j e => .inr (Nat.le_trans s2 (HO6B.out j e)))⟩
  · rw [List.length_append, cellsM_append]
    exact owns_base HO7.out s2
  · have h2 := (HX2.out.drewN 1).has y hy
    have h6 := HX5.out.bts HF6.out ((HX2.out.drewN 1).bts HF5.out h2.1)
    have d6 := HX5.out.ownD HF6.out ((HX2.out.drewN 1).ownD HF5.out h2.2.1)
    exact ⟨has_foot h6 d6 HF7.out HTY.out, d6.foot HF7.out HTY.out⟩
end Go.Proofs.YtibdhjohjkdgdaaDoor
