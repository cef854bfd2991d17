/-
  Rows of numbers, a round of table and model, deeds that came in, the model made anew.
-/
import Derived.Test.YtgcmompldcnhlaaDoorQLies
import Derived.Test.YtgcmompldcnhlaaDoorIJb
import Derived.Deep.CutRange
import Derived.Deep.Slices
import Derived.ChangeSame
import Derived.ChangeSlices
import Derived.Lib.SmallJoins
import Derived.Test.YtgcmompldcnhlaaDoorRows
namespace Go.Proofs.YtgcmompldcnhlaaDoor
open Go.RowKit
def pushE (L : List Int) (x : Int) : Int := if x ∈ L then 11 else if 64 ≤ L.length then 5 else 0
def pushL (L : List Int) (x : Int) : List Int := if pushE L x = 0 then L ++ [x] else []
def placeF (p : Int) (n : Nat) : Nat := (p % (n : Int)).toNat
def takeX (L : List Int) (p : Int) : Int := L.getD (placeF p L.length) 0
def takeL (L : List Int) (p : Int) : List Int := L.take (placeF p L.length) ++ L.drop (placeF p L.length + 1)
def takeE (L : List Int) : Int := if L.length = 0 then 12 else 0
def dropL (L : List Int) (x : Int) : List Int := L.filter (fun y => decide (y ≠ x))
theorem placeF_lt (p : Int) (n : Nat) (h : 0 < n) : placeF p n < n := by
  unfold placeF
  have h1 := Int.emod_nonneg p (show (n : Int) ≠ 0 by omega)
  have h2 := Int.emod_lt_of_pos p (show (0 : Int) < (n : Int) by omega)
  omega
theorem placeF_is (p : Int) (n : Nat) (h : 0 < n) : ((placeF p n : Nat) : Int) = p % (n : Int) := by
  unfold placeF
  have h1 := Int.emod_nonneg p (show (n : Int) ≠ 0 by omega)
  omega
theorem takeI_snoc (xs : List Int) (k : Nat) (h : k < xs.length) : xs.take (k + 1) = xs.take k ++ [xs.getD k 0] := by
  rw [List.take_add_one, List.getElem?_eq_getElem h, List.getD_eq_getElem?_getD, List.getElem?_eq_getElem h]; rfl
theorem getI (xs : List Int) (k : Nat) (h : k < xs.length) : xs[k]? = some (xs.getD k 0) := by
  rw [List.getD_eq_getElem?_getD, List.getElem?_eq_getElem h]; rfl
theorem listI_ext {a b : List Int} (hl : a.length = b.length) (h : ∀ j, j < a.length → a.getD j 0 = b.getD j 0) : a = b := by
  apply List.ext_getElem? ; intro j
  by_cases hj : j < a.length
  · rw [getI a j hj, getI b j (by omega), h j hj]
  · rw [List.getElem?_eq_none (by omega), List.getElem?_eq_none (by omega)]
theorem takeL_len (L : List Int) (p : Int) (h : 0 < L.length) : (takeL L p).length + 1 = L.length := by
  unfold takeL
  have := placeF_lt p L.length h
  simp; omega
theorem dropL_len (L : List Int) (x : Int) : (dropL L x).length ≤ L.length := List.length_filter_le _ _
theorem dropL_not (L : List Int) (x : Int) : x ∉ dropL L x := by simp [dropL]
theorem dropL_snoc (L : List Int) (x : Int) (k : Nat) (h : k < L.length) : dropL (L.take (k + 1)) x = dropL (L.take k) x ++ if L.getD k 0 = x then [] else [L.getD k 0] := by
  rw [takeI_snoc L k h]
  unfold dropL
  rw [List.filter_append]
  congr 1
  by_cases e : L.getD k 0 = x
  · rw [if_pos e]; simp only [List.filter_cons, List.filter_nil]; rw [if_neg (by simpa using e)]
  · rw [if_neg e]; simp only [List.filter_cons, List.filter_nil]; rw [if_pos (by simpa using e)]
theorem pushE_zero {L : List Int} {x : Int} (h1 : x ∉ L) (h2 : L.length < 64) : pushE L x = 0 := by unfold pushE; rw [if_neg h1, if_neg (by omega)]
theorem pushL_zero {L : List Int} {x : Int} (h : pushE L x = 0) : pushL L x = L ++ [x] := by unfold pushL; rw [if_pos h]
theorem pushL_err {L : List Int} {x : Int} (h : pushE L x ≠ 0) : pushL L x = [] := by unfold pushL; rw [if_neg h]
end Go.Proofs.YtgcmompldcnhlaaDoor
namespace Go.Proofs.YtgcmompldcnhlaaDoor
open Go.RowKit
def cellsI (L : List Int) : List Value := L.map (Value.int .i64)
theorem cellsI_len (L : List Int) : (cellsI L).length = L.length := by simp [cellsI]
theorem cellsI_append (a b : List Int) : cellsI (a ++ b) = cellsI a ++ cellsI b := by simp [cellsI]
theorem cellsI_one (L : List Int) : ∀ u ∈ cellsI L, u.oneCell' = true := by
  intro u hu
  obtain ⟨x, _, rfl⟩ := List.mem_map.1 hu
  rfl
theorem cellsI_get (L : List Int) (j : Nat) (h : j < L.length) : (cellsI L)[j]? = some (.int .i64 (L.getD j 0)) := by
  unfold cellsI; rw [List.getElem?_map, getI L j h]; rfl
def Nums (w : World) (ao : Option Addr) (n cap : Nat) (L : List Int) : Prop := Lies 1 w ao n cap (cellsI L)
theorem Nums.len {w : World} {ao : Option Addr} {n cap : Nat} {L : List Int} (h : Nums w ao n cap L) : n = L.length := by have := h.1; rw [cellsI_len] at this; omega
theorem Nums.carry {w w' : World} {ao : Option Addr} {n cap : Nat} {L : List Int} (h : Nums w ao n cap L) (b : Below w.heap.size w w') : Nums w' ao n cap L := Lies.carry h b (Nat.le_refl _)
theorem Nums.over {w w' : World} {ao : Option Addr} {n cap B : Nat} {L : List Int} (h : Nums w ao n cap L) (b : Below B w w') (hB : w.heap.size ≤ B) : Nums w' ao n cap L := Lies.carry h b hB
theorem Nums.drewN {w : World} {ao : Option Addr} {n cap : Nat} {L : List Int} (h : Nums w ao n cap L) (q : Nat) : Nums (w.drewN q) ao n cap L := h
theorem nums_nil (w : World) : Nums w none 0 0 [] := lies_nil 1 w
theorem Nums.elem {w : World} {ad : Addr} {n cap : Nat} {L : List Int} (h : Nums w (some ad) n cap L) (k : Nat) (hk : k < n) : w.cell? (ad.add k) = some (.int .i64 (L.getD k 0)) :=
  h.2.2.2.2 ad rfl k _ (cellsI_get L k (by have := h.len; omega))
theorem Nums.there {w : World} {ao : Option Addr} {n cap : Nat} {L : List Int} (h : Nums w ao n cap L) {k : Nat} (hk : k < n) : ∃ ad, ao = some ad := by
  cases ao with
  | none => have := h.2.2.2.1 rfl; have := h.2.1; omega
  | some ad => exact ⟨ad, rfl⟩
theorem Nums.head {w : World} {ao : Option Addr} {n cap : Nat} {L : List Int} (h : Nums w ao n cap L) (k : Nat) (hk : k ≤ n) : Nums w ao k cap (L.take k) := by
  have hl := h.len
  refine ⟨?_, Nat.le_trans hk h.2.1, h.2.2.1, h.2.2.2.1, fun ad e j u hu => h.2.2.2.2 ad e j u ?_⟩
  · rw [cellsI_len, List.length_take]; omega
  · unfold cellsI at hu ⊢
    rw [List.map_take, List.getElem?_take] at hu
    split at hu
    · exact hu
    · simp at hu
def tailA (ao : Option Addr) (k cap : Nat) : Option Addr := if cap = k then ao else ao.map (·.add k)
theorem Nums.tail {w : World} {ao : Option Addr} {n cap : Nat} {L : List Int} (h : Nums w ao n cap L) (k : Nat) (hk : k ≤ n) : Nums w (tailA ao k cap) (n - k) (cap - k) (L.drop k) := by
  have hl := h.len
  have h2 := h.2.1
  have h3 := h.2.2.1
  refine ⟨by rw [cellsI_len, List.length_drop, hl]; omega, by omega, by omega, fun e => ?_, fun ad e j u hu => ?_⟩
  · unfold tailA at e
    split at e
    · omega
    · have := h.2.2.2.1 (by cases ao <;> simp_all); omega
  · have hj : j < (cellsI (L.drop k)).length := by
      rcases Nat.lt_or_ge j (cellsI (L.drop k)).length with hlt | hge
      · exact hlt
      · rw [List.getElem?_eq_none hge] at hu; cases hu
    rw [cellsI_len, List.length_drop] at hj
    unfold tailA at e
    rw [if_neg (by omega)] at e
    obtain ⟨a0, rfl, rfl⟩ := Option.map_eq_some_iff.1 e
    unfold cellsI at hu
    rw [List.map_drop, List.getElem?_drop] at hu
    rw [add_add]
    exact h.2.2.2.2 a0 rfl _ u hu
theorem Tryd.infoN : (Tryd.prog.info? 3).map (fun i => (i.zero, i.size, i.bytes)) = some (some (.int .i64 0), 1, 8) := by kernel_rfl
theorem Tryd.sizeOfN (w : World) : (sizeOf 3).run Tryd.prog w = .ok 1 w := by kernel_rfl
theorem Tryd.elemN : Tryd.prog.elem 92 = 3 := by simp [Program.elem, Tryd.underlying92]
theorem cut_tail_at {t : TypeId} (ht : Tryd.prog.underlying t = some (.slice 3)) (w : World) (ao : Option Addr) (n cap k : Nat) (h : k ≤ n) : (Instr.slice t (.slice ao n cap) (some (.int .i64 (k : Int))) none none).run Tryd.prog w = .ok (.slice (tailA ao k cap) (n - k) (cap - k)) w := by
  have he : Tryd.prog.elem t = 3 := by simp [Program.elem, ht]
  rw [run_slice_l (P := Tryd.prog) w t ao n cap (by rw [he]; exact ht) .i64 (k : Int) (by omega) (by omega), he, Tryd.sizeOfN]
  simp [Result.andThen, sliced, tailA]
theorem cut_head_at {t : TypeId} (ht : Tryd.prog.underlying t = some (.slice 3)) (w : World) (ao : Option Addr) (n cap k : Nat) (h : k ≤ cap) : (Instr.slice t (.slice ao n cap) none (some (.int .i64 (k : Int))) none).run Tryd.prog w = .ok (.slice ao k cap) w := by
  have he : Tryd.prog.elem t = 3 := by simp [Program.elem, ht]
  rw [run_slice_h (P := Tryd.prog) w t ao n cap (by rw [he]; exact ht) .i64 (k : Int) (by omega) (by omega), he, Tryd.sizeOfN]
  have hz : ao.map (fun x => x.add 0) = ao := by cases ao <;> simp [Addr.add]
  simp [Result.andThen, sliced, hz]
/- append(own row of ints, a slice of ints...) -/
theorem app_own {t ty : TypeId} (ht : Tryd.prog.underlying t = some (.slice 3)) {B n m c : Nat} {w : World} {v : Value} {L M : List Int} {ao : Option Addr} (hown : w.ownsRow B 3 1 v n (cellsI L)) (hM : Nums w ao m c M) (hn : n + m ≤ 17592186044416) (hB : B ≤ w.heap.size) :
    ∃ v' w', (Builtin.append_ #[t, t] ty #[v, .slice ao m c]).run Tryd.prog w = .ok v' w' ∧ w'.ownsRow B 3 1 v' (n + m) (cellsI (L ++ M)) ∧ w.grownBy w' v.ownBlock := by
  obtain ⟨i0, hi0, hz0, hz1, hz2⟩ := info_parts Tryd.infoN
  cases ao with
  | none =>
    obtain rfl : c = 0 := hM.2.2.2.1 rfl
    obtain rfl : m = 0 := by have := hM.2.1; omega
    obtain rfl : M = [] := List.eq_nil_of_length_eq_zero hM.len.symm
    obtain ⟨a, cap, rfl, hl⟩ := owns_lies hown
    refine ⟨_, _, app_none (ty := ty) w ht hi0 a n cap hl.2.1 hl.2.2.2.1, by rw [List.append_nil]; exact hown, ⟨rfl, rfl, rfl, Nat.le_refl _, fun _ _ _ => rfl⟩⟩
  | some ad =>
    obtain ⟨v', w3, hr, hown3, hgr3, _, _⟩ := run_append_own_at (P := Tryd.prog) w B t ty 3 i0 _ 1 8 ht hi0 hz0 hz1 hz2 rfl (by omega) v n _ hown ad m c (cellsI M) hM.1 (hM.2.2.2.2 ad rfl) (cellsI_one M) (by unfold maxLen; omega) (by omega) hB
    exact ⟨v', w3, hr, by rw [cellsI_append]; exact hown3, hgr3⟩
end Go.Proofs.YtgcmompldcnhlaaDoor
namespace Go.Proofs.YtgcmompldcnhlaaDoor
open Go.RowKit
def SameRel (w : World) (L M : List Int) (n gk : Nat) (vi : Value) (wr : World) : Prop := ∃ i : Nat, i + gk = n ∧ vi = .int .i64 (i : Int) ∧ (∀ j, j < i → L.getD j 0 = M.getD j 0) ∧ Below w.heap.size w wr
def BackB (w : World) (q : Bool) (e : Ending) (w' : World) : Prop := e = .returned (.bool q) ∧ Below w.heap.size w w'
set_option maxHeartbeats 800000 in
theorem same_any (ao bo : Option Addr) (n m cap cbp : Nat) (L M : List Int) (w : World) (hA : Nums w ao n cap L) (hB : Nums w bo m cbp M) :
    Calls Tryd.prog 32 #[.slice ao n cap, .slice bo m cbp] w fun e w' => BackB w (decide (L = M)) e w' := by
  have hcap : cap ≤ 9223372036854775807 := hA.2.2.1
  have hcbp : cbp ≤ 9223372036854775807 := hB.2.2.1
  have hnc := hA.2.1
  have hmc := hB.2.1
  have HA := hide hA
  have HB := hide hB
  have HL := hide hA.len
  have HM := hide hB.len
  obtain ⟨q, hq⟩ : ∃ q, decide (L = M) = q := ⟨_, rfl⟩
  rw [hq]
  have HQ := hide hq
  clear hA hB hq
  by_cases hnm : n = m
  · subst hnm
    go_enter Tryd.func32, Tryd.ntmps32
    go_wp2
    go_loopg [13] n (fun gk vi wr => SameRel w L M n gk vi wr)
    case atStart => exact ⟨0, by omega, rfl, fun j hj => by omega, Below.refl _ _⟩
    case round =>
      obtain ⟨i, hi, rfl, hall, b⟩ := hrel
      have HALL := hide hall
      have HBW := hide b
      have HI := hide hi
      clear hall b
      cases gk with
      | zero =>
        obtain rfl : i = n := by omega
        have hlt : ¬ ((i : Int) < (i : Int)) := by omega
        clear hi
        go_wp2
        go_ret
        refine ⟨?_, HBW.out⟩
        rw [← HQ.out, decide_eq_true (listI_ext (by rw [← HL.out, HM.out]) (fun j hj => HALL.out j (by rw [HL.out]; exact hj)))]; rfl
      | succ g1 =>
        have hlt : (i : Int) < (n : Int) := by omega
        have hltn : i < n := by omega
        clear hi
        obtain ⟨ad, rfl⟩ := HA.out.there hltn
        obtain ⟨bd, rfl⟩ := HB.out.there hltn
        obtain ⟨x, hx⟩ : ∃ x, L.getD i 0 = x := ⟨_, rfl⟩
        obtain ⟨y, hy⟩ : ∃ y, M.getD i 0 = y := ⟨_, rfl⟩
        have c0 : ∀ q, (wr.drewN q).cell? (ad.add i) = some (.int .i64 x) := fun q => by rw [← hx]; exact (HA.out.carry (below_drewN HBW.out q)).elem i hltn
        have c1 : ∀ q, (wr.drewN q).cell? (bd.add i) = some (.int .i64 y) := fun q => by rw [← hy]; exact (HB.out.carry (below_drewN HBW.out q)).elem i hltn
        have HX := hide hx
        have HY := hide hy
        clear hx hy
        by_cases hxy : x = y
        · go_wp2_with fail
          go_quiet (fail)
          go_wp2
          go_roundg g1
          case measure => omega
          case rel =>
            refine ⟨i + 1, by have := HI.out; omega, by go_num, fun j hj => ?_, below_drewN HBW.out _⟩
            by_cases e : j = i
            · rw [e, HX.out, HY.out, hxy]
            · exact HALL.out j (by omega)
        · go_wp2_with fail
          go_quiet (fail)
          go_wp2
          go_ret
          refine ⟨?_, below_drewN HBW.out _⟩
          rw [← HQ.out, decide_eq_false (fun e => hxy (by rw [← HX.out, ← HY.out, e]))]; rfl
  · have hne : ¬ ((n : Int) = (m : Int)) := by omega
    go_enter Tryd.func32, Tryd.ntmps32
    go_wp2
    go_ret
    refine ⟨?_, Below.refl _ _⟩
    rw [← HQ.out, decide_eq_false (fun e => hnm (by rw [HL.out, HM.out, e]))]; rfl
def IdxRel (w : World) (L : List Int) (x : Int) (n gk : Nat) (vi : Value) (wr : World) : Prop := ∃ i : Nat, i + gk = n ∧ vi = .int .i64 (i : Int) ∧ (∀ j, j < i → L.getD j 0 ≠ x) ∧ wr = w
theorem not_mem_of {L : List Int} {x : Int} (h : ∀ j, j < L.length → L.getD j 0 ≠ x) : x ∉ L := fun hm => by
  obtain ⟨j, hj, e⟩ := List.mem_iff_getElem.1 hm
  refine h j hj ?_
  rw [List.getD_eq_getElem?_getD, List.getElem?_eq_getElem hj]; exact e
theorem mem_of {L : List Int} {x : Int} {j : Nat} (hj : j < L.length) (h : L.getD j 0 = x) : x ∈ L := by
  rw [← h, List.getD_eq_getElem?_getD, List.getElem?_eq_getElem hj]; exact List.getElem_mem hj
def IdxEnd (w : World) (x : Int) (L : List Int) (e : Ending) (w' : World) : Prop := ∃ z : Int, e = .returned (.int .i64 z) ∧ decide (0 ≤ z) = decide (x ∈ L) ∧ w' = w
end Go.Proofs.YtgcmompldcnhlaaDoor
namespace Go.Proofs.YtgcmompldcnhlaaDoor
open Go.RowKit
variable {w0 w w1 w2 w' : World} {g go p : Nat} {T : Nat → Ob}
def agO (x : Ob) : Ob := if x.l = 0 then x else if x.l = 1 then Ob.zero else ⟨x.s, x.e, x.v, x.l - 1⟩
def agT (T : Nat → Ob) (i : Nat) : Nat → Ob := fun k => if 1 ≤ k ∧ k < i then agO (T k) else T k
def goneL (T : Nat → Ob) (i : Nat) : List Int := (List.range i).flatMap fun k => if 1 ≤ k ∧ (T k).l = 1 then [(T k).v] else []
theorem agT_one (T : Nat → Ob) : agT T 1 = T := by funext k; unfold agT; rw [if_neg (by omega)]
theorem agT_at (T : Nat → Ob) (i : Nat) : agT T i i = T i := by unfold agT; rw [if_neg (by omega)]
theorem agT_succ (T : Nat → Ob) {i : Nat} (h : 1 ≤ i) : agT T (i + 1) = updO (agT T i) i (agO (T i)) := by
  funext k
  unfold agT updO
  by_cases e : k = i
  · subst e; rw [if_pos rfl, if_pos (by omega)]
  · rw [if_neg e]
    show _ = if 1 ≤ k ∧ k < i then agO (T k) else T k
    by_cases h2 : 1 ≤ k ∧ k < i
    · rw [if_pos h2, if_pos (by omega)]
    · rw [if_neg h2, if_neg (by omega)]
theorem agT_same (T : Nat → Ob) {i : Nat} (h : agO (T i) = T i) : agT T (i + 1) = agT T i := by
  funext k
  unfold agT
  by_cases e : k = i
  · subst e
    rw [if_neg (show ¬ (1 ≤ k ∧ k < k) by omega)]
    split
    · exact h
    · rfl
  · by_cases h2 : 1 ≤ k ∧ k < i
    · rw [if_pos h2, if_pos (by omega)]
    · rw [if_neg h2, if_neg (by omega)]
theorem goneL_succ (T : Nat → Ob) (i : Nat) : goneL T (i + 1) = goneL T i ++ (if 1 ≤ i ∧ (T i).l = 1 then [(T i).v] else []) := by
  unfold goneL
  rw [List.range_succ, List.flatMap_append]; simp
theorem goneL_one (T : Nat → Ob) : goneL T 1 = [] := by rw [goneL_succ, if_neg (by omega)]; rfl
theorem goneL_len (T : Nat → Ob) (i : Nat) : (goneL T i).length ≤ i := by
  induction i with
  | zero => simp [goneL]
  | succ i ih =>
    rw [goneL_succ, List.length_append]
    split
    · simp; omega
    · simp; omega
theorem Tryd.infoI : (Tryd.prog.info? 3).map (fun i => (i.zero, i.size, i.bytes)) = some (some (.int .i64 0), 1, 8) := by kernel_rfl
theorem app_int {B n : Nat} {v : Value} {L : List Int} (x : Int) (h : w.ownsRow B 3 1 v n (cellsI L)) (hn : n ≤ 1000) (hB : B ≤ w.heap.size) :
    ∃ v' w', (Builtin.append_ #[92, 92] 92 #[v, .slice (some ⟨w.heap.size, 0, none⟩) 1 1]).run Tryd.prog (w.alloc (.cells #[.int .i64 x] 3)) = .ok v' w' ∧ w'.ownsRow B 3 1 v' (n + 1) (cellsI (L ++ [x])) ∧ Foot (fun k => v.ownBlock = some k) w w' ∧ Moved w v v' := by
  obtain ⟨v', w', h1, h2, h3, h4⟩ := app_elem (ty := 92) #[.int .i64 x] Tryd.underlying92 Tryd.infoI rfl (by omega) rfl (by intro u hu; simp at hu; rcases hu with rfl; rfl) (by omega) (by unfold maxLen; omega) h hB
  exact ⟨v', w', h1, by simpa [cellsI] using h2, h3, h4⟩
def AgeRel (w : World) (g p go : Nat) (T : Nat → Ob) (gk : Nat) (vo vk : Value) (wr : World) : Prop :=
  ∃ i n : Nat, i + gk = 64 ∧ 1 ≤ i ∧ vk = .int .i64 (i : Int) ∧ n = (goneL T i).length ∧ wr.ownsRow w.heap.size 3 1 vo n (cellsI (goneL T i)) ∧ Tb wr g p go (agT T i) ∧ Foot (fun j => j = g) w wr
set_option maxRecDepth 20000 in
set_option maxHeartbeats 3200000 in
theorem age_any (w : World) (x : Tb w g p go T) :
    Calls Tryd.prog 33 #[.pointer (some ⟨g, 0, none⟩)] w fun e w' => ∃ ao n cap, e = .returned (.slice ao n cap) ∧ n = (goneL T 64).length ∧ w'.ownsRow w.heap.size 3 1 (.slice ao n cap) n (cellsI (goneL T 64)) ∧ Tb w' g p go (agT T 64) ∧ Foot (fun j => j = g) w w' := by
  have HX := hide x
  have HGW : Hid (g < w.heap.size) := x.lt
  clear x
  go_enter Tryd.func33, Tryd.ntmps33
  go_wp2
  go_loopg [3, 4] 63 (fun gk vo vk wr => AgeRel w g p go T gk vo vk wr)
  case atStart => exact ⟨1, 0, by omega, by omega, rfl, by rw [goneL_one]; rfl, by rw [goneL_one]; exact owns_nil _ _ _ _, by rw [agT_one]; exact HX.out, Foot.refl _ _⟩
  case round =>
    obtain ⟨i, n, hi, h1, rfl, hn, ho, ht, hf⟩ := hrel
    have HO := hide ho
    have HT := hide ht
    have HF := hide hf
    have HN := hide hn
    clear ho ht hf hn HX
    cases gk with
    | zero =>
      obtain rfl : i = 64 := by omega
      obtain ⟨ao, cap, rfl, hl⟩ := owns_lies HO.out
      clear hl
      go_wp2
      go_ret
      exact ⟨ao, n, cap, rfl, HN.out, HO.out, HT.out, HF.out⟩
    | succ g1 =>
      have hin : i < 64 := by omega
      have hlt : (i : Int) < 64 := by omega
      have hi0 : (0 : Int) ≤ (i : Int) := by omega
      have HI := hide hi
      have HIN := hide hin
      have H1 := hide h1
      rcases hTi : T i with ⟨s, ep, vl, l⟩
      have hTa : agT T i i = ⟨s, ep, vl, l⟩ := by rw [agT_at]; exact hTi
      have hb : (decide (0 ≤ (i : Int)) && hasO (agT T i) ((i : Int)).toNat) = decide (0 < l) := by
        unfold hasO
        rw [Int.toNat_natCast, hTa, decide_eq_true hi0, decide_eq_true hin]; rfl
      have HB := hide hb
      have HTI := hide hTi
      have HTA := hide hTa
      clear hb hTi hTa hi hin h1
      go_wp2_with fail
      refine (has_any i _ HT.out (by omega)).mono ?_; rintro e wx ⟨rfl, rfl⟩
      rw [HB.out]
      by_cases hl : 0 < l
      · rw [decide_eq_true hl]
        have HLP := hide hl
        obtain ⟨k0, k1, k2, k3⟩ := HT.out.at i HIN.out s ep vl l HTA.out
        have z := HT.out.z
        have hok := HT.out.ok i
        rw [HTA.out] at hok
        have hl24 : l ≤ 24 := hok.2
        obtain ⟨l1, hl1⟩ : ∃ l1, l - 1 = l1 := ⟨_, rfl⟩
        have hsub : (l : Int) - 1 = (l1 : Int) := by omega
        have hwr : IntKind.i64.wrap ((l : Int) - 1) = (l1 : Int) := by rw [IntKind.wrap_i64]; omega
        have hwr2 : IntKind.i64.wrap (l1 : Int) = (l1 : Int) := by rw [IntKind.wrap_i64]; omega
        have HL1 := hide hl1
        go_upto_region 6 with fail
        go_region
        obtain ⟨T1, hT1⟩ : ∃ T1, updO (agT T i) i ⟨s, ep, vl, l1⟩ = T1 := ⟨_, rfl⟩
        obtain ⟨W1, hW1⟩ : ∃ W, (wx.setCell ⟨g, 2 + i * 4 + 3, none⟩ (.int .i64 (l1 : Int))).drew = W := ⟨_, rfl⟩
        rw [hW1]
        have HT1 : Hid (Tb W1 g p go T1) := hW1 ▸ hT1 ▸ (HT.out.set i 3 HIN.out (by omega) (.int .i64 (l1 : Int)) ⟨s, ep, vl, l1⟩ ⟨hok.1, by show l1 ≤ 24; omega⟩ (fun f hf => by rw [HTA.out]; match f, hf with | 0, _ | 1, _ | 2, _ | 3, _ => rfl)).drewN 1
        have fW : Foot (fun j => j = g) wx W1 := hW1 ▸ (foot_set wx ⟨g, 2 + i * 4 + 3, none⟩ (.int .i64 (l1 : Int))).drewN 1
        have HF1 := hide (HF.out.trans fW (fun _ e => .inl e))
        have HO1 := hide (owns_foot HO.out fW (fun r hr e => by
          have h1 := (owns_block HO.out hr).choose_spec.2
          have h2 := HGW.out
          omega))
        have HTk : Hid (T1 i = ⟨s, ep, vl, l1⟩) := by show _ = _; rw [← hT1, updO_same]
        have HTT := hide hT1
        have hb1 : (decide (0 ≤ (i : Int)) && hasO T1 ((i : Int)).toNat) = decide (0 < l1) := by
          unfold hasO
          rw [Int.toNat_natCast, HTk.out, decide_eq_true hi0, decide_eq_true HIN.out]; rfl
        have HB1 := hide hb1
        clear hl1 hl k0 k1 k2 k3 z hok hsub hwr hwr2 hW1 fW hT1 hb1 HT HF HO hl24
        go_wp2_with fail
        refine (has_any i _ HT1.out (by omega)).mono ?_; rintro e wy ⟨rfl, rfl⟩
        rw [HB1.out]
        by_cases h0 : 0 < l1
        · rw [decide_eq_true h0]
          have hs : agO (T i) = ⟨s, ep, vl, l1⟩ := by
            unfold agO
            rw [HTI.out]
            simp only
            rw [if_neg (by have := HL1.out; omega), if_neg (by have := HL1.out; omega), HL1.out]
          have hT2 : agT T (i + 1) = T1 := by rw [agT_succ T H1.out, hs]; exact HTT.out
          have hg2 : goneL T (i + 1) = goneL T i := by rw [goneL_succ, if_neg (by rw [HTI.out]; have := HL1.out; show ¬ (_ ∧ l = 1); omega), List.append_nil]
          have HS := hide (And.intro hT2 hg2)
          clear h0 hs hT2 hg2
          go_wp2_with fail
          go_roundg g1
          case measure => have := HI.out; omega
          case rel => exact ⟨i + 1, n, by have := HI.out; omega, by omega, by go_num, by rw [HS.out.2]; exact HN.out, by rw [HS.out.2]; exact HO1.out, by rw [HS.out.1]; exact HT1.out, HF1.out⟩
        · rw [decide_eq_false h0]
          have hs : agO (T i) = Ob.zero := by
            unfold agO
            rw [HTI.out]
            simp only
            rw [if_neg (by have := HLP.out; omega), if_pos (by have := HL1.out; have := HLP.out; omega)]
          have hT2 : agT T (i + 1) = updO T1 i Ob.zero := by rw [agT_succ T H1.out, hs, ← HTT.out, updO_updO]
          have hg2 : goneL T (i + 1) = goneL T i ++ [vl] := by rw [goneL_succ, if_pos ⟨H1.out, by rw [HTI.out]; have := HL1.out; have := HLP.out; show l = 1; omega⟩, HTI.out]
          have HS := hide (And.intro hT2 hg2)
          clear h0 hs hT2 hg2
          go_wp2_with fail
          refine (end_any i _ HT1.out HIN.out).mono ?_; rintro e w2 ⟨rfl, T2, f2⟩
          rw [HTk.out]
          have HT2 := hide T2
          have HF2 := hide (HF1.out.trans f2 (fun _ e => .inl e))
          have HO2 := hide (owns_foot HO1.out f2 (fun r hr e => by
            have h1 := (owns_block HO1.out hr).choose_spec.2
            have h2 := HGW.out
            omega))
          clear T2 f2
          obtain ⟨v', w', hr, ho', hfa, -⟩ := app_int vl HO2.out (by have := goneL_len T i; have := HN.out; have := HIN.out; omega) HF2.out.size
          have HRUN := hide hr
          have HO3 := hide ho'
          have HF3 := hide (HF2.out.trans hfa (fun r e => .inr (owns_block HO2.out e).choose_spec.2))
          have HT3 := hide (HT2.out.foot hfa (fun e => by
            have h1 := (owns_block HO2.out e).choose_spec.2
            have h2 := HGW.out
            omega))
          clear hr ho' hfa
          go_wp2_with (at_builtin; refine wpList_append_run rfl _ _ _ rfl _ _ _ _ rfl rfl HRUN.out ?_)
          go_roundg g1
          case measure => have := HI.out; omega
          case rel => exact ⟨i + 1, n + 1, by have := HI.out; omega, by omega, by go_num, by rw [HS.out.2, List.length_append, ← HN.out]; rfl, by rw [HS.out.2]; exact HO3.out, by rw [HS.out.1]; exact HT3.out, HF3.out⟩
      · rw [decide_eq_false hl]
        have hs : agO (T i) = T i := by unfold agO; rw [if_pos (by rw [HTI.out]; show l = 0; omega)]
        have hg2 : goneL T (i + 1) = goneL T i := by rw [goneL_succ, if_neg (by rw [HTI.out]; show ¬ (_ ∧ l = 1); omega), List.append_nil]
        have HS := hide (And.intro (agT_same T hs) hg2)
        clear hl hs hg2
        go_wp2_with fail
        go_roundg g1
        case measure => have := HI.out; omega
        case rel => exact ⟨i + 1, n, by have := HI.out; omega, by omega, by go_num, by rw [HS.out.2]; exact HN.out, by rw [HS.out.2]; exact HO.out, by rw [HS.out.1]; exact HT.out, HF.out⟩
end Go.Proofs.YtgcmompldcnhlaaDoor
namespace Go.Proofs.YtgcmompldcnhlaaDoor
open Go.RowKit
variable {w0 w w1 w2 w' : World} {g mg p ab cb N : Nat} {ws : List Nat} {t u : Nat} {es fs : List Ent} {T U U1 : Nat → Ob} {v : Value} {L : List Cp} {o wh ch wi : Nat} {c : Cp}
theorem bo_age (w : World) (x : Bo w0 w g mg p ws t es T u fs U) :
    Calls Tryd.prog 33 #[.pointer (some ⟨g, 0, none⟩)] w fun e w' => ∃ ao n cap, e = .returned (.slice ao n cap) ∧ n = (goneL T 64).length ∧ w'.ownsRow w.heap.size 3 1 (.slice ao n cap) n (cellsI (goneL T 64)) ∧ Bo w0 w' g mg p ws t es (agT T 64) u fs U ∧ Kq w w' := by
  obtain ⟨B, go, m, a, h, k, v, B2, go2, m2, a2, h2, k2, v2, x, y, D⟩ := x
  refine (age_any w x.tb).mono ?_
  rintro e w1 ⟨ao, n, cap, rfl, hn, ho, ht, hf⟩
  obtain ⟨b, q⟩ := x.both y D (x.turn ht hf)
  exact ⟨ao, n, cap, rfl, hn, ho, b, q⟩
def FreI (w : World) (mg b : Nat) : Prop := b = mg ∨ ∃ cs : Array Value, w.heap[b]? = some (.cells cs 3 (0, 0))
theorem int_odd2 : Odd2 3 := ⟨⟨by decide, by decide, by decide, by decide⟩, by decide⟩
theorem Bo.offT (x : Bo w0 w g mg p ws t es T u fs U) {S : Nat → Prop} (f : Foot S w w') (hS : ∀ b, S b → w0.heap.size ≤ b ∧ FreI w mg b) (y : ∀ go, Md w mg p go U → Md w' mg p go U1) : Bo w0 w' g mg p ws t es T u fs U1 := by
  obtain ⟨B, go, m, a, h, k, v, B2, go2, m2, a2, h2, k2, v2, x, z, D⟩ := x
  obtain ⟨C, hC⟩ := x.tb.blk
  obtain ⟨C2, hC2⟩ := z.md.blk
  have tkno : ∀ {B go m a h k : Nat} {v : Value} {t : Nat} {es : List Ent}, Tk w0 w B go m a h k v ws t es → ∀ b, S b → b ≠ go ∧ b ≠ m ∧ b ≠ a ∧ b ≠ h ∧ v.ownBlock ≠ some b := by
    intro B go m a h k v t es x b hb
    rcases (hS b hb).2 with e | ⟨cs, e⟩
    · rw [e]; exact x.noBlk hC2 (by decide) (by decide) (by decide) (by decide)
    · exact x.noBlk e (by decide) (by decide) (by decide) (by decide)
  have tkoff : ∀ {B go m a h k : Nat} {v : Value} {t : Nat} {es : List Ent}, Tk w0 w B go m a h k v ws t es → Tk w0 w' B go m a h k v ws t es := by
    intro B go m a h k v t es x
    have no := tkno x
    exact ⟨x.orc.foot f (fun e => (no _ e).1 rfl) (fun e => (no _ e).2.1 rfl) (fun r hr e => (no _ e).2.2.2.2 hr), x.tape.foot f (fun e => (no _ e).2.2.1 rfl) (fun e => (no _ e).2.2.2.1 rfl), ⟨x.new.b0, x.new.a0, x.new.h0, x.new.bel.trans (f.below x.new.bel.size fun j e => (hS j e).1), Nat.le_trans x.new.bs f.size⟩⟩
  have ng : ¬ S g := fun e => by
    rcases (hS g e).2 with e | ⟨cs, e⟩
    · rw [e, hC2] at hC; cases hC
    · rw [hC] at e; cases e
  exact ⟨_, _, _, _, _, _, _, _, _, _, _, _, _, _, ⟨tkoff x.tk, x.tb.foot f ng, x.new⟩, ⟨tkoff z.tk, y _ z.md, z.new⟩, D⟩
theorem Hd.offT (h : Hd w0 w g mg p ws t es T u fs U v L ab cb o wh ch wi c) {S : Nat → Prop} (f : Foot S w w') (hS : ∀ b, S b → w0.heap.size ≤ b ∧ FreI w mg b) (y : ∀ go, Md w mg p go U → Md w' mg p go U1) : Hd w0 w' g mg p ws t es T u fs U1 v L ab cb o wh ch wi c := by
  obtain ⟨go, hmd⟩ := h.bo.md
  obtain ⟨C2, hC2⟩ := hmd.blk
  have no : ∀ {b : Nat} {cs : Array Value} {ty : TypeId}, w.heap[b]? = some (.cells cs ty (0, 0)) → ty ≠ 37 → ty ≠ 3 → ¬ S b := by
    intro b cs ty hb h1 h2 e
    rcases (hS b e).2 with e | ⟨cs', e⟩
    · rw [e, hC2] at hb; cases hb; exact h1 rfl
    · rw [hb] at e; cases e; exact h2 rfl
  refine ⟨h.bo.offT f hS y, owns_foot h.row f (fun r hr => ?_), h.act.foot f (no h.act (by decide) (by decide)), h.box.foot f (no h.box (by decide) (by decide)), h.off⟩
  obtain ⟨cur, h1, _⟩ := owns_block h.row hr
  exact no h1 (by decide) (by decide)
theorem Bo.mn (x : Bo w0 w g mg p ws t es T u fs U) : w0.heap.size ≤ mg := by
  obtain ⟨B, go, m, a, h, k, v, B2, go2, m2, a2, h2, k2, v2, x, z, D⟩ := x
  exact z.new
theorem Ss.age (h : Ss N ws t es T L) (hN : N < 2000000) : Ss (N + 1) ws t es (agT T 64) L := by
  refine ⟨h.ok, fun j hj => ?_, fun j => ?_, by have := h.len; omega, by omega, h.el, h.tl, h.wl⟩
  · unfold agT at hj ⊢
    split
    · rename_i h1
      rw [if_pos h1] at hj
      unfold agO at hj ⊢
      split
      · rename_i h2; exact h.zero j h2
      · rename_i h2
        rw [if_neg h2] at hj
        split
        · rfl
        · rename_i h3
          rw [if_neg h3] at hj
          simp only at hj; omega
    · rename_i h1
      rw [if_neg h1] at hj
      exact h.zero j hj
  · have := h.ep j
    unfold agT
    split
    · unfold agO
      split
      · omega
      · split
        · show 0 ≤ _; omega
        · show (T j).e ≤ _; omega
    · omega
def MAgeRel (w0 wb : World) (g mg p : Nat) (ws : List Nat) (t : Nat) (es : List Ent) (T : Nat → Ob) (v : Value) (L : List Cp) (ab cb o wh ch wi : Nat) (c : Cp) (gk : Nat) (vo vk : Value) (wr : World) : Prop :=
  ∃ i n : Nat, i + gk = 64 ∧ 1 ≤ i ∧ vk = .int .i64 (i : Int) ∧ n = (goneL T i).length ∧ wr.ownsRow wb.heap.size 3 1 vo n (cellsI (goneL T i)) ∧ Hd w0 wr g mg p ws t es T t es (agT T i) v L ab cb o wh ch wi c ∧ wb.heap.size ≤ wr.heap.size
/- the model's object that ends: its lives, then all of it -/
theorem Mg.last {go i : Nat} (x : Mg w mg p go (fun j => thC (agT T i j))) (hi : i < 64) (l1 : Int) : Mg (w.setCell ⟨mg, 2 + i * 5 + 4, none⟩ (.int .i64 l1)) mg p go (fun j => if j = i then (thC (T i)).set 4 (.int .i64 l1) else thC (agT T i j)) := by
  refine (x.set i 4 hi (by omega) (.int .i64 l1) rfl).ext fun j => ?_
  simp only [agT_at]
theorem foot3 {W1 W2 W3 : World} {S : Nat → Prop} (f1 : Foot (fun j => j = mg) w W1) (f2 : Foot S W1 W2) (f3 : Foot (fun j => j = mg) W2 W3) : Foot (fun j => j = mg ∨ S j) w W3 :=
  ((f1.mono (S' := fun j => j = mg ∨ S j) fun _ e => .inl e).trans f2 (fun _ e => .inl (.inr e))).trans f3 (fun _ e => .inl (.inl e))
end Go.Proofs.YtgcmompldcnhlaaDoor
namespace Go.Proofs.YtgcmompldcnhlaaDoor
open Go.RowKit Go.Deep
structure Ac where
  o : Nat
  p : Nat
  n : Nat
  t : Nat
def Ac.zero : Ac := ⟨0, 0, 0, 0⟩
def Ac.ok (x : Ac) : Prop := x.o ≤ 255 ∧ x.p ≤ 255 ∧ x.n ≤ 255 ∧ x.t ≤ 255
def Ac.at (w : World) (a : Addr) (x : Ac) : Prop :=
  x.ok ∧ w.cell? a = some (.int .u8 (x.o : Nat)) ∧ w.cell? (a.add 1) = some (.int .u8 (x.p : Nat)) ∧ w.cell? (a.add 2) = some (.int .u8 (x.n : Nat)) ∧ w.cell? (a.add 3) = some (.int .u8 (x.t : Nat))
theorem Ac.at.carry {w w' : World} {a : Addr} {x : Ac} (h : Ac.at w a x) (b : Below w.heap.size w w') : Ac.at w' a x := by
  obtain ⟨h0, h2, h3, h4, h5⟩ := h
  exact ⟨h0, by rw [b.cell (lt_of_cell h2), h2], by rw [b.cell (lt_of_cell h3), h3], by rw [b.cell (lt_of_cell h4), h4], by rw [b.cell (lt_of_cell h5), h5]⟩
def Acts (w : World) (ao : Option Addr) (n cap : Nat) (xs : List Ac) : Prop :=
  n = xs.length ∧ n ≤ cap ∧ cap ≤ maxLen ∧ (ao = none → cap = 0) ∧ ∀ ad, ao = some ad → ∀ j, j < n → Ac.at w (ad.add (j * 4)) (xs.getD j Ac.zero)
theorem Acts.carry {w w' : World} {ao : Option Addr} {n cap : Nat} {xs : List Ac} (h : Acts w ao n cap xs) (b : Below w.heap.size w w') : Acts w' ao n cap xs :=
  ⟨h.1, h.2.1, h.2.2.1, h.2.2.2.1, fun ad e j hj => (h.2.2.2.2 ad e j hj).carry b⟩
theorem Acts.there {w : World} {ao : Option Addr} {n cap : Nat} {xs : List Ac} (h : Acts w ao n cap xs) {k : Nat} (hk : k < n) : ∃ ad, ao = some ad := by
  cases ao with
  | none => have := h.2.2.2.1 rfl; have := h.2.1; omega
  | some ad => exact ⟨ad, rfl⟩
theorem cells_four {w : World} {a : Addr} {cs : List Value} (h : w.cells? 0 a 4 = some cs) : ∃ c0 c1 c2 c3, cs = [c0, c1, c2, c3] ∧ w.cell? (a.add 0) = some c0 ∧ w.cell? (a.add 1) = some c1 ∧ w.cell? (a.add 2) = some c2 ∧ w.cell? (a.add 3) = some c3 := by
  unfold World.cells? at h
  rw [if_pos (Nat.zero_le _), show List.range 4 = [0, 1, 2, 3] from by decide] at h
  simp only [List.mapM_cons, List.mapM_nil, Option.pure_def, Option.bind_eq_bind, Option.bind_eq_some_iff, Option.some.injEq] at h
  obtain ⟨c0, h0, r1, ⟨c1, h1, r2, ⟨c2, h2, r3, ⟨c3, h3, r4, rfl, rfl⟩, rfl⟩, rfl⟩, rfl⟩ := h
  exact ⟨c0, c1, c2, c3, rfl, h0, h1, h2, h3⟩
theorem one8 : Tryd.prog.cellsOf 5 = 1 := by kernel_rfl
theorem cellsA : Tryd.prog.cellsOf 40 = 4 := by kernel_rfl
theorem bytesA : Tryd.prog.bytesOf 40 = 4 := by kernel_rfl
set_option maxRecDepth 100000 in
theorem act_elem {H : Type} {enc : TypeId × Value → H} {w : World} {n : Nat} {a : Addr} {cs : List Value} {y : DataW H × List MemPlace}
    (hc : w.cells? 0 a 4 = some cs) (h : DataW.trod enc Tryd.prog w 0 (fun _ => true) true n 40 cs = some y) : ∃ x : Ac, Ac.at w a x := by
  obtain ⟨c0, c1, c2, c3, rfl, k0, k1, k2, k3⟩ := cells_four hc
  obtain ⟨xs, m, _, hx, _, hlen, hfd⟩ := DataW.trod_struct Tryd.underlying40 h
  have hlen4 : xs.length = 4 := hlen
  have at_ : ∀ i, i < 4 → ∃ y, xs[i]? = some y := fun i hi => ⟨xs[i]'(by omega), List.getElem?_eq_getElem (by omega)⟩
  obtain ⟨y0, hy0⟩ := at_ 0 (by omega)
  have f0 : DataW.trod enc Tryd.prog w 0 (fun _ => true) true m 5 [c0] = some y0 := by
    have h := hfd 0 _ rfl
    rw [hy0] at h
    simpa [one8] using h
  obtain ⟨y1, hy1⟩ := at_ 1 (by omega)
  have f1 : DataW.trod enc Tryd.prog w 0 (fun _ => true) true m 5 [c1] = some y1 := by
    have h := hfd 1 _ rfl
    rw [hy1] at h
    simpa [one8] using h
  obtain ⟨y2, hy2⟩ := at_ 2 (by omega)
  have f2 : DataW.trod enc Tryd.prog w 0 (fun _ => true) true m 5 [c2] = some y2 := by
    have h := hfd 2 _ rfl
    rw [hy2] at h
    simpa [one8] using h
  obtain ⟨y3, hy3⟩ := at_ 3 (by omega)
  have f3 : DataW.trod enc Tryd.prog w 0 (fun _ => true) true m 5 [c3] = some y3 := by
    have h := hfd 3 _ rfl
    rw [hy3] at h
    simpa [one8] using h
  clear hx
  obtain ⟨n0, e0, _, w0⟩ := DataW.trod_int Tryd.underlying5 f0
  obtain ⟨n1, e1, _, w1⟩ := DataW.trod_int Tryd.underlying5 f1
  obtain ⟨n2, e2, _, w2⟩ := DataW.trod_int Tryd.underlying5 f2
  obtain ⟨n3, e3, _, w3⟩ := DataW.trod_int Tryd.underlying5 f3
  obtain ⟨p0, rfl, hp0⟩ := u8_nat w0
  obtain ⟨p1, rfl, hp1⟩ := u8_nat w1
  obtain ⟨p2, rfl, hp2⟩ := u8_nat w2
  obtain ⟨p3, rfl, hp3⟩ := u8_nat w3
  simp at e0 e1 e2 e3
  subst e0; subst e1; subst e2; subst e3
  rw [addZ] at k0
  exact ⟨⟨p0, p1, p2, p3⟩, ⟨hp0, hp1, hp2, hp3⟩, k0, k1, k2, k3⟩
theorem open_acts {H : Type} {enc : TypeId × Value → H} {w : World} {a : Option Addr} {len cap fuel : Nat} {x : DataW H × List MemPlace} (hf : DataW.trod enc Tryd.prog w 0 (fun _ => true) true fuel 24 [.slice a len cap] = some x) :
    ∃ xs, Acts w a len cap xs ∧ (x.1 = .nil ∧ cap = 0 ∨ ∃ els sp, x.1 = .slice els sp ∧ els.length + sp.length = cap) := by
  rcases open_slice Tryd.underlying24 hf with ⟨hcs, hx⟩ | ⟨ad, l, c, m, n, D, Pl, hcs, _, hl, hm, hmm, hx, hel⟩
  · simp at hcs
    obtain ⟨rfl, rfl, rfl⟩ := hcs
    exact ⟨[], ⟨rfl, Nat.le_refl _, by decide, fun _ => rfl, (fun ad e => by cases e)⟩, .inl ⟨by rw [hx], rfl⟩⟩
  · simp at hcs
    obtain ⟨rfl, rfl, rfl⟩ := hcs
    simp at hmm
    subst hmm
    have hF : ∀ i, ∃ z : Ac, i < len → Ac.at w (ad.add (i * 4)) z := by
      intro i
      by_cases hi : i < len
      · obtain ⟨cs', h1, h2⟩ := hel i (by omega)
        rw [cellsA] at h1
        obtain ⟨z, hz⟩ := act_elem h1 h2
        exact ⟨z, fun _ => hz⟩
      · exact ⟨Ac.zero, fun h => absurd h hi⟩
    refine ⟨(List.range len).map (fun i => Classical.choose (hF i)), ⟨by simp, hl, hm, (fun e => by cases e), fun ad' e j hj => ?_⟩, .inr ⟨_, _, by rw [hx], by simp; omega⟩⟩
    obtain rfl := Option.some.inj e
    have eg : ((List.range len).map (fun i => Classical.choose (hF i))).getD j Ac.zero = Classical.choose (hF j) := by
      rw [List.getD_eq_getElem?_getD, List.getElem?_map, List.getElem?_range hj]; rfl
    rw [eg]
    exact Classical.choose_spec (hF j) hj
end Go.Proofs.YtgcmompldcnhlaaDoor
namespace Go.Proofs.YtgcmompldcnhlaaDoor
open Go.RowKit
variable {w0 w w1 w2 w' : World} {g go p : Nat} {T : Nat → Ob}
def lenF (T : Nat → Ob) (i : Nat) : Nat := ((List.range i).filter fun k => decide (0 < (T k).l)).length
theorem lenF_succ (T : Nat → Ob) (i : Nat) : lenF T (i + 1) = lenF T i + (if 0 < (T i).l then 1 else 0) := by
  unfold lenF
  rw [List.range_succ, List.filter_append, List.length_append]
  by_cases h : 0 < (T i).l
  · rw [if_pos h]; simp [h]
  · rw [if_neg h]; simp [h]
theorem lenF_le (T : Nat → Ob) (i : Nat) : lenF T i ≤ i := by
  unfold lenF
  have := List.length_filter_le (fun k => decide (0 < (T k).l)) (List.range i)
  rw [List.length_range] at this
  exact this
def LenRel (w : World) (T : Nat → Ob) (gk : Nat) (vm vi : Value) (wr : World) : Prop := ∃ i m : Nat, i + gk = 64 ∧ m = lenF T i ∧ vi = .int .i64 (i : Int) ∧ vm = .int .i64 (m : Int) ∧ w = wr
set_option maxRecDepth 20000 in
set_option maxHeartbeats 1600000 in
theorem len_any (w : World) (x : Tb w g p go T) :
    Calls Tryd.prog 14 #[.pointer (some ⟨g, 0, none⟩)] w fun e w' => e = .returned (.int .i64 (lenF T 64 : Nat)) ∧ w' = w := by
  have HX := hide x
  clear x
  obtain ⟨R, hR⟩ : ∃ R, lenF T 64 = R := ⟨_, rfl⟩
  rw [hR]
  have HR := hide hR
  clear hR
  go_enter Tryd.func14, Tryd.ntmps14
  go_wp2
  go_loopg [3, 5] 64 (fun gk vm vi wr => LenRel w T gk vm vi wr)
  case atStart => exact ⟨0, 0, by omega, rfl, rfl, rfl, rfl⟩
  case round =>
    obtain ⟨i, m, hi, hm, rfl, rfl, rfl⟩ := hrel
    have HM := hide hm
    clear hm
    cases gk with
    | zero =>
      obtain rfl : i = 64 := by omega
      have e : m = R := HM.out.trans HR.out
      subst e
      go_wp2
      go_ret
      exact ⟨rfl, rfl⟩
    | succ g1 =>
      have hin : i < 64 := by omega
      have hlt : (i : Int) < 64 := by omega
      have hi0 : (0 : Int) ≤ (i : Int) := by omega
      have hb : (decide (0 ≤ (i : Int)) && hasO T ((i : Int)).toNat) = decide (0 < (T i).l) := by
        unfold hasO
        rw [Int.toNat_natCast, decide_eq_true hi0, decide_eq_true hin]; rfl
      have hml : (m : Int) ≤ 64 := by have := lenF_le T i; have := HM.out; omega
      have HB := hide hb
      have HI := hide hi
      clear hb hin hi
      go_wp2_with fail
      refine (has_any i _ HX.out (by omega)).mono ?_; rintro e wx ⟨rfl, rfl⟩
      rw [HB.out]
      by_cases hl : 0 < (T i).l
      · rw [decide_eq_true hl]
        have HL := hide hl
        clear hl
        go_wp2_with fail
        go_roundg g1
        case measure => have := HI.out; omega
        case rel => exact ⟨i + 1, m + 1, by have := HI.out; omega, by rw [lenF_succ, if_pos HL.out, HM.out], by go_num, by go_num, rfl⟩
      · rw [decide_eq_false hl]
        have HL := hide hl
        clear hl
        go_wp2_with fail
        go_roundg g1
        case measure => have := HI.out; omega
        case rel => exact ⟨i + 1, m, by have := HI.out; omega, by rw [lenF_succ, if_neg HL.out, HM.out]; rfl, by go_num, rfl, rfl⟩
/- a model without things -/
def zeroM : List Value := [.int .u64 0, .pointer none] ++ (List.replicate 64 Ob.zero).flatMap thC
theorem Tryd.zeroModel (w : World) : (zeroValue 37).run Tryd.prog w = .ok (.agg zeroM.toArray) w := by kernel_rfl
def newM (p go : Nat) : List Value := [.int .u64 (p : Int), .pointer (some ⟨go, 0, none⟩)] ++ (List.replicate 64 Ob.zero).flatMap thC
theorem zero_atM (n j f : Nat) (hj : j < n) (hf : f < 5) : ((List.replicate n Ob.zero).flatMap thC)[j * 5 + f]? = (thC Ob.zero)[f]? := by
  induction n generalizing j with
  | zero => omega
  | succ n ih =>
    rw [List.replicate_succ, List.flatMap_cons]
    cases j with
    | zero => rw [List.getElem?_append_left (by show _ < 5; omega)]; simp
    | succ j =>
      rw [List.getElem?_append_right (by show 5 ≤ _; omega)]
      show ((List.replicate n Ob.zero).flatMap thC)[(j + 1) * 5 + f - 5]? = _
      rw [show (j + 1) * 5 + f - 5 = j * 5 + f by omega]
      exact ih j (by omega)
set_option maxRecDepth 20000 in
theorem newM_ok (p go : Nat) : MdC (newM p go).toArray p go (fun j => thC (noneO j)) := by
  refine ⟨by simp [newM, thC], rfl, rfl, fun j f hj hf => ?_⟩
  rw [List.getElem?_toArray]
  show (_ ++ _)[_]? = _
  rw [List.getElem?_append_right (by show 2 ≤ _; omega)]
  show ((List.replicate 64 Ob.zero).flatMap thC)[2 + j * 5 + f - 2]? = _
  rw [show 2 + j * 5 + f - 2 = j * 5 + f by omega]
  exact zero_atM 64 j f hj hf
theorem new_md (w : World) (p go : Nat) : Md (w.alloc (.cells (newM p go).toArray 37)) w.heap.size p go noneO :=
  ⟨⟨_, heap_alloc_new _ _, newM_ok p go⟩, fun _ => ⟨by show 0 ≤ _; omega, by show 0 ≤ _; omega⟩⟩
end Go.Proofs.YtgcmompldcnhlaaDoor
namespace Go.Proofs.YtgcmompldcnhlaaDoor
theorem bulk_pos {H : Type} (d : DataW H) : 0 < Rows.uptoBulk d := by
  match d with
  | .lit b => cases b <;> simp [Rows.uptoBulk]
  | .nil => simp [Rows.uptoBulk]
  | .held _ => simp [Rows.uptoBulk]
  | .ptr _ | .slice _ _ | .agg _ | .iface _ _ | .map _ => simp [Rows.uptoBulk]
theorem bulk_len {H : Type} : ∀ l : List (DataW H), l.length ≤ Rows.uptoBulkAll l
  | [] => Nat.zero_le _
  | x :: r => by have h := bulk_len r; have h0 := bulk_pos x; simp only [Rows.uptoBulkAll, List.length_cons]; omega
theorem bulk_mem {H : Type} {d : DataW H} : ∀ {l : List (DataW H)}, d ∈ l → Rows.uptoBulk d ≤ Rows.uptoBulkAll l
  | x :: r, h => by
    simp only [Rows.uptoBulkAll]
    rcases List.mem_cons.1 h with rfl | h
    · omega
    · have := bulk_mem h; omega
theorem bulk_slice {H : Type} {l : List (DataW H)} {elems spare : List (DataW H)} (hk : Rows.uptoSmall H l = true) (h : DataW.slice elems spare ∈ l) : elems.length + spare.length ≤ 1048576 := by
  have h0 : Rows.uptoBulkAll l ≤ 1048576 := of_decide_eq_true hk
  have h1 := bulk_mem h
  simp only [Rows.uptoBulk] at h1
  have := bulk_len elems
  have := bulk_len spare
  omega
end Go.Proofs.YtgcmompldcnhlaaDoor
