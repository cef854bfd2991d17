/-
  Plain facts on segments: pages that are given out and taken back, a segment's bytes among those of all pages, how many pages are left.
-/
import Derived.Test.YtppdammgmnihgaaDoorPMath
namespace Go.Proofs.YtppdammgmnihgaaDoor
/- so many pages hold so many bytes -/
def need (size : Nat) : Nat := (size + 63) / 64
theorem leftF_set_true (gl : List Bool) (k : Nat) (h : k < gl.length) (hf : gl.getD k true = false) : leftF (gl.set k true) + 1 = leftF gl := by
  have e : gl[k] = false := by simpa [List.getD_eq_getElem?_getD, List.getElem?_eq_getElem h] using hf
  have hp : 0 < gl.count false := List.count_pos_iff.2 (e ▸ List.getElem_mem h)
  unfold leftF
  rw [List.count_set h, e]
  simp; omega
theorem leftF_set_false (gl : List Bool) (k : Nat) (h : k < gl.length) (hf : gl.getD k true = true) : leftF (gl.set k false) = leftF gl + 1 := by
  have e : gl[k] = true := by simpa [List.getD_eq_getElem?_getD, List.getElem?_eq_getElem h] using hf
  unfold leftF
  rw [List.count_set h, e]
  simp
theorem lowF_lt (gl : List Bool) (h : 0 < leftF gl) : lowF gl < gl.length := by
  have := List.count_pos_iff.1 h
  exact List.findIdx_lt_length_of_exists ⟨false, this, rfl⟩
theorem lowF_none (gl : List Bool) (h : leftF gl = 0) : lowF gl = gl.length := by
  rcases Nat.lt_or_ge (lowF gl) gl.length with h1 | h1
  · have := leftF_set_true gl _ h1 (lowF_free gl h1); omega
  · have := lowF_le gl; omega
/- the lowest k pages that are free are given out -/
def takeG (gl : List Bool) : Nat → List Bool
  | 0 => gl
  | k + 1 => (takeG gl k).set (lowF (takeG gl k)) true
def takeP (gl : List Bool) : Nat → List Nat
  | 0 => []
  | k + 1 => takeP gl k ++ [lowF (takeG gl k)]
theorem takeG_len (gl : List Bool) (k : Nat) : (takeG gl k).length = gl.length := by
  induction k with
  | zero => rfl
  | succ k ih => rw [takeG, List.length_set, ih]
theorem takeP_len (gl : List Bool) (k : Nat) : (takeP gl k).length = k := by
  induction k with
  | zero => rfl
  | succ k ih => rw [takeP, List.length_append, ih]; rfl
theorem takeG_left (gl : List Bool) (k : Nat) (h : k ≤ leftF gl) : leftF (takeG gl k) + k = leftF gl := by
  induction k with
  | zero => rfl
  | succ k ih =>
    have ih := ih (by omega)
    have hl := lowF_lt (takeG gl k) (by omega)
    have := leftF_set_true _ _ hl (lowF_free _ hl)
    rw [takeG]; omega
theorem takeG_low (gl : List Bool) (k : Nat) (h : k < leftF gl) : lowF (takeG gl k) < gl.length := by
  have := takeG_left gl k (by omega)
  have := lowF_lt (takeG gl k) (by omega)
  rw [takeG_len] at this; exact this
theorem takeG_keep (gl : List Bool) (k i : Nat) (h : gl.getD i true = true) : (takeG gl k).getD i true = true := by
  induction k with
  | zero => exact h
  | succ k ih => rw [takeG, getD_set]; split <;> first | rfl | exact ih
theorem getD_append (a b : List Nat) (x : Nat) : (a ++ b).getD x 0 = if x < a.length then a.getD x 0 else b.getD (x - a.length) 0 := by
  simp only [List.getD_eq_getElem?_getD, List.getElem?_append]; split <;> rfl
/- what is given out newly was free, is below n, and no page is given out twice -/
structure Fresh (gl : List Bool) (k : Nat) : Prop where
  lt : ∀ x, x < k → (takeP gl k).getD x 0 < gl.length
  free : ∀ x, x < k → gl.getD ((takeP gl k).getD x 0) true = false
  now : ∀ x, x < k → (takeG gl k).getD ((takeP gl k).getD x 0) true = true
  one : ∀ x y, x < k → y < k → (takeP gl k).getD x 0 = (takeP gl k).getD y 0 → x = y
theorem takeP_fresh (gl : List Bool) (k : Nat) (h : k ≤ leftF gl) : Fresh gl k := by
  induction k with
  | zero => exact ⟨fun x hx => by omega, fun x hx => by omega, fun x hx => by omega, fun x _ hx => by omega⟩
  | succ k ih =>
    have ih := ih (by omega)
    have hl := takeG_low gl k (by omega)
    have hf := lowF_free (takeG gl k) (by rw [takeG_len]; exact hl)
    have last : (takeP gl (k + 1)).getD k 0 = lowF (takeG gl k) := by rw [takeP, getD_append, takeP_len, if_neg (by omega), Nat.sub_self]; rfl
    have low : ∀ x, x < k → (takeP gl (k + 1)).getD x 0 = (takeP gl k).getD x 0 := fun x hx => by rw [takeP, getD_append, takeP_len, if_pos hx]
    refine ⟨fun x hx => ?_, fun x hx => ?_, fun x hx => ?_, fun x y hx hy e => ?_⟩
    · by_cases e : x = k
      · subst e; rw [last]; exact hl
      · rw [low x (by omega)]; exact ih.lt x (by omega)
    · by_cases e : x = k
      · subst e; rw [last]
        cases hg : gl.getD (lowF (takeG gl x)) true with
        | false => rfl
        | true => rw [takeG_keep gl x _ hg] at hf; cases hf
      · rw [low x (by omega)]; exact ih.free x (by omega)
    · rw [takeG, getD_set]
      by_cases e : x = k
      · subst e; rw [last, if_pos ⟨rfl, by rw [takeG_len]; exact hl⟩]
      · rw [low x (by omega)]; split
        · rfl
        · exact ih.now x (by omega)
    · by_cases ex : x = k
      · by_cases ey : y = k
        · omega
        · subst ex; rw [last, low y (by omega)] at e
          rw [e, ih.now y (by omega)] at hf; cases hf
      · by_cases ey : y = k
        · subst ey; rw [last, low x (by omega)] at e
          rw [← e, ih.now x (by omega)] at hf; cases hf
        · rw [low x (by omega), low y (by omega)] at e
          exact ih.one x y (by omega) (by omega) e
/- pages are taken back, one after the other -/
def backG (gl : List Bool) (ps : List Nat) : Nat → List Bool
  | 0 => gl
  | k + 1 => (backG gl ps k).set (ps.getD k 0) false
def backB (bs : List UInt8) (ps : List Nat) : Nat → List UInt8
  | 0 => bs
  | k + 1 => splice (backB bs ps k) (ps.getD k 0 * 64) (zeros 64)
theorem backG_len (gl : List Bool) (ps : List Nat) (k : Nat) : (backG gl ps k).length = gl.length := by
  induction k with
  | zero => rfl
  | succ k ih => rw [backG, List.length_set, ih]
theorem backG_other (gl : List Bool) (ps : List Nat) (k i : Nat) (h : ∀ x, x < k → ps.getD x 0 ≠ i) : (backG gl ps k).getD i true = gl.getD i true := by
  induction k with
  | zero => rfl
  | succ k ih => rw [backG, getD_set, if_neg (fun e => h k (by omega) e.1)]; exact ih fun x hx => h x (by omega)
theorem backG_left (gl : List Bool) (ps : List Nat) (k : Nat) (hk : k ≤ ps.length) (hg : ∀ x, x < ps.length → ps.getD x 0 < gl.length ∧ gl.getD (ps.getD x 0) true = true) (h1 : ∀ x y, x < ps.length → y < ps.length → ps.getD x 0 = ps.getD y 0 → x = y) : leftF (backG gl ps k) = leftF gl + k := by
  induction k with
  | zero => rfl
  | succ k ih =>
    have ih := ih (by omega)
    have hh := hg k (by omega)
    rw [backG, leftF_set_false _ _ (by rw [backG_len]; exact hh.1) (by rw [backG_other gl ps k _ (fun x hx e => by have := h1 x k (by omega) (by omega) e; omega)]; exact hh.2), ih]; omega
theorem backB_len (bs : List UInt8) (ps : List Nat) (k : Nat) (h : ∀ x, x < k → ps.getD x 0 * 64 + 64 ≤ bs.length) : (backB bs ps k).length = bs.length := by
  induction k with
  | zero => rfl
  | succ k ih =>
    have ih := ih fun x hx => h x (by omega)
    rw [backB, length_splice _ _ _ (by rw [zeros_len, ih]; exact h k (by omega)), ih]
theorem backB_other (bs : List UInt8) (ps : List Nat) (k i j : Nat) (hl : ∀ x, x < k → ps.getD x 0 * 64 + 64 ≤ bs.length) (hj : j < 64) (h : ∀ x, x < k → ps.getD x 0 ≠ i) : (backB bs ps k).getD (i * 64 + j) 0 = bs.getD (i * 64 + j) 0 := by
  induction k with
  | zero => rfl
  | succ k ih =>
    have e := h k (by omega)
    rw [backB, splice_get _ _ _ _ _ (by rw [zeros_len, backB_len bs ps k fun x hx => hl x (by omega)]; exact hl k (by omega)), zeros_len, if_neg (by omega)]
    exact ih (fun x hx => hl x (by omega)) fun x hx => h x (by omega)
/- a segment's bytes -/
def cont (bs : List UInt8) (ps : List Nat) (size : Nat) : List UInt8 := (List.range size).map fun p => bs.getD (ps.getD (p / 64) 0 * 64 + p % 64) 0
theorem cont_len (bs : List UInt8) (ps : List Nat) (size : Nat) : (cont bs ps size).length = size := by simp [cont]
theorem cont_get (bs : List UInt8) (ps : List Nat) (size p : Nat) (h : p < size) : (cont bs ps size).getD p 0 = bs.getD (ps.getD (p / 64) 0 * 64 + p % 64) 0 := by
  simp [cont, List.getD_eq_getElem?_getD, List.getElem?_map, List.getElem?_range h]
theorem cont_same (bs bs' : List UInt8) (ps ps' : List Nat) (size : Nat) (h : ∀ p, p < size → bs'.getD (ps'.getD (p / 64) 0 * 64 + p % 64) 0 = bs.getD (ps.getD (p / 64) 0 * 64 + p % 64) 0) : cont bs' ps' size = cont bs ps size := by
  refine same_row _ _ (by rw [cont_len, cont_len]) fun i hi => ?_
  rw [cont_len] at hi
  rw [cont_get _ _ _ _ hi, cont_get _ _ _ _ hi]; exact h i hi
theorem getD_app (a b : List UInt8) (x : Nat) : (a ++ b).getD x 0 = if x < a.length then a.getD x 0 else b.getD (x - a.length) 0 := by
  simp only [List.getD_eq_getElem?_getD, List.getElem?_append]; split <;> rfl
def sumF (f : Nat → Nat) : Nat → Nat
  | 0 => 0
  | k + 1 => sumF f k + f k
theorem sumF_same (f g : Nat → Nat) (k : Nat) (h : ∀ i, i < k → f i = g i) : sumF f k = sumF g k := by
  induction k with
  | zero => rfl
  | succ k ih => rw [sumF, sumF, ih (fun i hi => h i (by omega)), h k (by omega)]
theorem sumF_upd (f g : Nat → Nat) (k i : Nat) (hi : i < k) (h : ∀ j, j ≠ i → g j = f j) : sumF g k + f i = sumF f k + g i := by
  induction k with
  | zero => omega
  | succ k ih =>
    rw [sumF, sumF]
    by_cases e : i = k
    · subst e; rw [sumF_same g f i fun j hj => h j (by omega)]; omega
    · have := ih (by omega); rw [h k (fun x => e x.symm)]; omega
theorem sumF_le (f : Nat → Nat) (k i : Nat) (hi : i < k) : f i ≤ sumF f k := by
  induction k with
  | zero => omega
  | succ k ih =>
    rw [sumF]
    by_cases e : i = k
    · subst e; omega
    · have := ih (by omega); omega
theorem sumF_zero (k : Nat) (f : Nat → Nat) (h : ∀ i, i < k → f i = 0) : sumF f k = 0 := by
  induction k with
  | zero => rfl
  | succ k ih => rw [sumF, ih fun i hi => h i (by omega), h k (by omega)]
def upd {α : Type} (f : Nat → α) (i : Nat) (v : α) : Nat → α := fun j => if j = i then v else f j
theorem upd_same {α : Type} (f : Nat → α) (i : Nat) (v : α) : upd f i v i = v := if_pos rfl
theorem upd_other {α : Type} (f : Nat → α) (i j : Nat) (v : α) (h : j ≠ i) : upd f i v j = f j := if_neg h
/- a segment in memory: its block, its size, its pages, their row -/
structure Cel where
  g : Nat
  size : Nat
  pgs : List Nat
  ro : Option Nat
  cap : Nat
def cnt : Option Cel → Nat
  | none => 0
  | some c => c.pgs.length
/- segments and pages go together -/
structure Good (n : Nat) (gl : List Bool) (bs : List UInt8) (sg : Nat → Option Cel) : Prop where
  top : ∀ i c, sg i = some c → i < 64
  num : ∀ i c, sg i = some c → c.pgs.length = need c.size
  most : ∀ i c, sg i = some c → c.size ≤ 262144
  giv : ∀ i c, sg i = some c → ∀ x, x < c.pgs.length → c.pgs.getD x 0 < n ∧ gl.getD (c.pgs.getD x 0) true = true
  one : ∀ i c j d, sg i = some c → sg j = some d → ∀ x y, x < c.pgs.length → y < d.pgs.length → c.pgs.getD x 0 = d.pgs.getD y 0 → i = j ∧ x = y
  tail : ∀ i c, sg i = some c → ∀ p, c.size ≤ p → p < c.pgs.length * 64 → bs.getD (c.pgs.getD (p / 64) 0 * 64 + p % 64) 0 = 0
  left : leftF gl + sumF (fun i => cnt (sg i)) 64 = n
theorem good_new (n : Nat) : Good n (List.replicate n false) (zeros (n * 64)) (fun _ => none) := by
  refine ⟨?_, ?_, ?_, ?_, ?_, ?_, ?_⟩
  · intro _ _ e; cases e
  · intro _ _ e; cases e
  · intro _ _ e; cases e
  · intro _ _ e; cases e
  · intro _ _ _ _ e; cases e
  · intro _ _ e; cases e
  · rw [sumF_zero 64 (fun _ => cnt none) fun i _ => rfl]; simp [leftF]
variable {n : Nat} {gl : List Bool} {bs : List UInt8} {sg : Nat → Option Cel}
/- a segment grows; one that was none has no pages and no bytes -/
theorem Good.grow (G : Good n gl bs sg) (hn : gl.length = n) (hc : Clean gl bs) (i : Nat) (hi : i < 64) (c d : Cel) (ho : sg i = some c ∨ (sg i = none ∧ c.pgs = [] ∧ c.size = 0)) (hs : c.size ≤ d.size) (hm : d.size ≤ 262144) (k : Nat) (hk : c.pgs.length + k = need d.size) (hl : k ≤ leftF gl) (hp : d.pgs = c.pgs ++ takeP gl k) :
    Good n (takeG gl k) bs (upd sg i (some d)) ∧ cont bs d.pgs d.size = cont bs c.pgs c.size ++ zeros (d.size - c.size) := by
  have F := takeP_fresh gl k hl
  have dl : d.pgs.length = c.pgs.length + k := by rw [hp, List.length_append, takeP_len]
  have cn : c.pgs.length = need c.size := by
    rcases ho with h | ⟨_, h1, h2⟩
    · exact G.num i c h
    · rw [h1, h2]; rfl
  have cg : ∀ x, x < c.pgs.length → c.pgs.getD x 0 < n ∧ gl.getD (c.pgs.getD x 0) true = true := by
    rcases ho with h | ⟨_, h1, h2⟩
    · exact G.giv i c h
    · intro x hx; rw [h1] at hx; simp at hx
  have old : ∀ x, x < c.pgs.length → d.pgs.getD x 0 = c.pgs.getD x 0 := fun x hx => by rw [hp, getD_append, if_pos hx]
  have new : ∀ x, ¬ x < c.pgs.length → d.pgs.getD x 0 = (takeP gl k).getD (x - c.pgs.length) 0 := fun x hx => by rw [hp, getD_append, if_neg hx]
  have dg : ∀ x, x < d.pgs.length → d.pgs.getD x 0 < n ∧ (takeG gl k).getD (d.pgs.getD x 0) true = true := by
    intro x hx
    by_cases e : x < c.pgs.length
    · rw [old x e]; exact ⟨(cg x e).1, takeG_keep _ _ _ (cg x e).2⟩
    · rw [new x e]; exact ⟨hn ▸ F.lt _ (by omega), F.now _ (by omega)⟩
  have zero : ∀ p, c.size ≤ p → p < d.pgs.length * 64 → bs.getD (d.pgs.getD (p / 64) 0 * 64 + p % 64) 0 = 0 := by
    intro p h1 h2
    by_cases e : p / 64 < c.pgs.length
    · rw [old _ e]
      rcases ho with h | ⟨_, h3, _⟩
      · exact G.tail i c h p h1 (by omega)
      · rw [h3] at e; simp at e
    · rw [new _ e]
      exact hc _ (F.lt _ (by omega)) (F.free _ (by omega)) _ (Nat.mod_lt _ (by omega))
  have apart : ∀ j e, j ≠ i → sg j = some e → ∀ x y, x < d.pgs.length → y < e.pgs.length → d.pgs.getD x 0 ≠ e.pgs.getD y 0 := by
    intro j e hj he x y hx hy heq
    by_cases hxc : x < c.pgs.length
    · rw [old x hxc] at heq
      rcases ho with h | ⟨_, h3, _⟩
      · exact hj (G.one i c j e h he x y hxc hy heq).1.symm
      · rw [h3] at hxc; simp at hxc
    · rw [new x hxc] at heq
      have h1 := F.free (x - c.pgs.length) (by omega)
      rw [heq, (G.giv j e he y hy).2] at h1; cases h1
  have self : ∀ x y, x < d.pgs.length → y < d.pgs.length → d.pgs.getD x 0 = d.pgs.getD y 0 → x = y := by
    intro x y hx hy e
    by_cases ex : x < c.pgs.length
    · by_cases ey : y < c.pgs.length
      · rw [old x ex, old y ey] at e
        rcases ho with h | ⟨_, h3, _⟩
        · exact (G.one i c i c h h x y ex ey e).2
        · rw [h3] at ex; simp at ex
      · rw [old x ex, new y ey] at e
        have h1 := F.free (y - c.pgs.length) (by omega)
        rw [← e, (cg x ex).2] at h1; cases h1
    · by_cases ey : y < c.pgs.length
      · rw [new x ex, old y ey] at e
        have h1 := F.free (x - c.pgs.length) (by omega)
        rw [e, (cg y ey).2] at h1; cases h1
      · rw [new x ex, new y ey] at e
        have := F.one _ _ (by omega) (by omega) e; omega
  have pick : ∀ j e, upd sg i (some d) j = some e → (j = i ∧ e = d) ∨ (j ≠ i ∧ sg j = some e) := by
    intro j e h
    by_cases hj : j = i
    · subst hj; rw [upd_same] at h; exact .inl ⟨rfl, (Option.some.inj h).symm⟩
    · rw [upd_other _ _ _ _ hj] at h; exact .inr ⟨hj, h⟩
  constructor
  · refine ⟨?_, ?_, ?_, ?_, ?_, ?_, ?_⟩
    · intro j e h; rcases pick j e h with ⟨rfl, rfl⟩ | ⟨_, h⟩
      · exact hi
      · exact G.top j e h
    · intro j e h; rcases pick j e h with ⟨rfl, rfl⟩ | ⟨_, h⟩
      · omega
      · exact G.num j e h
    · intro j e h; rcases pick j e h with ⟨rfl, rfl⟩ | ⟨_, h⟩
      · exact hm
      · exact G.most j e h
    · intro j e h; rcases pick j e h with ⟨rfl, rfl⟩ | ⟨_, h⟩
      · exact dg
      · exact fun x hx => ⟨(G.giv j e h x hx).1, takeG_keep _ _ _ (G.giv j e h x hx).2⟩
    · intro j e j' e' h h' x y hx hy heq
      rcases pick j e h with ⟨rfl, rfl⟩ | ⟨hj, h5⟩
      · rcases pick j' e' h' with ⟨rfl, rfl⟩ | ⟨hj', h'⟩
        · exact ⟨rfl, self x y hx hy heq⟩
        · exact absurd heq (apart j' e' hj' h' x y hx hy)
      · rcases pick j' e' h' with ⟨rfl, rfl⟩ | ⟨hj', h'⟩
        · exact absurd heq.symm (apart j e hj h5 y x hy hx)
        · exact G.one j e j' e' h5 h' x y hx hy heq
    · intro j e h; rcases pick j e h with ⟨rfl, rfl⟩ | ⟨_, h⟩
      · exact fun p h1 h2 => zero p (by omega) h2
      · exact G.tail j e h
    · have h1 := sumF_upd (fun j => cnt (sg j)) (fun j => cnt (upd sg i (some d) j)) 64 i hi (fun j hj => by simp only [upd_other _ _ _ _ hj])
      have h2 := takeG_left gl k hl
      have h3 := G.left
      have h4 : cnt (sg i) = c.pgs.length := by
        rcases ho with h | ⟨h, h1, _⟩
        · rw [h]; rfl
        · rw [h, h1]; rfl
      have h5 : cnt (upd sg i (some d) i) = d.pgs.length := by rw [upd_same]; rfl
      simp only [h4, h5] at h1
      omega
  · refine same_row _ _ (by rw [cont_len, List.length_append, cont_len, zeros_len]; omega) fun p hp' => ?_
    rw [cont_len] at hp'
    have hd : p < d.pgs.length * 64 := by rw [dl, hk]; unfold need; omega
    rw [cont_get _ _ _ _ hp', getD_app, cont_len]
    by_cases e : p < c.size
    · rw [if_pos e, cont_get _ _ _ _ e, old (p / 64) (by rw [cn]; unfold need; omega)]
    · rw [if_neg e, zeros_get]; exact zero p (by omega) hd
/- a segment is no more -/
theorem Good.del (G : Good n gl bs sg) (hn : gl.length = n) (hb : bs.length = n * 64) (i : Nat) (c : Cel) (ho : sg i = some c) :
    Good n (backG gl c.pgs c.pgs.length) (backB bs c.pgs c.pgs.length) (upd sg i none) ∧ ∀ j e, j ≠ i → sg j = some e → cont (backB bs c.pgs c.pgs.length) e.pgs e.size = cont bs e.pgs e.size := by
  have lens : ∀ x, x < c.pgs.length → c.pgs.getD x 0 * 64 + 64 ≤ bs.length := fun x hx => by have := (G.giv i c ho x hx).1; omega
  have pick : ∀ j e, upd sg i none j = some e → (j ≠ i ∧ sg j = some e) := by
    intro j e h
    by_cases hj : j = i
    · subst hj; rw [upd_same] at h; cases h
    · rw [upd_other _ _ _ _ hj] at h; exact ⟨hj, h⟩
  have ne : ∀ j e, j ≠ i → sg j = some e → ∀ y, y < e.pgs.length → ∀ x, x < c.pgs.length → c.pgs.getD x 0 ≠ e.pgs.getD y 0 := fun j e hj h y hy x hx he => hj (G.one i c j e ho h x y hx hy he).1.symm
  have same : ∀ j e, j ≠ i → sg j = some e → ∀ p, p < e.pgs.length * 64 → (backB bs c.pgs c.pgs.length).getD (e.pgs.getD (p / 64) 0 * 64 + p % 64) 0 = bs.getD (e.pgs.getD (p / 64) 0 * 64 + p % 64) 0 :=
    fun j e hj h p hp => backB_other bs c.pgs _ _ _ lens (Nat.mod_lt _ (by omega)) (ne j e hj h _ (by omega))
  refine ⟨⟨?_, ?_, ?_, ?_, ?_, ?_, ?_⟩, ?_⟩
  · intro j e h; exact G.top j e (pick j e h).2
  · intro j e h; exact G.num j e (pick j e h).2
  · intro j e h; exact G.most j e (pick j e h).2
  · intro j e h x hx
    obtain ⟨hj, h⟩ := pick j e h
    refine ⟨(G.giv j e h x hx).1, ?_⟩
    rw [backG_other gl c.pgs _ _ (ne j e hj h x hx)]; exact (G.giv j e h x hx).2
  · intro j e j' e' h h'; exact G.one j e j' e' (pick j e h).2 (pick j' e' h').2
  · intro j e h p h1 h2
    obtain ⟨hj, h⟩ := pick j e h
    rw [same j e hj h p h2]; exact G.tail j e h p h1 h2
  · have h1 := sumF_upd (fun j => cnt (sg j)) (fun j => cnt (upd sg i none j)) 64 i (G.top i c ho) (fun j hj => by simp only [upd_other _ _ _ _ hj])
    have h2 := backG_left gl c.pgs c.pgs.length (Nat.le_refl _) (fun x hx => by have := G.giv i c ho x hx; exact ⟨by omega, this.2⟩) (fun x y hx hy e => (G.one i c i c ho ho x y hx hy e).2)
    have h3 := G.left
    have h4 : cnt (sg i) = c.pgs.length := by rw [ho]; rfl
    have h5 : cnt (upd sg i none i) = 0 := by rw [upd_same]; rfl
    simp only [h4, h5] at h1
    omega
  · intro j e hj h
    refine cont_same _ _ _ _ _ fun p hp => same j e hj h p ?_
    have := G.num j e h; unfold need at this; omega
/- bytes are laid into a page of a segment -/
theorem Good.lay (G : Good n gl bs sg) (hb : bs.length = n * 64) (i : Nat) (c : Cel) (ho : sg i = some c) (x o : Nat) (l : List UInt8) (h1 : o + l.length ≤ 64) (h2 : x * 64 + o + l.length ≤ c.size) (h3 : x < c.pgs.length) :
    Good n gl (splice bs (c.pgs.getD x 0 * 64 + o) l) sg ∧ cont (splice bs (c.pgs.getD x 0 * 64 + o) l) c.pgs c.size = splice (cont bs c.pgs c.size) (x * 64 + o) l ∧ ∀ j e, j ≠ i → sg j = some e → cont (splice bs (c.pgs.getD x 0 * 64 + o) l) e.pgs e.size = cont bs e.pgs e.size := by
  have hx := (G.giv i c ho x h3).1
  have sp : ∀ q, (splice bs (c.pgs.getD x 0 * 64 + o) l).getD q 0 = if c.pgs.getD x 0 * 64 + o ≤ q ∧ q < c.pgs.getD x 0 * 64 + o + l.length then l.getD (q - (c.pgs.getD x 0 * 64 + o)) 0 else bs.getD q 0 := fun q => splice_get _ _ _ _ _ (by omega)
  have same : ∀ j e, sg j = some e → ∀ p, p < e.pgs.length * 64 → (j = i → p < x * 64 + o ∨ x * 64 + o + l.length ≤ p) → (splice bs (c.pgs.getD x 0 * 64 + o) l).getD (e.pgs.getD (p / 64) 0 * 64 + p % 64) 0 = bs.getD (e.pgs.getD (p / 64) 0 * 64 + p % 64) 0 := by
    intro j e h p hp hne
    rw [sp]
    by_cases hq : e.pgs.getD (p / 64) 0 = c.pgs.getD x 0
    · obtain ⟨rfl, e2⟩ := G.one j e i c h ho (p / 64) x (by omega) h3 hq
      have := hne rfl
      rw [hq, if_neg (by omega)]
    · have : p % 64 < 64 := Nat.mod_lt _ (by omega)
      rw [if_neg (by omega)]
  refine ⟨⟨G.top, G.num, G.most, G.giv, G.one, fun j e h p hp1 hp2 => ?_, G.left⟩, ?_, fun j e hj h => ?_⟩
  · rw [same j e h p hp2 (fun hj => by subst hj; rw [ho] at h; cases h; omega)]; exact G.tail j e h p hp1 hp2
  · refine same_row _ _ (by rw [cont_len, length_splice _ _ _ (by rw [cont_len]; omega), cont_len]) fun p hp => ?_
    rw [cont_len] at hp
    have hpl : p < c.pgs.length * 64 := by have := G.num i c ho; unfold need at this; omega
    rw [cont_get _ _ _ _ hp, splice_get (cont bs c.pgs c.size) _ _ _ _ (by rw [cont_len]; omega)]
    by_cases e : x * 64 + o ≤ p ∧ p < x * 64 + o + l.length
    · rw [if_pos e, sp]
      have e1 : p / 64 = x := by omega
      rw [e1, if_pos (by omega)]; congr 1; omega
    · rw [if_neg e, same i c ho p hpl (fun _ => by omega), cont_get _ _ _ _ hp]
  · refine cont_same _ _ _ _ _ fun p hp => same j e h p ?_ (fun x => absurd x hj)
    have := G.num j e h; unfold need at this; omega
theorem cont_piece (bs : List UInt8) (c : Cel) (n x o l : Nat) (hb : bs.length = n * 64) (hx : c.pgs.getD x 0 < n) (h1 : o + l ≤ 64) (h2 : x * 64 + o + l ≤ c.size) : pieceF bs (c.pgs.getD x 0 * 64 + o) l = pieceF (cont bs c.pgs c.size) (x * 64 + o) l := by
  refine same_row _ _ (by rw [pieceF_len _ _ _ (by omega), pieceF_len _ _ _ (by rw [cont_len]; omega)]) fun i hi => ?_
  rw [pieceF_len _ _ _ (by omega)] at hi
  rw [pieceF_get _ _ _ _ hi, pieceF_get _ _ _ _ hi, cont_get _ _ _ _ (by omega)]
  have e1 : (x * 64 + o + i) / 64 = x := by omega
  have e2 : (x * 64 + o + i) % 64 = o + i := by omega
  rw [e1, e2, Nat.add_assoc]
/- what segments there are, as their bytes -/
def lens : Option (List UInt8) → Nat
  | none => 0
  | some l => need l.length
def leftL (n : Nat) (L : Nat → Option (List UInt8)) : Nat := n - sumF (fun i => lens (L i)) 64
def View (bs : List UInt8) (sg : Nat → Option Cel) (L : Nat → Option (List UInt8)) : Prop := ∀ i, L i = (sg i).map fun c => cont bs c.pgs c.size
theorem View.cnt {L : Nat → Option (List UInt8)} (V : View bs sg L) (G : Good n gl bs sg) (i : Nat) : lens (L i) = cnt (sg i) := by
  rw [V i]
  cases h : sg i with
  | none => rfl
  | some c => show need (cont bs c.pgs c.size).length = c.pgs.length; rw [cont_len, G.num i c h]
theorem View.sum {L : Nat → Option (List UInt8)} (V : View bs sg L) (G : Good n gl bs sg) : leftF gl + sumF (fun i => lens (L i)) 64 = n := by
  rw [sumF_same _ (fun i => Go.Proofs.YtppdammgmnihgaaDoor.cnt (sg i)) 64 fun i _ => V.cnt G i]; exact G.left
theorem View.left {L : Nat → Option (List UInt8)} (V : View bs sg L) (G : Good n gl bs sg) : leftF gl = leftL n L := by
  have := V.sum G; unfold leftL; omega
/- the lowest number that no segment has; 64, if there is none -/
def lowS (L : Nat → Option (List UInt8)) : Nat := (List.range 64).findIdx fun i => (L i).isNone
theorem lowS_le (L : Nat → Option (List UInt8)) : lowS L ≤ 64 := by
  have := List.findIdx_le_length (p := fun i => (L i).isNone) (xs := List.range 64)
  simpa [lowS] using this
theorem lowS_is (L : Nat → Option (List UInt8)) (k : Nat) (hk : k ≤ 64) (h1 : ∀ i, i < k → (L i).isNone = false) (h2 : k < 64 → (L k).isNone = true) : lowS L = k := by
  have hl : (List.range 64).length = 64 := List.length_range
  rcases Nat.lt_trichotomy (lowS L) k with h | h | h
  · have := List.findIdx_getElem (p := fun i => (L i).isNone) (xs := List.range 64) (w := by rw [hl]; show lowS L < 64; omega)
    rw [List.getElem_range] at this
    have h3 := h1 _ h
    rw [show lowS L = List.findIdx (fun i => (L i).isNone) (List.range 64) from rfl] at h3
    rw [h3] at this; cases this
  · exact h
  · have := lowS_le L
    have h3 := List.not_of_lt_findIdx (p := fun i => (L i).isNone) (xs := List.range 64) h
    rw [List.getElem_range, h2 (by omega)] at h3; cases h3
end Go.Proofs.YtppdammgmnihgaaDoor
