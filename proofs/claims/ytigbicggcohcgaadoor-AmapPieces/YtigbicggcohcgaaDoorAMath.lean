/-
  Maps of addresses, in plain words: areas, which has an address, where one is put, which parts lie behind addresses. Nothing here names the program.
-/
import Derived.Test.YtigbicggcohcgaaDoorABase
namespace Go.Proofs.YtigbicggcohcgaaDoor
structure Ar where
  b : Int
  s : Int
  g : Int
  o : Int
  w : Bool
  deriving DecidableEq
def Ar.zero : Ar := ⟨0, 0, 0, 0, false⟩
structure Pc where
  g : Int
  t : Int
  z : Int
  deriving DecidableEq
def Pc.zero : Pc := ⟨0, 0, 0⟩
def I64 (x : Int) : Prop := -9223372036854775808 ≤ x ∧ x ≤ 9223372036854775807
def Ar.fit (a : Ar) : Prop := I64 a.b ∧ I64 a.s ∧ I64 a.g ∧ I64 a.o
def hasA (a : Ar) (x : Int) : Bool := decide (a.b ≤ x) && decide (IntKind.i64.wrap (x - a.b) < a.s)
def lapA (a x : Ar) : Bool := hasA a x.b || hasA x a.b
def outA (a n : Int) : Bool := decide (a < 0) || decide (n < 0) || decide (1073741824 - a < n)
def posA (x : Int) : List Ar → Nat
  | [] => 0
  | y :: L => if y.b < x then posA x L + 1 else 0
def addE (L : List Ar) (a : Ar) : Int :=
  if decide (a.s < 1) || outA a.b a.s then 13 else if decide (a.o < 0) || decide (a.g < 0) then 4 else if L.any (lapA a) then 14 else if 64 ≤ L.length then 5 else 0
def putA (L : List Ar) (a : Ar) : List Ar := L.take (posA a.b L) ++ a :: L.drop (posA a.b L)
def addL (L : List Ar) (a : Ar) : List Ar := if addE L a = 0 then putA L a else []
def findF (L : List Ar) (x : Int) : Ar × Bool := match L.find? (hasA · x) with | some a => (a, true) | none => (Ar.zero, false)
def restF (n k : Int) : Int := n % k
def smallA (a : Ar) : Ar := ⟨a.b % 200, 1 + a.s % 30, a.g % 5, a.o % 100, a.w⟩
def stepM (L : List Ar) (a : Ar) : List Ar := if addE L (smallA a) = 0 then putA L (smallA a) else L
def makeF (raw : List Ar) : List Ar := raw.foldl stepM []
def goF (wr : Bool) : List Ar → Int → Int → List Pc → Int × List Pc
  | [], _, n, out => if 0 < n then (13, []) else (0, out)
  | a :: L, x, n, out =>
    if n < 1 then (0, out)
    else if hasA a x then
      if wr && !a.w then (2, [])
      else goF wr L (x + min n (a.s - (x - a.b))) (n - min n (a.s - (x - a.b))) (out ++ [⟨a.g, a.o + (x - a.b), min n (a.s - (x - a.b))⟩])
    else goF wr L x n out
def pcsF (L : List Ar) (x n : Int) (wr : Bool) : Int × List Pc := if outA x n then (13, []) else goF wr L x n []
/- what a map is -/
def okA (a : Ar) : Prop := 0 ≤ a.b ∧ 1 ≤ a.s ∧ a.b + a.s ≤ 1073741824 ∧ (0 ≤ a.g ∧ a.g ≤ 9223372036854775807) ∧ 0 ≤ a.o ∧ a.o ≤ 9223372036854775807
theorem okA.fit {a : Ar} (h : okA a) : a.fit := by
  obtain ⟨h1, h2, h3, ⟨h4, h5⟩, h6, h7⟩ := h
  exact ⟨⟨by omega, by omega⟩, ⟨by omega, by omega⟩, ⟨by omega, by omega⟩, by omega, by omega⟩
structure Good (L : List Ar) : Prop where
  ok : ∀ a ∈ L, okA a
  sort : L.Pairwise (fun x y => x.b + x.s ≤ y.b)
  len : L.length ≤ 64
theorem wrap_in {x : Int} (h : I64 x) : IntKind.i64.wrap x = x := by rw [IntKind.wrap_i64]; obtain ⟨h1, h2⟩ := h; omega
theorem hasA_ok {a : Ar} (h : okA a) {x : Int} (hx : I64 x) : hasA a x = (decide (a.b ≤ x) && decide (x < a.b + a.s)) := by
  unfold hasA
  by_cases h1 : a.b ≤ x
  · obtain ⟨h2, h3, h4, _⟩ := h
    obtain ⟨h5, h6⟩ := hx
    rw [wrap_in ⟨by omega, by omega⟩]
    congr 1
    exact decide_eq_decide.2 ⟨fun _ => by omega, fun _ => by omega⟩
  · rw [decide_eq_false h1]; rfl
theorem has_iff {a : Ar} (h : okA a) {x : Int} (hx : I64 x) : hasA a x = true ↔ a.b ≤ x ∧ x < a.b + a.s := by rw [hasA_ok h hx]; simp
theorem has_not {a : Ar} (h : okA a) {x : Int} (hx : I64 x) : hasA a x = false ↔ ¬ (a.b ≤ x ∧ x < a.b + a.s) := by rw [← has_iff h hx]; simp
theorem ok_i64 {a : Ar} (h : okA a) : I64 a.b := h.fit.1
theorem outA_no {a n : Int} (h : outA a n = false) : 0 ≤ a ∧ 0 ≤ n ∧ a + n ≤ 1073741824 := by
  unfold outA at h
  simp at h
  omega
theorem outA_yes {a n : Int} (h : ¬ (0 ≤ a ∧ 0 ≤ n ∧ a + n ≤ 1073741824)) : outA a n = true := by
  unfold outA; simp; omega
theorem addE_zero {L : List Ar} {a : Ar} (h : addE L a = 0) : 1 ≤ a.s ∧ 0 ≤ a.b ∧ a.b + a.s ≤ 1073741824 ∧ 0 ≤ a.o ∧ 0 ≤ a.g ∧ L.any (lapA a) = false ∧ L.length < 64 := by
  unfold addE at h
  split at h
  · omega
  · rename_i h1
    split at h
    · omega
    · rename_i h2
      split at h
      · omega
      · rename_i h3
        split at h
        · omega
        · rename_i h4
          simp at h1 h2
          obtain ⟨k1, k2, k3⟩ := outA_no h1.2
          exact ⟨by omega, k1, k3, by omega, by omega, by simpa using h3, by omega⟩
theorem addE_ok {L : List Ar} {a : Ar} (h : addE L a = 0) (hf : a.fit) : okA a := by
  obtain ⟨h1, h2, h3, h4, h5, _, _⟩ := addE_zero h
  exact ⟨h2, h1, h3, ⟨h5, hf.2.2.1.2⟩, h4, hf.2.2.2.2⟩
theorem addE_is {L : List Ar} {a : Ar} (h : okA a) (h1 : ∀ x ∈ L, lapA a x = false) (h2 : L.length < 64) : addE L a = 0 := by
  obtain ⟨k1, k2, k3, ⟨k4, _⟩, k5, _⟩ := h
  have e1 : outA a.b a.s = false := by unfold outA; simp; omega
  have e2 : L.any (lapA a) = false := by rw [List.any_eq_false]; intro x hx; rw [h1 x hx]; decide
  unfold addE
  rw [if_neg (by rw [e1]; simp; omega), if_neg (by simp; omega), if_neg (by rw [e2]; decide), if_neg (by omega)]
theorem lapA_iff {a x : Ar} (ha : okA a) (hx : okA x) : lapA a x = false ↔ a.b + a.s ≤ x.b ∨ x.b + x.s ≤ a.b := by
  unfold lapA
  rw [Bool.or_eq_false_iff, has_not ha (ok_i64 hx), has_not hx (ok_i64 ha)]
  obtain ⟨k1, k2, _⟩ := ha
  obtain ⟨l1, l2, _⟩ := hx
  omega
theorem lapA_comm (a x : Ar) : lapA a x = lapA x a := by unfold lapA; exact Bool.or_comm _ _
/- where an area is put -/
def insA (a : Ar) : List Ar → List Ar
  | [] => [a]
  | x :: L => if x.b < a.b then x :: insA a L else a :: x :: L
theorem putA_ins (L : List Ar) (a : Ar) : putA L a = insA a L := by
  induction L with
  | nil => rfl
  | cons x L ih =>
    unfold putA at ih ⊢
    unfold posA insA
    split
    · rw [List.take_succ_cons, List.drop_succ_cons, List.cons_append, ih]
    · rfl
theorem mem_insA {a y : Ar} {L : List Ar} : y ∈ insA a L ↔ y = a ∨ y ∈ L := by
  induction L with
  | nil => simp [insA]
  | cons x L ih =>
    unfold insA
    split
    · rw [List.mem_cons, ih, List.mem_cons]
      constructor
      · rintro (h | h | h)
        · exact .inr (.inl h)
        · exact .inl h
        · exact .inr (.inr h)
      · rintro (h | h | h)
        · exact .inr (.inl h)
        · exact .inl h
        · exact .inr (.inr h)
    · rw [List.mem_cons, List.mem_cons]
theorem len_insA (a : Ar) (L : List Ar) : (insA a L).length = L.length + 1 := by
  induction L with
  | nil => rfl
  | cons x L ih =>
    unfold insA
    split
    · rw [List.length_cons, ih]; rfl
    · rfl
theorem sort_insA {a : Ar} {L : List Ar} (ha : okA a) (hL : ∀ x ∈ L, okA x) (hs : L.Pairwise (fun x y => x.b + x.s ≤ y.b)) (hd : ∀ x ∈ L, a.b + a.s ≤ x.b ∨ x.b + x.s ≤ a.b) : (insA a L).Pairwise (fun x y => x.b + x.s ≤ y.b) := by
  induction L with
  | nil => simp [insA]
  | cons x L ih =>
    rw [List.pairwise_cons] at hs
    have hx := hd x (List.mem_cons_self)
    have ox := hL x (List.mem_cons_self)
    have oa := ha.2.1
    have ox1 := ox.2.1
    unfold insA
    split
    · rename_i hlt
      refine List.pairwise_cons.2 ⟨fun y hy => ?_, ih (fun y hy => hL y (List.mem_cons_of_mem _ hy)) hs.2 (fun y hy => hd y (List.mem_cons_of_mem _ hy))⟩
      rcases mem_insA.1 hy with rfl | hy
      · omega
      · exact hs.1 y hy
    · rename_i hlt
      refine List.pairwise_cons.2 ⟨fun y hy => ?_, List.pairwise_cons.2 hs⟩
      rcases List.mem_cons.1 hy with rfl | hy
      · omega
      · have := hs.1 y hy
        omega
theorem Good.put {L : List Ar} {a : Ar} (h : Good L) (hf : a.fit) (h0 : addE L a = 0) : Good (putA L a) := by
  have ha := addE_ok h0 hf
  obtain ⟨_, _, _, _, _, hl, hn⟩ := addE_zero h0
  rw [putA_ins]
  refine ⟨fun y hy => ?_, sort_insA ha h.ok h.sort (fun x hx => ?_), by rw [len_insA]; omega⟩
  · rcases mem_insA.1 hy with rfl | hy
    · exact ha
    · exact h.ok y hy
  · rw [List.any_eq_false] at hl
    exact (lapA_iff ha (h.ok x hx)).1 (by simpa using hl x hx)
theorem good_nil : Good [] := ⟨fun _ h => by simp at h, List.Pairwise.nil, Nat.zero_le _⟩
def Near (L : List Ar) : Prop := ∀ a ∈ L, a.b + a.s ≤ 229 ∧ a.g ≤ 4 ∧ a.o ≤ 99
theorem small_ok (a : Ar) : okA (smallA a) ∧ (smallA a).b + (smallA a).s ≤ 229 ∧ (smallA a).g ≤ 4 ∧ (smallA a).o ≤ 99 := by
  unfold smallA okA
  simp only
  refine ⟨⟨by omega, by omega, by omega, ⟨by omega, by omega⟩, by omega, by omega⟩, by omega, by omega, by omega⟩
theorem step_good {L : List Ar} (a : Ar) (h : Good L) (hn : Near L) : Good (stepM L a) ∧ Near (stepM L a) := by
  unfold stepM
  split
  · rename_i h0
    refine ⟨h.put (small_ok a).1.fit h0, fun y hy => ?_⟩
    rw [putA_ins] at hy
    rcases mem_insA.1 hy with rfl | hy
    · exact (small_ok a).2
    · exact hn y hy
  · exact ⟨h, hn⟩
theorem make_take (raw : List Ar) (k : Nat) (h : k < raw.length) : makeF (raw.take (k + 1)) = stepM (makeF (raw.take k)) (raw.getD k Ar.zero) := by
  unfold makeF
  rw [List.take_add_one, List.getElem?_eq_getElem h, Option.toList_some, List.foldl_append, List.foldl_cons, List.foldl_nil, List.getD_eq_getElem?_getD, List.getElem?_eq_getElem h, Option.getD_some]
theorem fold_good (raw : List Ar) : ∀ L, Good L → Near L → Good (raw.foldl stepM L) ∧ Near (raw.foldl stepM L) := by
  induction raw with
  | nil => exact fun L h1 h2 => ⟨h1, h2⟩
  | cons a raw ih => exact fun L h1 h2 => ih _ (step_good a h1 h2).1 (step_good a h1 h2).2
theorem make_good (raw : List Ar) : Good (makeF raw) ∧ Near (makeF raw) := fold_good raw [] good_nil (fun _ h => by simp at h)
end Go.Proofs.YtigbicggcohcgaaDoor
