/-
  A box without where its messages' data lies: what Put and Get do to it; messages that bear a number alone.
-/
import Derived.Test.YtibdhjohjkdgdaaDoorMAll
namespace Go.Proofs.YtibdhjohjkdgdaaDoor
open Go.RowKit Go.Conc
def St (w : World) (b cu co N : Nat) (L M : List Ms) : Prop := ∃ U O, Bx w b cu co N U O ∧ U.map Ms.nm = L ∧ O.map Ms.nm = M
variable {w w' : World} {b cu co N : Nat} {L M : List Ms}
theorem St.grow (h : St w b cu co N L M) (e : Below w.heap.size w w') : St w' b cu co N L M := by
  obtain ⟨U, O, h1, h2, h3⟩ := h
  exact ⟨U, O, h1.grow e, h2, h3⟩
theorem St.few (h : St w b cu co N L M) : L.length ≤ N ∧ M.length ≤ N ∧ N ≤ 64 := by
  obtain ⟨U, O, h1, rfl, rfl⟩ := h
  simpa using h1.few
theorem St.lt (h : St w b cu co N L M) : b < w.heap.size ∧ cu < w.heap.size ∧ co < w.heap.size := by
  obtain ⟨U, O, h1, _, _⟩ := h
  exact ⟨lt_of_heap h1.box, h1.urg.lt, h1.oth.lt⟩
theorem St.other (h : St w b cu co N L M) (f : Foot (Two cu co) w w') {g : Nat} {cs : Array Value} {t : TypeId} {fr : Nat × Nat} (hg : w.heap[g]? = some (.cells cs t fr)) : w'.heap[g]? = some (.cells cs t fr) := by
  obtain ⟨U, O, h1, _, _⟩ := h
  exact h1.other f hg
theorem St.cell (h : St w b cu co N L M) (f : Foot (Two cu co) w w') {a : Addr} {v : Value} (hv : w.cell? a = some v) : w'.cell? a = some v := by
  obtain ⟨U, O, h1, _, _⟩ := h
  exact h1.cell f hv
theorem St.bts (h : St w b cu co N L M) (f : Foot (Two cu co) w w') {ao : Option Addr} {n cap : Nat} {l : List UInt8} (hb : Bts w ao n cap l) : Bts w' ao n cap l := by
  obtain ⟨U, O, h1, _, _⟩ := h
  exact h1.bts f hb
theorem St.owns (h : St w b cu co N L M) (f : Foot (Two cu co) w w') {B : Nat} {e : TypeId} {sz n : Nat} {v : Value} {xs : List Value} (ho : w.ownsRow B e sz v n xs) : w'.ownsRow B e sz v n xs := by
  obtain ⟨U, O, h1, _, _⟩ := h
  exact h1.owns f ho
theorem St.lies (h : St w b cu co N L M) (f : Foot (Two cu co) w w') {sz : Nat} {ao : Option Addr} {n cap : Nat} {cs : List Value} (hb : Lies sz w ao n cap cs) : Lies sz w' ao n cap cs := by
  obtain ⟨U, O, h1, _, _⟩ := h
  exact h1.lies f hb
theorem St.foot {S : Nat → Prop} (h : St w b cu co N L M) (f : Foot S w w') (h1 : ¬ S b) (h2 : ¬ S cu) (h3 : ¬ S co) (hS : ∀ k cur, w.heap[k]? = some (.cells cur 5 (0, 0)) → ¬ S k) : St w' b cu co N L M := by
  obtain ⟨U, O, k1, k2, k3⟩ := h
  exact ⟨U, O, k1.foot f h1 h2 h3 hS, k2, k3⟩
/- below what was there ahead of the box nothing turns -/
theorem two_on {w0 w w' : World} (bel : Below w0.heap.size w0 w) (h1 : w0.heap.size ≤ cu) (h2 : w0.heap.size ≤ co) (f : Foot (Two cu co) w w') : Below w0.heap.size w0 w' :=
  bel.trans (f.below bel.size (fun k e => by rcases e with e | e <;> omega))
def StEnd (w : World) (b cu co N : Nat) (L M : List Ms) (v : Value) (e : Ending) (w' : World) : Prop := e = .returned v ∧ St w' b cu co N L M ∧ Foot (Two cu co) w w'
theorem stU_room (p : Ms) (w : World) (x : St w b cu co N L M) (hp : p.has w) (hs : p.sn ≤ 140737488355328) (hN : L.length < N) :
    Calls Tryd.prog 9 #[.pointer (some ⟨b, 0, none⟩), .agg #[.int .u64 p.ta, .int .u64 p.rp, .int .u32 p.id, .int .u16 p.op, .int .u16 p.st, .int .u64 p.p, .int .u32 p.o, .int .u8 p.r, .int .u64 p.c, .int .u64 p.ar, .slice p.so p.sn p.sc], .bool true] w fun e w' => StEnd w b cu co N (L ++ [p.nm]) M .nilIface e w' := by
  obtain ⟨U, O, x, rfl, rfl⟩ := x
  refine (putU_room p w x hp hs (by simpa using hN)).mono ?_
  rintro e w1 ⟨⟨p', rfl, hn, _, x1⟩, f1⟩
  exact ⟨rfl, ⟨_, _, x1, by rw [List.map_append, List.map_singleton, hn], rfl⟩, f1⟩
theorem stO_room (p : Ms) (w : World) (x : St w b cu co N L M) (hp : p.has w) (hs : p.sn ≤ 140737488355328) (hN : M.length < N) :
    Calls Tryd.prog 9 #[.pointer (some ⟨b, 0, none⟩), .agg #[.int .u64 p.ta, .int .u64 p.rp, .int .u32 p.id, .int .u16 p.op, .int .u16 p.st, .int .u64 p.p, .int .u32 p.o, .int .u8 p.r, .int .u64 p.c, .int .u64 p.ar, .slice p.so p.sn p.sc], .bool false] w fun e w' => StEnd w b cu co N L (M ++ [p.nm]) .nilIface e w' := by
  obtain ⟨U, O, x, rfl, rfl⟩ := x
  refine (putO_room p w x hp hs (by simpa using hN)).mono ?_
  rintro e w1 ⟨⟨p', rfl, hn, _, x1⟩, f1⟩
  exact ⟨rfl, ⟨_, _, x1, rfl, by rw [List.map_append, List.map_singleton, hn]⟩, f1⟩
theorem stU_full (p : Ms) (w : World) (x : St w b cu co N L M) (hp : p.has w) (hs : p.sn ≤ 140737488355328) (hN : N ≤ L.length) :
    Calls Tryd.prog 9 #[.pointer (some ⟨b, 0, none⟩), .agg #[.int .u64 p.ta, .int .u64 p.rp, .int .u32 p.id, .int .u16 p.op, .int .u16 p.st, .int .u64 p.p, .int .u32 p.o, .int .u8 p.r, .int .u64 p.c, .int .u64 p.ar, .slice p.so p.sn p.sc], .bool true] w fun e w' => StEnd w b cu co N L M errV e w' := by
  obtain ⟨U, O, x, rfl, rfl⟩ := x
  refine (putU_full p w x hp hs (by simpa using hN)).mono ?_
  rintro e w1 ⟨rfl, b1⟩
  exact ⟨rfl, ⟨U, O, x.grow b1, rfl, rfl⟩, below_foot _ b1⟩
theorem stO_full (p : Ms) (w : World) (x : St w b cu co N L M) (hp : p.has w) (hs : p.sn ≤ 140737488355328) (hN : N ≤ M.length) :
    Calls Tryd.prog 9 #[.pointer (some ⟨b, 0, none⟩), .agg #[.int .u64 p.ta, .int .u64 p.rp, .int .u32 p.id, .int .u16 p.op, .int .u16 p.st, .int .u64 p.p, .int .u32 p.o, .int .u8 p.r, .int .u64 p.c, .int .u64 p.ar, .slice p.so p.sn p.sc], .bool false] w fun e w' => StEnd w b cu co N L M errV e w' := by
  obtain ⟨U, O, x, rfl, rfl⟩ := x
  refine (putO_full p w x hp hs (by simpa using hN)).mono ?_
  rintro e w1 ⟨rfl, b1⟩
  exact ⟨rfl, ⟨U, O, x.grow b1, rfl, rfl⟩, below_foot _ b1⟩
structure GotEnd (w : World) (b cu co N : Nat) (L M : List Ms) (p : Ms) (y : Ms) (w' : World) : Prop where
  nm : y.nm = p
  has : y.has w'
  own : OwnD w' y
  st : St w' b cu co N L M
  ft : Foot (Two cu co) w w'
theorem stU_get (p : Ms) (w : World) (x : St w b cu co N (p :: L) M) :
    Calls Tryd.prog 11 #[.pointer (some ⟨b, 0, none⟩)] w fun e w' => ∃ y, e = .returned (.tuple #[.agg #[.int .u64 y.ta, .int .u64 y.rp, .int .u32 y.id, .int .u16 y.op, .int .u16 y.st, .int .u64 y.p, .int .u32 y.o, .int .u8 y.r, .int .u64 y.c, .int .u64 y.ar, .slice y.so y.sn y.sc], .bool true]) ∧ GotEnd w b cu co N L M p y w' := by
  obtain ⟨U, O, x, h1, h2⟩ := x
  cases U with
  | nil => cases h1
  | cons y U =>
    rw [List.map_cons] at h1
    obtain ⟨h3, h4⟩ := List.cons.inj h1
    refine (getU y w x).mono ?_
    rintro e w1 ⟨rfl, E⟩
    exact ⟨y, rfl, h3, E.has, E.own, ⟨U, O, E.bx, h4, h2⟩, E.ft⟩
theorem stO_get (p : Ms) (w : World) (x : St w b cu co N [] (p :: M)) :
    Calls Tryd.prog 11 #[.pointer (some ⟨b, 0, none⟩)] w fun e w' => ∃ y, e = .returned (.tuple #[.agg #[.int .u64 y.ta, .int .u64 y.rp, .int .u32 y.id, .int .u16 y.op, .int .u16 y.st, .int .u64 y.p, .int .u32 y.o, .int .u8 y.r, .int .u64 y.c, .int .u64 y.ar, .slice y.so y.sn y.sc], .bool true]) ∧ GotEnd w b cu co N [] M p y w' := by
  obtain ⟨U, O, x, h1, h2⟩ := x
  cases O with
  | nil => cases h2
  | cons y O =>
    obtain rfl : U = [] := List.map_eq_nil_iff.1 h1
    rw [List.map_cons] at h2
    obtain ⟨h3, h4⟩ := List.cons.inj h2
    refine (getO y w x).mono ?_
    rintro e w1 ⟨rfl, E⟩
    exact ⟨y, rfl, h3, E.has, E.own, ⟨[], O, E.bx, rfl, h4⟩, E.ft⟩
theorem st_none (w : World) (x : St w b cu co N [] []) :
    Calls Tryd.prog 11 #[.pointer (some ⟨b, 0, none⟩)] w fun e w' => e = .returned (.tuple #[.agg #[.int .u64 0, .int .u64 0, .int .u32 0, .int .u16 0, .int .u16 0, .int .u64 0, .int .u32 0, .int .u8 0, .int .u64 0, .int .u64 0, .slice none 0 0], .bool false]) ∧ Below w.heap.size w w' := by
  obtain ⟨U, O, x, h1, h2⟩ := x
  obtain rfl : U = [] := List.map_eq_nil_iff.1 h1
  obtain rfl : O = [] := List.map_eq_nil_iff.1 h2
  exact get_zero w x
theorem st_len (w : World) (x : St w b cu co N L M) :
    Calls Tryd.prog 15 #[.pointer (some ⟨b, 0, none⟩)] w fun e w' => e = .returned (.tuple #[.int .i64 (L.length : Int), .int .i64 (M.length : Int)]) ∧ Below w.heap.size w w' := by
  obtain ⟨U, O, x, rfl, rfl⟩ := x
  rw [List.length_map, List.length_map]
  exact len_any w x
theorem st_of (r : Int) (N : Nat) (hN : roomF r = N) (w : World) :
    Calls Tryd.prog 8 #[.int .i64 r] w fun e w' => ∃ b cu co, e = .returned (.pointer (some ⟨b, 0, none⟩)) ∧ St w' b cu co N [] [] ∧ Below w.heap.size w w' ∧ w.heap.size ≤ b ∧ w.heap.size ≤ cu ∧ w.heap.size ≤ co := by
  refine (of_any r w).mono ?_
  rintro e w1 ⟨b, cu, co, rfl, x, b1, h1, h2, h3⟩
  rw [hN] at x
  exact ⟨b, cu, co, rfl, ⟨[], [], x, rfl, rfl⟩, b1, h1, h2, h3⟩
/- a message that bears a number alone -/
def msgI (k : Int) : Ms := ⟨0, 0, k, 0, 0, 0, 0, 0, 0, 0, none, 0, 0, []⟩
theorem msgI_nm (k : Int) : (msgI k).nm = msgI k := rfl
theorem msgI_has (k : Int) (w : World) : (msgI k).has w := bts_nil w
theorem msgI_sn (k : Int) : (msgI k).sn ≤ 140737488355328 := Nat.zero_le _
theorem id_of {y : Ms} {k : Int} (h : y.nm = msgI k) : y.id = k := congrArg Ms.id h
end Go.Proofs.YtibdhjohjkdgdaaDoor
