/-
  A row out of data; all names of a directory; as contracts.
  All names of a directory, as a contract.
  A new directory; a name's capability; a row laid behind all others: as contracts.
  A name's capability, with the mask's rights: a contract.
  A row laid behind all others: a contract.
-/
import Derived.Test.YtlmnnjibggdboaaGreatDoorJh
import Derived.Deep.RegionHeld
import Derived.Deep.RegionHeldLaw
namespace Go.Proofs.YtlmnnjibggdboaaGreatDoor
section
open Go.RowKit
variable {w0 w w1 w2 w' : World} {A A' : Ad} {p : Nat} {ws : List Nat} {s s' s1 : Hs} {r g : Nat} {sb : Nat × Bool}
/- a row in a variable -/
def RwB (w : World) (g : Nat) (y : Rw) : Prop := w.heap[g]? = some (.cells #[.string (str y.n), .int .u64 (y.c.p : Int), .int .u32 (y.c.o : Int), .int .u8 (y.c.r : Int), .int .u64 (y.c.c : Int), .int .u8 (y.m : Int)] 202 (0, 0))
theorem RwB.all {y : Rw} (h : RwB w g y) : w.cell? ⟨g, 0, none⟩ = some (.string (str y.n)) ∧ w.cell? ⟨g, 1, none⟩ = some (.int .u64 (y.c.p : Int)) ∧ w.cell? ⟨g, 2, none⟩ = some (.int .u32 (y.c.o : Int)) ∧ w.cell? ⟨g, 3, none⟩ = some (.int .u8 (y.c.r : Int)) ∧ w.cell? ⟨g, 4, none⟩ = some (.int .u64 (y.c.c : Int)) ∧ w.cell? ⟨g, 5, none⟩ = some (.int .u8 (y.m : Int)) := by
  refine ⟨?_, ?_, ?_, ?_, ?_, ?_⟩ <;> (rw [cell_of_row w g _ _ _ _ h]; rfl)
theorem RwB.z {y : Rw} (h : RwB w g y) (j : Nat) : w.frozen? ⟨g, j, none⟩ = false := frozen_of_row w g j _ _ h
theorem RwB.grow {y : Rw} (h : RwB w g y) (b : Below w.heap.size w w') : RwB w' g y := (b.block g (lt_of_heap h)).trans h
theorem rwb_new (w : World) (y : Rw) : RwB (w.alloc (.cells #[.string (str y.n), .int .u64 (y.c.p : Int), .int .u32 (y.c.o : Int), .int .u8 (y.c.r : Int), .int .u64 (y.c.c : Int), .int .u8 (y.m : Int)] 202)) w.heap.size y := heap_alloc_new _ _
def layW (w : World) (g : Nat) (y : Rw) : World := (((((w.setCell ⟨g, 0, none⟩ (.string (str y.n))).setCell ⟨g, 1, none⟩ (.int .u64 (y.c.p : Int))).setCell ⟨g, 2, none⟩ (.int .u32 (y.c.o : Int))).setCell ⟨g, 3, none⟩ (.int .u8 (y.c.r : Int))).setCell ⟨g, 4, none⟩ (.int .u64 (y.c.c : Int))).setCell ⟨g, 5, none⟩ (.int .u8 (y.m : Int))
theorem RwB.lay {x : Rw} (h : RwB w g x) (y : Rw) : RwB (layW w g y) g y := by
  have h1 := heap_setCell_same w g 0 _ _ (.string (str y.n)) h
  have h2 := heap_setCell_same _ g 1 _ _ (.int .u64 (y.c.p : Int)) h1
  have h3 := heap_setCell_same _ g 2 _ _ (.int .u32 (y.c.o : Int)) h2
  have h4 := heap_setCell_same _ g 3 _ _ (.int .u8 (y.c.r : Int)) h3
  have h5 := heap_setCell_same _ g 4 _ _ (.int .u64 (y.c.c : Int)) h4
  exact heap_setCell_same _ g 5 _ _ (.int .u8 (y.m : Int)) h5
theorem below_layW {B : Nat} (h : Below B w w') (hg : B ≤ g) (y : Rw) : Below B w (layW w' g y) := by
  unfold layW
  exact (((((h.setCell hg _).setCell hg _).setCell hg _).setCell hg _).setCell hg _).setCell hg _
theorem wrap8 (v : Nat) (h : v ≤ 255) : IntKind.u8.wrap (v : Int) = (v : Int) := by
  rw [IntKind.wrap_u8]; omega
theorem str_nil : str [] = { data := #[] } := rfl
set_option maxRecDepth 20000 in
set_option maxHeartbeats 1600000 in
theorem entry_no (nm : List UInt8) (ao : Option Addr) (n cap : Nat) (l : List UInt8) (ar : Nat) (w : World) (hb : Bts w ao n cap l) (hno : l.length ≠ 16 ∨ 255 < ar) :
    Calls Tryz.prog 118 #[.string (str nm), .slice ao n cap, .int .u64 (ar : Int)] w fun e w' => e = .returned (.tuple #[Rw.zero.val, .iface 47 (.int .i64 4)]) ∧ Below w.heap.size w w' := by
  have HB := hide hb
  have HL : Hid (n = l.length) := hb.1
  have HNO := hide hno
  obtain ⟨X, hX⟩ : ∃ X, w.alloc (.cells #[.string { data := #[] }, .int .u64 0, .int .u32 0, .int .u8 0, .int .u64 0, .int .u8 0] 202) = X := ⟨_, rfl⟩
  have hR : RwB X w.heap.size Rw.zero := hX ▸ rwb_new w Rw.zero
  have bX : Below w.heap.size w X := hX ▸ below_alloc w _
  have HR := hide hR
  have HBX := hide bX
  clear hb hno hR bX
  unfold Rw.val
  simp only [Rw.zero, Cp.zero, str_nil, show (((0 : Nat)) : Int) = 0 from rfl]
  obtain ⟨sn, hsn⟩ : ∃ q, str nm = q := ⟨_, rfl⟩
  rw [hsn]
  clear hsn
  by_cases h16 : n = 16
  · subst h16
    obtain ⟨q, hq⟩ : ∃ q, capD l = q := ⟨_, rfl⟩
    have hgt : (ar : Int) > 255 := by rcases HNO.out with h | h; exact absurd HL.out.symm h; omega
    obtain ⟨cp, hcp⟩ : ∃ cp, numF ((l.drop 0).take 6) = cp := ⟨_, rfl⟩
    obtain ⟨co, hco⟩ : ∃ cp, numF ((l.drop 6).take 3) = cp := ⟨_, rfl⟩
    obtain ⟨cr, hcr⟩ : ∃ cp, numF ((l.drop 9).take 1) = cp := ⟨_, rfl⟩
    obtain ⟨cc, hcc⟩ : ∃ cp, numF ((l.drop 10).take 6) = cp := ⟨_, rfl⟩
    have HD := hide (fun W hb => decode_yes ao cap l W hb cp co cr cc hcp hco hcr hcc)
    clear hq hcp hco hcr hcc
    go_enter Tryz.func118, Tryz.ntmps118
    go_wp2_with fail
    refine (HD.out _ (HB.out.carry HBX.out)).mono ?_; rintro e w1 ⟨rfl, b1⟩
    have HB1 := hide (below_one HBX.out b1)
    obtain ⟨w2, hw2⟩ : ∃ w2, w1.alloc (.cells #[.int .u64 (cp : Int), .int .u32 (co : Int), .int .u8 (cr : Int), .int .u64 (cc : Int)] 40) = w2 := ⟨_, rfl⟩
    have b2 : Below w1.heap.size w1 w2 := hw2 ▸ below_alloc _ _
    have HR2 := hide ((HR.out.grow b1).grow b2)
    have HB2 := hide (below_one HB1.out b2)
    clear b1 b2
    obtain ⟨y0, y1, y2, y3, y4, y5⟩ := HR2.out.all
    have z0 := HR2.out.z 0
    have z1 := HR2.out.z 1
    have z2 := HR2.out.z 2
    have z3 := HR2.out.z 3
    have z4 := HR2.out.z 4
    have z5 := HR2.out.z 5
    simp only [Rw.zero, Cp.zero, str_nil, show (((0 : Nat)) : Int) = 0 from rfl] at y0 y1 y2 y3 y4 y5
    have HV := hide (HR2.out.lay Rw.zero)
    have HB3 := hide (below_layW HB2.out (Nat.le_refl _) Rw.zero)
    obtain ⟨wz, hwz⟩ : ∃ wz, layW w2 w.heap.size Rw.zero = wz := ⟨_, rfl⟩
    rw [hwz] at HV HB3
    unfold layW at hwz
    simp only [Rw.zero, Cp.zero, str_nil, show (((0 : Nat)) : Int) = 0 from rfl] at hwz
    obtain ⟨v0, v1, v2, v3, v4, v5⟩ := HV.out.all
    simp only [Rw.zero, Cp.zero, str_nil, show (((0 : Nat)) : Int) = 0 from rfl] at v0 v1 v2 v3 v4 v5
    go_wp2
    refine bodyPost_ret (by simp [results, Tryz.results118, go_sem, v0, v1, v2, v3, v4, v5]; rfl) rfl ?_
    exact ⟨rfl, HB3.out⟩
  · go_enter Tryz.func118, Tryz.ntmps118
    go_wp2_with fail
    refine (decode_no ao n cap _ (by have := HB.out.2.1; have := HB.out.2.2.1; unfold maxLen at this; omega) h16).mono ?_; rintro e w1 ⟨rfl, b1⟩
    have HB1 := hide (below_one HBX.out b1)
    obtain ⟨w2, hw2⟩ : ∃ w2, w1.alloc (.cells #[.int .u64 0, .int .u32 0, .int .u8 0, .int .u64 0] 40) = w2 := ⟨_, rfl⟩
    have b2 : Below w1.heap.size w1 w2 := hw2 ▸ below_alloc _ _
    have HQ0 : Hid (CBox w2 w1.heap.size 0 0 0 0) := hw2 ▸ CBox.new w1 0 0 0 0
    have d0 := HQ0.out.c0
    have d1 := HQ0.out.c1
    have d2 := HQ0.out.c2
    have d3 := HQ0.out.c3
    have x0 := HQ0.out.z
    have hlt1 : w.heap.size < w1.heap.size := Nat.lt_of_lt_of_le (lt_of_heap HR.out) b1.size
    have HR2' := (HR.out.grow b1).grow b2
    have HB2' := below_one HB1.out b2
    have f3 := foot4 w2 w1.heap.size (.int .u64 ((0 : Nat) : Int)) (.int .u32 ((0 : Nat) : Int)) (.int .u8 ((0 : Nat) : Int)) (.int .u64 ((0 : Nat) : Int))
    obtain ⟨w3, hw3⟩ : ∃ w3, (((w2.setCell ⟨w1.heap.size, 0, none⟩ (.int .u64 ((0 : Nat) : Int))).setCell ⟨w1.heap.size, 1, none⟩ (.int .u32 ((0 : Nat) : Int))).setCell ⟨w1.heap.size, 2, none⟩ (.int .u8 ((0 : Nat) : Int))).setCell ⟨w1.heap.size, 3, none⟩ (.int .u64 ((0 : Nat) : Int)) = w3 := ⟨_, rfl⟩
    rw [hw3] at f3
    have HR2 : Hid (RwB w3 w.heap.size Rw.zero) := (f3.block _ (lt_of_heap HR2') (fun (e : w.heap.size = w1.heap.size) => by omega)).trans HR2'
    have HB2 : Hid (Below w.heap.size w w3) := HB2'.trans (f3.below (Nat.le_trans HB1.out.size b2.size) (fun k (e : k = _) => by omega))
    simp only [show (((0 : Nat)) : Int) = 0 from rfl] at hw3 d0 d1 d2 d3
    clear b1 b2 f3 HR2' HB2'
    obtain ⟨y0, y1, y2, y3, y4, y5⟩ := HR2.out.all
    have z0 := HR2.out.z 0
    have z1 := HR2.out.z 1
    have z2 := HR2.out.z 2
    have z3 := HR2.out.z 3
    have z4 := HR2.out.z 4
    have z5 := HR2.out.z 5
    simp only [Rw.zero, Cp.zero, str_nil, show (((0 : Nat)) : Int) = 0 from rfl] at y0 y1 y2 y3 y4 y5
    have HV := hide (HR2.out.lay Rw.zero)
    have HB3 := hide (below_layW HB2.out (Nat.le_refl _) Rw.zero)
    obtain ⟨wz, hwz⟩ : ∃ wz, layW w3 w.heap.size Rw.zero = wz := ⟨_, rfl⟩
    rw [hwz] at HV HB3
    unfold layW at hwz
    simp only [Rw.zero, Cp.zero, str_nil, show (((0 : Nat)) : Int) = 0 from rfl] at hwz
    obtain ⟨v0, v1, v2, v3, v4, v5⟩ := HV.out.all
    simp only [Rw.zero, Cp.zero, str_nil, show (((0 : Nat)) : Int) = 0 from rfl] at v0 v1 v2 v3 v4 v5
    go_wp2
    refine bodyPost_ret (by simp [results, Tryz.results118, go_sem, v0, v1, v2, v3, v4, v5]; rfl) rfl ?_
    exact ⟨rfl, HB3.out⟩
set_option maxRecDepth 20000 in
set_option maxHeartbeats 1600000 in
theorem entry_yes (nm : List UInt8) (ao : Option Addr) (n cap : Nat) (l : List UInt8) (ar : Nat) (w : World) (hb : Bts w ao n cap l) (h16 : l.length = 16) (har : ar ≤ 255) :
    Calls Tryz.prog 118 #[.string (str nm), .slice ao n cap, .int .u64 (ar : Int)] w fun e w' => e = .returned (.tuple #[Rw.val ⟨nm, capD l, ar⟩, .nilIface]) ∧ Below w.heap.size w w' := by
  obtain rfl : n = 16 := by have := hb.1; omega
  have HB := hide hb
  obtain ⟨X, hX⟩ : ∃ X, w.alloc (.cells #[.string { data := #[] }, .int .u64 0, .int .u32 0, .int .u8 0, .int .u64 0, .int .u8 0] 202) = X := ⟨_, rfl⟩
  have hR : RwB X w.heap.size Rw.zero := hX ▸ rwb_new w Rw.zero
  have bX : Below w.heap.size w X := hX ▸ below_alloc w _
  have HR := hide hR
  have HBX := hide bX
  have hw8 : IntKind.u8.wrap (ar : Int) = (ar : Int) := wrap8 ar har
  clear hb hR bX h16
  have hgt : ¬ (ar : Int) > 255 := by omega
  unfold Rw.val capD
  obtain ⟨cp, hcp⟩ : ∃ cp, numF ((l.drop 0).take 6) = cp := ⟨_, rfl⟩
  obtain ⟨co, hco⟩ : ∃ cp, numF ((l.drop 6).take 3) = cp := ⟨_, rfl⟩
  obtain ⟨cr, hcr⟩ : ∃ cp, numF ((l.drop 9).take 1) = cp := ⟨_, rfl⟩
  obtain ⟨cc, hcc⟩ : ∃ cp, numF ((l.drop 10).take 6) = cp := ⟨_, rfl⟩
  have HD := hide (fun W hb => decode_yes ao cap l W hb cp co cr cc hcp hco hcr hcc)
  simp only [hcp, hco, hcr, hcc]
  clear hcp hco hcr hcc
  obtain ⟨sn, hsn⟩ : ∃ q, str nm = q := ⟨_, rfl⟩
  rw [hsn]
  have HSN := hide hsn
  clear hsn
  go_enter Tryz.func118, Tryz.ntmps118
  go_wp2_with fail
  refine (HD.out _ (HB.out.carry HBX.out)).mono ?_; rintro e w1 ⟨rfl, b1⟩
  have HB1 := hide (below_one HBX.out b1)
  obtain ⟨w2, hw2⟩ : ∃ w2, w1.alloc (.cells #[.int .u64 (cp : Int), .int .u32 (co : Int), .int .u8 (cr : Int), .int .u64 (cc : Int)] 40) = w2 := ⟨_, rfl⟩
  have b2 : Below w1.heap.size w1 w2 := hw2 ▸ below_alloc _ _
  have HR2 := hide ((HR.out.grow b1).grow b2)
  have HB2 := hide (below_one HB1.out b2)
  have HQ : Hid (CBox w2 w1.heap.size cp co cr cc) := hw2 ▸ CBox.new w1 cp co cr cc
  clear b1 b2
  have q0 := HQ.out.c0
  have q1 := HQ.out.c1
  have q2 := HQ.out.c2
  have q3 := HQ.out.c3
  obtain ⟨y0, y1, y2, y3, y4, y5⟩ := HR2.out.all
  have z0 := HR2.out.z 0
  have z1 := HR2.out.z 1
  have z2 := HR2.out.z 2
  have z3 := HR2.out.z 3
  have z4 := HR2.out.z 4
  have z5 := HR2.out.z 5
  simp only [Rw.zero, Cp.zero, str_nil, show (((0 : Nat)) : Int) = 0 from rfl] at y0 y1 y2 y3 y4 y5
  have HV := hide (HR2.out.lay ⟨nm, ⟨cp, co, cr, cc⟩, ar⟩)
  have HB3 := hide (below_layW HB2.out (Nat.le_refl _) ⟨nm, ⟨cp, co, cr, cc⟩, ar⟩)
  obtain ⟨wz, hwz⟩ : ∃ wz, layW w2 w.heap.size ⟨nm, ⟨cp, co, cr, cc⟩, ar⟩ = wz := ⟨_, rfl⟩
  rw [hwz] at HV HB3
  unfold layW at hwz
  obtain ⟨v0, v1, v2, v3, v4, v5⟩ := HV.out.all
  simp only [HSN.out] at hwz v0
  go_wp2
  refine bodyPost_ret (by simp [results, Tryz.results118, go_sem, v0, v1, v2, v3, v4, v5]; rfl) rfl ?_
  exact ⟨rfl, HB3.out⟩
end
end Go.Proofs.YtlmnnjibggdboaaGreatDoor
namespace Go.Proofs.YtlmnnjibggdboaaGreatDoor
section
open Go.RowKit
variable {w0 w w1 w2 w' : World} {A A' : Ad} {p : Nat} {ws : List Nat} {s s' s1 : Hs} {r g : Nat} {sb : Nat × Bool}
theorem lstD_snoc (L : List Rw) (k : Nat) (h : k < L.length) (y : Rw) (hy : L.getD k Rw.zero = y) : lstD (L.take (k + 1)) = lstD (L.take k) ++ putF y.n.length 2 ++ y.n := by
  have : L.take (k + 1) = L.take k ++ [y] := by rw [List.take_add_one]; simp [h, ← hy]
  rw [this]; unfold lstD; simp
theorem lstD_len (L : List Rw) (h : ∀ y ∈ L, y.n.length ≤ 32) : (lstD L).length ≤ L.length * 34 := by
  induction L with
  | nil => exact Nat.le_refl _
  | cons y L ih =>
    have h1 := h y (List.mem_cons_self ..)
    have h2 := ih (fun z hz => h z (List.mem_cons_of_mem _ hz))
    have e : lstD (y :: L) = putF y.n.length 2 ++ y.n ++ lstD L := by unfold lstD; simp
    rw [e, List.length_append, List.length_append, putF_len, List.length_cons]; omega
def LstRel (w : World) (L : List Rw) (n gk : Nat) (vb vi : Value) (wr : World) : Prop := ∃ (i : Nat) (co : Option Addr) (m cc : Nat), i + gk = n ∧ vi = .int .i64 (i : Int) ∧ vb = .slice co m cc ∧ Bts wr co m cc (lstD (L.take i)) ∧ New w co ∧ Below w.heap.size w wr
set_option maxRecDepth 20000 in
set_option maxHeartbeats 1600000 in
theorem svc_list (z : Int) (w : World) (h : Mb w A.g A.sb) (x : Sv w0 w A p ws s) (hz : I64 z) :
    Calls Tryz.prog 110 #[.pointer (some ⟨A.sb.1, 0, none⟩), .int .i64 z] w fun e w' => ∃ co n cc, e = .returned (.slice co n cc) ∧ Bts w' co n cc (lstD (s.L z)) ∧ New w co ∧ n ≤ 4096 ∧ Below w.heap.size w w' := by
  have c2 := x.bx.c2
  have hlk := x.look hz
  have hr := x.dirR h z
  have hg := x.good z
  obtain ⟨v, hv⟩ : ∃ v, A.nv z = v := ⟨_, rfl⟩
  obtain ⟨L, hL⟩ : ∃ L, s.L z = L := ⟨_, rfl⟩
  rw [hv, hL] at hr
  rw [hv] at hlk
  rw [hL] at hg ⊢
  clear x h hv hL
  obtain ⟨ao, cap, rfl, hnc, hcap⟩ := hr.form
  obtain ⟨n, hn⟩ : ∃ n, L.length = n := ⟨_, rfl⟩
  have HLEN := hide hn
  rw [hn] at hnc hlk
  have HA := hide hr
  rw [hn] at HA
  have HG := hide hg
  clear hr hn hg
  go_enter Tryz.func110, Tryz.ntmps110
  go_wp2
  go_loopg [5, 15] n (fun gk vb vi wr => LstRel w L n gk vb vi wr)
  case atStart => exact ⟨0, none, 0, 0, by omega, rfl, rfl, bts_nil _, new_none _, Below.refl _ _⟩
  case round =>
    obtain ⟨i, co, m, cc, hi, rfl, rfl, hb, hw, bl⟩ := hrel
    have HB := hide hb
    have HW := hide hw
    have HBL := hide bl
    clear hb hw bl
    cases gk with
    | zero =>
      have hlt : ¬ ((i : Int) < (n : Int)) := by omega
      have e : L.take i = L := List.take_of_length_le (by have := HLEN.out; omega)
      have HB2 : Hid (Bts wr co m cc (lstD L)) := by show Bts _ _ _ _ _; rw [← e]; exact HB.out
      have hm : m ≤ 4096 := by
        have h1 := HB2.out.1
        have h2 := lstD_len L (fun y hy => (HG.out.2.1 y hy).1.2)
        have h3 := HG.out.1
        omega
      go_wp2
      go_ret
      exact ⟨_, _, _, rfl, HB2.out, HW.out, hm, HBL.out⟩
    | succ g1 =>
      have hlt : (i : Int) < (n : Int) := by omega
      obtain ⟨y, hy⟩ : ∃ y, L.getD i Rw.zero = y := ⟨_, rfl⟩
      have HM : Hid (lstD (L.take (i + 1)) = lstD (L.take i) ++ putF y.n.length 2 ++ y.n) := lstD_snoc L i (by have := HLEN.out; omega) y hy
      have hyn : y.n.length ≤ 32 := by rw [← hy]; exact (HG.out.2.1 _ (mem_getR (by have := HLEN.out; omega))).1.2
      have hmm : m ≤ 2176 := by
        have h1 := HB.out.1
        have h2 := lstD_len (L.take i) (fun y hy => (HG.out.2.1 y (List.mem_of_mem_take hy)).1.2)
        have h3 := HG.out.1
        rw [List.length_take] at h2
        omega
      obtain ⟨h, ac, e, _, _, _, _, ⟨c0, c1, c2', c3, c4, c5⟩, _⟩ := OwnR.elem (T := 202) (HA.out.grow HBL.out) i (by have := HLEN.out; omega) y hy
      obtain ⟨rfl, rfl⟩ : ao = some ⟨h, 0, none⟩ ∧ cap = ac := by simp only [Value.slice.injEq] at e; exact ⟨e.1, e.2.2⟩
      clear hy e
      obtain ⟨X, hX⟩ : ∃ X, wr.alloc (.cells #[.string (str y.n), .int .u64 (y.c.p : Int), .int .u32 (y.c.o : Int), .int .u8 (y.c.r : Int), .int .u64 (y.c.c : Int), .int .u8 (y.m : Int)] 202) = X := ⟨_, rfl⟩
      have bX : Below wr.heap.size wr X := hX ▸ below_alloc wr _
      have d0 : X.cell? ⟨wr.heap.size, 0, none⟩ = some (.string (str y.n)) := by rw [← hX]; simp
      obtain ⟨yc, X2, hcv, B2, b2⟩ := str_bytes y.n X (by omega)
      obtain ⟨ln, hln⟩ : ∃ ln, y.n.length = ln := ⟨_, rfl⟩
      rw [hln] at hcv B2 hyn HM
      have HB2 := hide B2
      have HBX := hide bX
      have HB3 := hide b2
      have HLB := hide (Nat.le_trans HBL.out.size bX.size)
      clear B2 b2 bX hln
      go_wp2_with fail
      refine (putBytes_yes co m cc _ _ ln yc y.n _ ((HB.out.carry HBX.out).carry HB3.out) HB2.out (by omega) (by omega)).mono ?_; rintro e w1 ⟨co2, cc2, rfl, B4, N4, b4⟩
      have HB4 := hide B4
      have HN4 := hide N4
      have HBL4 := hide (below_one (below_one (below_one HBL.out HBX.out) HB3.out) b4)
      have HLT := hide HB3.out.size
      clear B4 N4 b4 c0 c1 c2' c3 c4 c5
      go_wp2
      go_roundg g1
      case measure => omega
      case rel =>
        exact ⟨i + 1, co2, m + 2 + ln, cc2, by omega, by go_num, rfl, by rw [HM.out]; exact HB4.out, HN4.out.le (Nat.le_trans HLB.out HLT.out), HBL4.out⟩
end
end Go.Proofs.YtlmnnjibggdboaaGreatDoor
namespace Go.Proofs.YtlmnnjibggdboaaGreatDoor
section
open Go.RowKit
variable {w0 w w1 w2 w' : World} {A A' : Ad} {p : Nat} {ws : List Nat} {s s' s1 : Hs} {r g : Nat} {sb : Nat × Bool}
theorem SvEnd.run (E : SvEnd w0 w A p ws w1 s1) : ∃ v dv nv, Sv w0 w1 (A.upd v dv nv) p ws s1 ∧ (∀ w2 s2, SvEnd w0 w1 (A.upd v dv nv) p ws w2 s2 → SvEnd w0 w A p ws w2 s2) := by
  obtain ⟨v, dv, nv, S, F, h1, h2, h3⟩ := E
  exact ⟨v, dv, nv, S, fun w2 s2 E2 => SvEnd.on F h1 h2 h3 E2⟩
/- the number turns -/
theorem Sv.num (x : Sv w0 w A p ws s) (m : Nat) : SvEnd w0 w A p ws (w.setCell ⟨A.sb.1, 3, none⟩ (.int .i64 (lastV A.sb.2 m))) ⟨s.t, s.es, s.T, m, s.q, s.L⟩ := by
  have f := foot_set w ⟨A.sb.1, 3, none⟩ (.int .i64 (lastV A.sb.2 m))
  exact x.rows (x.st.foot f (fun j (e : j = A.sb.1) h => x.noR x.bx (.inl (bT_rT _ _).symm) (e ▸ h))) (x.bx.put3 m) (f.mono (fun j e => .inl e)) (MovB.refl _ _) (MovC.refl _ _) x.good
theorem res_vars (w : World) : ∃ W, w.alloc (.cells resZ 102) = W ∧ RB W w.heap.size Cp.zero 0 (.slice none 0 0) ∧ Below w.heap.size w W := ⟨_, rfl, heap_alloc_new _ _, below_alloc _ _⟩
set_option maxRecDepth 20000 in
set_option maxHeartbeats 3200000 in
theorem svc_create (l : List UInt8) (w : World) (h : Mb w A.g A.sb) (x : Sv w0 w A p ws s) (hl : s.es.length ≤ 5000000000000) (hn : s.n ≤ 4611686018427387904) :
    Calls Tryz.prog 109 #[.pointer (some ⟨A.sb.1, 0, none⟩)] w fun e w' => OutEnd w0 w A p ws (mkF ws p s) l e w' := by
  obtain ⟨W, hW, rW, bW⟩ := res_vars w
  unfold resZ at hW
  have HS := hide h
  have HX := hide (x.grow bW)
  have HW0 : Hid (w0.heap.size ≤ w.heap.size) := x.bel.size
  have HR := hide rW
  have HBW := hide bW
  have HL := hide hl
  have hfl : A.sb.2 = false := h
  have c3 : W.cell? ⟨A.sb.1, 3, none⟩ = some (.int .i64 (s.n : Int)) := by have := HX.out.bx.c3; rw [hfl] at this; exact this
  obtain ⟨nn, hnn⟩ : ∃ nn : Int, (s.n : Int) = nn := ⟨_, rfl⟩
  obtain ⟨kk, hkk⟩ : ∃ kk : Int, ((s.n + 1 : Nat) : Int) = kk := ⟨_, rfl⟩
  have hadd : IntKind.i64.wrap (nn + 1) = kk := by rw [IntKind.wrap_i64]; omega
  have HKI : Hid (I64 kk) := by unfold I64; exact ⟨by omega, by omega⟩
  have HLV : Hid (lastV A.sb.2 (s.n + 1) = kk) := by show _ = _; rw [hfl]; exact hkk
  obtain ⟨R, hR⟩ : ∃ R, creF ws s.t s.es p s.T kk = R := ⟨_, rfl⟩
  obtain ⟨RF, hRF⟩ : ∃ RF, mkF ws p s = RF := ⟨_, rfl⟩
  have HRF : Hid ((if R.e = 0 then (⟨0, R.c, 0, [], ⟨R.t, R.es, R.T, s.n + 1, s.q, updL s.L kk []⟩⟩ : Ro) else badF (s.tab R.t R.es R.T) R.e) = RF) := by show _ = _; rw [← hRF, ← hR, ← hkk]; rfl
  rw [hRF]
  have HRE := hide hR
  obtain ⟨er, her⟩ : ∃ er, erN (R.e : Int) = er := ⟨_, rfl⟩
  have HEE := hide her
  obtain ⟨⟨qp, qo, qr, qc⟩, hq⟩ : ∃ q, R.c = q := ⟨_, rfl⟩
  have HQ := hide hq
  rw [hnn] at c3
  clear rW bW h x hl hn hfl hnn hkk hR hRF her hq
  go_enter Tryz.func109, Tryz.ntmps109
  go_wp2_with fail
  refine (table_any HX.out).mono ?_; rintro e w3 ⟨rfl, rfl⟩
  go_wp2_with fail
  refine (tb_create kk _ HX.out HL.out R HRE.out).mono ?_; rw [HQ.out, HEE.out]; rintro e w4 ⟨rfl, E4⟩
  have k4 := HX.out.kh E4
  have HR4 := hide (HR.out.kh k4)
  have HE4 := hide E4
  obtain ⟨v4, dv4, nv4, S4, on4⟩ := SvEnd.run E4
  have HX4 := hide S4
  have HON4 := hide on4
  clear E4 k4 S4 on4 c3
  simp only [Cp.val]
  obtain ⟨w5, hw5⟩ : ∃ w5, w4.alloc (.cells #[.int .u64 (qp : Int), .int .u32 (qo : Int), .int .u8 (qr : Int), .int .u64 (qc : Int)] 40) = w5 := ⟨_, rfl⟩
  have b5 : Below w4.heap.size w4 w5 := hw5 ▸ below_alloc _ _
  have C5 : CBox w5 w4.heap.size qp qo qr qc := hw5 ▸ CBox.new w4 qp qo qr qc
  have HC5 := hide C5
  have HR5 := hide (HR4.out.grow b5)
  have HE5 := hide (HE4.out.to b5)
  have HX5 := hide (HX4.out.grow b5)
  have HON5 : Hid (∀ w6 s6, SvEnd w0 w5 (A.upd v4 dv4 nv4) p ws w6 s6 → SvEnd w0 _ A p ws w6 s6) := fun w6 s6 z => HON4.out _ _ (z.from b5)
  clear b5 C5
  by_cases h3 : R.e = 0
  · obtain rfl : er = .nilIface := by rw [← HEE.out, h3]; rfl
    have E6 := HX5.out.num (s.n + 1)
    have x3 : w5.frozen? ⟨A.sb.1, 3, none⟩ = false := HX5.out.bx.z 3
    have y3 : ∃ u, w5.cell? ⟨A.sb.1, 3, none⟩ = some u := ⟨_, HX5.out.bx.c3⟩
    obtain ⟨u3, y3⟩ := y3
    obtain ⟨w6, hw6⟩ : ∃ w6, w5.setCell ⟨A.sb.1, 3, none⟩ (.int .i64 kk) = w6 := ⟨_, rfl⟩
    rw [show lastV (A.upd v4 dv4 nv4).sb.2 (s.n + 1) = kk from HLV.out, show (A.upd v4 dv4 nv4).sb.1 = A.sb.1 from rfl, hw6] at E6
    have k6 := HX5.out.kh E6
    have HR6 := hide (HR5.out.kh k6)
    have HC6 := hide (HC5.out.kh k6)
    obtain ⟨v6, dv6, nv6, S6, on6⟩ := SvEnd.run E6
    have HX6 := hide S6
    have HON6 : Hid (∀ w7 s7, SvEnd w0 w6 ((A.upd v4 dv4 nv4).upd v6 dv6 nv6) p ws w7 s7 → SvEnd w0 _ A p ws w7 s7) := fun w7 s7 z => HON5.out _ _ (on6 _ _ z)
    clear E6 k6 S6 on6
    go_wp2_with fail
    refine (svc_gone kk _ (A := (A.upd v4 dv4 nv4).upd v6 dv6 nv6) (show Mb w6 A.g A.sb from HS.out) HX6.out HKI.out).mono ?_; rintro e w7 ⟨rfl, E7⟩
    have k7 := HX6.out.kh E7
    have HR7 := hide (HR6.out.kh k7)
    have HC7 := hide (HC6.out.kh k7)
    have HE7 := hide (HON6.out _ _ E7)
    have t0 := HC7.out.c0
    have t1 := HC7.out.c1
    have t2 := HC7.out.c2
    have t3 := HC7.out.c3
    clear E7 k7 y3 x3
    obtain ⟨y0, y1, y2, y3, y4, y5⟩ := HR7.out.all
    have z0 := HR7.out.z 0
    have z1 := HR7.out.z 1
    have z2 := HR7.out.z 2
    have z3 := HR7.out.z 3
    have z4 := HR7.out.z 4
    have z5 := HR7.out.z 5
    simp only [Cp.zero, show (((0 : Nat)) : Int) = 0 from rfl] at y0 y1 y2 y3
    have HRZ := hide (HR7.out.lay ⟨qp, qo, qr, qc⟩ 0 (.slice none 0 0))
    have HEZ := hide ((HE7.out.from HBW.out).res HW0.out HR7.out (by omega) (foot_lay6 w7 w.heap.size ⟨qp, qo, qr, qc⟩ 0 (.slice none 0 0)))
    obtain ⟨wz, hwz⟩ : ∃ wz, lay6 w7 (w.heap.size) ⟨qp, qo, qr, qc⟩ 0 (.slice none 0 0) = wz := ⟨_, rfl⟩
    rw [hwz] at HRZ HEZ
    unfold lay6 at hwz
    obtain ⟨v0, v1, v2, v3, v4, v5⟩ := HRZ.out.all
    go_wp2
    refine bodyPost_ret (by simp [results, Tryz.results109, go_sem, v0, v1, v2, v3, v4, v5]; rfl) rfl ?_
    rw [← HRF.out, if_pos h3]
    exact ⟨none, 0, 0, by rw [HQ.out]; rfl, bts_nil _, new_none _, by omega, HEZ.out⟩
  · obtain ⟨tE, hE⟩ : ∃ v, er = .iface 47 v := ⟨_, by rw [← HEE.out]; exact erN_not (by omega)⟩
    subst hE
    obtain ⟨y0, y1, y2, y3, y4, y5⟩ := HR5.out.all
    have z0 := HR5.out.z 0
    have z1 := HR5.out.z 1
    have z2 := HR5.out.z 2
    have z3 := HR5.out.z 3
    have z4 := HR5.out.z 4
    have z5 := HR5.out.z 5
    simp only [Cp.zero, show (((0 : Nat)) : Int) = 0 from rfl] at y0 y1 y2 y3
    have HRZ := hide (HR5.out.lay Cp.zero 0 (.slice none 0 0))
    have HEZ := hide ((HE5.out.from HBW.out).res HW0.out HR5.out (by omega) (foot_lay6 w5 w.heap.size Cp.zero 0 (.slice none 0 0)))
    obtain ⟨wz, hwz⟩ : ∃ wz, lay6 w5 (w.heap.size) Cp.zero 0 (.slice none 0 0) = wz := ⟨_, rfl⟩
    rw [hwz] at HRZ HEZ
    unfold lay6 at hwz
    simp only [Cp.zero, show (((0 : Nat)) : Int) = 0 from rfl] at hwz
    obtain ⟨v0, v1, v2, v3, v4, v5⟩ := HRZ.out.all
    simp only [Cp.zero, show (((0 : Nat)) : Int) = 0 from rfl] at v0 v1 v2 v3 v4
    go_wp2
    refine bodyPost_ret (by simp [results, Tryz.results109, go_sem, v0, v1, v2, v3, v4, v5]; rfl) rfl ?_
    rw [← HRF.out, if_neg h3]
    exact out_bad HEE.out HEZ.out
end
end Go.Proofs.YtlmnnjibggdboaaGreatDoor
namespace Go.Proofs.YtlmnnjibggdboaaGreatDoor
section
open Go.RowKit
variable {w0 w w1 w2 w' : World} {A A' : Ad} {p : Nat} {ws : List Nat} {s s' s1 : Hs} {r g : Nat} {sb : Nat × Bool}
theorem sz1 (w : World) (o : Obj) : (w.alloc o).heap.size = w.heap.size + 1 := by simp
theorem RwB.five {y : Rw} (h : RwB w g y) : w.cell? ⟨g, 1, none⟩ = some (.int .u64 (y.c.p : Int)) ∧ w.cell? ⟨g, 2, none⟩ = some (.int .u32 (y.c.o : Int)) ∧ w.cell? ⟨g, 3, none⟩ = some (.int .u8 (y.c.r : Int)) ∧ w.cell? ⟨g, 4, none⟩ = some (.int .u64 (y.c.c : Int)) ∧ w.cell? ⟨g, 5, none⟩ = some (.int .u8 (y.m : Int)) := h.all.2
/- the variables of 'lookup' -/
theorem look_vars (w : World) (y : Rw) : ∃ X, (w.alloc (.cells #[.string (str y.n), .int .u64 (y.c.p : Int), .int .u32 (y.c.o : Int), .int .u8 (y.c.r : Int), .int .u64 (y.c.c : Int), .int .u8 (y.m : Int)] 202)).alloc (.cells resZ 102) = X ∧
    RwB X w.heap.size y ∧ RB X (w.heap.size + 1) Cp.zero 0 (.slice none 0 0) ∧ Below w.heap.size w X := by
  have b1 := below_alloc w (.cells #[.string (str y.n), .int .u64 (y.c.p : Int), .int .u32 (y.c.o : Int), .int .u8 (y.c.r : Int), .int .u64 (y.c.c : Int), .int .u8 (y.m : Int)] 202)
  have b2 := below_alloc (w.alloc (.cells #[.string (str y.n), .int .u64 (y.c.p : Int), .int .u32 (y.c.o : Int), .int .u8 (y.c.r : Int), .int .u64 (y.c.c : Int), .int .u8 (y.m : Int)] 202)) (.cells resZ 102)
  refine ⟨_, rfl, (rwb_new w y).grow b2, ?_, below_one b1 b2⟩
  have h := heap_alloc_new (w.alloc (.cells #[.string (str y.n), .int .u64 (y.c.p : Int), .int .u32 (y.c.o : Int), .int .u8 (y.c.r : Int), .int .u64 (y.c.c : Int), .int .u8 (y.m : Int)] 202)) (.cells resZ 102)
  rw [sz1] at h
  exact h
set_option maxRecDepth 20000 in
set_option maxHeartbeats 3200000 in
theorem look_fit (y : Rw) (l : List UInt8) (w : World) (x : Sv w0 w A p ws s) (hy : y.ok) (h0 : y.c.r &&& (255 - y.m) = 0) :
    Calls Tryz.prog 116 #[.pointer (some ⟨A.sb.1, 0, none⟩), y.val] w fun e w' => OutEnd w0 w A p ws (lookF ws s y) l e w' := by
  rw [show lookF ws s y = ⟨0, y.c, 0, [], s⟩ from by unfold lookF; rw [if_pos h0]]
  obtain ⟨⟨nm, ⟨cp, co, cr, cc⟩, ym⟩, hyy⟩ : ∃ z, y = z := ⟨_, rfl⟩
  subst hyy
  obtain ⟨X, hX, rX, bR, bX⟩ := look_vars w ⟨nm, ⟨cp, co, cr, cc⟩, ym⟩
  unfold resZ at hX
  have HX := hide (x.grow bX)
  have HW0 : Hid (w0.heap.size ≤ w.heap.size) := x.bel.size
  have HRW := hide rX
  have HR := hide bR
  have HBX := hide bX
  have hand : bits .andNot .u8 (cr : Int) (ym : Int) = ((cr &&& (255 - ym) : Nat) : Int) := u8_andNot_nat _ _ (by have := hy.2.1.2.2.1; simp only at this; omega) (by have := hy.2.2; simp only at this; omega)
  obtain ⟨k0, k1, k2, k3, k4, k5⟩ := rX.all
  simp only at hX k0 k1 k2 k3 k4 k5
  obtain ⟨sn, hsn⟩ : ∃ q, str nm = q := ⟨_, rfl⟩
  rw [hsn] at hX k0
  unfold Rw.val
  simp only
  rw [hsn]
  clear rX bR bX x hsn
  obtain ⟨dd, hdd⟩ : ∃ d, cr &&& (255 - ym) = d := ⟨_, rfl⟩
  rw [hdd] at hand
  have hd : ((dd : Int) == 0) = true := by rw [← hdd]; simp only at h0; rw [h0]; rfl
  have hd2 : (dd : Int) = 0 := by rw [← hdd]; simp only at h0; rw [h0]; rfl
  clear hdd h0 hy
  go_enter Tryz.func116, Tryz.ntmps116
  obtain ⟨y0, y1, y2, y3, y4, y5⟩ := HR.out.all
  have z0 := HR.out.z 0
  have z1 := HR.out.z 1
  have z2 := HR.out.z 2
  have z3 := HR.out.z 3
  have z4 := HR.out.z 4
  have z5 := HR.out.z 5
  simp only [Cp.zero, show (((0 : Nat)) : Int) = 0 from rfl] at y0 y1 y2 y3
  have HRZ := hide (HR.out.lay ⟨cp, co, cr, cc⟩ 0 (.slice none 0 0))
  have HEZ := hide ((HX.out.stay.from HBX.out).res HW0.out HR.out (by omega) (foot_lay6 X (w.heap.size + 1) ⟨cp, co, cr, cc⟩ 0 (.slice none 0 0)))
  obtain ⟨wz, hwz⟩ : ∃ wz, lay6 X ((w.heap.size + 1)) ⟨cp, co, cr, cc⟩ 0 (.slice none 0 0) = wz := ⟨_, rfl⟩
  rw [hwz] at HRZ HEZ
  unfold lay6 at hwz
  obtain ⟨v0, v1, v2, v3, v4, v5⟩ := HRZ.out.all
  go_wp2
  refine bodyPost_ret (by simp [results, Tryz.results116, go_sem, v0, v1, v2, v3, v4, v5]; rfl) rfl ?_
  exact ⟨none, 0, 0, rfl, bts_nil _, new_none _, by omega, HEZ.out⟩
/- token.Restrict of a row's capability by its mask -/
theorem tok_res (y : Rw) (w : World) (x : Sv w0 w A p ws s) (hy : y.ok) (h0 : y.c.r &&& (255 - y.m) ≠ 0) (hl : s.es.length ≤ 5000000000000) :
    Calls Tryz.prog 62 #[.pointer (some ⟨A.go, 0, none⟩), y.c.val, .int .u8 (y.m : Int)] w fun e w' => e = .returned (.tuple #[(lookF ws s y).c.val, erN ((lookF ws s y).e : Int)]) ∧ SvEnd w0 w A p ws w' (lookF ws s y).s := by
  unfold lookF
  rw [if_neg h0]
  by_cases h1 : y.c.r = 255
  · rw [if_pos h1]
    have hv : y.c.val = .agg #[.int .u64 (y.c.p : Int), .int .u32 (y.c.o : Int), .int .u8 255, .int .u64 (y.c.c : Int)] := by unfold Cp.val; rw [h1]; rfl
    rw [hv]
    refine (tres_any w0 _ _ _ _ _ _ _ _ _ _ y.c.p y.c.o y.c.c y.m w x.od.tk hy.2.1.2.2.2 hy.2.2 hl).mono ?_
    rintro e w1 ⟨rfl, E⟩
    have hE := x.table (x.od.asked E)
    cases hok : (ofF ws s.t s.es y.c.c y.m).ok with
    | true =>
      rw [if_pos rfl]
      refine ⟨?_, hE⟩
      unfold resV erV; rw [hok]; rfl
    | false =>
      rw [if_neg (by decide)]
      refine ⟨?_, hE⟩
      unfold resV erV; rw [hok]; rfl
  · rw [if_neg h1]
    refine (tres_no _ y.c.p y.c.o y.c.r y.c.c y.m w h1).mono ?_
    rintro e w1 ⟨rfl, b⟩
    exact ⟨rfl, x.stay.to b⟩
theorem RwB.dr {y : Rw} (h : RwB w g y) : RwB w.drew g y := h
theorem look_ar (y : Rw) : (lookF ws s y).ar = 0 ∧ (lookF ws s y).d = [] := by
  unfold lookF
  split
  · exact ⟨rfl, rfl⟩
  split
  · split
    · exact ⟨rfl, rfl⟩
    · exact ⟨rfl, rfl⟩
  · exact ⟨rfl, rfl⟩
theorem RwB.foot {y : Rw} {S : Nat → Prop} (h : RwB w g y) (f : Foot S w w') (hS : ¬ S g) : RwB w' g y := (f.block g (lt_of_heap h) hS).trans h
theorem Sv.var (_x : Sv w0 w A p ws s) {y : Rw} (h : RwB w g y) (E : SvEnd w0 w A p ws w' s1) (hg : ¬ SvS A g) : RwB w' g y := by
  obtain ⟨v, dv, nv, S, F, _⟩ := E
  exact h.foot F hg
theorem put_box {b q1 q2 q3 q4 : Nat} (h : CBox w b q1 q2 q3 q4) (x1 x2 x3 x4 : Nat) : CBox ((((w.setCell ⟨b, 0, none⟩ (.int .u64 (x1 : Int))).setCell ⟨b, 1, none⟩ (.int .u32 (x2 : Int))).setCell ⟨b, 2, none⟩ (.int .u8 (x3 : Int))).setCell ⟨b, 3, none⟩ (.int .u64 (x4 : Int))) b x1 x2 x3 x4 := by
  have h1 := heap_setCell_same w b 0 _ _ (.int .u64 (x1 : Int)) h
  have h2 := heap_setCell_same _ b 1 _ _ (.int .u32 (x2 : Int)) h1
  have h3 := heap_setCell_same _ b 2 _ _ (.int .u8 (x3 : Int)) h2
  exact heap_setCell_same _ b 3 _ _ (.int .u64 (x4 : Int)) h3
theorem SvEnd.cap (x : SvEnd w0 w A p ws w1 s) (hw : w0.heap.size ≤ w.heap.size) {b q1 q2 q3 q4 : Nat} (h : CBox w1 b q1 q2 q3 q4) (hb : w.heap.size ≤ b) (f : Foot (fun j => j = b) w1 w2) : SvEnd w0 w A p ws w2 s :=
  x.off hw f (fun j e => ⟨by omega, .inr ⟨_, _, e ▸ h, cap_odd3⟩⟩)
set_option maxRecDepth 20000 in
set_option maxHeartbeats 3200000 in
theorem look_cut (y : Rw) (l : List UInt8) (w : World) (x : Sv w0 w A p ws s) (hy : y.ok) (h0 : y.c.r &&& (255 - y.m) ≠ 0) (hl : s.es.length ≤ 5000000000000) :
    Calls Tryz.prog 116 #[.pointer (some ⟨A.sb.1, 0, none⟩), y.val] w fun e w' => OutEnd w0 w A p ws (lookF ws s y) l e w' := by
  obtain ⟨RF, hRF⟩ : ∃ R, lookF ws s y = R := ⟨_, rfl⟩
  have HAR : Hid (RF.ar = 0 ∧ RF.d = []) := hRF ▸ look_ar y
  obtain ⟨er, her⟩ : ∃ er, erN (RF.e : Int) = er := ⟨_, rfl⟩
  have HEE := hide her
  obtain ⟨⟨qp, qo, qr, qc⟩, hq⟩ : ∃ q, RF.c = q := ⟨_, rfl⟩
  have HQ := hide hq
  have HT : Hid (∀ W, Sv w0 W A p ws s → Calls Tryz.prog 62 #[.pointer (some ⟨A.go, 0, none⟩), .agg #[.int .u64 (y.c.p : Int), .int .u32 (y.c.o : Int), .int .u8 (y.c.r : Int), .int .u64 (y.c.c : Int)], .int .u8 (y.m : Int)] W fun e w' => e = .returned (.tuple #[.agg #[.int .u64 (qp : Int), .int .u32 (qo : Int), .int .u8 (qr : Int), .int .u64 (qc : Int)], er]) ∧ SvEnd w0 W A p ws w' RF.s) := fun W x => by
    have h := tok_res y W x hy h0 hl
    rw [hRF, hq, her] at h
    exact h
  have HNS : Hid (¬ SvS A w.heap.size) := fun e => by have h1 := (x.up e).2; omega
  rw [hRF]
  clear hRF hl her hq
  obtain ⟨⟨nm, ⟨cp, co, cr, cc⟩, ym⟩, hyy⟩ : ∃ z, y = z := ⟨_, rfl⟩
  subst hyy
  obtain ⟨X, hX, rX, bR, bX⟩ := look_vars w ⟨nm, ⟨cp, co, cr, cc⟩, ym⟩
  unfold resZ at hX
  have HX := hide (x.grow bX)
  have HW0 : Hid (w0.heap.size ≤ w.heap.size) := x.bel.size
  have HRW := hide rX
  have HR := hide bR
  have HBX := hide bX
  have hand : bits .andNot .u8 (cr : Int) (ym : Int) = ((cr &&& (255 - ym) : Nat) : Int) := u8_andNot_nat _ _ (by have := hy.2.1.2.2.1; simp only at this; omega) (by have := hy.2.2; simp only at this; omega)
  obtain ⟨k0, k1, k2, k3, k4, k5⟩ := rX.all
  simp only at hX k0 k1 k2 k3 k4 k5
  obtain ⟨sn, hsn⟩ : ∃ q, str nm = q := ⟨_, rfl⟩
  rw [hsn] at hX k0
  unfold Rw.val
  simp only
  rw [hsn]
  clear rX bR bX x hsn
  obtain ⟨dd, hdd⟩ : ∃ d, cr &&& (255 - ym) = d := ⟨_, rfl⟩
  rw [hdd] at hand
  have hd2 : ¬ (dd : Int) = 0 := by have := h0; simp only at this; rw [hdd] at this; omega
  have HNW : Hid (¬ w.heap.size = X.heap.size) := by have h2 := lt_of_heap HRW.out; show ¬ _; omega
  have HRWd : Hid (RwB X.drew w.heap.size ⟨nm, ⟨cp, co, cr, cc⟩, ym⟩) := HRW.out
  have HRWn : Hid (RwB (X.drewN 1) w.heap.size ⟨nm, ⟨cp, co, cr, cc⟩, ym⟩) := HRW.out
  have HLT : Hid (w.heap.size + 1 < X.heap.size) := lt_of_heap HR.out
  clear hdd h0 hy
  simp only at HT
  go_enter Tryz.func116, Tryz.ntmps116
  go_wp2_with fail
  go_region_held (fun U => U.cell? ⟨w.heap.size, 1, none⟩ = some (.int .u64 (cp : Int)) ∧ U.cell? ⟨w.heap.size, 2, none⟩ = some (.int .u32 (co : Int)) ∧ U.cell? ⟨w.heap.size, 3, none⟩ = some (.int .u8 (cr : Int)) ∧ U.cell? ⟨w.heap.size, 4, none⟩ = some (.int .u64 (cc : Int)) ∧ U.cell? ⟨w.heap.size, 5, none⟩ = some (.int .u8 (ym : Int)))
    (first | with_reducible exact HRWd.out.five | with_reducible exact HRWn.out.five | with_reducible exact (RwB.dr (HRW.out.grow (below_alloc _ _))).five | with_reducible exact HRW2.out.five | with_reducible exact (HRW2.out.grow (below_alloc _ _)).five | with_reducible exact (HRW2.out.foot (foot4 _ _ _ _ _ _) HNW.out).five)
    (first
      | (go_at_call 120; refine (oracle_ptr (HX.out.grow (by go_grown))).mono ?_; rintro e w1 ⟨rfl, rfl⟩)
      | (go_at_call 62; refine (HT.out _ (HX.out.grow (by go_grown))).mono ?_; rintro e w2 ⟨rfl, E⟩
         have k2 := Sv.kh (HX.out.grow (by go_grown)) E
         have HRW2 := hide (Sv.var (HX.out.grow (by go_grown)) (HRW.out.grow (by go_grown)) E HNS.out)
         have HR2 := hide (RB.kh (HR.out.grow (by go_grown)) k2)
         have HE2 := hide (SvEnd.from E (below_one HBX.out (by go_grown)))
         have HSZ : Hid (X.heap.size ≤ w2.heap.size) := Nat.le_trans (by simp) k2.size
         (try
            have C0 := CBox.kh (show CBox (X.alloc (.cells #[.int .u64 0, .int .u32 0, .int .u8 0, .int .u64 0] 40)).drew X.heap.size 0 0 0 0 from CBox.new _ 0 0 0 0) k2
            have HC0 := hide C0
            have d0 := C0.c0
            have d1 := C0.c1
            have d2 := C0.c2
            have d3 := C0.c3
            have x0 := C0.z
            clear C0
            simp only [show (((0 : Nat)) : Int) = 0 from rfl] at d0 d1 d2 d3)
         clear E k2))
  · obtain ⟨wf, hwf⟩ : ∃ wf, w2.alloc (.cells #[.int .u64 (qp : Int), .int .u32 (qo : Int), .int .u8 (qr : Int), .int .u64 (qc : Int)] 40) = wf := ⟨_, rfl⟩
    have bf : Below w2.heap.size w2 wf := hwf ▸ below_alloc _ _
    have HCf : Hid (CBox wf w2.heap.size qp qo qr qc) := hwf ▸ CBox.new w2 qp qo qr qc
    have HRf := hide (HR2.out.grow bf)
    have HEf := hide (HE2.out.to bf)
    clear bf
    have t0 := HCf.out.c0
    have t1 := HCf.out.c1
    have t2 := HCf.out.c2
    have t3 := HCf.out.c3
    obtain ⟨y0, y1, y2, y3, y4, y5⟩ := HRf.out.all
    have z0 := HRf.out.z 0
    have z1 := HRf.out.z 1
    have z2 := HRf.out.z 2
    have z3 := HRf.out.z 3
    have z4 := HRf.out.z 4
    have z5 := HRf.out.z 5
    simp only [Cp.zero, show (((0 : Nat)) : Int) = 0 from rfl] at y0 y1 y2 y3
    have HRZ := hide (HRf.out.lay ⟨qp, qo, qr, qc⟩ 0 (.slice none 0 0))
    have HEZ := hide ((HEf.out).res HW0.out HRf.out (by omega) (foot_lay6 wf (w.heap.size + 1) ⟨qp, qo, qr, qc⟩ 0 (.slice none 0 0)))
    obtain ⟨wz, hwz⟩ : ∃ wz, lay6 wf ((w.heap.size + 1)) ⟨qp, qo, qr, qc⟩ 0 (.slice none 0 0) = wz := ⟨_, rfl⟩
    rw [hwz] at HRZ HEZ
    unfold lay6 at hwz
    obtain ⟨v0, v1, v2, v3, v4, v5⟩ := HRZ.out.all
    go_wp2
    refine bodyPost_ret (by simp [results, Tryz.results116, go_sem, v0, v1, v2, v3, v4, v5]; rfl) rfl ?_
    exact ⟨none, 0, 0, by rw [HEE.out, HQ.out, HAR.out.1]; rfl, by rw [HAR.out.2]; exact bts_nil _, new_none _, by omega, HEZ.out⟩
  · have ff := foot4 w2 X.heap.size (.int .u64 (qp : Int)) (.int .u32 (qo : Int)) (.int .u8 (qr : Int)) (.int .u64 (qc : Int))
    have HCf0 := put_box HC0.out qp qo qr qc
    obtain ⟨wf, hwf⟩ : ∃ wf, (((w2.setCell ⟨X.heap.size, 0, none⟩ (.int .u64 (qp : Int))).setCell ⟨X.heap.size, 1, none⟩ (.int .u32 (qo : Int))).setCell ⟨X.heap.size, 2, none⟩ (.int .u8 (qr : Int))).setCell ⟨X.heap.size, 3, none⟩ (.int .u64 (qc : Int)) = wf := ⟨_, rfl⟩
    rw [hwf] at ff HCf0
    have HCf := hide HCf0
    have HRf := hide (HR2.out.foot ff (fun (e : w.heap.size + 1 = X.heap.size) => by have := HLT.out; omega))
    have HEf := hide (HE2.out.cap HW0.out HC0.out (by have := HLT.out; omega) ff)
    clear ff HCf0 d0 d1 d2 d3 x0
    have t0 := HCf.out.c0
    have t1 := HCf.out.c1
    have t2 := HCf.out.c2
    have t3 := HCf.out.c3
    obtain ⟨y0, y1, y2, y3, y4, y5⟩ := HRf.out.all
    have z0 := HRf.out.z 0
    have z1 := HRf.out.z 1
    have z2 := HRf.out.z 2
    have z3 := HRf.out.z 3
    have z4 := HRf.out.z 4
    have z5 := HRf.out.z 5
    simp only [Cp.zero, show (((0 : Nat)) : Int) = 0 from rfl] at y0 y1 y2 y3
    have HRZ := hide (HRf.out.lay ⟨qp, qo, qr, qc⟩ 0 (.slice none 0 0))
    have HEZ := hide ((HEf.out).res HW0.out HRf.out (by omega) (foot_lay6 wf (w.heap.size + 1) ⟨qp, qo, qr, qc⟩ 0 (.slice none 0 0)))
    obtain ⟨wz, hwz⟩ : ∃ wz, lay6 wf ((w.heap.size + 1)) ⟨qp, qo, qr, qc⟩ 0 (.slice none 0 0) = wz := ⟨_, rfl⟩
    rw [hwz] at HRZ HEZ
    unfold lay6 at hwz
    obtain ⟨v0, v1, v2, v3, v4, v5⟩ := HRZ.out.all
    go_wp2
    refine bodyPost_ret (by simp [results, Tryz.results116, go_sem, v0, v1, v2, v3, v4, v5]; rfl) rfl ?_
    exact ⟨none, 0, 0, by rw [HEE.out, HQ.out, HAR.out.1]; rfl, by rw [HAR.out.2]; exact bts_nil _, new_none _, by omega, HEZ.out⟩
  · have ff := foot4 w2 X.heap.size (.int .u64 (qp : Int)) (.int .u32 (qo : Int)) (.int .u8 (qr : Int)) (.int .u64 (qc : Int))
    have HCf0 := put_box HC0.out qp qo qr qc
    obtain ⟨wf, hwf⟩ : ∃ wf, (((w2.setCell ⟨X.heap.size, 0, none⟩ (.int .u64 (qp : Int))).setCell ⟨X.heap.size, 1, none⟩ (.int .u32 (qo : Int))).setCell ⟨X.heap.size, 2, none⟩ (.int .u8 (qr : Int))).setCell ⟨X.heap.size, 3, none⟩ (.int .u64 (qc : Int)) = wf := ⟨_, rfl⟩
    rw [hwf] at ff HCf0
    have HCf := hide HCf0
    have HRf := hide (HR2.out.foot ff (fun (e : w.heap.size + 1 = X.heap.size) => by have := HLT.out; omega))
    have HEf := hide (HE2.out.cap HW0.out HC0.out (by have := HLT.out; omega) ff)
    clear ff HCf0 d0 d1 d2 d3 x0
    have t0 := HCf.out.c0
    have t1 := HCf.out.c1
    have t2 := HCf.out.c2
    have t3 := HCf.out.c3
    obtain ⟨y0, y1, y2, y3, y4, y5⟩ := HRf.out.all
    have z0 := HRf.out.z 0
    have z1 := HRf.out.z 1
    have z2 := HRf.out.z 2
    have z3 := HRf.out.z 3
    have z4 := HRf.out.z 4
    have z5 := HRf.out.z 5
    simp only [Cp.zero, show (((0 : Nat)) : Int) = 0 from rfl] at y0 y1 y2 y3
    have HRZ := hide (HRf.out.lay ⟨qp, qo, qr, qc⟩ 0 (.slice none 0 0))
    have HEZ := hide ((HEf.out).res HW0.out HRf.out (by omega) (foot_lay6 wf (w.heap.size + 1) ⟨qp, qo, qr, qc⟩ 0 (.slice none 0 0)))
    obtain ⟨wz, hwz⟩ : ∃ wz, lay6 wf ((w.heap.size + 1)) ⟨qp, qo, qr, qc⟩ 0 (.slice none 0 0) = wz := ⟨_, rfl⟩
    rw [hwz] at HRZ HEZ
    unfold lay6 at hwz
    obtain ⟨v0, v1, v2, v3, v4, v5⟩ := HRZ.out.all
    go_wp2
    refine bodyPost_ret (by simp [results, Tryz.results116, go_sem, v0, v1, v2, v3, v4, v5]; rfl) rfl ?_
    exact ⟨none, 0, 0, by rw [HEE.out, HQ.out, HAR.out.1]; rfl, by rw [HAR.out.2]; exact bts_nil _, new_none _, by omega, HEZ.out⟩
end
end Go.Proofs.YtlmnnjibggdboaaGreatDoor
namespace Go.Proofs.YtlmnnjibggdboaaGreatDoor
section
open Go.RowKit
variable {w0 w w1 w2 w' : World} {A A' : Ad} {p : Nat} {ws : List Nat} {s s' s1 : Hs} {r g : Nat} {sb : Nat × Bool}
/- a map where there was none -/
theorem Sv.mkmap (x : Sv w0 w A p ws s) (h : A.dv = none) : Sv w0 ((w.alloc (.map #[] 0)).setCell ⟨A.sb.1, 2, none⟩ (.map (some w.heap.size))) (A.upd A.v (some w.heap.size) A.nv) p ws s ∧ (∀ w2 s2, SvEnd w0 ((w.alloc (.map #[] 0)).setCell ⟨A.sb.1, 2, none⟩ (.map (some w.heap.size))) (A.upd A.v (some w.heap.size) A.nv) p ws w2 s2 → SvEnd w0 w A p ws w2 s2) := by
  have hlt := lt_of_heap x.bx
  have ba := below_alloc w (.map #[] 0)
  have hV : A.nv = fun _ => nilV := by
    have := x.st.map; rw [h] at this; funext z; exact this z
  have f0 := foot_set (w.alloc (.map #[] 0)) ⟨A.sb.1, 2, none⟩ (.map (some w.heap.size))
  have f : Foot (fun j => j = A.sb.1) w ((w.alloc (.map #[] 0)).setCell ⟨A.sb.1, 2, none⟩ (.map (some w.heap.size))) := (below_foot _ ba).trans f0 (fun j e => .inl e)
  have hm : MapO ((w.alloc (.map #[] 0)).setCell ⟨A.sb.1, 2, none⟩ (.map (some w.heap.size))) (some w.heap.size) s.q A.nv := by
    have h1 := (map_new w).le (Nat.zero_le s.q)
    rw [← hV] at h1
    exact MapIs.same h1 (f0.block _ (by rw [sz1]; omega) (fun (e : w.heap.size = A.sb.1) => by omega))
  have nr : ∀ j, j = A.sb.1 → ¬ RS A.dv A.nv j := fun j e h => x.noR x.bx (.inl (bT_rT _ _).symm) (e ▸ h)
  have hR : Rws ((w.alloc (.map #[] 0)).setCell ⟨A.sb.1, 2, none⟩ (.map (some w.heap.size))) A.N (rT A.sb.2) (some w.heap.size) s.q A.nv s.L := by
    have h2 := x.st.foot f nr
    exact ⟨hm, (fun b e => by cases e; exact x.nw), h2.row, h2.ap⟩
  have hB := (show BoxIs (w.alloc (.map #[] 0)) A s.n from (ba.block _ hlt).trans x.bx).put2 A.v (some w.heap.size) A.nv
  have nodx : ∀ j, j = A.sb.1 → w0.heap.size ≤ j ∧ ¬ OdS A.g A.go A.m A.a A.v j ∧ j ≠ A.h := fun j e => by
    subst e
    refine ⟨(x.up (.inr (.inl rfl))).1, x.noT x.bx (bT_ty _).1, fun h => ?_⟩
    obtain ⟨cr, hr⟩ := x.hrow
    exact x.noH (h ▸ hr) (.inr (.inl rfl))
  have h2 : MovB w A.dv (some w.heap.size) := fun j e => by cases e; exact .inr (Nat.le_refl _)
  refine ⟨⟨x.od.foot f nodx, hR, x.n0, Nat.le_trans x.nw f.size, x.m0, hB, fun e => ?_, x.good⟩, fun w2 s2 E => SvEnd.on (f.mono (fun j e => .inr (.inl e))) (Moved.refl _ _) h2 (MovC.refl _ _) E⟩
  obtain ⟨y, z, hm⟩ := x.od.tk.orc.map.isMap
  have h5 : A.m < w.heap.size := lt_of_heap hm
  have h6 : w.heap.size = A.m := Option.some.inj e
  omega
theorem equalIn_map_nil (d : Nat) (m : Option Nat) (w : World) : (Op.equalIn (d + 1) 61 (.map m) (.map none)).run Tryz.prog w = .ok m.isNone w := by
  cases m <;> simp [Op.equalIn, run_underlying Tryz.underlying61]
theorem eql_map_nil (m : Option Nat) (w : World) : (binOp .eql 61 (.map m) (.map none)).run Tryz.prog w = .ok (.bool m.isNone) w := by
  simp only [binOp]
  simp [show Op.equal 61 (.map m) (.map none) = Op.equalIn (9999 + 1) 61 (.map m) (.map none) from rfl, equalIn_map_nil 9999 m w]
/- the cells that the store reads -/
def EntS (A : Ad) (g : Nat) (y : Rw) (U : World) : Prop := (U.cell? ⟨A.sb.1, 2, none⟩ = some (.map A.dv)) ∧ U.cell? ⟨g, 0, none⟩ = some (.string (str y.n)) ∧ U.cell? ⟨g, 1, none⟩ = some (.int .u64 (y.c.p : Int)) ∧ U.cell? ⟨g, 2, none⟩ = some (.int .u32 (y.c.o : Int)) ∧ U.cell? ⟨g, 3, none⟩ = some (.int .u8 (y.c.r : Int)) ∧ U.cell? ⟨g, 4, none⟩ = some (.int .u64 (y.c.c : Int)) ∧ U.cell? ⟨g, 5, none⟩ = some (.int .u8 (y.m : Int))
/- what the last step of 'enter' leaves, world by world -/
theorem ent_step (x : Sv w0 w A p ws s) (h : Mb w A.g A.sb) {z : Int} (hz : I64 z) {b : Nat} (hb : A.dv = some b) (y : Rw) {g : Nat} (hr : RwB w g y) (hns : ¬ SvS A g) (hq : s.q < 5000000000000000) (h64 : (s.L z).length < 64) (hg : Good (s.L z ++ [y])) :
    ∃ v' W2 W3, (Builtin.append_ #[200, 200] 200 #[A.nv z, .slice (some ⟨w.heap.size, 0, none⟩) 1 1]).run Tryz.prog (w.alloc (.cells #[.string (str y.n), .int .u64 (y.c.p : Int), .int .u32 (y.c.o : Int), .int .u8 (y.c.r : Int), .int .u64 (y.c.c : Int), .int .u8 (y.m : Int)] 202)).drew = .ok v' W2 ∧
      (Instr.mapUpdate 61 (.map A.dv) (.int .i64 z) v').run Tryz.prog W2 = .ok () W3 ∧
      (Instr.lookup 61 (.map A.dv) (.int .i64 z) false).run Tryz.prog w.drew = .ok (A.nv z) w.drew ∧
      (Instr.lookup 61 (.map A.dv) (.int .i64 z) false).run Tryz.prog (w.alloc (.cells #[.string (str y.n), .int .u64 (y.c.p : Int), .int .u32 (y.c.o : Int), .int .u8 (y.c.r : Int), .int .u64 (y.c.c : Int), .int .u8 (y.m : Int)] 202)).drew = .ok (A.nv z) (w.alloc (.cells #[.string (str y.n), .int .u64 (y.c.p : Int), .int .u32 (y.c.o : Int), .int .u8 (y.c.r : Int), .int .u64 (y.c.c : Int), .int .u8 (y.m : Int)] 202)).drew ∧
      EntS A g y w.drew ∧ EntS A g y (w.alloc (.cells #[.string (str y.n), .int .u64 (y.c.p : Int), .int .u32 (y.c.o : Int), .int .u8 (y.c.r : Int), .int .u64 (y.c.c : Int), .int .u8 (y.m : Int)] 202)).drew ∧ EntS A g y W2 ∧ EntS A g y W3 ∧
      SvEnd w0 w A p ws W3 (s.row z (s.L z ++ [y])) := by
  have ba := below_alloc w (.cells #[.string (str y.n), .int .u64 (y.c.p : Int), .int .u32 (y.c.o : Int), .int .u8 (y.c.r : Int), .int .u64 (y.c.c : Int), .int .u8 (y.m : Int)] 202)
  have hfl : A.sb.2 = false := h
  have hqm : s.q < maxLen := by unfold maxLen; omega
  obtain ⟨v', W2, h1, h2, h3, h4⟩ := app_elem (w := w.drew) (ty := 200) #[.string (str y.n), .int .u64 (y.c.p : Int), .int .u32 (y.c.o : Int), .int .u8 (y.c.r : Int), .int .u64 (y.c.c : Int), .int .u8 (y.m : Int)] dirTy.und dirTy.info rfl (by omega) rfl (by intro u hu; exact cells_one y u hu) (by omega) (by unfold maxLen; omega) (x.dirR h z) x.nw
  have f2 : Foot (fun j => (A.nv z).ownBlock = some j) w W2 := (below_foot _ (below_d w 1)).then h3
  have hlt : ∀ j, RS A.dv A.nv j → j < w.heap.size := fun j e => (x.st.lt e).2
  have hmb : MapIs w b s.q A.nv := by have := x.st.map; rw [hb] at this; exact this
  have hbk := x.st.isMap hb
  obtain ⟨ma, mc, hmk⟩ := hbk
  have hnb : ¬ (A.nv z).ownBlock = some b := fun e => by
    obtain ⟨cur, h5, _⟩ := owns_block (x.st.row z) e
    rw [hmk] at h5; cases h5
  have hm2 : MapIs W2 b s.q A.nv := hmb.same (f2.block b (lt_of_heap hmk) hnb)
  obtain ⟨W3, h6, h7, h8⟩ := map_store dirMap hm2 hz hqm v'
  have f3 : Foot (fun j => (A.nv z).ownBlock = some j ∨ j = b) w W3 := (f2.mono (fun j e => .inl e)).then (h8.mono (fun j e => .inr e))
  have hbn : ∀ j, ((A.nv z).ownBlock = some j ∨ j = b) → RS A.dv A.nv j := fun j e => by
    rcases e with e | e
    · exact .inr ⟨z, e⟩
    · exact .inl (by rw [hb, e])
  have hbx : ¬ RS A.dv A.nv A.sb.1 := x.noR x.bx (.inl (bT_rT _ _).symm)
  have hrg : ¬ RS A.dv A.nv g := fun e => hns (.inr (.inr e))
  have hbl := lt_of_heap x.bx
  have hgl := lt_of_heap hr
  have ent : ∀ U, U.heap[A.sb.1]? = w.heap[A.sb.1]? → U.heap[g]? = w.heap[g]? → EntS A g y U := fun U e1 e2 => by
    have b1 : BoxIs U A s.n := e1.trans x.bx
    have r1 : RwB U g y := e2.trans hr
    exact ⟨b1.c2, r1.all⟩
  have e2 : EntS A g y W2 := ent W2 (f2.block _ hbl (fun e => hbx (.inr ⟨z, e⟩))) (f2.block _ hgl (fun e => hrg (.inr ⟨z, e⟩)))
  have e3 : EntS A g y W3 := ent W3 (f3.block _ hbl (fun e => hbx (hbn _ e))) (f3.block _ hgl (fun e => hrg (hbn _ e)))
  refine ⟨v', W2, W3, h1, by rw [hb]; exact h6, Sv.look (w := w.drew) (x.drewN 1) hz, ?_, ent _ rfl rfl, ent _ (ba.block _ hbl) (ba.block _ hgl), e2, e3, ?_⟩
  · exact (Sv.drewN (x.grow ba) 1).look hz
  · refine x.put (dv := some b) (z := z) f3 (fun j e => ?_) h7 ?_ (fun r e => ?_) (fun c e => .inl (by rw [hb]; exact e)) ?_ hg
    · rcases e with e | e
      · exact .inl e
      · exact .inr (.inl (by rw [e]))
    · rw [hfl]
      have h9 := owns_foot h2 h8 (fun r e1 (e2 : r = b) => by
        subst e2
        rcases h4 r e1 with h10 | h10
        · exact hnb h10
        · have := lt_of_heap hmk; have h11 : w.heap.size ≤ r := h10; omega)
      rw [show (#[.string (str y.n), .int .u64 (y.c.p : Int), .int .u32 (y.c.o : Int), .int .u8 (y.c.r : Int), .int .u64 (y.c.c : Int), .int .u8 (y.m : Int)] : Array Value).toList = y.cells from rfl, ← cellsR_snoc] at h9
      show World.ownsRow _ _ _ _ _ _ _
      rw [show (s.L z ++ [y]).length = (s.L z).length + 1 from by simp]
      exact h9
    · exact h4 r e
    · have := (f3.block _ hbl (fun e => hbx (hbn _ e))).trans x.bx
      unfold BoxIs at this
      rw [hb] at this
      exact this
set_option maxRecDepth 20000 in
set_option maxHeartbeats 1600000 in
theorem enter_full (z : Int) (y : Rw) (w : World) (h : Mb w A.g A.sb) (x : Sv w0 w A p ws s) (hz : I64 z) (h64 : 64 ≤ (s.L z).length) :
    Calls Tryz.prog 119 #[.pointer (some ⟨A.sb.1, 0, none⟩), .int .i64 z, y.val] w fun e w' => e = .returned (.iface 47 (.int .i64 5)) ∧ SvEnd w0 w A p ws w' s := by
  obtain ⟨X, hX⟩ : ∃ X, w.alloc (.cells #[.string (str y.n), .int .u64 (y.c.p : Int), .int .u32 (y.c.o : Int), .int .u8 (y.c.r : Int), .int .u64 (y.c.c : Int), .int .u8 (y.m : Int)] 202) = X := ⟨_, rfl⟩
  have bX : Below w.heap.size w X := hX ▸ below_alloc w _
  have x1 := x.grow bX
  have c2 := x1.bx.c2
  have hlk := x1.look hz
  obtain ⟨ao, cap, hv, hnc, hcap⟩ := (x1.dirR h z).form
  have HE := hide (x.stay.to bX)
  obtain ⟨n, hn⟩ : ∃ n, (s.L z).length = n := ⟨_, rfl⟩
  rw [hv, hn] at hlk
  have hge : (n : Int) ≥ 64 := by omega
  clear x x1 h bX hv
  unfold Rw.val
  go_enter Tryz.func119, Tryz.ntmps119
  go_wp2
  go_ret
  exact ⟨rfl, HE.out⟩
set_option maxRecDepth 20000 in
set_option maxHeartbeats 1600000 in
theorem enter_some (z : Int) (y : Rw) (w : World) (h : Mb w A.g A.sb) (x : Sv w0 w A p ws s) (hz : I64 z) (h64 : (s.L z).length < 64) (hq : s.q < 5000000000000000) (hg : Good (s.L z ++ [y])) (b : Nat) (hb : A.dv = some b) :
    Calls Tryz.prog 119 #[.pointer (some ⟨A.sb.1, 0, none⟩), .int .i64 z, y.val] w fun e w' => e = .returned .nilIface ∧ SvEnd w0 w A p ws w' (s.row z (s.L z ++ [y])) := by
  obtain ⟨X, hX⟩ : ∃ X, w.alloc (.cells #[.string (str y.n), .int .u64 (y.c.p : Int), .int .u32 (y.c.o : Int), .int .u8 (y.c.r : Int), .int .u64 (y.c.c : Int), .int .u8 (y.m : Int)] 202) = X := ⟨_, rfl⟩
  have bX : Below w.heap.size w X := hX ▸ below_alloc w _
  have x1 := x.grow bX
  have rX : RwB X w.heap.size y := hX ▸ rwb_new w y
  have hns : ¬ SvS A w.heap.size := fun e => by have := (x.up e).2; omega
  have c2 := x1.bx.c2
  have hlk := x1.look hz
  obtain ⟨ao, cap, hv, hnc, hcap⟩ := (x1.dirR h z).form
  have xx := x1
  have rr := rX
  have hns' := hns
  have hbb := hb
  have hv' := hv
  rw [hb] at c2 hlk
  have hmn := eql_map_nil (some b) X
  obtain ⟨v', W2, W3, hr1, hmu, hlkA, hlkB, hSa, hSb, hSc, hSd, hE⟩ := ent_step xx h hz hbb y rr hns' hq h64 hg
  obtain ⟨n, hn⟩ : ∃ n, (s.L z).length = n := ⟨_, rfl⟩
  rw [hv, hn] at hlk
  rw [hv'] at hr1 hlkA hlkB
  rw [hn] at hr1 hlkA hlkB
  rw [hbb] at hmu hlkA hlkB
  unfold EntS at hSa hSb hSc hSd
  rw [hbb] at hSa hSb hSc hSd
  have hge : ¬ (n : Int) ≥ 64 := by omega
  have HE := hide (hE.from bX)
  obtain ⟨yn, ⟨yp, yo, yr, yc⟩, ym⟩ := y
  simp only at hr1 hlkB hSa hSb hSc hSd hX
  obtain ⟨sn, hsn⟩ : ∃ q, str yn = q := ⟨_, rfl⟩
  rw [hsn] at hr1 hlkB hSa hSb hSc hSd hX
  have HR1 := hide hr1
  have HSa := hide hSa
  have HSb := hide hSb
  have HSc := hide hSc
  have HSd := hide hSd
  unfold Rw.val
  simp only
  rw [hsn]
  clear x x1 bX hv hr1 hSa hSb hSc hSd hE rr rX hns hns' hg h hn hbb hv' hsn xx
  go_enter Tryz.func119, Tryz.ntmps119
  go_wp2_with fail
  go_region_held_law (fun U => (U.cell? ⟨A.sb.1, 2, none⟩ = some (.map (some b))) ∧ U.cell? ⟨w.heap.size, 0, none⟩ = some (.string sn) ∧ U.cell? ⟨w.heap.size, 1, none⟩ = some (.int .u64 (yp : Int)) ∧ U.cell? ⟨w.heap.size, 2, none⟩ = some (.int .u32 (yo : Int)) ∧ U.cell? ⟨w.heap.size, 3, none⟩ = some (.int .u8 (yr : Int)) ∧ U.cell? ⟨w.heap.size, 4, none⟩ = some (.int .u64 (yc : Int)) ∧ U.cell? ⟨w.heap.size, 5, none⟩ = some (.int .u8 (ym : Int)))
    (first | with_reducible exact HSa.out | with_reducible exact HSb.out | with_reducible exact HSc.out | with_reducible exact HSd.out)
    (refine step_append_run (by rfl) _ _ _ (by rfl) _ _ _ _ (by rfl) (by rfl) HR1.out ?_)
  all_goals
    go_wp2
    go_ret
    exact ⟨rfl, HE.out⟩
set_option maxRecDepth 20000 in
set_option maxHeartbeats 1600000 in
theorem enter_none (z : Int) (y : Rw) (w : World) (h : Mb w A.g A.sb) (x : Sv w0 w A p ws s) (hz : I64 z) (h64 : (s.L z).length < 64) (hq : s.q < 5000000000000000) (hg : Good (s.L z ++ [y])) (hb : A.dv = none) :
    Calls Tryz.prog 119 #[.pointer (some ⟨A.sb.1, 0, none⟩), .int .i64 z, y.val] w fun e w' => e = .returned .nilIface ∧ SvEnd w0 w A p ws w' (s.row z (s.L z ++ [y])) := by
  obtain ⟨X, hX⟩ : ∃ X, w.alloc (.cells #[.string (str y.n), .int .u64 (y.c.p : Int), .int .u32 (y.c.o : Int), .int .u8 (y.c.r : Int), .int .u64 (y.c.c : Int), .int .u8 (y.m : Int)] 202) = X := ⟨_, rfl⟩
  have bX : Below w.heap.size w X := hX ▸ below_alloc w _
  have x1 := x.grow bX
  have rX : RwB X w.heap.size y := hX ▸ rwb_new w y
  have hns : ¬ SvS A w.heap.size := fun e => by have := (x.up e).2; omega
  have c2 := x1.bx.c2
  have hlk := x1.look hz
  obtain ⟨ao, cap, hv, hnc, hcap⟩ := (x1.dirR h z).form
  have lX := lt_of_heap x1.bx
  obtain ⟨xx, on⟩ := x1.mkmap hb
  have cl : (X.alloc (.map #[] 0)).cell? ⟨A.sb.1, 2, none⟩ = some (.map none) := by rw [(below_alloc X _).cell lX, c2, hb]
  have fz : (X.alloc (.map #[] 0)).frozen? ⟨A.sb.1, 2, none⟩ = false := (show BoxIs (X.alloc (.map #[] 0)) A s.n from ((below_alloc X (.map #[] 0)).block _ lX).trans x1.bx).z 2
  obtain ⟨wm, hwm⟩ : ∃ wm, (X.alloc (.map #[] 0)).setCell ⟨A.sb.1, 2, none⟩ (.map (some X.heap.size)) = wm := ⟨_, rfl⟩
  have fm : Foot (fun j => j = A.sb.1) X wm := hwm ▸ (below_foot _ (below_alloc X (.map #[] 0))).trans (foot_set _ _ _) (fun j e => .inl e)
  rw [hwm] at xx on
  have rr : RwB wm w.heap.size y := rX.foot fm (fun (e : w.heap.size = A.sb.1) => hns (.inr (.inl e)))
  have hns' : ¬ SvS (A.upd A.v (some X.heap.size) A.nv) w.heap.size := fun e => by
    rcases e with e | e | e | e
    · exact hns (.inl e)
    · exact hns (.inr (.inl e))
    · have e' : some X.heap.size = some w.heap.size := e
      have := lt_of_heap rX
      have := Option.some.inj e'; omega
    · exact hns (.inr (.inr (.inr e)))
  have hbb : (A.upd A.v (some X.heap.size) A.nv).dv = some X.heap.size := rfl
  have hv' := hv
  have hmn := eql_map_nil none X
  have hmk := run_makeMap (P := Tryz.prog) 61 X
  have cm := xx.bx.c2
  simp only [Ad.upd] at cm
  rw [hb] at c2 hlk
  obtain ⟨v', W2, W3, hr1, hmu, hlkA, hlkB, hSa, hSb, hSc, hSd, hE⟩ := ent_step (A := A.upd A.v (some X.heap.size) A.nv) xx h hz hbb y rr hns' hq h64 hg
  simp only [Ad.upd] at hr1 hmu hlkA hlkB hSa hSb hSc hSd
  obtain ⟨n, hn⟩ : ∃ n, (s.L z).length = n := ⟨_, rfl⟩
  rw [hv, hn] at hlk
  rw [hv'] at hr1 hlkA hlkB
  rw [hn] at hr1 hlkA hlkB
  unfold EntS at hSa hSb hSc hSd
  simp only at hSa hSb hSc hSd
  have hge : ¬ (n : Int) ≥ 64 := by omega
  have HE := hide ((on _ _ hE).from bX)
  obtain ⟨yn, ⟨yp, yo, yr, yc⟩, ym⟩ := y
  simp only at hr1 hlkB hSa hSb hSc hSd hX
  obtain ⟨sn, hsn⟩ : ∃ q, str yn = q := ⟨_, rfl⟩
  rw [hsn] at hr1 hlkB hSa hSb hSc hSd hX
  have HR1 := hide hr1
  have HSa := hide hSa
  have HSb := hide hSb
  have HSc := hide hSc
  have HSd := hide hSd
  unfold Rw.val
  simp only
  rw [hsn]
  clear x x1 bX hv hr1 hSa hSb hSc hSd hE rr rX hns hns' hg h hn hbb hv' hsn xx on fm lX
  go_enter Tryz.func119, Tryz.ntmps119
  go_wp2_with fail
  go_region_held_law (fun U => (U.cell? ⟨A.sb.1, 2, none⟩ = some (.map (some X.heap.size))) ∧ U.cell? ⟨w.heap.size, 0, none⟩ = some (.string sn) ∧ U.cell? ⟨w.heap.size, 1, none⟩ = some (.int .u64 (yp : Int)) ∧ U.cell? ⟨w.heap.size, 2, none⟩ = some (.int .u32 (yo : Int)) ∧ U.cell? ⟨w.heap.size, 3, none⟩ = some (.int .u8 (yr : Int)) ∧ U.cell? ⟨w.heap.size, 4, none⟩ = some (.int .u64 (yc : Int)) ∧ U.cell? ⟨w.heap.size, 5, none⟩ = some (.int .u8 (ym : Int)))
    (first | with_reducible exact HSa.out | with_reducible exact HSb.out | with_reducible exact HSc.out | with_reducible exact HSd.out)
    (refine step_append_run (by rfl) _ _ _ (by rfl) _ _ _ _ (by rfl) (by rfl) HR1.out ?_)
  all_goals
    go_wp2
    go_ret
    exact ⟨rfl, HE.out⟩
theorem enter_yes (z : Int) (y : Rw) (w : World) (h : Mb w A.g A.sb) (x : Sv w0 w A p ws s) (hz : I64 z) (h64 : (s.L z).length < 64) (hq : s.q < 5000000000000000) (hg : Good (s.L z ++ [y])) :
    Calls Tryz.prog 119 #[.pointer (some ⟨A.sb.1, 0, none⟩), .int .i64 z, y.val] w fun e w' => e = .returned .nilIface ∧ SvEnd w0 w A p ws w' (s.row z (s.L z ++ [y])) := by
  cases hd : A.dv with
  | none => exact enter_none z y w h x hz h64 hq hg hd
  | some b => exact enter_some z y w h x hz h64 hq hg b hd
end
end Go.Proofs.YtlmnnjibggdboaaGreatDoor
