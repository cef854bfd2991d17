/-
  What Read and Write answer of a store of segments, as contracts; what became of the world.
-/
import Derived.Test.YtppdammgmnihgaaDoorSGrow
namespace Go.Proofs.YtppdammgmnihgaaDoor
open Go.RowKit
variable {w w' : World} {B st m a b n : Nat} {gl : List Bool} {bs : List UInt8} {c : Cel} {sg : Nat → Option Cel} {L : Nat → Option (List UInt8)}
set_option maxHeartbeats 800000 in
theorem sread_none (id p l : Int) (w : World) (x : StAt w B st m a b n gl bs sg) (hn : pickF sg id = none) :
    Calls Tryd.prog 12 #[.pointer (some ⟨st, 0, none⟩), .int .i64 id, .int .i64 p, .int .i64 l] w fun e w' => e = .returned (.tuple #[.slice none 0 0, errV 12]) ∧ w' = w := by
  have H := hide x
  have HN := hide hn
  clear x hn
  unfold errV
  go_enter Tryd.func12, Tryd.ntmps12
  go_wp2_with fail
  refine (piece_none id p l _ H.out HN.out).mono ?_; rintro e w1 ⟨rfl, rfl⟩
  unfold errV
  go_wp2
  go_ret2
  exact ⟨rfl, rfl⟩
set_option maxHeartbeats 800000 in
theorem sread_no (i : Nat) (p l : Int) (w : World) (x : StAt w B st m a b n gl bs sg) (hi : sg i = some c) (hp : -9223372036854775808 ≤ p ∧ p ≤ 9223372036854775807) (hn : inS c.size p l = false) :
    Calls Tryd.prog 12 #[.pointer (some ⟨st, 0, none⟩), .int .i64 (i : Int), .int .i64 p, .int .i64 l] w fun e w' => e = .returned (.tuple #[.slice none 0 0, errV 13]) ∧ w' = w := by
  have H := hide x
  have HI := hide hi
  have HN := hide hn
  clear x hn hi
  unfold errV
  go_enter Tryd.func12, Tryd.ntmps12
  go_wp2_with fail
  refine (piece_no i c p l _ H.out HI.out hp HN.out).mono ?_; rintro e w1 ⟨rfl, rfl⟩
  unfold errV
  go_wp2
  go_ret2
  exact ⟨rfl, rfl⟩
set_option maxRecDepth 100000 in
/- an empty row of bytes with room for n -/
theorem make_room (n : Nat) (hn : n ≤ 262144) (w : World) :
    (Instr.makeSlice 28 (.int .i64 0) (.int .i64 (n : Int))).run Tryd.prog w = .ok (.slice (some ⟨w.heap.size, 0, none⟩) 0 n) (w.alloc (.cells (cellsB (zeros n)).toArray 5)) := by
  obtain ⟨i0, hi, hz0, hz1, hz2⟩ := info_parts Tryd.info5
  rw [run_make (P := Tryd.prog) w 28 5 i0 (.int .u8 0) Tryd.underlying28 hi hz0 .i64 .i64 0 n (by omega) (by omega) (by rw [hz2]; omega) (by omega)]
  simp only [Int.toNat_natCast, hz1, Nat.mul_one]
  congr 2
  apply congrArg (fun x => Obj.cells x 5 (0, 0))
  apply Array.ext'
  rw [show (Value.int IntKind.u8 0).cells = #[.int .u8 0] from rfl, toList_madeCells_one, cellsB_zeros]
theorem pieceF_add (l : List UInt8) (p q k : Nat) : pieceF l p q ++ pieceF l (p + q) k = pieceF l p (q + k) := by
  unfold pieceF; rw [List.take_add, List.drop_drop]
def ReadRel (w : World) (C : List UInt8) (p l gk : Nat) (va vn vo : Value) (wr : World) : Prop :=
  ∃ (q : Nat) (co : Option Addr) (cc : Nat), q + gk = l ∧ va = .int .i64 ((p + q : Nat) : Int) ∧ vn = .int .i64 (gk : Int) ∧ vo = .slice co q cc ∧ Hid (wr.ownsRow w.heap.size 5 1 (.slice co q cc) q (cellsB (pieceF C p q))) ∧ Hid (Below w.heap.size w wr)
theorem Bts.addr {w : World} {co : Option Addr} {n cc : Nat} {l : List UInt8} (h : Bts w co n cc l) (hn : 0 < n) : ∃ ad, co = some ad := by
  cases co with
  | none => have := h.none rfl; omega
  | some ad => exact ⟨ad, rfl⟩
/- what a round of Read or Write loads -/
def Loads (st m g rb X P len cap : Nat) (w : World) : Prop :=
  w.cell? ⟨st, 0, none⟩ = some (.pointer (some ⟨m, 0, none⟩)) ∧ w.cell? ⟨g, 1, none⟩ = some (.slice (some ⟨rb, 0, none⟩) len cap) ∧ w.cell? ⟨rb, X, none⟩ = some (.int .i64 (P : Int))
theorem Loads.grow {st m g rb X P len cap : Nat} {w w' : World} (h : Loads st m g rb X P len cap w) (b : Below w.heap.size w w') : Loads st m g rb X P len cap w' :=
  ⟨(b.cell (lt_of_cell h.1)).trans h.1, (b.cell (lt_of_cell h.2.1)).trans h.2.1, (b.cell (lt_of_cell h.2.2)).trans h.2.2⟩
set_option maxRecDepth 20000 in
set_option maxHeartbeats 1600000 in
theorem sread_yes (i p l : Nat) (w : World) (x : StAt w B st m a b n gl bs sg) (hi : sg i = some c) (hn : p + l ≤ c.size) :
    Calls Tryd.prog 12 #[.pointer (some ⟨st, 0, none⟩), .int .i64 (i : Int), .int .i64 (p : Int), .int .i64 (l : Int)] w fun e w' =>
      ∃ co cc, e = .returned (.tuple #[.slice co l cc, .nilIface]) ∧ w'.ownsRow w.heap.size 5 1 (.slice co l cc) l (cellsB (pieceF (cont bs c.pgs c.size) p l)) ∧ Below w.heap.size w w' := by
  have H := hide x
  have HI := hide hi
  have HC := hide (x.cel i c hi)
  have HN := hide hn
  have s0 := x.c0
  have c1 := HC.out.c1
  have hcap : c.cap ≤ 9223372036854775807 := HC.out.few.2
  have hpc : c.pgs.length ≤ c.cap := HC.out.few.1
  have hsz := x.good.most i c hi
  have hl4 : c.pgs.length ≤ 4096 := by rw [x.good.num i c hi]; unfold need; omega
  have HNUM := hide (x.good.num i c hi)
  obtain ⟨len, hlen⟩ : ∃ len, c.pgs.length = len := ⟨_, rfl⟩
  have HLEN := hide hlen
  rw [hlen] at c1 hpc hl4
  obtain ⟨ao, hao⟩ : ∃ ao, c.at = ao := ⟨_, rfl⟩
  rw [hao] at c1
  have HAO := hide hao
  obtain ⟨C, hC⟩ : ∃ C, cont bs c.pgs c.size = C := ⟨_, rfl⟩
  rw [hC]
  have HCC := hide hC
  have hl2 : l ≤ 262144 := by omega
  have hp2 : p + l ≤ 262144 := by omega
  have hmk := make_room l hl2
  obtain ⟨Z, hZ⟩ : ∃ Z, (cellsB (zeros l)).toArray = Z := ⟨_, rfl⟩
  rw [hZ] at hmk
  have hZs : Z.size = l * 1 := by rw [← hZ]; simp [cellsB_len, zeros_len]
  have HZS := hide hZs
  clear x hi hlen hao hC hn hsz hZ hZs
  obtain ⟨i0, hi0, hz0, hz1, hz2⟩ := info_parts Tryd.info5
  go_enter Tryd.func12, Tryd.ntmps12
  go_wp2_with fail
  refine (piece_yes i c p l _ H.out HI.out HN.out).mono ?_; rintro e w1 ⟨rfl, rfl⟩
  go_wp2_with fail
  go_loopg [2, 3, 12] l (fun gk va vn vo wr => ReadRel w1 C p l gk va vn vo wr)
  case atStart => exact ⟨0, some ⟨w1.heap.size, 0, none⟩, l, by omega, rfl, rfl, rfl, World.ownsRow_made w1 Z l (Nat.le_refl _) (by unfold maxLen; omega) HZS.out, below_alloc _ _⟩
  case round =>
    obtain ⟨q, co, cc, hq, rfl, rfl, rfl, HO, HB⟩ := hrel
    cases gk with
    | zero =>
      obtain rfl : q = l := by omega
      have hlt : ¬ ((0 : Int) < 0) := by omega
      go_wp2
      go_ret2
      exact ⟨co, cc, rfl, HO.out, HB.out⟩
    | succ g1 =>
      have hlt : (0 : Int) < ((g1 + 1 : Nat) : Int) := by omega
      obtain ⟨s, hs⟩ : ∃ s, p + q = s := ⟨_, rfl⟩
      rw [hs]
      obtain ⟨r, hr⟩ : ∃ r, g1 + 1 = r := ⟨_, rfl⟩
      rw [hr] at hlt hq ⊢
      obtain ⟨t, ht⟩ : ∃ t, inPage s r = t := ⟨_, rfl⟩
      have HT := hide ht
      obtain ⟨X, hX⟩ : ∃ X, s / 64 = X := ⟨_, rfl⟩
      obtain ⟨o, ho⟩ : ∃ o, s % 64 = o := ⟨_, rfl⟩
      have ht1 : 1 ≤ t ∧ t ≤ r ∧ o + t ≤ 64 := by rw [← ht, ← ho]; unfold inPage; omega
      have hX1 : (s : Int) / 64 = (X : Int) := by rw [← hX]; omega
      have hX2 : (s : Int).tdiv 64 = (X : Int) := by rw [← hX]; rfl
      have ho1 : (s : Int) % 64 = (o : Int) := by rw [← ho]; omega
      have ho2 : (s : Int).tmod 64 = (o : Int) := by rw [← ho]; rfl
      have hXs : X * 64 + o = s := by omega
      have hXl : X < c.pgs.length := by rw [HNUM.out]; unfold need; have := HN.out; omega
      have hXl2 : X < len := by rw [← HLEN.out]; exact hXl
      have hin := HN.out
      clear ht hX ho
      have r0 : wr.cell? ⟨st, 0, none⟩ = some (.pointer (some ⟨m, 0, none⟩)) := (HB.out.cell (p := ⟨st, 0, none⟩) (lt_of_heap H.out.box)).trans s0
      have r1 : wr.cell? ⟨c.g, 1, none⟩ = some (.slice ao len c.cap) := (HB.out.cell (p := ⟨c.g, 1, none⟩) (lt_of_heap HC.out.box)).trans c1
      have HS := hide (H.out.grow HB.out)
      obtain ⟨rb, hrb, hcell, _, _⟩ := (HS.out.cel i c HI.out).page X hXl
      obtain ⟨P, hP⟩ : ∃ P, c.pgs.getD X 0 = P := ⟨_, rfl⟩
      rw [hP] at hcell
      have hat : ao = some ⟨rb, 0, none⟩ := by rw [← HAO.out, Cel.at, hrb]; rfl
      have hgv := H.out.good.giv i c HI.out X hXl
      rw [hP] at hgv
      have HGV := hide hgv
      have HPC := hide (cont_piece bs c n X o t H.out.mem.len (by rw [hP]; exact hgv.1) ht1.2.2 (by omega))
      rw [hP, HCC.out, hXs] at HPC
      have hn4 : n ≤ 4096 := H.out.mem.few
      have hPn : P < n := hgv.1
      clear hP hrb hgv hXl
      subst hat
      go_wp2_with fail
      refine (within_any s r _).mono ?_; rintro e w2 ⟨rfl, rfl⟩
      rw [HT.out]
      have bb : Below w1.heap.size w1 w2.drew := below_drewN HB.out 1
      have hS : Hid (MemAt w2.drew m a b n gl bs) := HS.out.mem.drewN 1
      have hO : Hid (w2.drew.ownsRow w1.heap.size 5 1 (.slice co q cc) q (cellsB (pieceF C p q))) := HO.out
      have hXi : (X : Int) < (len : Int) := by omega
      have hX0 : (0 : Int) ≤ (X : Int) := by omega
      have hw1 : IntKind.i64.wrap (X : Int) = (X : Int) := by rw [IntKind.wrap_i64]; omega
      have hw2 : IntKind.i64.wrap (o : Int) = (o : Int) := by rw [IntKind.wrap_i64]; omega
      have hL : Hid (Loads st m c.g rb X P len c.cap w2.drew) := ⟨r0, r1, hcell⟩
      go_wp2_with fail
      go_region_held (fun W => W.cell? ⟨st, 0, none⟩ = some (.pointer (some ⟨m, 0, none⟩)) ∧ W.cell? ⟨c.g, 1, none⟩ = some (.slice (some ⟨rb, 0, none⟩) len c.cap) ∧ W.cell? ⟨rb, X, none⟩ = some (.int .i64 (P : Int))) (exact hL.out) (first | (go_at_call 25; refine (read_yes m a b n P o t gl bs _ hS.out hPn HGV.out.2 ht1.2.2).mono ?_; rintro e wx ⟨cx, ccx, rfl, hbx, hnx, belx⟩; have bb2 := bb.trans (belx.mono bb.size); have hO2 := hide (ownsRow_keep (keep_below (fun _ _ => True) belx) hO.out (fun _ _ _ _ => trivial)); have hB2 := hide hbx; have hL := hide (hL.out.grow belx); clear hbx hnx belx))
      obtain ⟨ad, rfl⟩ := hB2.out.addr ht1.1
      have hbl : Hid ((cellsB (pieceF bs (P * 64 + o) t)).length = t * 1) := by show _ = _; rw [cellsB_len, ← hB2.out.1]; omega
      have hsx : w1.heap.size ≤ wx.heap.size := bb2.size
      have hcx : ccx ≤ 9223372036854775807 := hB2.out.2.2.1
      clear bb hS hO hL r0 r1 hcell hXi hX0
      go_wp2_with (at_builtin; refine wpList_append_own _ rfl _ _ 28 rfl w1.heap.size 5 i0 (.int .u8 0) 1 1 Tryd.underlying28 hi0 hz0 hz1 hz2 rfl (by decide) _ q (cellsB (pieceF C p q)) rfl hO2.out ad t ccx (cellsB (pieceF bs (P * 64 + o) t)) rfl hbl.out ?c1 (cellsB_one _) (by unfold maxLen; omega) (by omega) hsx ?_)
      case c1 => exact hB2.out.news ad rfl
      intro v' w4 hown hgrow _
      rw [HPC.out, ← hs, ← cellsB_append, pieceF_add] at hown
      obtain ⟨co', cc', rfl, _⟩ := owns_bts hown
      have HO4 := hide hown
      have HB4 : Hid (Below w1.heap.size w1 w4) := bb2.grown hgrow hsx (fun k e => (hO2.out.lt k e).1)
      have hst : (s : Int) + (t : Int) = ((p + (q + t) : Nat) : Int) := by omega
      have hrt : (r : Int) - (t : Int) = ((r - t : Nat) : Int) := by omega
      clear hown hgrow hB2 hO2 bb2
      go_wp2
      go_roundg (r - t)
      case measure => omega
      case rel => exact ⟨q + t, co', cc', by omega, rfl, rfl, rfl, HO4, HB4⟩
end Go.Proofs.YtppdammgmnihgaaDoor
