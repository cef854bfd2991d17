/-
  What came in gives to the walks: a slice's bytes, where they lie.
  What comes of the requests of MemoryBack.
  The closures of MemoryBack, as contracts.
-/
import Derived.Test.YtpbkjmkdciiccaaGreatDoorJl
import Derived.OpenShut
import Derived.Test.YtpbkjmkdciiccaaGreatDoorJk
namespace Go.Proofs.YtpbkjmkdciiccaaGreatDoor
section
open Go.RowKit
theorem RowOf.bytes {w : World} {a : Option Addr} {len cap : Nat} {zs : List Int} (h : RowOf .u8 w a len cap zs) : ∃ l, Bts w a len cap l := by
  rcases h with ⟨rfl, rfl, rfl, rfl⟩ | ⟨x, rfl, h1, h2, h3, h4, h5⟩
  · exact ⟨[], bts_nil w⟩
  · have hlen : ((zs.take len).map fun z => UInt8.ofNat z.toNat).length = len := by simp; omega
    refine ⟨(zs.take len).map fun z => UInt8.ofNat z.toNat, hlen.symm, h1, h2, (fun e => by cases e), fun ad e j hj => ?_⟩
    obtain rfl := Option.some.inj e
    rw [hlen] at hj
    have hjz : j < zs.length := by omega
    rw [h4 j hjz, bt_get _ _ (by rw [hlen]; exact hj)]
    have e1 : zs.getD j 0 = zs[j] := by rw [List.getD_eq_getElem?_getD, List.getElem?_eq_getElem hjz]; rfl
    have e2 := bounds_u8 (h5 zs[j] (List.getElem_mem hjz))
    rw [e1]
    simp only [List.getElem_map, List.getElem_take, ofNat_toNat]
    congr 2
    omega
theorem bytesOf5 : Tryz.prog.bytesOf 5 = 1 := by kernel_rfl
theorem Bts.low {w : World} {ao : Option Addr} {n cap : Nat} {l : List UInt8} (h : Bts w ao n cap l) : 0 < n → ∀ ad, ao = some ad → ad.block < w.heap.size := fun hp ad e => by
  have := lt_of_cell (h.2.2.2.2 ad e 0 (by rw [← h.1]; exact hp))
  rw [add_block] at this; exact this
end
end Go.Proofs.YtpbkjmkdciiccaaGreatDoor
namespace Go.Proofs.YtpbkjmkdciiccaaGreatDoor
section
open Go.RowKit
def bkW : List Nat := [1, 2, 3, 4]
theorem cut_bkW : cutN bkW = bkW := by decide
theorem row_bk (w : World) : RowN (w.alloc (.cells #[.int .u64 1, .int .u64 2, .int .u64 3, .int .u64 4] 28)) .u64 28 w.heap.size bkW := heap_alloc_new _ _
theorem u64s_bk (w : World) : U64s (w.alloc (.cells #[.int .u64 1, .int .u64 2, .int .u64 3, .int .u64 4] 28)) (some ⟨w.heap.size, 0, none⟩) 4 4 bkW :=
  (row_bk w).u64s (by decide) (fun j => by
    rcases j with _ | _ | _ | _ | j <;> simp [bkW])
def bk0 : Cre := creF bkW 0 [] 1 noneO (-1)
def bkA : Cp := ⟨1, 1, 255, 2⟩
def bkB : Cp := ⟨1, 2, 255, 3⟩
def bkC : Cp := ⟨1, 1, 255, 4⟩
def bkR : Cp := ⟨1, 0, 255, 1⟩
def bkT0 : Nat → Ob := bk0.T
def bkT1 : Nat → Ob := updO bkT0 1 ⟨2, 0, 0, 24⟩
def bkT2 : Nat → Ob := updO bkT1 2 ⟨3, 0, 1, 24⟩
def bkT3 : Nat → Ob := updO bkT2 1 Ob.zero
def bkT4 : Nat → Ob := updO bkT3 1 ⟨4, 0, 0, 24⟩
theorem bk0_e : bk0.e = 0 := by kernel_rfl
theorem bk0_c : bk0.c = bkR := by kernel_rfl
theorem bk0_t : bk0.t = 1 := by kernel_rfl
theorem bk0_es : bk0.es = [] := by kernel_rfl
def bkS (t : Nat) (T : Nat → Ob) (L : Nat → Option (List UInt8)) : Hs := ⟨t, [], T, 30, L⟩
theorem bk0_s (L : Nat → Option (List UInt8)) : (⟨bk0.t, bk0.es, bk0.T, 30, L⟩ : Hs) = bkS 1 bkT0 L := by
  rw [bk0_t, bk0_es]; rfl
/- the segments -/
def bL1 (n : Nat) : Nat → Option (List UInt8) := upd L0 0 (some (zeros n))
def bL2 (n : Nat) : Nat → Option (List UInt8) := upd (bL1 n) 1 (some (zeros n))
def bL3 (n f : Nat) (d : List UInt8) : Nat → Option (List UInt8) := upd (bL2 n) 0 (some (splice (zeros n) f d))
def bL4 (n f : Nat) (d : List UInt8) : Nat → Option (List UInt8) := upd (bL3 n f d) 0 none
def bL5 (n f : Nat) (d : List UInt8) : Nat → Option (List UInt8) := upd (bL4 n f d) 0 (some (zeros n))
theorem sum1 (f : Nat → Option (List UInt8)) (i : Nat) (o : Option (List UInt8)) (h : i < 64) : sumF (fun j => lens (upd f i o j)) 64 + lens (f i) = sumF (fun j => lens (f j)) 64 + lens o := by
  have h1 := sumF_upd (fun j => lens (f j)) (fun j => lens (upd f i o j)) 64 i h (fun j hj => by simp only [upd_other _ _ _ _ hj])
  simp only [upd_same] at h1; exact h1
theorem lens_zeros (a : Nat) : lens (some (zeros a)) = need a := by show need (zeros a).length = need a; rw [zeros_len]
theorem L0_sum : sumF (fun j => lens (L0 j)) 64 = 0 := sumF_zero 64 _ fun _ _ => rfl
theorem L0_low : lowS L0 = 0 := lowS_is _ 0 (by omega) (fun i hi => by omega) (fun _ => rfl)
theorem bL1_low (n : Nat) : lowS (bL1 n) = 1 := by
  refine lowS_is _ 1 (by omega) (fun i hi => ?_) (fun _ => ?_)
  · obtain rfl : i = 0 := by omega
    rfl
  · rfl
theorem bL4_low (n f : Nat) (d : List UInt8) : lowS (bL4 n f d) = 0 := lowS_is _ 0 (by omega) (fun i hi => by omega) (fun _ => rfl)
theorem bL1_sum (n : Nat) : sumF (fun j => lens (bL1 n j)) 64 = need n := by
  have := sum1 L0 0 (some (zeros n)) (by omega)
  rw [L0_sum, lens_zeros, show lens (L0 0) = 0 from rfl] at this; unfold bL1; omega
theorem bL2_sum (n : Nat) : sumF (fun j => lens (bL2 n j)) 64 = 2 * need n := by
  have := sum1 (bL1 n) 1 (some (zeros n)) (by omega)
  rw [bL1_sum, lens_zeros, show lens (bL1 n 1) = 0 from rfl] at this; unfold bL2; omega
theorem bL4_sum (n f : Nat) (d : List UInt8) : sumF (fun j => lens (bL4 n f d j)) 64 = need n := by
  have h1 := sum1 (bL2 n) 0 (some (splice (zeros n) f d)) (by omega)
  rw [bL2_sum, show lens (bL2 n 0) = need n from lens_zeros n] at h1
  have h2 := sum1 (bL3 n f d) 0 none (by omega)
  rw [show lens (bL3 n f d 0) = lens (some (splice (zeros n) f d)) from rfl, show lens (none : Option (List UInt8)) = 0 from rfl] at h2
  have h3 : sumF (fun j => lens (bL3 n f d j)) 64 = sumF (fun j => lens (upd (bL2 n) 0 (some (splice (zeros n) f d)) j)) 64 := rfl
  unfold bL4; omega
theorem bk_e (L : Nat → Option (List UInt8)) (n : Nat) (h : n ≤ 256) (h1 : lowS L < 64) (h2 : sumF (fun j => lens (L j)) 64 ≤ 4) : createE 30 L (n : Int) = 0 := by
  unfold createE; rw [if_neg (by omega), if_neg (by omega), if_neg (by unfold leftL; rw [Int.toNat_natCast]; unfold need; omega)]
theorem need_le {n : Nat} (h : n ≤ 256) : need n ≤ 4 := by unfold need; omega
/- a segment is made -/
theorem bk_make {t k i : Nat} {T : Nat → Ob} {L : Nat → Option (List UInt8)} {n : Nat} {x : Nat} (hK : chkF bkW t [] 1 T bkR 4 = ⟨0, 0, t, []⟩) (hv : (T 0).v = -1) (hl : lowS L = i) (hi : i < 64) (hs : sumF (fun j => lens (L j)) 64 ≤ 4) (hk : freeO T = k) (hk2 : k < 64) (ht : t < 4) (hx : bkW.getD t 0 = x) (hn : n ≤ 256) :
    outF bkW 1 (bkS t T L) 100 bkR n [] = ⟨0, ⟨1, k, 255, x⟩, 0, [], bkS (t + 1) (updO T k ⟨x, 0, (i : Int), 24⟩) (upd L i (some (zeros n)))⟩ := by
  have hE : createE 30 L (n : Int) = 0 := bk_e L n hn (by omega) hs
  have hcr : creF bkW t [] 1 T (lowS L : Int) = ⟨⟨1, k, 255, x⟩, 0, t + 1, [], updO T k ⟨x, 0, (i : Int), 24⟩⟩ := by
    unfold creF; rw [hk, if_pos hk2, if_pos (show t < bkW.length from ht), hx, hl]
  have hcl : createL 30 L (n : Int) = upd L i (some (zeros n)) := by
    unfold createL; rw [if_pos hE, hl]; rfl
  unfold outF
  rw [show mayC bkR = true from by decide, if_neg (by decide), if_neg (by decide), if_neg (by decide)]
  show ownF bkW 1 (bkS t T L) 100 n [] (chkF bkW t [] 1 T bkR 4) = _
  rw [hK]
  show doF bkW 1 (bkS t T L) 100 (T 0).v n [] = _
  rw [hv]
  show mkF bkW 1 (bkS t T L) n = _
  unfold mkF
  rw [if_neg (by omega)]
  show (if createE 30 L (n : Int) = 0 then (if (creF bkW t [] 1 T (lowS L : Int)).e = 0 then (Ro.mk 0 (creF bkW t [] 1 T (lowS L : Int)).c 0 [] ⟨(creF bkW t [] 1 T (lowS L : Int)).t, (creF bkW t [] 1 T (lowS L : Int)).es, (creF bkW t [] 1 T (lowS L : Int)).T, 30, createL 30 L (n : Int)⟩) else badF _ _) else badF _ _) = _
  rw [if_pos hE, hcr, hcl, if_pos rfl]
  rfl
theorem pick_nat (L : Nat → Option (List UInt8)) {l : List UInt8} (i : Nat) (hi : i < 64) (h : L i = some l) : pickF L (i : Int) = some l := by
  rw [pickF_nat L i hi, h]
theorem inS_in (size p l : Nat) (h : p + l ≤ size) : inS size (p : Int) (l : Int) = true := decide_eq_true (by omega)
/- a segment is read -/
theorem bk_read {t k i : Nat} {T : Nat → Ob} {L : Nat → Option (List UInt8)} {c : Cp} {l : List UInt8} (hm : mayC c = true) (hK : chkF bkW t [] 1 T c 1 = ⟨k, 0, t, []⟩) (hv : (T k).v = (i : Int)) (hi : i < 64) (hL : L i = some l) (f n : Nat) (h : f + n ≤ l.length) (hl : l.length ≤ 256) (ar : Nat) (ha : ar = f * 4294967296 + n) :
    outF bkW 1 (bkS t T L) 101 c ar [] = ⟨0, Cp.zero, 0, pieceF l f n, bkS t T L⟩ := by
  have hp := pick_nat L i hi hL
  have hS : inS l.length (f : Int) (n : Int) = true := inS_in _ _ _ h
  have e1 : reaE L (i : Int) (f : Int) (n : Int) = 0 := by unfold reaE; rw [hp]; simp only [hS, if_true]
  have e2 : reaD L (i : Int) (f : Int) (n : Int) = pieceF l f n := by unfold reaD; rw [hp]; simp only [hS, if_true]; rfl
  unfold outF
  rw [hm, if_neg (by decide), if_neg (by decide), if_neg (by decide)]
  show ownF bkW 1 (bkS t T L) 101 ar [] (chkF bkW t [] 1 T c 1) = _
  rw [hK]
  show doF bkW 1 (bkS t T L) 101 (T k).v ar [] = _
  rw [hv]
  have h1 : ¬ ((i : Int) = -1) := by omega
  unfold doF
  rw [if_neg (by simp [h1]), if_neg (by omega), if_pos rfl]
  unfold reaF
  rw [show ar / 4294967296 = f by omega, show ar % 4294967296 = n by omega, if_neg (by omega), if_neg (by omega)]
  show Ro.mk (reaE L (i : Int) (f : Int) (n : Int)).toNat _ _ (reaD L (i : Int) (f : Int) (n : Int)) _ = _
  rw [e1, e2]; rfl
/- it is written -/
theorem bk_write {n : Nat} (f : Nat) (d : List UInt8) (h : f + d.length ≤ n) (hn : n ≤ 256) : outF bkW 1 (bkS 3 bkT2 (bL2 n)) 102 bkA f d = badF (bkS 3 bkT2 (bL3 n f d)) 0 := by
  have hp : pickF (bL2 n) (0 : Int) = some (zeros n) := pick_nat (bL2 n) 0 (by omega) rfl
  have hS : inS (zeros n).length (f : Int) (d.length : Int) = true := inS_in _ _ _ (by rw [zeros_len]; omega)
  have e1 : wriE (bL2 n) 0 (f : Int) d = 0 := by unfold wriE; rw [hp]; simp only [hS, if_true]
  have e2 : wriL (bL2 n) 0 (f : Int) d = bL3 n f d := by unfold wriL; rw [hp]; simp only [hS, if_true]; rfl
  have hK : chkF bkW 3 [] 1 bkT2 bkA 2 = ⟨1, 0, 3, []⟩ := by kernel_rfl
  unfold outF
  rw [show mayC bkA = true from by decide, if_neg (by decide), if_neg (by decide), if_neg (by decide)]
  show ownF bkW 1 (bkS 3 bkT2 (bL2 n)) 102 f d (chkF bkW 3 [] 1 bkT2 bkA 2) = _
  rw [hK]
  show doF bkW 1 (bkS 3 bkT2 (bL2 n)) 102 (bkT2 1).v f d = _
  rw [show (bkT2 1).v = 0 from by kernel_rfl]
  show wriF (bkS 3 bkT2 (bL2 n)) 0 f d = _
  unfold wriF
  rw [if_neg (by omega)]
  show badF ((bkS 3 bkT2 (bL2 n)).sto (wriL (bL2 n) 0 (f : Int) d)) (wriE (bL2 n) 0 (f : Int) d).toNat = _
  rw [e1, e2]; rfl
/- it is destroyed -/
theorem bk_dst (n f : Nat) (d : List UInt8) : outF bkW 1 (bkS 3 bkT2 (bL3 n f d)) 5 bkA 0 [] = badF (bkS 3 bkT3 (bL4 n f d)) 0 := by
  have hK : chkF bkW 3 [] 1 bkT2 bkA 8 = ⟨1, 0, 3, []⟩ := by kernel_rfl
  have hp : pickF (bL3 n f d) (0 : Int) = some (splice (zeros n) f d) := pick_nat (bL3 n f d) 0 (by omega) rfl
  have hd : delL (bL3 n f d) (0 : Int) = bL4 n f d := by unfold delL; rw [hp]; rfl
  unfold outF
  rw [show mayC bkA = true from by decide, if_neg (by decide), if_pos rfl]
  show dstF (bkS 3 bkT2 (bL3 n f d)) bkA (chkF bkW 3 [] 1 bkT2 bkA 8) = _
  rw [hK]
  unfold dstF
  rw [if_neg (by decide), if_pos rfl]
  show badF ⟨3, [], desT bkT2 ⟨1, 0, 3, []⟩, 30, delL (bL3 n f d) (bkT2 1).v⟩ 0 = _
  rw [show (bkT2 1).v = 0 from by kernel_rfl, hd]
  rfl
/- its capability is nobody's -/
theorem bk_gone (L : Nat → Option (List UInt8)) : outF bkW 1 (bkS 4 bkT4 L) 103 bkA 0 [] = badF (bkS 4 bkT4 L) 1 := by
  have hK : chkF bkW 4 [] 1 bkT4 bkA 1 = ⟨0, 1, 4, []⟩ := by kernel_rfl
  unfold outF
  rw [show mayC bkA = true from by decide, if_neg (by decide), if_neg (by decide), if_neg (by decide)]
  show ownF bkW 1 (bkS 4 bkT4 L) 103 0 [] (chkF bkW 4 [] 1 bkT4 bkA 1) = _
  rw [hK]; rfl
theorem bk_m1 {n : Nat} (hn : n ≤ 256) : outF bkW 1 (bkS 1 bkT0 L0) 100 bkR n [] = ⟨0, bkA, 0, [], bkS 2 bkT1 (bL1 n)⟩ :=
  bk_make (k := 1) (i := 0) (x := 2) (by kernel_rfl) (by kernel_rfl) L0_low (by omega) (by rw [L0_sum]; omega) (by kernel_rfl) (by omega) (by omega) rfl hn
theorem bk_m2 {n : Nat} (hn : n ≤ 256) : outF bkW 1 (bkS 2 bkT1 (bL1 n)) 100 bkR n [] = ⟨0, bkB, 0, [], bkS 3 bkT2 (bL2 n)⟩ :=
  bk_make (k := 2) (i := 1) (x := 3) (by kernel_rfl) (by kernel_rfl) (bL1_low n) (by omega) (by rw [bL1_sum]; exact need_le hn) (by kernel_rfl) (by omega) (by omega) rfl hn
theorem bk_m3 {n : Nat} (hn : n ≤ 256) (f : Nat) (d : List UInt8) : outF bkW 1 (bkS 3 bkT3 (bL4 n f d)) 100 bkR n [] = ⟨0, bkC, 0, [], bkS 4 bkT4 (bL5 n f d)⟩ :=
  bk_make (k := 1) (i := 0) (x := 4) (by kernel_rfl) (by kernel_rfl) (bL4_low n f d) (by omega) (by rw [bL4_sum]; exact need_le hn) (by kernel_rfl) (by omega) (by omega) rfl hn
theorem bk_ra {n : Nat} (hn : n ≤ 256) (f : Nat) (d : List UInt8) (h : f + d.length ≤ n) (ar : Nat) (ha : ar = f * 4294967296 + d.length) : outF bkW 1 (bkS 3 bkT2 (bL3 n f d)) 101 bkA ar [] = ⟨0, Cp.zero, 0, d, bkS 3 bkT2 (bL3 n f d)⟩ := by
  have hl : (splice (zeros n) f d).length = n := by rw [length_splice _ _ _ (by rw [zeros_len]; omega), zeros_len]
  rw [bk_read (c := bkA) (k := 1) (i := 0) (l := splice (zeros n) f d) (by decide) (by kernel_rfl) (by kernel_rfl) (by omega) rfl f d.length (by rw [hl]; omega) (by rw [hl]; omega) ar ha]
  rw [show pieceF (splice (zeros n) f d) f d.length = d from by
    unfold pieceF splice
    have h1 : ((zeros n).take f).length = f := by rw [List.length_take, zeros_len]; omega
    rw [List.drop_append_of_le_length (by omega), List.drop_of_length_le (by omega), List.nil_append, List.take_append_of_le_length (by omega), List.take_length]]
theorem zeros_whole (n : Nat) : pieceF (zeros n) 0 n = zeros n := by
  unfold pieceF; rw [List.drop_zero, List.take_of_length_le (by rw [zeros_len]; omega)]
theorem bk_rb {n : Nat} (hn : n ≤ 256) (f : Nat) (d : List UInt8) : outF bkW 1 (bkS 3 bkT2 (bL3 n f d)) 101 bkB n [] = ⟨0, Cp.zero, 0, zeros n, bkS 3 bkT2 (bL3 n f d)⟩ := by
  rw [bk_read (c := bkB) (k := 2) (i := 1) (l := zeros n) (by decide) (by kernel_rfl) (by kernel_rfl) (by omega) rfl 0 n (by rw [zeros_len]; omega) (by rw [zeros_len]; omega) n (by omega), zeros_whole]
theorem bk_rc {n : Nat} (hn : n ≤ 256) (f : Nat) (d : List UInt8) : outF bkW 1 (bkS 4 bkT4 (bL5 n f d)) 101 bkC n [] = ⟨0, Cp.zero, 0, zeros n, bkS 4 bkT4 (bL5 n f d)⟩ := by
  rw [bk_read (c := bkC) (k := 1) (i := 0) (l := zeros n) (by decide) (by kernel_rfl) (by kernel_rfl) (by omega) rfl 0 n (by rw [zeros_len]; omega) (by rw [zeros_len]; omega) n (by omega), zeros_whole]
end
end Go.Proofs.YtpbkjmkdciiccaaGreatDoor
namespace Go.Proofs.YtpbkjmkdciiccaaGreatDoor
section
open Go.RowKit
variable {w0 w w1 w2 w' : World} {A : Ad} {s : Hs} {rr bs br bn n : Nat}
theorem Kh.then (k : Kh w w1) (f : Foot (fun j => j = w.heap.size) w1 w2) : Kh w w2 :=
  ⟨f.os.trans k.os, f.tape.trans k.tape, f.output.trans k.output, Nat.le_trans k.size f.size,
    fun b cs ty hb ht => by
      have h1 := k.block b cs ty hb ht
      have hlt := lt_of_heap hb
      rw [f.block b (Nat.lt_of_lt_of_le hlt k.size) (by omega), h1],
    fun b cs ty z hb hz => by
      have h1 := k.froz b cs ty z hb hz
      have hlt := lt_of_heap hb
      rw [f.block b (Nat.lt_of_lt_of_le hlt k.size) (by omega), h1]⟩
/- what there is, request behind request: the server, its half, three variables -/
structure Bk (w0 w : World) (A : Ad) (rr bs br bn n : Nat) (s : Hs) : Prop where
  sr : Sr w rr A.g A.sb
  x : Sv w0 w A 1 bkW s
  hs : w.heap[bs]? = some (.cells #[.pointer (some ⟨rr, 0, none⟩)] 33 (0, 0))
  hr : CBox w br 1 0 255 1
  hn : w.heap[bn]? = some (.cells #[.int .i64 (n : Int)] 3 (0, 0))
  nb : ¬ SvS A bn
theorem ptr_odd3 : Odd3 33 := ⟨⟨by decide, by decide, by decide, by decide⟩, by decide, by decide, by decide⟩
theorem Bk.grow (x : Bk w0 w A rr bs br bn n s) (b : Below w.heap.size w w') : Bk w0 w' A rr bs br bn n s :=
  ⟨x.sr.grow b, x.x.grow b, (b.block _ (lt_of_heap x.hs)).trans x.hs, x.hr.grow b, (b.block _ (lt_of_heap x.hn)).trans x.hn, x.nb⟩
theorem Bk.drewN (x : Bk w0 w A rr bs br bn n s) (q : Nat) : Bk w0 (w.drewN q) A rr bs br bn n s := ⟨x.sr, x.x.drewN q, x.hs, x.hr, x.hn, x.nb⟩
theorem Bk.c (x : Bk w0 w A rr bs br bn n s) : w.cell? ⟨bs, 0, none⟩ = some (.pointer (some ⟨rr, 0, none⟩)) ∧ w.cell? ⟨bn, 0, none⟩ = some (.int .i64 (n : Int)) ∧ w.cell? ⟨br, 0, none⟩ = some (.int .u64 1) ∧ w.cell? ⟨br, 1, none⟩ = some (.int .u32 0) ∧ w.cell? ⟨br, 2, none⟩ = some (.int .u8 255) ∧ w.cell? ⟨br, 3, none⟩ = some (.int .u64 1) :=
  ⟨by rw [cell_of_row w bs _ _ _ _ x.hs]; rfl, by rw [cell_of_row w bn _ _ _ _ x.hn]; rfl, x.hr.c0, x.hr.c1, x.hr.c2, x.hr.c3⟩
theorem Bk.end (x : Bk w0 w A rr bs br bn n s) {s1 : Hs} (E : SvEnd w0 w A 1 bkW w' s1) : ∃ A2, Bk w0 w' A2 rr bs br bn n s1 := by
  have K := x.x.kh E
  obtain ⟨v, dv, nv, S, F, h1, -, h3⟩ := E
  refine ⟨A.upd v dv nv, x.sr.kh K, S, (K.block _ _ _ x.hs ptr_odd3).trans x.hs, x.hr.kh K, (F.block _ (lt_of_heap x.hn) x.nb).trans x.hn, fun e => ?_⟩
  rcases SvS.upd h1 h3 e with e | e
  · exact x.nb e
  · have := lt_of_heap x.hn; omega
/- another variable turns, a new one -/
theorem Bk.var (x : Bk w0 w A rr bs br bn n s) {g : Nat} {m : Msg} {D : Value} (hM : MB w g m D) (hg : w0.heap.size ≤ g) (f : Foot (fun j => j = g) w w') : Bk w0 w' A rr bs br bn n s := by
  have hM' : w.heap[g]? = _ := hM
  refine ⟨x.sr.var f hM (by decide) (by decide), x.x.off f (by rintro b rfl; exact ⟨hg, .inr ⟨_, _, hM, msg_odd3⟩⟩), (f.block _ (lt_of_heap x.hs) (fun e => ?_)).trans x.hs, x.hr.foot f (fun e => ?_), (f.block _ (lt_of_heap x.hn) (fun e => ?_)).trans x.hn, x.nb⟩
  · have e : bs = g := e
    have h := x.hs; rw [e, hM'] at h; injection h with h; injection h with _ h2 _; exact absurd h2 (by decide)
  · have e : br = g := e
    have h : w.heap[br]? = _ := x.hr
    rw [e, hM'] at h; injection h with h; injection h with _ h2 _; exact absurd h2 (by decide)
  · have e : bn = g := e
    have h := x.hn; rw [e, hM'] at h; injection h with h; injection h with _ h2 _; exact absurd h2 (by decide)
def BkEnd (w0 w : World) (rr bs br bn n : Nat) (R : Ro) (m : Msg) (e : Ending) (w' : World) : Prop :=
  ∃ (m2 : Msg) (co : Option Addr) (k cc : Nat) (A2 : Ad), e = .returned (.agg #[.int .u64 m2.ta, .int .u64 m2.rp, .int .u32 m2.id, .int .u16 m2.op, .int .u16 m2.st, .int .u64 m2.p, .int .u32 m2.o, .int .u8 m2.r, .int .u64 m2.c, .int .u64 m2.ar, .slice co k cc]) ∧ m2 = rplF m R ∧ Bts w' co k cc (datF R []) ∧ Bk w0 w' A2 rr bs br bn n R.s ∧ Kh w w'
theorem bkask_any (op ar : Nat) (q : Cp) (so : Option Addr) (sn sc : Nat) (l : List UInt8) (w : World) (x : Bk w0 w A rr bs br bn n s) (hb : Bts w so sn sc l) (hq : q.ok) (hn : sn ≤ 140737488355328) (hd : Dat w0.heap.size w sn so) (ho : 5 ≤ op ∧ op ≤ 65535) (ha : ar ≤ 18446744073709551615) (hl : s.es.length < 5000000000000) (hg : Glob w0)
    (R : Ro) (hR : outF bkW 1 s op q ar l = R) (oi ai pi oo ri ci : Int) (h1 : oi = (op : Int)) (h2 : ai = (ar : Int)) (h3 : pi = (q.p : Int)) (h4 : oo = (q.o : Int)) (h5 : ri = (q.r : Int)) (h6 : ci = (q.c : Int)) :
    Calls Tryz.prog 17 #[.pointer (some ⟨rr, 0, none⟩), .agg #[.int .u64 0, .int .u64 0, .int .u32 0, .int .u16 oi, .int .u16 0, .int .u64 pi, .int .u32 oo, .int .u8 ri, .int .u64 ci, .int .u64 ai, .slice so sn sc]] w (BkEnd w0 w rr bs br bn n R ⟨0, 0, 0, op, 0, q.p, q.o, q.r, q.c, ar⟩) := by
  subst h1 h2 h3 h4 h5 h6
  refine (serve_any ⟨0, 0, 0, op, 0, q.p, q.o, q.r, q.c, ar⟩ so sn sc l w x.sr x.x hb ⟨hq, ho.2, ha, hn, hd⟩ (.inr ho.1) ⟨hl⟩ hg R hR).mono ?_
  rintro e w' ⟨m2, co, k, cc, hm, rfl, B, T, E⟩
  obtain ⟨A2, h⟩ := x.end E
  exact ⟨m2, co, k, cc, A2, rfl, hm, by rw [show datF R [] = datF R l from rfl]; exact B, h, x.x.kh E⟩
theorem bkR_ok : bkR.ok := ⟨by show 1 ≤ _; omega, by show 0 ≤ _; omega, by show 255 ≤ _; omega, by show 1 ≤ _; omega⟩
set_option maxRecDepth 20000 in
set_option maxHeartbeats 3200000 in
theorem mk_any (w : World) (x : Bk w0 w A rr bs br bn n s) (hn : n ≤ 256) (hl : s.es.length < 5000000000000) (hg : Glob w0) (R : Ro) (hR : outF bkW 1 s 100 bkR n [] = R) :
    Calls Tryz.prog 21 #[.pointer (some ⟨bs, 0, none⟩), .pointer (some ⟨br, 0, none⟩), .pointer (some ⟨bn, 0, none⟩)] w fun e w' => ∃ (m2 : Msg) (co : Option Addr) (k cc : Nat) (A2 : Ad), e = .returned (.agg #[.int .u64 m2.ta, .int .u64 m2.rp, .int .u32 m2.id, .int .u16 m2.op, .int .u16 m2.st, .int .u64 m2.p, .int .u32 m2.o, .int .u8 m2.r, .int .u64 m2.c, .int .u64 m2.ar, .slice co k cc]) ∧ m2 = rplF ⟨0, 0, 0, 100, 0, 1, 0, 255, 1, n⟩ R ∧ Bk w0 w' A2 rr bs br bn n R.s ∧ Kh w w' := by
  obtain ⟨X, hX⟩ : ∃ X, w.alloc (.cells #[.int .u64 0, .int .u64 0, .int .u32 0, .int .u16 0, .int .u16 0, .int .u64 0, .int .u32 0, .int .u8 0, .int .u64 0, .int .u64 0, .slice none 0 0] 53) = X := ⟨_, rfl⟩
  have bX : Below w.heap.size w X := hX ▸ below_alloc _ _
  have HZ : Hid (MB X w.heap.size Msg.zero (.slice none 0 0)) := hX ▸ mb_new w Msg.zero _
  have HB := hide bX
  have HX := hide (x.grow bX)
  have HW0 : Hid (w0.heap.size ≤ w.heap.size) := x.x.bel.size
  have HL := hide hl
  have HG := hide hg
  have HR := hide hR
  have HN := hide hn
  have hwn : IntKind.u64.wrap (n : Int) = (n : Int) := by rw [IntKind.wrap_u64]; omega
  obtain ⟨e0, e1, e2, e3, e4, e5⟩ := HX.out.c
  clear x hn hl hg hR bX
  go_enter Tryz.func21, Tryz.ntmps21
  go_wp2_with fail
  refine (bkask_any 100 n bkR none 0 0 [] _ HX.out (bts_nil _) bkR_ok (by omega) (fun h => absurd h (by omega)) (by omega) (by have := HN.out; omega) HL.out HG.out R HR.out 100 (n : Int) 1 0 255 1 rfl rfl rfl rfl rfl rfl).mono ?_; rintro e w6 ⟨m2, co, k, cc, A2, rfl, hm, B, X6, K⟩
  have HZ6 := hide (HZ.out.kh K)
  have HM2 := hide hm
  have HX6 := hide X6
  have HK6 := hide ((below_kh HB.out).trans K)
  clear hm B X6 K e0 e1 e2 e3 e4 e5 hX
  have HZL := hide (HZ6.out.lay (m := m2) (D := .slice co k cc))
  have f7 := foot_lay11 w6 w.heap.size m2 (.slice co k cc)
  have HX7 := hide (HX6.out.var HZ6.out HW0.out f7)
  have HK7 := hide (HK6.out.then f7)
  obtain ⟨w7, hw7⟩ : ∃ w7, lay11 w6 w.heap.size m2 (.slice co k cc) = w7 := ⟨_, rfl⟩
  rw [hw7] at HZL HX7 HK7
  unfold lay11 at hw7
  clear f7
  obtain ⟨v0, v1, v2, v3, v4, v5, v6, v7, v8, v9, v10⟩ := HZL.out.all
  obtain ⟨z0, z1, z2, z3, z4, z5, z6, z7, z8, z9, z10⟩ := HZ6.out.all
  have x0 := HZ6.out.z 0
  have x1 := HZ6.out.z 1
  have x2 := HZ6.out.z 2
  have x3 := HZ6.out.z 3
  have x4 := HZ6.out.z 4
  have x5 := HZ6.out.z 5
  have x6 := HZ6.out.z 6
  have x7 := HZ6.out.z 7
  have x8 := HZ6.out.z 8
  have x9 := HZ6.out.z 9
  have x10 := HZ6.out.z 10
  go_wp2
  refine bodyPost_ret (by simp [results, Tryz.results21, go_sem, v0, v1, v2, v3, v4, v5, v6, v7, v8, v9, v10]; rfl) rfl ?_
  exact ⟨m2, co, k, cc, A2, rfl, HM2.out, HX7.out, HK7.out⟩
theorem fld7 (d0 d1 d2 d3 d4 d5 d6 d7 d8 d9 : Int) (d10 : Option Addr) (d11 d12 : Nat) (w : World) : (Instr.field 53 (.agg #[.int .u64 d0, .int .u64 d1, .int .u32 d2, .int .u16 d3, .int .u16 d4, .int .u64 d5, .int .u32 d6, .int .u8 d7, .int .u64 d8, .int .u64 d9, .slice d10 d11 d12]) 7).run Tryz.prog w = .ok (.slice d10 d11 d12) w := by kernel_rfl
/- what is read, as a string -/
set_option maxRecDepth 20000 in
set_option maxHeartbeats 3200000 in
theorem rd_any (c : Cp) (f len : Nat) (w : World) (x : Bk w0 w A rr bs br bn n s) (hc : c.ok) (hf : f ≤ 256) (hn : len ≤ 256) (hl : s.es.length < 5000000000000) (hg : Glob w0) (R : Ro) (hR : outF bkW 1 s 101 c (f * 4294967296 + len) [] = R) (d : List UInt8) (hd : datF R [] = d) (pi oo ri ci fi li : Int) (h3 : pi = (c.p : Int)) (h4 : oo = (c.o : Int)) (h5 : ri = (c.r : Int)) (h6 : ci = (c.c : Int)) (h7 : fi = (f : Int)) (h8 : li = (len : Int)) :
    Calls Tryz.prog 22 #[.agg #[.int .u64 pi, .int .u32 oo, .int .u8 ri, .int .u64 ci], .int .i64 fi, .int .i64 li, .pointer (some ⟨bs, 0, none⟩)] w fun e w' => ∃ A2 : Ad, e = .returned (.string (str d)) ∧ Bk w0 w' A2 rr bs br bn n R.s ∧ Kh w w' := by
  subst h3 h4 h5 h6 h7 h8
  obtain ⟨X, hX⟩ : ∃ X, w.alloc (.cells #[.int .u64 (c.p : Int), .int .u32 (c.o : Int), .int .u8 (c.r : Int), .int .u64 (c.c : Int)] 36) = X := ⟨_, rfl⟩
  have bX : Below w.heap.size w X := hX ▸ below_alloc _ _
  have HC : Hid (CBox X w.heap.size c.p c.o c.r c.c) := hX ▸ CBox.new w c.p c.o c.r c.c
  have HB := hide bX
  have HX := hide (x.grow bX)
  have HL := hide hl
  have HG := hide hg
  have HR := hide hR
  have HD := hide hd
  have HCO := hide hc
  have hwn : IntKind.u64.wrap (len : Int) = (len : Int) := by rw [IntKind.wrap_u64]; omega
  have hwf : IntKind.u64.wrap (f : Int) = (f : Int) := by rw [IntKind.wrap_u64]; omega
  obtain ⟨z1, hz1⟩ : ∃ z1, f * 4294967296 + len = z1 := ⟨_, rfl⟩
  have d1 : IntKind.u64.wrap (IntKind.u64.wrap ((f : Int) * 4294967296) + (len : Int)) = (z1 : Int) := by rw [IntKind.wrap_u64, IntKind.wrap_u64]; omega
  have d1b : (f : Int) * 4294967296 + (len : Int) = (z1 : Int) := by omega
  have d1c : IntKind.u64.wrap (z1 : Int) = (z1 : Int) := by rw [IntKind.wrap_u64]; omega
  rw [hz1] at HR
  have HZ1 : Hid (z1 ≤ 1099511628032) := by show _ ≤ _; omega
  have e0 := HX.out.c.1
  have e2 := HC.out.c0
  have e3 := HC.out.c1
  have e4 := HC.out.c2
  have e5 := HC.out.c3
  clear x hc hn hf hl hg hR hd bX hz1
  go_enter Tryz.func22, Tryz.ntmps22
  go_wp2_with fail
  refine (bkask_any 101 z1 c none 0 0 [] _ HX.out (bts_nil _) HCO.out (by omega) (fun h => absurd h (by omega)) (by omega) (by have := HZ1.out; omega) HL.out HG.out R HR.out 101 (z1 : Int) (c.p : Int) (c.o : Int) (c.r : Int) (c.c : Int) rfl rfl rfl rfl rfl rfl).mono ?_; rintro e w6 ⟨m2, co, k, cc, A2, rfl, hm, B, X6, K⟩
  rw [HD.out] at B
  have cv := conv_bts B
  have fl := fld7 m2.ta m2.rp m2.id m2.op m2.st m2.p m2.o m2.r m2.c m2.ar co k cc
  have HX6 := hide X6
  have HK6 := hide ((below_kh HB.out).trans K)
  clear hm B X6 K e0 e2 e3 e4 e5 hX
  go_wp2
  go_ret
  exact ⟨A2, rfl, HX6.out, HK6.out⟩
end
end Go.Proofs.YtpbkjmkdciiccaaGreatDoor
