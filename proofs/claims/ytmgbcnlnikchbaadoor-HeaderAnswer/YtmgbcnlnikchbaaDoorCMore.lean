/-
  Small facts that several walks share: bytes behind draws, the first and the last of them, what is left of a number by powers of 256.
-/
import Derived.Test.YtmgbcnlnikchbaaDoorRead
import Derived.Test.YtmgbcnlnikchbaaDoorCBytes
namespace Go.Proofs.YtmgbcnlnikchbaaDoor
open Go.RowKit
theorem Bts.drewN {w : World} {ao : Option Addr} {n cap : Nat} {l : List UInt8} (h : Bts w ao n cap l) (k : Nat) : Bts (w.drewN k) ao n cap l := h
theorem Bts.first {w : World} {ao : Option Addr} {n cap : Nat} {l r : List UInt8} (h : Bts w ao n cap (l ++ r)) (k : Nat) (hk : k = l.length) : Bts w ao k cap l := by
  obtain ⟨h1, h2, h3, h4, h5⟩ := h
  rw [List.length_append] at h1
  refine ⟨hk, by omega, h3, h4, fun ad e j hj => ?_⟩
  rw [h5 ad e j (by rw [List.length_append]; omega)]
  unfold bt; simp only [List.getD_eq_getElem?_getD]; rw [List.getElem?_append_left hj]
theorem bts_last {w : World} {g n m : Nat} {l r : List UInt8} (h : Bts w (some ⟨g, 0, none⟩) (n + m) (n + m) (l ++ r)) (hn : n = l.length) : Bts w (some ⟨g, n, none⟩) m m r := by
  have h0 := h.1
  rw [List.length_append] at h0
  have hr := h.add n m (by omega)
  rw [addr0, show n + m - n = m from by omega, hn, List.drop_left, List.take_of_length_le (by omega)] at hr
  rw [hn]; exact hr
theorem below_drewN {B : Nat} {a w : World} (h : Below B a w) (k : Nat) : Below B a (w.drewN k) := ⟨h.os, h.tape, h.output, h.size, h.block⟩
theorem low1 (v : Nat) : ((v % 256 ^ 1 : Nat) : Int) = (v : Int) % 256 := by omega
theorem low2 (v : Nat) : ((v % 256 ^ 2 : Nat) : Int) = (v : Int) % 65536 := by omega
theorem low3 (v : Nat) : ((v % 256 ^ 3 : Nat) : Int) = (v : Int) % 16777216 := by omega
theorem low4 (v : Nat) : ((v % 256 ^ 4 : Nat) : Int) = (v : Int) % 4294967296 := by omega
theorem low5 (v : Nat) : ((v % 256 ^ 5 : Nat) : Int) = (v : Int) % 1099511627776 := by omega
theorem low6 (v : Nat) : ((v % 256 ^ 6 : Nat) : Int) = (v : Int) % 281474976710656 := by omega
theorem low7 (v : Nat) : ((v % 256 ^ 7 : Nat) : Int) = (v : Int) % 72057594037927936 := by omega
theorem low8 (v : Nat) (h : v ≤ 18446744073709551615) : ((v % 256 ^ 8 : Nat) : Int) = (v : Int) := by omega
end Go.Proofs.YtmgbcnlnikchbaaDoor
