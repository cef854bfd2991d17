/-
  What the statements' awake and Same answer, as contracts; what cutting and joining make of each other.
-/
import Derived.Test.YtnnmmdkffbffoaaFJoin
import Derived.Lib.SlBytesConst
namespace Go.Proofs.Ytnnmmdkffbffoaa
open Go.RowKit
/- what is cut is joined -/
theorem spl_may {f t i : Int} {s : Nat} {l : List UInt8} {c : Nat} {L : List Pa} {w : World} {ao : Option Addr} {n cap : Nat} (h : Spl f t i s l c L) (hp : Pks w ao n cap L) (hs2 : s ≤ 32768) (hc : c ≤ 256) (j : Nat) (hj : j < c) : (L.getD j Pa.zero).may = true := by
  obtain ⟨_, _, _, h4, h5, h6⟩ := h.2 j hj
  have hb := (hp.bts j (by rw [hp.len, h.1]; exact hj)).1
  rw [h6, pc_len] at hb
  exact (may_iff _ _ _).2 ⟨by omega, by omega, by omega, by omega, by omega⟩
theorem okL_of {n : Nat} {q : Pa} : ∀ (L : List Pa) (k : Nat), (∀ j, j < L.length → okK n q (k + j) (L.getD j Pa.zero) = true) → okL n q k L = true
  | [], _, _ => rfl
  | p :: r, k, h => by
    rw [okL, Bool.and_eq_true]
    refine ⟨h 0 (by simp), okL_of r (k + 1) fun j hj => ?_⟩
    have := h (j + 1) (by simpa using hj)
    rw [show k + 1 + j = k + (j + 1) by omega]; exact this
theorem spl_join {f t i : Int} {s : Nat} {l : List UInt8} {c : Nat} {L : List Pa} {w : World} {ao : Option Addr} {n cap : Nat} (h : Spl f t i s l c L) (hp : Pks w ao n cap L) (hs2 : s ≤ 32768) (hc : c ≤ 256) (hc0 : 1 ≤ c) : joinB L = true := by
  unfold joinB
  rw [Bool.and_eq_true]
  refine ⟨by cases L with | nil => (have := h.1; simp at this; omega) | cons x r => rfl, okL_of L 0 fun j hj => ?_⟩
  have hjc : j < c := by rw [← h.1]; exact hj
  obtain ⟨h1, h2, h3, h4, h5, h6⟩ := h.2 j hjc
  obtain ⟨k1, k2, k3, k4, k5, k6⟩ := h.2 0 (by omega)
  unfold okK Pa.with
  rw [spl_may h hp hs2 hc j hjc, h1, h2, h3, h4, h5, k1, k2, k3, h.1]
  simp
theorem map_getK (L : List Pa) : (List.range L.length).map (fun j => (L.getD j Pa.zero).l) = L.map Pa.l := by
  apply List.ext_getElem?
  intro j
  by_cases hj : j < L.length
  · simp [List.getElem?_range hj, List.getElem?_eq_getElem hj, List.getD_eq_getElem?_getD]
  · rw [List.getElem?_eq_none (by simp; omega), List.getElem?_eq_none (by simp; omega)]
theorem spl_bytes {f t i : Int} {s : Nat} {l : List UInt8} {L : List Pa} (h : Spl f t i s l (cntF l.length s) L) (hs : 1 ≤ s) : joinL L = l := by
  have e : joinL L = (L.map Pa.l).flatten := by unfold joinL; rw [List.flatMap_def]
  rw [e, ← map_getK, ← List.flatMap_def]
  refine Eq.trans ?_ (pcs_join l s hs)
  rw [h.1]
  have hm : ∀ j ∈ List.range (cntF l.length s), (L.getD j Pa.zero).l = pcF l s j := fun j hj => (h.2 j (List.mem_range.1 hj)).2.2.2.2.2
  rw [List.flatMap_def, List.flatMap_def, List.map_congr_left hm]
theorem str_list (l : List UInt8) : (str l).toList = l := by
  rw [str, ByteArray.toList_eq]
/- a slice of packets without the first -/
theorem Try.sizePk (w : World) : (sizeOf 27).run Try.prog w = .ok 6 w := by kernel_rfl
theorem cut_pks (w : World) (ao : Option Addr) (n cap k : Nat) (h : k ≤ n) : (Instr.slice 22 (.slice ao n cap) (some (.int .i64 (k : Int))) none none).run Try.prog w = .ok (.slice (if cap = k then ao else ao.map (·.add (k * 6))) (n - k) (cap - k)) w := by
  have ht : Try.prog.underlying 22 = some (.slice (Try.prog.elem 22)) := by simp [Program.elem, Try.underlying22]
  have he : Try.prog.elem 22 = 27 := by simp [Program.elem, Try.underlying22]
  rw [run_slice_l (P := Try.prog) w 22 ao n cap ht .i64 (k : Int) (by omega) (by omega), he, Try.sizePk]
  simp [Result.andThen, sliced]
theorem cellsK_drop (L : List Pa) (k : Nat) : (cellsK L).drop (k * 6) = cellsK (L.drop k) := by
  induction L generalizing k with
  | nil => simp [cellsK]
  | cons x r ih =>
    cases k with
    | zero => simp
    | succ k =>
      show (x.cells ++ cellsK r).drop ((k + 1) * 6) = cellsK (r.drop k)
      rw [List.drop_append, List.drop_eq_nil_of_le (by show 6 ≤ _; omega), List.nil_append, show (k + 1) * 6 - x.cells.length = k * 6 from by show _ - 6 = _; omega, ih]
theorem Pks.tail {w : World} {ao : Option Addr} {n cap : Nat} {L : List Pa} (h : Pks w ao n cap L) (k : Nat) (hk : k ≤ n) : Pks w (if cap = k then ao else ao.map (·.add (k * 6))) (n - k) (cap - k) (L.drop k) := by
  have hl := h.len
  have h1 := h.1.2.1
  have h2 := h.1.2.2.1
  refine ⟨⟨by rw [cellsK_len, List.length_drop, hl], by omega, by omega, fun e => ?_, fun ad e j u hu => ?_⟩, fun x hx => h.2 x (List.mem_of_mem_drop hx)⟩
  · split at e
    · omega
    · have := h.1.2.2.2.1 (by cases ao <;> simp_all); omega
  · rw [← cellsK_drop, List.getElem?_drop] at hu
    have hj : k * 6 + j < (cellsK L).length := (List.getElem?_eq_some_iff.1 hu).1
    rw [cellsK_len] at hj
    rw [if_neg (by omega)] at e
    obtain ⟨a0, rfl, rfl⟩ := Option.map_eq_some_iff.1 e
    rw [add_add]; exact h.1.2.2.2.2 a0 rfl _ u hu
def abc : List UInt8 := [97, 98, 99]
theorem abc_cnt : cntF abc.length 2 = 2 := by decide
theorem abc_cells : (cellsB abc).toArray = #[.int .u8 97, .int .u8 98, .int .u8 99] := rfl
set_option maxRecDepth 20000 in
set_option maxHeartbeats 3200000 in
theorem awake_any (w : World) :
    Calls Try.prog 5 #[] w fun e w' => e = .returned (.bool true) ∧ Below w.heap.size w w' := by
  obtain ⟨C, hC⟩ : ∃ C : Array Value, #[.int .u8 97, .int .u8 98, .int .u8 99] = C := ⟨_, rfl⟩
  have kc := fun (w : World) => Go.Lib.run_convert_bytes_const (P := Try.prog) w 25 5 C 3 3 Try.underlying25 Try.underlying5
  have HC : Hid ((cellsB abc).toArray = C) := hC
  go_enter Try.func5, Try.ntmps5
  go_wp2_with fail
  refine (split_yes _ 3 3 abc 1 2 3 2 _ (bts_cells w abc C _ HC.out (by decide)) (by omega) (by omega) (by omega)).mono ?_; rintro e w1 ⟨L, rfl, P1, S1, N1, b1⟩
  rw [show cntF 3 2 = 2 from by decide] at P1 S1 ⊢
  obtain ⟨g, hg⟩ : ∃ g, (w.alloc (Obj.cells C 5 (C.size, C.size + 1))).heap.size = g := ⟨_, rfl⟩
  have hb1 := below_one (below_alloc w _) b1
  rw [hg] at P1 ⊢
  have hj := spl_join S1 P1 (by omega) (by omega) (by omega)
  have hjl : joinL L = abc := spl_bytes (l := abc) (s := 2) (by rw [abc_cnt]; exact S1) (by omega)
  obtain ⟨h11, h12, h13, h14, h15, h16⟩ := S1.2 1 (by omega)
  have hnj : joinB (L.drop 1) = false := by
    have hl := S1.1
    match L, hl with
    | [a, b], _ =>
      replace h14 : b.x = ((1 : Nat) : Int) := h14
      show (!false && (okK 1 b 0 b && okL 1 b 1 [])) = false
      unfold okK
      rw [h14]; simp
  have HJ := hide hj
  have HNJ := hide hnj
  have HJL := hide hjl
  have HP1 := hide P1
  have HB1 := hide hb1
  have hcut := fun (w : World) => cut_pks w (some ⟨g, 0, none⟩) 2 2 1 (by omega)
  have HT := hide (P1.tail 1 (by omega))
  simp only [Option.map_some, add0, Nat.one_mul, Nat.reduceSub, show ¬ ((2 : Nat) = 1) from by decide, if_false, Int.natCast_one] at hcut HT
  have HX := hide (And.intro h15 h16)
  clear P1 S1 N1 b1 hg hb1 hj hjl hnj h11 h12 h13 h14 h15 h16 kc
  go_wp2_with fail
  refine (join_any _ 2 2 L _ HP1.out).mono ?_; rintro e w2 ⟨b2, hy, _⟩
  obtain ⟨ro, rc, rfl, B2, _⟩ := hy HJ.out
  rw [HJL.out] at B2 ⊢
  have HB2 := hide (below_one HB1.out b2)
  have HP2 := hide (HP1.out.carry b2)
  have HT2 := hide (HT.out.carry b2)
  have HD2 := hide B2
  clear b2 hy B2
  go_wp2_with fail
  refine (join_any _ 1 1 (L.drop 1) _ HT2.out).mono ?_; rintro e w3 ⟨b3, _, hn⟩
  obtain rfl := hn HNJ.out
  have HB3 := hide (below_one HB2.out b3)
  have P3 := HP2.out.carry b3
  have k0 := conv_bts (HD2.out.carry b3)
  have e1 := P3.elem 1 (by omega)
  have d1 : Bts _ _ _ _ _ := P3.bts 1 (by omega)
  obtain ⟨h15, h16⟩ := HX.out
  obtain ⟨y, hy⟩ : ∃ y, L.getD 1 Pa.zero = y := ⟨_, rfl⟩
  rw [hy] at e1 d1 h15 h16
  obtain ⟨c0, c1, c2, c3, c4, c5⟩ := e1
  rw [h16] at d1
  have k1 := conv_bts d1
  simp only [add0, Nat.one_mul, Nat.reduceAdd] at c4 c5
  rw [h15] at c4
  rw [show str abc = ⟨#[97, 98, 99]⟩ from rfl] at k0
  rw [show str (pcF abc 2 1) = ⟨#[99]⟩ from rfl] at k1
  clear P3 c0 c1 c2 c3 d1 hy h15 h16 hn b3 hcut
  go_wp2
  go_ret
  exact ⟨rfl, HB3.out⟩
end Go.Proofs.Ytnnmmdkffbffoaa
