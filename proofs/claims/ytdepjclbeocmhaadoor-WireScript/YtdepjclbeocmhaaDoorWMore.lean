/-
  What a wire's Arrive, Lose, Double and Cut answer, as contracts.
-/
import Derived.Test.YtdepjclbeocmhaaDoorWDeeds
namespace Go.Proofs.YtdepjclbeocmhaaDoor
open Go.RowKit
variable {w w' : World} {g : Nat} {bo : Option Addr} {bc : Nat} {K : List Pa} {S : Nat → Prop} {L : List Pa}
set_option maxRecDepth 20000 in
set_option maxHeartbeats 1600000 in
theorem arrive_no (pick : Int) (w : World) (x : St w g S []) :
    Calls Tryd.prog 7 #[.pointer (some ⟨g, 0, none⟩), .int .i64 pick] w fun e w' => e = .returned (.tuple #[.agg #[.int .i64 0, .int .i64 0, .int .u64 0, .int .i64 0, .int .i64 0, .slice none 0 0], .bool false]) ∧ Below w.heap.size w w' := by
  obtain ⟨bo, bc, K, x, hF, hK⟩ := x
  obtain rfl : K = [] := by cases K with | nil => rfl | cons a b => simp at hK
  obtain ⟨X, hX⟩ : ∃ X, w.alloc (.cells #[.int .i64 0, .int .i64 0, .int .u64 0, .int .i64 0, .int .i64 0, .slice none 0 0] 33) = X := ⟨_, rfl⟩
  have bX : Below w.heap.size w X := hX ▸ below_alloc w _
  have hbz : BoxK X w.heap.size Pa.zero := hX ▸ boxK_new w Pa.zero
  have c1 := (x.grow bX).c0
  simp only [List.length_nil] at c1
  obtain ⟨y0, y1, y2, y3, y4, y5⟩ := hbz.six (Below.refl _ _)
  have z0 := hbz.z 0
  have z1 := hbz.z 1
  have z2 := hbz.z 2
  have z3 := hbz.z 3
  have z4 := hbz.z 4
  have z5 := hbz.z 5
  obtain ⟨V, hV⟩ : ∃ V, lay6 X w.heap.size Pa.zero = V := ⟨_, rfl⟩
  have hbv : BoxK V w.heap.size Pa.zero := hV ▸ hbz.lay Pa.zero
  have ftV : Foot (fun j => j = w.heap.size) X V := hV ▸ foot_lay6 X _ Pa.zero
  have HV : Hid (Below w.heap.size w V) := ((below_foot _ bX).then ftV).below (Nat.le_refl _) (fun k e => by omega)
  unfold lay6 at hV
  obtain ⟨v0, v1, v2, v3, v4, v5⟩ := hbv.six (Below.refl _ _)
  simp only [Pa.zero] at hV y0 y1 y2 y3 y4 y5 v0 v1 v2 v3 v4 v5
  clear x hF hK hbz hbv ftV bX
  go_enter Tryd.func7, Tryd.ntmps7
  go_wp2
  refine bodyPost_ret (by simp [results, Tryd.results7, go_sem, v0, v1, v2, v3, v4, v5]; rfl) rfl ?_
  exact ⟨rfl, HV.out⟩
structure ArEnd (w : World) (g : Nat) (S : Nat → Prop) (L : List Pa) (k : Nat) (y : Pa) (w' : World) : Prop where
  nm : y.nm = L.getD k Pa.zero
  sn : y.sn ≤ 140737488355328
  has : y.has w'
  new : New w y.so
  st : St w' g S (L.eraseIdx k)
  ft : Foot (· = g) w w'
theorem map_erase (K : List Pa) (k : Nat) : (K.eraseIdx k).map Pa.nm = (K.map Pa.nm).eraseIdx k := by
  rw [List.eraseIdx_eq_take_drop_succ, List.eraseIdx_eq_take_drop_succ, List.map_append, List.map_take, List.map_drop]
set_option maxRecDepth 20000 in
set_option maxHeartbeats 3200000 in
theorem arrive_any (pick : Int) (w : World) (x : St w g S L) (hS : ∀ k, S k → k < w.heap.size) (h0 : 0 < L.length) :
    Calls Tryd.prog 7 #[.pointer (some ⟨g, 0, none⟩), .int .i64 pick] w fun e w' => ∃ y, e = .returned (.tuple #[.agg #[.int .i64 y.f, .int .i64 y.t, .int .u64 y.i, .int .i64 y.x, .int .i64 y.c, .slice y.so y.sn y.sc], .bool true]) ∧ ArEnd w g S L (placeF pick L.length) y w' := by
  obtain ⟨bo, bc, K, x, hF, rfl⟩ := x
  rw [List.length_map] at h0 ⊢
  obtain ⟨X, hX⟩ : ∃ X, w.alloc (.cells #[.int .i64 0, .int .i64 0, .int .u64 0, .int .i64 0, .int .i64 0, .slice none 0 0] 33) = X := ⟨_, rfl⟩
  have bX : Below w.heap.size w X := hX ▸ below_alloc w _
  have HBZ : Hid (BoxK X w.heap.size Pa.zero) := hX ▸ boxK_new w Pa.zero
  have xX := x.grow bX
  have c1 := xX.c0
  have HX := hide xX
  have HXW := hide x
  have HB := hide bX
  have HF := hide hF
  have HS : Hid (∀ k, S k → k < w.heap.size) := hS
  have hkl := placeF_lt pick K.length h0
  obtain ⟨k, hk⟩ : ∃ k, placeF pick K.length = k := ⟨_, rfl⟩
  rw [hk] at hkl ⊢
  have HKL := hide hkl
  have hb0 := xX.row.bts k hkl
  obtain ⟨ad, hbo⟩ := xX.row.there hkl
  subst hbo
  have e1 := xX.row.elem k hkl
  have HLOW := hide (x.low _ (getK_mem K k hkl))
  obtain ⟨p, hp⟩ : ∃ p, K.getD k Pa.zero = p := ⟨_, rfl⟩
  rw [hp] at e1 hb0 HLOW
  obtain ⟨k0, k1, k2, k3, k4, k5⟩ := e1
  have HP := hide hp
  have HPB := hide hb0
  obtain ⟨n, hn⟩ : ∃ n, K.length = n := ⟨_, rfl⟩
  have HN := hide hn
  rw [hn] at c1 h0 hkl hk
  have HK := hide hk
  have hfew := x.few
  rw [hn] at hfew
  have h1 : ¬ ((n : Int) = 0) := by omega
  have hlt : (k : Int) < (n : Int) := by omega
  have HGL := hide x.lt
  clear x hF hS bX xX hk hn hp hb0
  go_enter Tryd.func7, Tryd.ntmps7
  go_wp2_with fail
  refine (place_any pick n _ h0 (by omega)).mono ?_; rintro e w1 ⟨rfl, rfl⟩
  rw [HK.out]
  go_wp2_with fail
  refine (alone_any p _ HPB.out HLOW.out).mono ?_; rintro e w2 ⟨q, rfl, E2⟩
  have HE2 := hide E2
  obtain ⟨Y, hY⟩ : ∃ Y, w2.alloc (.cells #[.int .i64 q.f, .int .i64 q.t, .int .u64 q.i, .int .i64 q.x, .int .i64 q.c, .slice q.so q.sn q.sc] 33) = Y := ⟨_, rfl⟩
  have bY : Below w2.heap.size w2 Y := hY ▸ below_alloc w2 _
  have bx2 := below_one E2.b bY
  have HXY := hide (HX.out.grow bx2)
  have HBY := hide bx2
  have HBQ : Hid (BoxK Y w2.heap.size q) := hY ▸ boxK_new w2 q
  have HHQ := hide (Bts.carry E2.has bY)
  have HBZ2 := hide (HBZ.out.carry bx2 (Nat.le_refl _))
  obtain ⟨r, hr⟩ : ∃ r, w2.heap.size = r := ⟨_, rfl⟩
  rw [hr] at HBQ
  have HR : Hid (w.heap.size < r) := by show _ < _; have := lt_of_heap HBZ.out; have := E2.b.size; omega
  clear E2 bY bx2 k0 k1 k2 k3 k4 k5 c1
  go_wp2_with fail
  refine (take_any k _ HXY.out HKL.out).mono ?_; rintro e w3 ⟨ao, c, rfl, E3⟩
  have hbq : BoxK w3 r q := (E3.ft.block _ (lt_of_heap HBQ.out) (by have := HGL.out; have := HR.out; omega)).trans HBQ.out
  have hbz : BoxK w3 w.heap.size Pa.zero := (E3.ft.block _ (lt_of_heap HBZ2.out) (by have := HGL.out; omega)).trans HBZ2.out
  obtain ⟨k0, k1, k2, k3, k4, k5⟩ := hbq.six (Below.refl _ _)
  obtain ⟨y0, y1, y2, y3, y4, y5⟩ := hbz.six (Below.refl _ _)
  have z0 := hbz.z 0
  have z1 := hbz.z 1
  have z2 := hbz.z 2
  have z3 := hbz.z 3
  have z4 := hbz.z 4
  have z5 := hbz.z 5
  obtain ⟨V, hV⟩ : ∃ V, lay6 w3 w.heap.size q = V := ⟨_, rfl⟩
  have hbv : BoxK V w.heap.size q := hV ▸ hbz.lay q
  have ftV : Foot (fun j => j = w.heap.size) w3 V := hV ▸ foot_lay6 w3 _ q
  unfold lay6 at hV
  obtain ⟨v0, v1, v2, v3, v4, v5⟩ := hbv.six (Below.refl _ _)
  have HEND : Hid (ArEnd w g S (K.map Pa.nm) k q V) := by
    have hg : ¬ (fun j => j = w.heap.size) g := fun e => by have := HGL.out; omega
    have n2 : New w1 q.so := HE2.out.new
    have sX := lt_of_heap HBZ.out
    have offw : OffO (fun j => j = w.heap.size) q.sn q.so := fun _ ad e h => by have := n2 ad e; omega
    have far2 := E3.far (fun j => S j ∨ j = w.heap.size) (HF.out.either HXW.out.row (fun k h => h.imp id (fun e => by omega))) (fun k h => by
      rcases h with h | h
      · exact Nat.lt_of_lt_of_le (HS.out k h) (below_one HB.out HBY.out).size
      · have := HBY.out.size; omega)
    have wr2 := E3.wr.foot ftV hg (far2.mono (fun k e => .inr e))
    refine ⟨by rw [getD_nm, HP.out]; exact HE2.out.nm, by rw [HE2.out.sn]; exact HLOW.out, ?_, fun ad e => Nat.le_trans HB.out.size (n2 ad e), ?_, ?_⟩
    · exact Bts.footN (Bts.footN HHQ.out E3.ft (fun _ ad e h => by have := n2 ad e; have := HGL.out; omega)) ftV offw
    · exact ⟨ao, c, _, wr2, far2.mono (fun k e => .inl e), map_erase K k⟩
    · exact ((below_foot _ (below_one HB.out HBY.out)).then E3.ft).trans ftV (fun j e => .inr (by omega))
  clear E3 hbq hbz hbv ftV
  go_wp2
  refine bodyPost_ret (by simp [results, Tryd.results7, go_sem, v0, v1, v2, v3, v4, v5]; rfl) rfl ?_
  exact ⟨q, rfl, HEND.out⟩
end Go.Proofs.YtdepjclbeocmhaaDoor
