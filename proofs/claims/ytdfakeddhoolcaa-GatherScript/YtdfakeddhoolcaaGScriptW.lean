/-
  The walk of GatherScript.
-/
import Derived.Test.YtdfakeddhoolcaaGScr
import Derived.Test.YtdfakeddhoolcaaGRl
import Derived.Test.YtdfakeddhoolcaaYTill
import Derived.Deep.CutBlock
import Derived.Laws.Concat
namespace Go.Proofs.Ytdfakeddhoolcaa
open Go.RowKit
def ScRel (w : World) (g n gk : Nat) (v4 vi : Value) (wq : World) : Prop :=
  ∃ (i : Nat) (oo : Option Addr) (on oc : Nat) (Os : List Mg) (G : List (List Pa)), i + gk = n ∧ vi = .int .i64 (i : Int) ∧ v4 = .slice oo on oc ∧ Sx w wq g oo on oc Os G ∧ Inv G ∧ To3 G ∧ Rl (absM Os) G
/- whatever Add answers -/
theorem AddEnd.any {w w' : World} {g : Nat} {S : Nat → Prop} {G : List (List Pa)} {p : Pa} {e : Ending} (h : AddEnd w g S G p e w') : ∃ ro rc, e = .returned (.tuple #[.slice ro ((addF G p).1.getD []).length rc, .bool (addF G p).1.isSome]) ∧ Bts w' ro ((addF G p).1.getD []).length rc ((addF G p).1.getD []) ∧ New w ro := by
  obtain ⟨_, _, h1, h2⟩ := h
  cases hr : (addF G p).1 with
  | none => exact ⟨none, 0, h1 hr, bts_nil _, new_none _⟩
  | some l => exact h2 l hr
theorem isOf_nm (m : List Pa) (p : Pa) : isOf (m.map Pa.nm) p.nm = isOf m p := by
  cases m <;> rfl
def FdR (X : World) (Os : List Mg) (y : Pa) (n gk : Nat) (va vi : Value) (wq : World) : Prop :=
  ∃ k : Nat, k + gk = n ∧ vi = .int .i64 (k : Int) ∧ ((va = .int .i64 (-1) ∧ ∀ j, j < k → isOf ((rawM Os).getD j []) y = false) ∨ ∃ f : Nat, f < k ∧ va = .int .i64 (f : Int) ∧ isOf ((rawM Os).getD f []) y = true) ∧ Below X.heap.size X wq
def MdR (w : World) (g b : Nat) (y : Pa) (ro : Option Addr) (rn rc : Nat) (bl : List UInt8) (G G' : List (List Pa)) (v4 va : Value) (wx : World) : Prop :=
  ∃ (oo : Option Addr) (on oc : Nat) (Os : List Mg) (at1 : Nat), v4 = .slice oo on oc ∧ va = .int .i64 (at1 : Int) ∧ Rd w wx g b y ro rn rc bl oo on oc Os G' ∧ Rl (absM Os) (opnF G y.nm) ∧ at1 = atF G y.nm
def SetR (w : World) (g b : Nat) (y : Pa) (ro : Option Addr) (rn rc : Nat) (bl : List UInt8) (oo : Option Addr) (on oc : Nat) (Os : List Mg) (at1 mn : Nat) (mL : List Pa) (G' : List (List Pa)) (wx : World) : Prop := ∃ na nc, Rd w wx g b y ro rn rc bl oo on oc (Os.set at1 ⟨na, mn + 1, nc, mL ++ [y]⟩) G'
def TxR (X : World) (m : List Pa) (c gk : Nat) (vs vk : Value) (wq : World) : Prop := ∃ k : Nat, k + gk = c ∧ vk = .int .i64 (k : Int) ∧ vs = .string (str (txtL m k)) ∧ Below X.heap.size X wq
def TiR (X : World) (m : List Pa) (k c gk : Nat) (vs vi : Value) (wq : World) : Prop := ∃ t : Nat, t + gk = c ∧ vi = .int .i64 (t : Int) ∧ vs = .string (str (txtL m k ++ pickL (m.take t) k)) ∧ Below X.heap.size X wq
def IsV (b : Bool) (X : World) (v : Value) (wx : World) : Prop := v = .bool b ∧ Below X.heap.size X wx
def GdR (X : World) (g0 : Bool) (m : List Pa) (x : Int) (n gk : Nat) (vg vi : Value) (wq : World) : Prop :=
  ∃ k : Nat, k + gk = n ∧ vi = .int .i64 (k : Int) ∧ vg = .bool (g0 && (m.take k).all (fun q => q.x != x)) ∧ Below X.heap.size X wq
theorem all_nm (m : List Pa) (x : Int) : (m.map Pa.nm).all (fun q => q.x != x) = m.all (fun q => q.x != x) := by rw [List.all_map]; rfl
theorem good_nm (m : List Pa) (p : Pa) : goodF (m.map Pa.nm) p.nm = goodF m p := by
  unfold goodF
  rw [List.length_map, show p.nm.x = p.x from rfl, all_nm]
  congr 2
  cases m <;> rfl
theorem pick_nm (m : List Pa) (k : Nat) : pickL (m.map Pa.nm) k = pickL m k := by
  unfold pickL
  rw [List.filter_map, List.flatMap_map]; rfl
theorem txt_nm (m : List Pa) (k : Nat) : txtL (m.map Pa.nm) k = txtL m k := by
  unfold txtL
  congr 1
  funext j; exact pick_nm m j
theorem str_size (l : List UInt8) : (str l).size = l.length := by simp [str, ByteArray.size]
theorem add_str {P : Program} (a b : List UInt8) (h : a.length + b.length ≤ 9223372036854775807) (w : World) : (Op.stringOp .add (str a) (str b)).run P w = .ok (.string (str (a ++ b))) w := by
  rw [run_string_add_sum (P := P) (w := w) (str a) (str b) (by rw [str_size, str_size]; exact h)]
  congr 2
set_option maxRecDepth 20000 in
set_option maxHeartbeats 12800000 in
theorem walk_script (ao : Option Addr) (n cap : Nat) (xs : List Ac) (w : World) (ha : Acts w ao n cap xs) :
    Calls Try.prog 3 #[.slice ao n cap] w fun e w' => e = .returned (.bool true) ∧ Below w.heap.size w w' := by
  have HA := hide ha
  have hnc := ha.2.1
  have hcap : cap ≤ 9223372036854775807 := ha.2.2.1
  clear ha
  go_enter Try.func3, Try.ntmps3
  go_wp2_with fail
  refine (awake_any _).mono ?_; rintro e w1 ⟨rfl, b1⟩
  have HB1 := hide b1
  obtain ⟨g, hgg⟩ : ∃ g, w1.heap.size = g := ⟨_, rfl⟩
  obtain ⟨X, hX⟩ : ∃ X, w1.alloc (.cells #[.slice none 0 0] 27) = X := ⟨_, rfl⟩
  have bX : Below w1.heap.size w1 X := hX ▸ below_alloc w1 _
  have HSX : Hid (Sx w X g none 0 0 [] []) := by
    refine ⟨?_, tl_nil _ _, (fun _ h => by cases h), (fun _ h => by cases h), (fun h => by obtain ⟨_, e, _⟩ := h; cases e), below_one HB1.out bX, by rw [← hgg]; exact HB1.out.size⟩
    rw [← hX, ← hgg]; exact st_new w1 _
  clear b1 bX
  go_wp2_with fail
  go_loopg [4, 26] n (fun gk v4 vi wq => ScRel w g n gk v4 vi wq)
  case atStart => exact ⟨0, none, 0, 0, [], [], by omega, rfl, rfl, HSX.out, inv_nil, (fun _ h => by cases h), rl_nil⟩
  case round =>
    obtain ⟨i, oo, on, oc, Os, G, hi, rfl, rfl, sx, inv, t3, rl⟩ := hrel
    clear HSX hX hgg
    have HX := hide sx
    have HINV := hide inv
    have HT3 := hide t3
    have HRL := hide rl
    have HGL : Hid (G.length = on) := by show _ = _; rw [sx.len, ← absM_len, rl.len]
    clear sx inv t3 rl
    cases gk with
    | zero =>
      obtain rfl : i = n := by omega
      have hlt : ¬ ((i : Int) < (i : Int)) := by omega
      go_wp2_with fail
      refine (forget_any _ HX.out.st).mono ?_; rintro e w3 ⟨rfl, st3, ft3⟩
      have HS3 := hide st3
      have HB3 : Hid (Below w.heap.size w w3) := HX.out.bel.trans (ft3.below HX.out.bel.size (fun k e => by rw [e]; exact HX.out.gl))
      clear st3 ft3
      go_wp2_with fail
      refine (waiting_any _ HS3.out).mono ?_; rintro e w4 ⟨rfl, rfl⟩
      go_wp2
      go_ret
      exact ⟨rfl, HB3.out⟩
    | succ g1 =>
      have hin : i < n := by omega
      have hlt : (i : Int) < (n : Int) := by omega
      obtain ⟨ad, rfl⟩ : ∃ ad, ao = some ad := by
        cases ao with
        | none => have := HA.out.2.2.2.1 rfl; omega
        | some ad => exact ⟨ad, rfl⟩
      have hw0 := HA.out.2.2.2.2 ad rfl i hin
      obtain ⟨x, hx⟩ : ∃ x, xs.getD i Ac.zero = x := ⟨_, rfl⟩
      rw [hx] at hw0
      have HYH : Hid ((cmP x).has w) := hw0.2.1
      have HOK : Hid x.ok := hw0.1
      have bel := HX.out.bel
      obtain ⟨_, _, e0, e1, e2, e3⟩ := hw0.carry bel
      rw [addS _ 0] at e1
      rw [addS _ 1] at e2
      rw [addS _ 2] at e3
      obtain ⟨X1, hX1⟩ : ∃ X, wr.alloc (.cells #[.int .u8 (x.o : Nat), .int .i8 x.pg, .int .i8 x.pt, .slice x.so x.sn x.sc] 32) = X := ⟨_, rfl⟩
      have bX1 : Below wr.heap.size wr X1 := hX1 ▸ below_alloc wr _
      have hb := heap_alloc_new wr (.cells #[.int .u8 (x.o : Nat), .int .i8 x.pg, .int .i8 x.pt, .slice x.so x.sn x.sc] 32)
      rw [hX1] at hb
      have d0 : X1.cell? ⟨wr.heap.size, 0, none⟩ = some (.int .u8 (x.o : Nat)) := by rw [cell_of_row X1 _ 0 _ _ _ hb]; rfl
      have d1 : X1.cell? ⟨wr.heap.size, 1, none⟩ = some (.int .i8 x.pg) := by rw [cell_of_row X1 _ 1 _ _ _ hb]; rfl
      have d2 : X1.cell? ⟨wr.heap.size, 2, none⟩ = some (.int .i8 x.pt) := by rw [cell_of_row X1 _ 2 _ _ _ hb]; rfl
      have d3 : X1.cell? ⟨wr.heap.size, 3, none⟩ = some (.slice x.so x.sn x.sc) := by rw [cell_of_row X1 _ 3 _ _ _ hb]; rfl
      have HX1 := hide (HX.out.grow bX1)
      clear hw0 hx bel bX1 hb
      go_wp2_with fail
      refine (packet_any x _ HOK.out).mono ?_; rintro e w2 ⟨rfl, b2⟩
      obtain ⟨y, hy⟩ : ∃ y, cmP x = y := ⟨_, rfl⟩
      rw [hy] at HYH ⊢
      have HYY := hide hy
      have HX2 := hide (HX1.out.grow b2)
      obtain ⟨b, hbb⟩ : ∃ b, w2.heap.size = b := ⟨_, rfl⟩
      obtain ⟨X3, hX3⟩ : ∃ X, w2.alloc (.cells #[.int .i64 y.f, .int .i64 y.t, .int .u64 y.i, .int .i64 y.x, .int .i64 y.c, .slice y.so y.sn y.sc] 35) = X := ⟨_, rfl⟩
      have bX3 : Below w2.heap.size w2 X3 := hX3 ▸ below_alloc w2 _
      have HBX : Hid (BoxK X3 b y) := by show BoxK _ _ _; rw [← hX3, ← hbb]; exact boxK_new w2 y
      have HX3 := hide (HX2.out.grow bX3)
      have HBG : Hid (b ≠ g) := by show _ ≠ _; rw [← hbb]; have := HX2.out.st.lt; omega
      have HNB : Hid (¬ Bk oo b) := fun h => by have := HX2.out.bk b h; omega
      have q0 := HBX.out.c0
      have q1 := HBX.out.c1
      have q2 := HBX.out.c2
      have q3 := HBX.out.c3
      have q4 := HBX.out.c4
      have q5 := HBX.out.c5
      clear hy b2 bX3 e0 e1 e2 e3 d0 d1 d2 d3 hX1
      go_wp2_with fail
      refine (step_any _ y HX3.out.st HINV.out (fun k h => HX3.out.bk k h) (Bts.carry HYH.out HX3.out.bel) (fun hn ad e h => by have := Bts.lt HYH.out hn ad e; have := HX3.out.gl; omega)).mono ?_; rintro e w4 h4
      obtain ⟨ro, rc, rfl, B4, N4⟩ := h4.any
      obtain ⟨st4, ft4, _, _⟩ := h4
      obtain ⟨rn, hrn⟩ : ∃ rn, ((addF G y.nm).1.getD []).length = rn := ⟨_, rfl⟩
      obtain ⟨okb, hokb⟩ : ∃ okb, (addF G y.nm).1.isSome = okb := ⟨_, rfl⟩
      have HRN := hide hrn
      have HOKB := hide hokb
      have HBX4 : Hid (BoxK w4 b y) := (ft4.block b (lt_of_heap HBX.out) (fun e => HBG.out e)).trans HBX.out
      have HRD4 : Hid (Rd w w4 g b y ro rn rc ((addF G y.nm).1.getD []) oo on oc Os (addF G y.nm).2) := ⟨HX3.out.add st4 ft4, HBX4.out, HNB.out, by rw [← hrn]; exact B4, OffO.new N4 (fun k h => HX3.out.bk k h)⟩
      rw [hrn, hokb]
      have q0 := HBX4.out.c0
      have q1 := HBX4.out.c1
      have q2 := HBX4.out.c2
      have q3 := HBX4.out.c3
      have q4 := HBX4.out.c4
      have q5 := HBX4.out.c5
      have hsn : y.sn ≤ 9223372036854775807 := Nat.le_trans HYH.out.2.1 HYH.out.2.2.1
      clear hrn hokb st4 ft4 B4 N4 hX3 hbb
      go_wp2_with fail
      refine (may_any y _ hsn).mono ?_; rintro e w5 ⟨rfl, b5⟩
      have HRD5 := hide (HRD4.out.grow b5)
      have hrn := HRN.out
      clear q0 q1 q2 q3 q4 q5 b5
      cases hm : y.may with
      | false =>
        as_aux_lemma =>
          have HE : Hid (addF G y.nm = (none, G)) := by show _ = _; unfold addF; rw [if_neg (by rw [may_nm HYH.out, hm]; decide)]
          have hbl : ((addF G y.nm).1.getD []) = [] := by rw [HE.out]; rfl
          have hok : (addF G y.nm).1.isSome = false := by rw [HE.out]; rfl
          rw [hbl] at hrn
          obtain rfl : rn = 0 := hrn.symm
          obtain rfl : okb = false := by rw [← HOKB.out]; exact hok
          have HS5 : Hid (St w5 g (Bk oo) G) := by
            have := HRD5.out.sx.st
            rw [HE.out] at this; exact this
          clear hbl hok hrn
          go_wp2_with fail
          refine (waiting_any _ HS5.out).mono ?_; rintro e w6 ⟨rfl, rfl⟩
          rw [HGL.out]
          have HNX : Hid (Sx w w6 g oo on oc Os G) := by
            have := HRD5.out.sx
            rw [HE.out] at this; exact this
          clear HS5
          go_wp2
          go_roundg g1
          case measure => omega
          case rel => exact ⟨i + 1, oo, on, oc, Os, G, by omega, by go_num, rfl, HNX.out, HINV.out, HT3.out, HRL.out⟩
      | true =>
        have HM := hide hm
        clear hm hrn
        have HY3 : Hid (y.nm.t = 3) := by show _ = _; rw [← HYY.out]; rfl
        have hone : on ≤ 16 := by rw [← HGL.out]; exact HINV.out.few
        have hocn := HRD5.out.sx.row.row.2.1
        have hocm : oc ≤ 9223372036854775807 := HRD5.out.sx.row.row.2.2.1
        have HNE : Hid (∀ k, k < on → (Os.getD k Mg.zero).L ≠ []) := fun k hk e => by
          have h1 := HRL.out.perm k (by rw [HGL.out]; exact hk)
          rw [absM_get, e] at h1
          have h2 := (HINV.out.good _ (getG_mem G k (by rw [HGL.out]; exact hk))).some
          exact h2 (List.Perm.nil_eq h1).symm
        have HIS : Hid (∀ k, k < on → isOf ((rawM Os).getD k []) y = (hd (G.getD k [])).with y.nm) := fun k hk => by
          rw [← rl_is HRL.out HINV.out HT3.out HY3.out k (by rw [HGL.out]; exact hk), getM_L, absM_get, isOf_nm]
        go_wp2_with fail
        go_loopg [10, 56] on (fun gk va vi wq => FdR w5 Os y on gk va vi wq)
        case atStart => exact ⟨0, by omega, rfl, .inl ⟨rfl, fun j hj => by omega⟩, Below.refl _ _⟩
        case round =>
          rename World => wz
          obtain ⟨k, hk, rfl, hva, b⟩ := hrel
          have HVA := hide hva
          have HB := hide b
          clear hva b
          cases gk with
          | zero =>
            obtain rfl : k = on := by omega
            have hlt : ¬ ((k : Int) < (k : Int)) := by omega
            have HRZ := hide (HRD5.out.grow HB.out)
            have HFI : Hid ((∃ f : Nat, u10 = .int .i64 (f : Int) ∧ fndF G y.nm = f ∧ f < G.length) ∨ (u10 = .int .i64 (-1) ∧ ¬ fndF G y.nm < G.length)) := by
              rcases HVA.out with ⟨rfl, h⟩ | ⟨f, hf, rfl, h⟩
              · refine .inr ⟨rfl, ?_⟩
                rw [fnd_none (fun j hj => ?_)]
                · omega
                · rw [← HIS.out j (by rw [← HGL.out]; exact hj)]; exact h j (by rw [← HGL.out]; exact hj)
              · have hfl : f < G.length := by rw [HGL.out]; exact hf
                exact .inl ⟨f, rfl, inv_fnd HINV.out hfl (by rw [← HIS.out f hf]; exact h), hfl⟩
            clear HVA
            obtain ⟨R, rfl, hR⟩ : ∃ R : Int, u10 = .int .i64 R ∧ ((∃ f : Nat, R = (f : Int) ∧ fndF G y.nm = f ∧ f < G.length) ∨ (R = -1 ∧ ¬ fndF G y.nm < G.length)) := by
              rcases HFI.out with ⟨f, h1, h2⟩ | ⟨h1, h2⟩
              · exact ⟨_, h1, .inl ⟨f, rfl, h2⟩⟩
              · exact ⟨_, h1, .inr ⟨rfl, h2⟩⟩
            have HFI := hide hR
            clear hR
            go_upto_if 84 with fail
            go_cut [4, 10] from 27 to 211 (fun v4 va wx => MdR w g b y ro rn rc ((addF G y.nm).1.getD []) G (addF G y.nm).2 v4 va wx)
            case first =>
              as_aux_lemma =>
                clear HIS HNE
                rcases HFI.out with ⟨f, rfl, hf, hfl⟩ | ⟨rfl, hnf⟩
                · have hneg : ¬ ((f : Int) < 0) := by omega
                  have HF := hide (And.intro hf hfl)
                  clear hf hfl HFI
                  go_wp2
                  go_meet
                  refine ⟨oo, k, oc, Os, f, rfl, rfl, HRZ.out, ?_, ?_⟩
                  · unfold opnF; rw [if_pos (by rw [HF.out.1]; exact HF.out.2)]; exact HRL.out
                  · unfold atF; rw [if_pos (by rw [HF.out.1]; exact HF.out.2), HF.out.1]
                · have HNF := hide hnf
                  clear hnf HFI
                  by_cases h16 : k = 16
                  · have h16i : ((k : Int) == 16) = true := by rw [h16]; rfl
                    have hcut := fun W : World => cutG_tail Try.underlying28 Try.sizeOfO W oo k oc 1 (by omega)
                    rw [Int.natCast_one] at hcut
                    have hrd := HRZ.out.cut (by omega)
                    obtain ⟨ta, hta⟩ : ∃ a, tailG 1 oo 1 oc = a := ⟨_, rfl⟩
                    obtain ⟨tn, htn⟩ : ∃ a, k - 1 = a := ⟨_, rfl⟩
                    obtain ⟨tc, htc⟩ : ∃ a, oc - 1 = a := ⟨_, rfl⟩
                    rw [hta, htn, htc] at hcut hrd
                    have HSM : Hid (stayM Os = Os.drop 1) := by show _ = _; unfold stayM; rw [if_pos (by have := HRZ.out.sx.len; omega)]
                    have htnb : tn ≤ 15 := by omega
                    have htcm : tc ≤ 9223372036854775807 := by omega
                    clear hta htc htn h16
                    obtain ⟨bo, c2, w7, hr, rd7⟩ := hrd.app (ty := 28) (by omega)
                    have HR := hide hr
                    have HRD7 := hide rd7
                    have hsb : tn ≤ 16 := by omega
                    clear hr rd7 hrd
                    go_wp2_with (at_builtin; refine wpList_append_run rfl _ _ _ rfl _ _ _ _ rfl rfl HR.out ?_)
                    go_wp2
                    go_meet
                    refine ⟨bo, tn + 1, c2, stayM Os ++ [Mg.zero], tn, rfl, by go_num, by rw [HSM.out]; exact HRD7.out, ?_, ?_⟩
                    · rw [stay_abs]
                      unfold opnF
                      rw [if_neg HNF.out]
                      exact HRL.out.stay.snoc (List.Perm.refl _)
                    · unfold atF
                      rw [if_neg HNF.out, ← HRL.out.stay.len, stay_abs_len, HSM.out]
                      have := HRD7.out.sx.len
                      rw [List.length_append, List.length_singleton] at this
                      omega
                  · have h16i : ((k : Int) == 16) = false := by simp; omega
                    have HSM : Hid (stayM Os = Os) := by show _ = _; unfold stayM; rw [if_neg (by have := HRZ.out.sx.len; omega)]
                    clear h16
                    obtain ⟨bo, c2, w7, hr, rd7⟩ := HRZ.out.app (ty := 28) (by omega)
                    have HR := hide hr
                    have HRD7 := hide rd7
                    have hsb : k ≤ 16 := by omega
                    clear hr rd7
                    go_wp2_with (at_builtin; refine wpList_append_run rfl _ _ _ rfl _ _ _ _ rfl rfl HR.out ?_)
                    go_wp2
                    go_meet
                    refine ⟨bo, k + 1, c2, stayM Os ++ [Mg.zero], k, rfl, by go_num, by rw [HSM.out]; exact HRD7.out, ?_, ?_⟩
                    · rw [stay_abs]
                      unfold opnF
                      rw [if_neg HNF.out]
                      exact HRL.out.stay.snoc (List.Perm.refl _)
                    · unfold atF
                      rw [if_neg HNF.out, ← HRL.out.stay.len, stay_abs_len, HSM.out]
                      have := HRD7.out.sx.len
                      rw [List.length_append, List.length_singleton] at this
                      omega
            case rest =>
              clear HFI HIS HNE HRZ HRD5 HRD4
              obtain ⟨oo2, on2, oc2, Os2, at1, rfl, rfl, rd, rl2, hat⟩ := hcut
              rename World => wc2
              have HRD := hide rd
              have HRL2 := hide rl2
              have HAT := hide hat
              have hal : at1 < on2 := by
                have h1 := rl2.len
                rw [absM_len, ← rd.sx.len] at h1
                rw [hat, h1]; exact atF_lt G y.nm
              have hon : on2 ≤ 17 := by
                have h1 := rl2.len
                rw [absM_len, ← rd.sx.len] at h1
                rw [h1]
                have := HINV.out.few
                unfold opnF; split
                · omega
                · have := stay_len G HINV.out.few
                  rw [List.length_append, List.length_singleton]; omega
              have hali : (at1 : Int) < (on2 : Int) := by omega
              have hocn2 := rd.sx.row.row.2.1
              have hocm2 : oc2 ≤ 9223372036854775807 := rd.sx.row.row.2.2.1
              obtain ⟨ar, rfl⟩ := rd.sx.row.row.there (k := at1) hal
              have c1 := fun q => (rd.sx.grow (below_d wc2 q)).elem at1 hal
              have hmem := getM_mem Os2 at1 (by rw [← rd.sx.len]; exact hal)
              have hP := rd.sx.has _ hmem
              have hper : ((Os2.getD at1 Mg.zero).L.map Pa.nm).Perm (ofF G y.nm) := by
                have := rl2.perm at1 (by rw [hat]; exact atF_lt G y.nm)
                rw [absM_get] at this
                unfold ofF; rw [← hat]; exact this
              have HMEM := hide hmem
              obtain ⟨m, hm⟩ : ∃ m, Os2.getD at1 Mg.zero = m := ⟨_, rfl⟩
              have HMM := hide hm
              rw [hm] at c1 hP hper HMEM
              obtain ⟨ma, mn, mc, mL⟩ := m
              simp only at c1 hP hper
              have HPM := hide hP
              have HPER := hide hper
              have hml : mn = mL.length := hP.len
              have HML := hide hml
              have hmb : mn ≤ 256 := by
                have h1 := hper.length_eq
                rw [List.length_map, ← hml] at h1
                rcases HINV.out.of y.nm with h2 | h2
                · rw [h1, h2]; simp
                · rw [h1]; exact h2.few
              have hmcn := hP.1.2.1
              have hmcm : mc ≤ 9223372036854775807 := hP.1.2.2.1
              obtain ⟨g0, hg0⟩ : ∃ g0, (decide (mL.length = 0) || (hd mL).c == y.c) = g0 := ⟨_, rfl⟩
              have HG0 := hide hg0
              have p4 := fun q => (rd.box.six (below_d wc2 q)).2.2.2.2.1
              clear rd rl2 hat hmem hm hP hper hg0
              go_upto_region 25 with fail
              go_cut [12] from 27 to 211 (fun v wx => IsV g0 wc2 v wx)
              case first =>
                as_aux_lemma =>
                  by_cases hz : mn = 0
                  · have hzi : ((mn : Int) == 0) = true := by rw [hz]; rfl
                    have HT : Hid (g0 = true) := by show _ = _; rw [← HG0.out, decide_eq_true (by omega)]; rfl
                    clear hz hml
                    go_quiet (fail)
                    go_wp2
                    go_meet
                    exact ⟨by rw [HT.out], below_d wc2 _⟩
                  · have hzi : ((mn : Int) == 0) = false := by simp; omega
                    have hm0 : 0 < mn := by omega
                    have hmp : (0 : Int) < (mn : Int) := by omega
                    obtain ⟨ae, rfl⟩ := HPM.out.there (k := 0) hm0
                    obtain ⟨q, hq⟩ : ∃ q, hd mL = q := ⟨_, rfl⟩
                    have f4 := fun j => ((HPM.out.carry (below_d wc2 j)).six0 (Below.refl _ _) hm0 q hq).2.2.2.2.1
                    have HT : Hid (g0 = (q.c == y.c)) := by show _ = _; rw [← HG0.out, decide_eq_false (by omega), Bool.false_or, hq]
                    clear hml hq
                    cases hc : (q.c == y.c) with
                    | true =>
                      go_quiet (fail)
                      go_wp2
                      go_meet
                      exact ⟨by rw [HT.out, hc], below_d wc2 _⟩
                    | false =>
                      go_quiet (fail)
                      go_wp2
                      go_meet
                      exact ⟨by rw [HT.out, hc], below_d wc2 _⟩
              case rest =>
                obtain ⟨rfl, bd⟩ := hcut
                rename World => wd
                have HRDd := hide (HRD.out.grow bd)
                have HPMd := hide (HPM.out.carry bd)
                have cd := HRDd.out.sx.elem at1 hal
                rw [HMM.out] at cd
                simp only at cd
                clear bd c1 p4 HRD HPM hml
                go_wp2_with fail
                go_loopg [12, 119] mn (fun gk vg vi wq => GdR wd g0 mL y.x mn gk vg vi wq)
                case atStart => exact ⟨0, by omega, rfl, by simp, Below.refl _ _⟩
                case round =>
                  rename World => we
                  obtain ⟨k2, hk2, rfl, rfl, be⟩ := hrel
                  have HBE := hide be
                  obtain ⟨cb, hcb⟩ : ∃ cb, (g0 && (mL.take k2).all (fun q => q.x != y.x)) = cb := ⟨_, rfl⟩
                  rw [hcb]
                  have HCB := hide hcb
                  clear be hcb cd
                  cases gk with
                  | zero =>
                    obtain rfl : k2 = mn := by omega
                    have hlt : ¬ ((k2 : Int) < (k2 : Int)) := by omega
                    have HGB : Hid (okW (ofF G y.nm) y.nm = cb) := by
                      show _ = _
                      rw [← good_eq HPER.out (HINV.out.of y.nm), good_nm, ← HCB.out]
                      unfold goodF
                      rw [HG0.out, List.take_of_length_le (by have := HML.out; omega)]
                    have HRDe := hide (HRDd.out.grow HBE.out)
                    have HPMe := hide (HPMd.out.carry HBE.out)
                    clear HCB HG0 HRDd HPMd HBE
                    cases cb with
                    | false =>
                      as_aux_lemma =>
                        have HE : Hid (addF G y.nm = (none, opnF G y.nm)) := by
                          show _ = _
                          unfold addF
                          rw [if_pos (by rw [may_nm HYH.out]; exact HM.out), if_neg (by rw [HGB.out]; decide)]
                        have hokb := HOKB.out
                        have hrn := HRN.out
                        rw [HE.out] at hokb hrn
                        obtain rfl : okb = false := hokb.symm
                        obtain rfl : rn = 0 := hrn.symm
                        have HGL2 : Hid ((opnF G y.nm).length = on2) := by show _ = _; rw [← HRL2.out.len, absM_len, ← HRDe.out.sx.len]
                        clear hokb hrn
                        go_wp2_with fail
                        go_quiet (fail)
                        generalize hV : World.drewN we _ = V
                        have HSV : Hid (Sx w V g (some ar) on2 oc2 Os2 (opnF G y.nm)) := by
                          have := HRDe.out.sx.grow (hV ▸ below_d we _)
                          rw [HE.out] at this; exact this
                        clear HRDe hV HPMe
                        go_wp2_with fail
                        refine (waiting_any _ HSV.out.st).mono ?_; rintro e w8 ⟨rfl, rfl⟩
                        rw [HGL2.out]
                        go_wp2
                        go_roundg g1
                        case measure => omega
                        case rel =>
                          have hi2 := HINV.out.add y.nm
                          have ht2 := HT3.out.add HY3.out
                          rw [HE.out] at hi2 ht2
                          exact ⟨i + 1, _, on2, oc2, Os2, _, by omega, by go_num, rfl, HSV.out, hi2, ht2, HRL2.out⟩
                    | true =>
                      go_upto_region 32 with fail
                      go_cut [] from 27 to 211 (fun wx => SetR w g b y ro rn rc ((addF G y.nm).1.getD []) (some ar) on2 oc2 Os2 at1 k2 mL (addF G y.nm).2 wx)
                      case first =>
                        have HRV := hide (HRDe.out.grow (below_d we 1))
                        have hPV : Pks we.drew ma k2 mc mL := HPMe.out.carry (below_d we 1)
                        have hyV : y.has we.drew := Bts.carry HYH.out HRV.out.sx.bel
                        obtain ⟨va1, wa1, na, nc, wa2, ra1, ba1, ra2, NA⟩ := apps_a hPV hyV (by omega)
                        obtain ⟨vb1, wb1, nb, nd, wb2, rb1, bb1, rb2, NB⟩ := apps_b hPV hyV (by omega)
                        have hcell : ∀ W : World, Below we.drew.heap.size we.drew W → W.cell? (ar.add at1) = some (.slice ma k2 mc) ∧ (W.cell? ⟨b, 0, none⟩ = some (.int .i64 y.f) ∧ W.cell? ⟨b, 1, none⟩ = some (.int .i64 y.t) ∧ W.cell? ⟨b, 2, none⟩ = some (.int .u64 y.i) ∧ W.cell? ⟨b, 3, none⟩ = some (.int .i64 y.x) ∧ W.cell? ⟨b, 4, none⟩ = some (.int .i64 y.c) ∧ W.cell? ⟨b, 5, none⟩ = some (.slice y.so y.sn y.sc)) := fun W bw => by
                          have h1 := (HRV.out.sx.grow bw).elem at1 hal
                          rw [HMM.out] at h1
                          exact ⟨h1, HRV.out.box.six bw⟩
                        have HENDA := hide (HRV.out.set rfl at1 hal NA.b ⟨na, k2 + 1, nc, mL ++ [y]⟩ NA.pks (HRV.out.far_new HMEM.out HYH.out NA))
                        have HENDB := hide (HRV.out.set rfl at1 hal NB.b ⟨nb, k2 + 1, nd, mL ++ [y]⟩ NB.pks (HRV.out.far_new HMEM.out HYH.out NB))
                        have hfa := (HRV.out.sx.set rfl at1 hal NA.b ⟨na, k2 + 1, nc, mL ++ [y]⟩ NA.pks (HRV.out.far_new HMEM.out HYH.out NA)).2.1
                        have hfb := (HRV.out.sx.set rfl at1 hal NB.b ⟨nb, k2 + 1, nd, mL ++ [y]⟩ NB.pks (HRV.out.far_new HMEM.out HYH.out NB)).2.1
                        have hca := (hcell wa2 NA.b).1
                        have hcb := (hcell wb2 NB.b).1
                        have HC0 := hide (hcell we.drew (Below.refl _ _))
                        have HCA1 := hide (hcell wa1 ba1)
                        have HCA2 := hide (hcell (wa1.alloc (.cells #[.int .i64 y.f, .int .i64 y.t, .int .u64 y.i, .int .i64 y.x, .int .i64 y.c, .slice y.so y.sn y.sc] 35)) (below_one ba1 (below_alloc _ _)))
                        have HCA3 := hide (hcell wa2 NA.b)
                        have HCB1 := hide (hcell (we.drew.alloc (.cells #[.int .i64 y.f, .int .i64 y.t, .int .u64 y.i, .int .i64 y.x, .int .i64 y.c, .slice y.so y.sn y.sc] 35)) (below_alloc _ _))
                        have HCB2 := hide (hcell wb1 bb1)
                        have HCB3 := hide (hcell wb2 NB.b)
                        have HRA1 := hide ra1
                        have HRA2 := hide ra2
                        have HRB1 := hide rb1
                        have HRB2 := hide rb2
                        clear hPV hyV ra1 ba1 ra2 NA rb1 bb1 rb2 NB hcell
                        refine region_till (fun W => W.cell? (ar.add at1) = some (.slice ma k2 mc) ∧ (W.cell? ⟨b, 0, none⟩ = some (.int .i64 y.f) ∧ W.cell? ⟨b, 1, none⟩ = some (.int .i64 y.t) ∧ W.cell? ⟨b, 2, none⟩ = some (.int .u64 y.i) ∧ W.cell? ⟨b, 3, none⟩ = some (.int .i64 y.x) ∧ W.cell? ⟨b, 4, none⟩ = some (.int .i64 y.c) ∧ W.cell? ⟨b, 5, none⟩ = some (.slice y.so y.sn y.sc))) 11 (by kernel_rfl) ?_
                        refine till_take [0, 11] (i := 0) (oi := { dst := some 133, op := Op.move (Operand.tmp 4), type := 28, pos := "law.go:69", after := #[], guard := none }) (v := (.slice (some ar) on2 oc2)) rfl (by kernel_rfl) (by kernel_rfl) (by kernel_rfl) (by kernel_rfl) (fun _ _ _ h => h) (Or.inl ⟨by kernel_rfl, fun w hC => by go_simp⟩) HC0.out ?_
                        simp only [Act.put, List.setIfInBounds_toArray, List.set_cons_zero, List.set_cons_succ]
                        refine till_take [1, 11] (i := 1) (oi := { dst := some 134, op := Op.move (Operand.tmp 10), type := 3, pos := "law.go:69", after := #[], guard := none }) (v := (.int .i64 (at1 : Int))) rfl (by kernel_rfl) (by kernel_rfl) (by kernel_rfl) (by kernel_rfl) (fun _ _ _ h => h) (Or.inl ⟨by kernel_rfl, fun w hC => by go_simp⟩) HC0.out ?_
                        simp only [Act.put, List.setIfInBounds_toArray, List.set_cons_zero, List.set_cons_succ]
                        refine till_take [2, 11] (i := 2) (oi := { dst := some 135, op := Op.move (Operand.tmp 4), type := 28, pos := "law.go:69", after := #[], guard := none }) (v := (.slice (some ar) on2 oc2)) rfl (by kernel_rfl) (by kernel_rfl) (by kernel_rfl) (by kernel_rfl) (fun _ _ _ h => h) (Or.inl ⟨by kernel_rfl, fun w hC => by go_simp⟩) HC0.out ?_
                        simp only [Act.put, List.setIfInBounds_toArray, List.set_cons_zero, List.set_cons_succ]
                        refine till_take [3, 11] (i := 3) (oi := { dst := some 136, op := Op.move (Operand.tmp 10), type := 3, pos := "law.go:69", after := #[], guard := none }) (v := (.int .i64 (at1 : Int))) rfl (by kernel_rfl) (by kernel_rfl) (by kernel_rfl) (by kernel_rfl) (fun _ _ _ h => h) (Or.inl ⟨by kernel_rfl, fun w hC => by go_simp⟩) HC0.out ?_
                        simp only [Act.put, List.setIfInBounds_toArray, List.set_cons_zero, List.set_cons_succ]
                        refine till_take [4, 11] (i := 4) (oi := { dst := some 137, op := Op.indexAddr 28 (Operand.tmp 135) (Operand.tmp 136), type := 0, pos := "law.go:69", after := #[{ on := 2, ground := Ground.data }, { on := 3, ground := Ground.data }], guard := none }) (v := (.pointer (some (ar.add at1)))) rfl (by kernel_rfl) (by kernel_rfl) (by kernel_rfl) (by kernel_rfl) (fun _ _ _ h => h) (Or.inl ⟨by kernel_rfl, fun w hC => by go_simp⟩) HC0.out ?_
                        simp only [Act.put, List.setIfInBounds_toArray, List.set_cons_zero, List.set_cons_succ]
                        refine till_take [5, 11] (i := 5) (oi := { dst := some 138, op := Op.load 41 (Operand.tmp 137), type := 41, pos := "law.go:69", after := #[{ on := 4, ground := Ground.data }], guard := none }) (v := (.slice ma k2 mc)) rfl (by kernel_rfl) (by kernel_rfl) (by kernel_rfl) (by kernel_rfl) (fun _ _ _ h => h) (Or.inl ⟨by kernel_rfl, fun w hC => by (obtain ⟨k1, k2⟩ := hC; go_simp)⟩) HC0.out ?_
                        simp only [Act.put, List.setIfInBounds_toArray, List.set_cons_zero, List.set_cons_succ]
                        refine till_take [7, 11] (i := 7) (oi := { dst := some 140, op := Op.load 35 (Operand.tmp 7), type := 35, pos := "law.go:69", after := #[], guard := none }) (v := (.agg #[.int .i64 y.f, .int .i64 y.t, .int .u64 y.i, .int .i64 y.x, .int .i64 y.c, .slice y.so y.sn y.sc])) rfl (by kernel_rfl) (by kernel_rfl) (by kernel_rfl) (by kernel_rfl) (fun _ _ _ h => h) (Or.inl ⟨by kernel_rfl, fun w hC => by (obtain ⟨k1, k2, k3, k4, k5, k6, k7⟩ := hC; go_simp)⟩) HC0.out ?_
                        simp only [Act.put, List.setIfInBounds_toArray, List.set_cons_zero, List.set_cons_succ]
                        refine till_ready (rs := [6, 8]) (by kernel_rfl) (by simp) ?_
                        refine AllTill.cons (o := { dst := some 139, op := Op.call { callee := Callee.builtin Builtin.append, args := #[Operand.const (Value.slice none 0 0), Operand.tmp 138], argTypes := #[41, 41] }, type := 41, pos := "law.go:69", after := #[{ on := 5, ground := Ground.data }], guard := none }) rfl (fun K hK => ?_) (AllTill.cons (o := { dst := some 141, op := Op.buildSlice 41 1 #[(0, Operand.tmp 140)], type := 41, pos := "law.go:69", after := #[{ on := 7, ground := Ground.data }], guard := none }) rfl (fun K hK => ?_) AllTill.nil)
                        · refine step_run rfl _ _ _ rfl (.slice none 0 0) (.slice ma k2 mc) va1 wa1 rfl rfl HRA1.out ?_
                          refine hK.out _ _ (fun _ => HCA1.out) ?_
                          simp only [Act.put, List.setIfInBounds_toArray, List.set_cons_zero, List.set_cons_succ]
                          refine till_ready (rs := [8]) (by kernel_rfl) (by simp) ?_
                          refine AllTill.cons (o := { dst := some 141, op := Op.buildSlice 41 1 #[(0, Operand.tmp 140)], type := 41, pos := "law.go:69", after := #[{ on := 7, ground := Ground.data }], guard := none }) rfl (fun K hK => ?_) AllTill.nil
                          go_simp
                          refine hK.out _ _ (fun _ => HCA2.out) ?_
                          change Till _ _ _ _ _ _ _ _ _ (World.alloc wa1 (.cells #[.int .i64 y.f, .int .i64 y.t, .int .u64 y.i, .int .i64 y.x, .int .i64 y.c, .slice y.so y.sn y.sc] 35))
                          refine till_ready (rs := [9]) (by kernel_rfl) (by simp) ?_
                          refine AllTill.cons (o := { dst := some 142, op := Op.call { callee := Callee.builtin Builtin.append, args := #[Operand.tmp 139, Operand.tmp 141], argTypes := #[41, 41] }, type := 41, pos := "law.go:69", after := #[{ on := 6, ground := Ground.data }, { on := 8, ground := Ground.data }, { on := 6, ground := Ground.chain }], guard := none }) rfl (fun K hK => ?_) AllTill.nil
                          refine step_run rfl _ _ _ rfl va1 (.slice (some ⟨(World.heap wa1).size, 0, none⟩) 1 1) (.slice na (k2 + 1) nc) wa2 rfl rfl HRA2.out ?_
                          refine hK.out _ _ (fun _ => HCA3.out) ?_
                          simp only [Act.put, List.setIfInBounds_toArray, List.set_cons_zero, List.set_cons_succ]
                          refine till_ready (rs := [10]) (by kernel_rfl) (by simp) ?_
                          refine AllTill.cons (o := { dst := some 143, op := Op.indexAddr 28 (Operand.tmp 133) (Operand.tmp 134), type := 0, pos := "law.go:69", after := #[{ on := 0, ground := Ground.data }, { on := 1, ground := Ground.data }, { on := 0, ground := Ground.phase }, { on := 1, ground := Ground.phase }, { on := 2, ground := Ground.phase }, { on := 3, ground := Ground.phase }, { on := 4, ground := Ground.phase }, { on := 5, ground := Ground.phase }, { on := 6, ground := Ground.phase }, { on := 7, ground := Ground.phase }, { on := 8, ground := Ground.phase }, { on := 9, ground := Ground.phase }], guard := none }) rfl (fun K hK => ?_) AllTill.nil
                          go_simp
                          refine hK.out _ _ (fun _ => HCA3.out) ?_
                          refine till_ready (rs := [11]) (by kernel_rfl) (by simp) ?_
                          refine AllTill.cons (o := { dst := none, op := Op.store 41 (Operand.tmp 143) (Operand.tmp 142), type := 0, pos := "law.go:69", after := #[{ on := 10, ground := Ground.data }, { on := 9, ground := Ground.data }, { on := 9, ground := Ground.chain }, { on := 0, ground := Ground.phase }, { on := 1, ground := Ground.phase }, { on := 2, ground := Ground.phase }, { on := 3, ground := Ground.phase }, { on := 4, ground := Ground.phase }, { on := 5, ground := Ground.phase }, { on := 6, ground := Ground.phase }, { on := 7, ground := Ground.phase }, { on := 8, ground := Ground.phase }, { on := 9, ground := Ground.phase }], guard := none }) rfl (fun K hK => ?_) AllTill.nil
                          go_simp
                          refine hK.out _ _ (fun h => absurd h (by decide)) ?_
                          refine till_done (by kernel_rfl) ?_ _
                          go_wp2_with fail
                          go_meet
                          exact ⟨na, nc, HENDA.out⟩
                        · go_simp
                          refine hK.out _ _ (fun _ => HCB1.out) ?_
                          change Till _ _ _ _ _ _ _ _ _ (World.alloc (World.drew we) (.cells #[.int .i64 y.f, .int .i64 y.t, .int .u64 y.i, .int .i64 y.x, .int .i64 y.c, .slice y.so y.sn y.sc] 35))
                          refine till_ready (rs := [6]) (by kernel_rfl) (by simp) ?_
                          refine AllTill.cons (o := { dst := some 139, op := Op.call { callee := Callee.builtin Builtin.append, args := #[Operand.const (Value.slice none 0 0), Operand.tmp 138], argTypes := #[41, 41] }, type := 41, pos := "law.go:69", after := #[{ on := 5, ground := Ground.data }], guard := none }) rfl (fun K hK => ?_) AllTill.nil
                          refine step_run rfl _ _ _ rfl (.slice none 0 0) (.slice ma k2 mc) vb1 wb1 rfl rfl HRB1.out ?_
                          refine hK.out _ _ (fun _ => HCB2.out) ?_
                          simp only [Act.put, List.setIfInBounds_toArray, List.set_cons_zero, List.set_cons_succ]
                          refine till_ready (rs := [9]) (by kernel_rfl) (by simp) ?_
                          refine AllTill.cons (o := { dst := some 142, op := Op.call { callee := Callee.builtin Builtin.append, args := #[Operand.tmp 139, Operand.tmp 141], argTypes := #[41, 41] }, type := 41, pos := "law.go:69", after := #[{ on := 6, ground := Ground.data }, { on := 8, ground := Ground.data }, { on := 6, ground := Ground.chain }], guard := none }) rfl (fun K hK => ?_) AllTill.nil
                          refine step_run rfl _ _ _ rfl vb1 (.slice (some ⟨(World.heap (World.drew we)).size, 0, none⟩) 1 1) (.slice nb (k2 + 1) nd) wb2 rfl rfl HRB2.out ?_
                          refine hK.out _ _ (fun _ => HCB3.out) ?_
                          simp only [Act.put, List.setIfInBounds_toArray, List.set_cons_zero, List.set_cons_succ]
                          refine till_ready (rs := [10]) (by kernel_rfl) (by simp) ?_
                          refine AllTill.cons (o := { dst := some 143, op := Op.indexAddr 28 (Operand.tmp 133) (Operand.tmp 134), type := 0, pos := "law.go:69", after := #[{ on := 0, ground := Ground.data }, { on := 1, ground := Ground.data }, { on := 0, ground := Ground.phase }, { on := 1, ground := Ground.phase }, { on := 2, ground := Ground.phase }, { on := 3, ground := Ground.phase }, { on := 4, ground := Ground.phase }, { on := 5, ground := Ground.phase }, { on := 6, ground := Ground.phase }, { on := 7, ground := Ground.phase }, { on := 8, ground := Ground.phase }, { on := 9, ground := Ground.phase }], guard := none }) rfl (fun K hK => ?_) AllTill.nil
                          go_simp
                          refine hK.out _ _ (fun _ => HCB3.out) ?_
                          refine till_ready (rs := [11]) (by kernel_rfl) (by simp) ?_
                          refine AllTill.cons (o := { dst := none, op := Op.store 41 (Operand.tmp 143) (Operand.tmp 142), type := 0, pos := "law.go:69", after := #[{ on := 10, ground := Ground.data }, { on := 9, ground := Ground.data }, { on := 9, ground := Ground.chain }, { on := 0, ground := Ground.phase }, { on := 1, ground := Ground.phase }, { on := 2, ground := Ground.phase }, { on := 3, ground := Ground.phase }, { on := 4, ground := Ground.phase }, { on := 5, ground := Ground.phase }, { on := 6, ground := Ground.phase }, { on := 7, ground := Ground.phase }, { on := 8, ground := Ground.phase }, { on := 9, ground := Ground.phase }], guard := none }) rfl (fun K hK => ?_) AllTill.nil
                          go_simp
                          refine hK.out _ _ (fun h => absurd h (by decide)) ?_
                          refine till_done (by kernel_rfl) ?_ _
                          go_wp2_with fail
                          go_meet
                          exact ⟨nb, nd, HENDB.out⟩
                      case rest =>
                        obtain ⟨na, nc, rdf⟩ := hcut
                        rename World => wf
                        have HRDf := hide rdf
                        clear rdf HRDe HPMe
                        have HLEN3 : Hid ((Os2.set at1 ⟨na, k2 + 1, nc, mL ++ [y]⟩).getD at1 Mg.zero = ⟨na, k2 + 1, nc, mL ++ [y]⟩) := by
                          show _ = _
                          have := HRDf.out.sx.len
                          rw [List.length_set] at this
                          rw [List.getD_eq_getElem?_getD, List.getElem?_set_self (by omega)]; rfl
                        have HOFL : Hid ((ofF G y.nm).length = k2) := by show _ = _; rw [← HPER.out.length_eq, List.length_map]; exact HML.out.symm
                        have cf := fun q => (HRDf.out.sx.grow (below_d wf q)).elem at1 hal
                        rw [HLEN3.out] at cf
                        simp only at cf
                        have pf4 := fun q => (HRDf.out.box.six (below_d wf q)).2.2.2.2.1
                        obtain ⟨cN, hcN⟩ : ∃ c, k2 + 1 = c := ⟨_, rfl⟩
                        have HPE : Hid (((mL ++ [y]).map Pa.nm).Perm (insF (ofF G y.nm) y.nm)) := by
                          show List.Perm _ _
                          rw [List.map_append]
                          refine (List.perm_append_comm.trans ?_).trans (ins_perm (ofF G y.nm) y.nm).symm
                          exact List.Perm.cons _ HPER.out
                        have HRL3 : Hid (Rl (absM (Os2.set at1 ⟨na, k2 + 1, nc, mL ++ [y]⟩)) ((opnF G y.nm).set at1 (insF (ofF G y.nm) y.nm))) := by
                          have := HRL2.out.set at1 HPE.out
                          unfold absM at this ⊢
                          rw [List.map_set]; exact this
                        have HJB : Hid (joinB (insF (ofF G y.nm) y.nm) = decide (((cN : Nat) : Int) = y.c)) := by
                          show _ = _
                          rw [HINV.out.whole (by rw [may_nm HYH.out]; exact HM.out) HGB.out, HOFL.out, ← hcN]; rfl
                        have HMN : Hid (y.nm.may = true) := by show _ = _; rw [may_nm HYH.out]; exact HM.out
                        rw [hcN] at cf
                        have HCN := hide hcN
                        have hcb : cN ≤ 257 := by omega
                        cases hw : (((cN : Nat) : Int) == y.c) with
                        | false =>
                          have hjf : joinB (insF (ofF G y.nm) y.nm) = false := by
                            rw [HJB.out]; simpa using hw
                          have HE : Hid (addF G y.nm = (none, (opnF G y.nm).set at1 (insF (ofF G y.nm) y.nm))) := by
                            show _ = _
                            unfold addF
                            rw [if_pos HMN.out, if_pos HGB.out, if_neg (by rw [hjf]; decide), HAT.out]
                          as_aux_lemma =>
                            have hokb := HOKB.out
                            have hrn := HRN.out
                            rw [HE.out] at hokb hrn
                            obtain rfl : okb = false := hokb.symm
                            obtain rfl : rn = 0 := hrn.symm
                            have HGL2 : Hid (((opnF G y.nm).set at1 (insF (ofF G y.nm) y.nm)).length = on2) := by show _ = _; rw [← HRL3.out.len, absM_len, ← HRDf.out.sx.len]
                            clear hokb hrn hjf hcN
                            go_wp2_with fail
                            go_quiet (fail)
                            generalize hV : World.drewN wf _ = V
                            have HSV : Hid (Sx w V g (some ar) on2 oc2 (Os2.set at1 ⟨na, k2 + 1, nc, mL ++ [y]⟩) ((opnF G y.nm).set at1 (insF (ofF G y.nm) y.nm))) := by
                              have := HRDf.out.sx.grow (hV ▸ below_d wf _)
                              rw [HE.out] at this; exact this
                            clear HRDf hV cf pf4
                            go_wp2_with fail
                            refine (waiting_any _ HSV.out.st).mono ?_; rintro e w8 ⟨rfl, rfl⟩
                            rw [HGL2.out]
                            go_wp2
                            go_roundg g1
                            case measure => omega
                            case rel =>
                              have hi2 := HINV.out.add y.nm
                              have ht2 := HT3.out.add HY3.out
                              rw [HE.out] at hi2 ht2
                              exact ⟨i + 1, _, on2, oc2, _, _, by omega, by go_num, rfl, HSV.out, hi2, ht2, HRL3.out⟩
                        | true =>
                          have hyc : y.c = (cN : Int) := by
                            have : ((cN : Nat) : Int) = y.c := by simpa using hw
                            exact this.symm
                          have hjt : joinB (insF (ofF G y.nm) y.nm) = true := by
                            rw [HJB.out, hyc]; simp
                          have HE : Hid (addF G y.nm = (some (joinL (insF (ofF G y.nm) y.nm)), (opnF G y.nm).eraseIdx at1)) := by
                            show _ = _
                            unfold addF
                            rw [if_pos HMN.out, if_pos HGB.out, if_pos hjt, HAT.out]
                          have hgi := HINV.out.ins HMN.out HGB.out
                          have HTX : Hid (joinL (insF (ofF G y.nm) y.nm) = txtL (mL ++ [y]) cN) := by
                            have hl : ((insF (ofF G y.nm) y.nm).length : Int) = (hd (insF (ofF G y.nm) y.nm)).c := by
                              rw [hgi.ins_c, ins_len, HOFL.out, hcN]; exact hyc.symm
                            have := txt_full HPE.out hgi hl
                            rw [txt_nm, ins_len, HOFL.out, hcN] at this
                            exact this.symm
                          have HQL : Hid (∀ q ∈ mL ++ [y], q.l.length ≤ 32768) := fun q hq =>
                            (hgi.x q.nm (HPE.out.mem_iff.1 (List.mem_map.2 ⟨q, hq, rfl⟩))).2.2.2
                          have HML2 : Hid ((mL ++ [y]).length = cN) := by show _ = _; rw [List.length_append, List.length_singleton, ← HML.out]; exact hcN
                          have hokb := HOKB.out
                          have hrn := HRN.out
                          rw [HE.out] at hokb hrn
                          obtain rfl : okb = true := hokb.symm
                          have HRD9 : Hid (Rd w wf g b y ro rn rc (txtL (mL ++ [y]) cN) (some ar) on2 oc2 (Os2.set at1 ⟨na, k2 + 1, nc, mL ++ [y]⟩) ((opnF G y.nm).eraseIdx at1)) := by
                            have := HRDf.out
                            rw [HE.out] at this
                            have h2 : Rd w wf g b y ro rn rc (joinL (insF (ofF G y.nm) y.nm)) (some ar) on2 oc2 (Os2.set at1 ⟨na, k2 + 1, nc, mL ++ [y]⟩) ((opnF G y.nm).eraseIdx at1) := this
                            rw [HTX.out] at h2; exact h2
                          obtain ⟨m2, hm2⟩ : ∃ m2, mL ++ [y] = m2 := ⟨_, rfl⟩
                          rw [hm2] at HRD9 HQL HML2 HRL3 HLEN3
                          have HGL3 : Hid (((opnF G y.nm).eraseIdx at1).length = on2 - 1) := by
                            show _ = _
                            have h1 := HRL2.out.len
                            rw [absM_len] at h1
                            have h2 := HRDf.out.sx.len
                            rw [List.length_set] at h2
                            rw [List.length_eraseIdx, if_pos (by omega)]; omega
                          have HHL : Hid (at1 < (opnF G y.nm).length) := by show _ < _; rw [HAT.out]; exact atF_lt G y.nm
                          have HYC := hide hyc
                          clear hokb hrn hjt hgi hyc hcN HRDf HTX HJB HPE hm2
                          go_wp2_with fail
                          go_quiet (fail)
                          generalize hV : World.drewN wf _ = V
                          have HRDV := hide (HRD9.out.grow (hV ▸ below_d wf _))
                          clear HRD9 hV cf pf4 hw
                          go_wp2_with fail
                          go_loopg [16, 17] cN (fun gk vs vk wq => TxR V m2 cN gk vs vk wq)
                          case atStart => exact ⟨0, by omega, rfl, rfl, Below.refl _ _⟩
                          case round =>
                            rename World => wg
                            obtain ⟨k3, hk3, rfl, rfl, bg⟩ := hrel
                            have HRG := hide (HRDV.out.grow bg)
                            have HBG := hide bg
                            have p4 := HRG.out.box.c4
                            rw [HYC.out] at p4
                            have hmem3 : (⟨na, k2 + 1, nc, m2⟩ : Mg) ∈ Os2.set at1 ⟨na, k2 + 1, nc, m2⟩ := by
                              have := getM_mem (Os2.set at1 ⟨na, k2 + 1, nc, m2⟩) at1 (by rw [← HRG.out.sx.len]; exact hal)
                              rw [HLEN3.out] at this; exact this
                            have hPG : Pks wg na (k2 + 1) nc m2 := HRG.out.sx.has _ hmem3
                            rw [HCN.out] at hPG
                            have HPG := hide hPG
                            clear bg hPG hmem3
                            cases gk with
                            | zero =>
                              obtain rfl : k3 = cN := by omega
                              have hlt : ¬ ((k3 : Int) < (k3 : Int)) := by omega
                              as_aux_lemma =>
                                have kb := conv_bts HRG.out.bt
                                have hwd : Rd w wg.drew g b y ro rn rc _ (some ar) on2 oc2 _ _ := HRG.out.grow (below_d wg 1)
                                obtain ⟨v1, w9a, bo, c9, w9, r1, r2, sx9⟩ := hwd.rows (k := at1) hal (by omega)
                                have hc1 := fun W : World => cutG_head Try.underlying28 Try.sizeOfO W (some ar) on2 oc2 at1 (by omega)
                                have hc2 := fun W : World => cutG_tail Try.underlying28 Try.sizeOfO W (some ar) on2 oc2 (at1 + 1) (by omega)
                                obtain ⟨ta, hta⟩ : ∃ X, tailG 1 (some ar) (at1 + 1) oc2 = X := ⟨_, rfl⟩
                                obtain ⟨tn, htn⟩ : ∃ X, on2 - (at1 + 1) = X := ⟨_, rfl⟩
                                obtain ⟨tc, htc⟩ : ∃ X, oc2 - (at1 + 1) = X := ⟨_, rfl⟩
                                obtain ⟨d9, hd9⟩ : ∃ X, on2 - 1 = X := ⟨_, rfl⟩
                                rw [hta, htn, htc] at hc2 r2
                                rw [hd9] at r2 sx9 HGL3
                                have hc2' : ∀ W : World, (Instr.slice 28 (.slice (some ar) on2 oc2) (some (.int .i64 ((at1 : Int) + 1))) none none).run Try.prog W = .ok (.slice ta tn tc) W := fun W => by rw [← hc2 W]; rfl
                                have hww : IntKind.i64.wrap ((at1 : Int) + 1) = (at1 : Int) + 1 := by rw [IntKind.wrap_i64]; omega
                                have HR1 := hide r1
                                have HR2 := hide r2
                                have HS9 := hide sx9
                                have HRL9 : Hid (Rl (absM ((Os2.set at1 ⟨na, k2 + 1, nc, m2⟩).take at1 ++ (Os2.set at1 ⟨na, k2 + 1, nc, m2⟩).drop (at1 + 1))) ((opnF G y.nm).eraseIdx at1)) := by
                                  have h1 := HRL3.out.erase at1 (by rw [List.length_set]; exact HHL.out)
                                  rw [List.eraseIdx_set_eq] at h1
                                  unfold absM at h1 ⊢
                                  rw [List.map_append, List.map_take, List.map_drop]; exact h1
                                clear hwd r1 r2 sx9 hc2 hta htn htc hd9 HPG
                                go_wp2_with fail
                                refine region_till (fun _ => True) 9 (by kernel_rfl) ?_
                                refine till_take [0, 9] (i := 0) (oi := { dst := some 188, op := Op.move (Operand.tmp 4), type := 28, pos := "law.go:87", after := #[], guard := none }) (v := (.slice (some ar) on2 oc2)) rfl (by kernel_rfl) (by kernel_rfl) (by kernel_rfl) (by kernel_rfl) (fun _ _ _ h => h) (Or.inl ⟨by kernel_rfl, fun w hC => by go_simp⟩) trivial ?_
                                simp only [Act.put, List.setIfInBounds_toArray, List.set_cons_zero, List.set_cons_succ]
                                refine till_take [1, 9] (i := 1) (oi := { dst := some 189, op := Op.move (Operand.tmp 10), type := 3, pos := "law.go:87", after := #[], guard := none }) (v := (.int .i64 (at1 : Int))) rfl (by kernel_rfl) (by kernel_rfl) (by kernel_rfl) (by kernel_rfl) (fun _ _ _ h => h) (Or.inl ⟨by kernel_rfl, fun w hC => by go_simp⟩) trivial ?_
                                simp only [Act.put, List.setIfInBounds_toArray, List.set_cons_zero, List.set_cons_succ]
                                refine till_take [2, 9] (i := 2) (oi := { dst := some 190, op := Op.slice 28 (Operand.tmp 188) none (some (Operand.tmp 189)) none, type := 28, pos := "law.go:87", after := #[{ on := 0, ground := Ground.data }, { on := 1, ground := Ground.data }], guard := none }) (v := (.slice (some ar) at1 oc2)) rfl (by kernel_rfl) (by kernel_rfl) (by kernel_rfl) (by kernel_rfl) (fun _ _ _ h => h) (Or.inl ⟨by kernel_rfl, fun w hC => by go_simp⟩) trivial ?_
                                simp only [Act.put, List.setIfInBounds_toArray, List.set_cons_zero, List.set_cons_succ]
                                refine till_take [4, 9] (i := 4) (oi := { dst := some 192, op := Op.move (Operand.tmp 4), type := 28, pos := "law.go:87", after := #[], guard := none }) (v := (.slice (some ar) on2 oc2)) rfl (by kernel_rfl) (by kernel_rfl) (by kernel_rfl) (by kernel_rfl) (fun _ _ _ h => h) (Or.inl ⟨by kernel_rfl, fun w hC => by go_simp⟩) trivial ?_
                                simp only [Act.put, List.setIfInBounds_toArray, List.set_cons_zero, List.set_cons_succ]
                                refine till_take [5, 9] (i := 5) (oi := { dst := some 193, op := Op.move (Operand.tmp 10), type := 3, pos := "law.go:87", after := #[], guard := none }) (v := (.int .i64 (at1 : Int))) rfl (by kernel_rfl) (by kernel_rfl) (by kernel_rfl) (by kernel_rfl) (fun _ _ _ h => h) (Or.inl ⟨by kernel_rfl, fun w hC => by go_simp⟩) trivial ?_
                                simp only [Act.put, List.setIfInBounds_toArray, List.set_cons_zero, List.set_cons_succ]
                                refine till_take [6, 9] (i := 6) (oi := { dst := some 194, op := Op.binOp BinOp.add 3 (Operand.tmp 193) (Operand.const (Value.int IntKind.i64 1)) 3, type := 3, pos := "law.go:87", after := #[{ on := 5, ground := Ground.data }], guard := none }) (v := (.int .i64 ((at1 : Int) + 1))) rfl (by kernel_rfl) (by kernel_rfl) (by kernel_rfl) (by kernel_rfl) (fun _ _ _ h => h) (Or.inl ⟨by kernel_rfl, fun w hC => by go_simp⟩) trivial ?_
                                simp only [Act.put, List.setIfInBounds_toArray, List.set_cons_zero, List.set_cons_succ]
                                refine till_take [7, 9] (i := 7) (oi := { dst := some 195, op := Op.slice 28 (Operand.tmp 192) (some (Operand.tmp 194)) none none, type := 28, pos := "law.go:87", after := #[{ on := 4, ground := Ground.data }, { on := 6, ground := Ground.data }], guard := none }) (v := (.slice ta tn tc)) rfl (by kernel_rfl) (by kernel_rfl) (by kernel_rfl) (by kernel_rfl) (fun _ _ _ h => h) (Or.inl ⟨by kernel_rfl, fun w hC => by go_simp⟩) trivial ?_
                                simp only [Act.put, List.setIfInBounds_toArray, List.set_cons_zero, List.set_cons_succ]
                                refine till_ready (rs := [3]) (by kernel_rfl) (by simp) ?_
                                refine AllTill.cons (o := { dst := some 191, op := Op.call { callee := Callee.builtin Builtin.append, args := #[Operand.const (Value.slice none 0 0), Operand.tmp 190], argTypes := #[28, 28] }, type := 28, pos := "law.go:87", after := #[{ on := 2, ground := Ground.data }], guard := none }) rfl (fun K hK => ?_) AllTill.nil
                                refine step_run rfl _ _ _ rfl (.slice none 0 0) (.slice (some ar) at1 oc2) v1 w9a rfl rfl HR1.out ?_
                                refine hK.out _ _ (fun _ => trivial) ?_
                                simp only [Act.put, List.setIfInBounds_toArray, List.set_cons_zero, List.set_cons_succ]
                                refine till_ready (rs := [8]) (by kernel_rfl) (by simp) ?_
                                refine AllTill.cons (o := { dst := some 196, op := Op.call { callee := Callee.builtin Builtin.append, args := #[Operand.tmp 191, Operand.tmp 195], argTypes := #[28, 28] }, type := 28, pos := "law.go:87", after := #[{ on := 3, ground := Ground.data }, { on := 7, ground := Ground.data }, { on := 3, ground := Ground.chain }], guard := none }) rfl (fun K hK => ?_) AllTill.nil
                                refine step_run rfl _ _ _ rfl v1 (.slice ta tn tc) (.slice bo d9 c9) w9 rfl rfl HR2.out ?_
                                refine hK.out _ _ (fun _ => trivial) ?_
                                simp only [Act.put, List.setIfInBounds_toArray, List.set_cons_zero, List.set_cons_succ]
                                refine till_ready (rs := [9]) (by kernel_rfl) (by simp) ?_
                                refine AllTill.cons (o := { dst := some 4, op := Op.assign (Operand.tmp 196), type := 28, pos := "law.go:87", after := #[{ on := 8, ground := Ground.data }, { on := 8, ground := Ground.chain }, { on := 0, ground := Ground.phase }, { on := 1, ground := Ground.phase }, { on := 2, ground := Ground.phase }, { on := 3, ground := Ground.phase }, { on := 4, ground := Ground.phase }, { on := 5, ground := Ground.phase }, { on := 6, ground := Ground.phase }, { on := 7, ground := Ground.phase }, { on := 8, ground := Ground.phase }], guard := none }) rfl (fun K hK => ?_) AllTill.nil
                                go_simp
                                refine hK.out _ _ (fun _ => trivial) ?_
                                refine till_done (by kernel_rfl) ?_ _
                                go_wp2_with fail
                                refine (waiting_any _ HS9.out.st).mono ?_; rintro e w8 ⟨rfl, rfl⟩
                                rw [HGL3.out]
                                go_wp2
                                go_roundg g1
                                case measure => omega
                                case rel =>
                                  have hi2 := HINV.out.add y.nm
                                  have ht2 := HT3.out.add HY3.out
                                  rw [HE.out] at hi2 ht2
                                  exact ⟨i + 1, _, _, _, _, _, by omega, by go_num, rfl, HS9.out, hi2, ht2, HRL9.out⟩
                            | succ g4 =>
                              as_aux_lemma =>
                                have hk3n : k3 < cN := by omega
                                have hlt : (k3 : Int) < (cN : Int) := by omega
                                have ce := HRG.out.sx.elem at1 hal
                                rw [HLEN3.out] at ce
                                simp only [HCN.out] at ce
                                have htl := txt_len m2 HQL.out k3
                                rw [HML2.out] at htl
                                have HTL : Hid ((txtL m2 k3).length ≤ 3000000000) := by
                                  show _ ≤ _
                                  have h1 : k3 * (cN * 32768) ≤ 257 * (257 * 32768) := Nat.mul_le_mul (by omega) (by omega)
                                  omega
                                clear htl
                                go_wp2_with fail
                                go_loopg [16, 170] cN (fun gk vs vi wq => TiR wg m2 k3 cN gk vs vi wq)
                                case atStart => exact ⟨0, by omega, rfl, by simp [pickL], Below.refl _ _⟩
                                case round =>
                                  rename World => wh
                                  obtain ⟨t, ht, rfl, rfl, bh⟩ := hrel
                                  have HBH := hide bh
                                  clear bh ce p4
                                  cases gk with
                                  | zero =>
                                    obtain rfl : t = cN := by omega
                                    have hlt2 : ¬ ((t : Int) < (t : Int)) := by omega
                                    have HPI : Hid (txtL m2 k3 ++ pickL (m2.take t) k3 = txtL m2 (k3 + 1)) := by show _ = _; rw [txt_succ, List.take_of_length_le (by rw [HML2.out]; exact Nat.le_refl _)]
                                    rw [HPI.out]
                                    go_wp2
                                    go_roundg g4
                                    case measure => omega
                                    case rel => exact ⟨k3 + 1, by omega, by go_num, rfl, below_one HBG.out HBH.out⟩
                                  | succ g5 =>
                                    have htc : t < cN := by omega
                                    have hlt2 : (t : Int) < (cN : Int) := by omega
                                    have hPH := HPG.out.carry HBH.out
                                    obtain ⟨ae, rfl⟩ := hPH.there (k := t) htc
                                    obtain ⟨c0, c1, c2, c3, c4, c5⟩ := hPH.elem t htc
                                    have hqm := getK_mem m2 t (by rw [HML2.out]; exact htc)
                                    have hpt := pick_take m2 k3 t (by rw [HML2.out]; exact htc)
                                    have hpl := pick_len (m2.take t) k3 (fun q hq => HQL.out q (List.mem_of_mem_take hq))
                                    rw [List.length_take, HML2.out] at hpl
                                    obtain ⟨q, hq⟩ : ∃ q, m2.getD t Pa.zero = q := ⟨_, rfl⟩
                                    rw [hq] at c0 c1 c2 c3 c4 c5 hqm hpt
                                    have hql := HQL.out q hqm
                                    obtain ⟨Z, hZ⟩ : ∃ Z, wh.alloc (.cells #[.int .i64 q.f, .int .i64 q.t, .int .u64 q.i, .int .i64 q.x, .int .i64 q.c, .slice q.so q.sn q.sc] 35) = Z := ⟨_, rfl⟩
                                    have bZ : Below wh.heap.size wh Z := hZ ▸ below_alloc wh _
                                    have hbx : BoxK Z wh.heap.size q := hZ ▸ boxK_new wh q
                                    have d3 := hbx.c3
                                    have d5 := hbx.c5
                                    have kq := conv_bts (Bts.carry (hPH.2 q hqm) bZ)
                                    have hadd := fun W : World => add_str (P := Try.prog) (txtL m2 k3 ++ pickL (m2.take t) k3) q.l (by
                                      have h1 := HTL.out
                                      have h2 : min t cN * 32768 ≤ 257 * 32768 := Nat.mul_le_mul_right _ (by omega)
                                      rw [List.length_append]; omega) W
                                    have HPT := hide hpt
                                    have HBZ := hide (below_one HBH.out bZ)
                                    clear hPH hq hqm hpt hpl hql hbx bZ
                                    cases hx : (q.x == (k3 : Int)) with
                                    | true =>
                                      have HXE : Hid (q.x = (k3 : Int)) := by show _ = _; simpa using hx
                                      obtain ⟨st0, hst0⟩ : ∃ s, str (txtL m2 k3 ++ pickL (m2.take t) k3) = s := ⟨_, rfl⟩
                                      rw [hst0] at hadd ⊢
                                      go_wp2
                                      go_roundg g5
                                      case measure => omega
                                      case rel => exact ⟨t + 1, by omega, by go_num, by rw [HPT.out, if_pos HXE.out, ← List.append_assoc], HBZ.out⟩
                                    | false =>
                                      have HXE : Hid (¬ q.x = (k3 : Int)) := by show ¬ _; simpa using hx
                                      go_wp2
                                      go_roundg g5
                                      case measure => omega
                                      case rel => exact ⟨t + 1, by omega, by go_num, by rw [HPT.out, if_neg HXE.out, List.append_nil], HBZ.out⟩
                  | succ g3 =>
                    as_aux_lemma =>
                      have hkm : k2 < mn := by omega
                      have hlt : (k2 : Int) < (mn : Int) := by omega
                      have hPW := HPMd.out.carry HBE.out
                      obtain ⟨ae, rfl⟩ := hPW.there (k := k2) hkm
                      obtain ⟨c0, c1, c2, c3, c4, c5⟩ := hPW.elem k2 hkm
                      have hat2 := all_take mL y.x k2 (by have := HML.out; omega)
                      obtain ⟨q, hq⟩ : ∃ q, mL.getD k2 Pa.zero = q := ⟨_, rfl⟩
                      rw [hq] at c0 c1 c2 c3 c4 c5 hat2
                      have HA2 := hide hat2
                      obtain ⟨Z, hZ⟩ : ∃ Z, we.alloc (.cells #[.int .i64 q.f, .int .i64 q.t, .int .u64 q.i, .int .i64 q.x, .int .i64 q.c, .slice q.so q.sn q.sc] 35) = Z := ⟨_, rfl⟩
                      have bZ : Below we.heap.size we Z := hZ ▸ below_alloc we _
                      have hbx : BoxK Z we.heap.size q := hZ ▸ boxK_new we q
                      have d3 := hbx.c3
                      have r3 := (HRDd.out.box.six (below_one HBE.out bZ)).2.2.2.1
                      have HBZ := hide (below_one HBE.out bZ)
                      clear hPW hq hat2 hbx bZ
                      cases cb with
                      | false =>
                        go_wp2
                        go_roundg g3
                        case measure => omega
                        case rel => exact ⟨k2 + 1, by omega, by go_num, by rw [HA2.out, ← Bool.and_assoc, HCB.out]; rfl, HBZ.out⟩
                      | true =>
                        cases hne : (q.x != y.x) with
                        | false =>
                          go_wp2
                          go_roundg g3
                          case measure => omega
                          case rel => exact ⟨k2 + 1, by omega, by go_num, by rw [HA2.out, ← Bool.and_assoc, HCB.out, hne]; rfl, HBZ.out⟩
                        | true =>
                          go_wp2
                          go_roundg g3
                          case measure => omega
                          case rel => exact ⟨k2 + 1, by omega, by go_num, by rw [HA2.out, ← Bool.and_assoc, HCB.out, hne]; rfl, HBZ.out⟩
          | succ g2 =>
            as_aux_lemma =>
              have hkn : k < on := by omega
              have hlt : (k : Int) < (on : Int) := by omega
              have hSX := HRD5.out.sx.grow HB.out
              obtain ⟨ad, rfl⟩ := hSX.row.row.there (k := k) hkn
              have c1 := fun q => (hSX.grow (below_d wz q)).elem k hkn
              have hmem := getM_mem Os k (by rw [← HRD5.out.sx.len]; exact hkn)
              have hP := hSX.has _ hmem
              have hne := HNE.out k hkn
              have hraw := getM_L Os k
              obtain ⟨m, hm⟩ : ∃ m, Os.getD k Mg.zero = m := ⟨_, rfl⟩
              rw [hm] at c1 hP hne hraw
              obtain ⟨ma, mn, mc, mL⟩ := m
              simp only at c1 hP hne hraw
              have hm0 : 0 < mn := by rw [hP.len]; exact List.length_pos_iff.2 hne
              have hmz : ¬ mn = 0 := by omega
              have hmp : (0 : Int) < (mn : Int) := by omega
              obtain ⟨ae, rfl⟩ := hP.there (k := 0) hm0
              obtain ⟨q, hq⟩ : ∃ q, hd mL = q := ⟨_, rfl⟩
              have f0 := fun j => ((hP.carry (below_d wz j)).six0 (Below.refl _ _) hm0 q hq).1
              have f2 := fun j => ((hP.carry (below_d wz j)).six0 (Below.refl _ _) hm0 q hq).2.2.1
              have p0 := fun j => (HRD5.out.box.six (below_one HB.out (below_d wz j))).1
              have p2 := fun j => (HRD5.out.box.six (below_one HB.out (below_d wz j))).2.2.1
              have HIQ : Hid (isOf ((rawM Os).getD k []) y = (q.i == y.i && q.f == y.f)) := by show _ = _; rw [hraw]; unfold isOf; rw [hq]
              have HNO : Hid (isOf ((rawM Os).getD k []) y = false → ∀ (W : World) (vi : Value), Below wz.heap.size wz W → vi = .int .i64 ((k + 1 : Nat) : Int) → FdR w5 Os y on g2 u10 vi W) := fun h W vi h2 h3 => ⟨k + 1, by omega, h3, by
                rcases HVA.out with ⟨e, h4⟩ | ⟨f, hf, e, h4⟩
                · exact .inl ⟨e, fun j hj => by
                    rcases Nat.lt_or_ge j k with h5 | h5
                    · exact h4 j h5
                    · obtain rfl : j = k := by omega
                      exact h⟩
                · exact .inr ⟨f, by omega, e, h4⟩, below_one HB.out h2⟩
              clear hP hSX hm hmem hne hraw hq
              cases h1 : (q.i == y.i) with
              | false =>
                have HF : Hid (isOf ((rawM Os).getD k []) y = false) := by show _ = _; rw [HIQ.out, h1]; rfl
                go_wp2_with fail
                go_quiet (fail)
                go_wp2
                go_roundg g2
                case measure => omega
                case rel => exact HNO.out HF.out _ _ (below_d wz _) (by go_num)
              | true =>
                cases h2 : (q.f == y.f) with
                | false =>
                  have HF : Hid (isOf ((rawM Os).getD k []) y = false) := by show _ = _; rw [HIQ.out, h1, h2]; rfl
                  go_wp2_with fail
                  go_quiet (fail)
                  go_wp2
                  go_roundg g2
                  case measure => omega
                  case rel => exact HNO.out HF.out _ _ (below_d wz _) (by go_num)
                | true =>
                  have HF : Hid (isOf ((rawM Os).getD k []) y = true) := by show _ = _; rw [HIQ.out, h1, h2]; rfl
                  go_wp2_with fail
                  go_quiet (fail)
                  go_wp2
                  go_roundg g2
                  case measure => omega
                  case rel => exact ⟨k + 1, by omega, by go_num, .inr ⟨k, by omega, by go_num, HF.out⟩, below_one HB.out (below_d wz _)⟩
end Go.Proofs.Ytdfakeddhoolcaa
