/-
  The walk of MatchOrder.
-/
import Derived.Test.YtfjchchjdjjepaaJSeq
namespace Go.Proofs.Ytfjchchjdjjepaa
open Go.RowKit
def UpT (b : Bool) (port : Int) (a n : Nat) : List Wt := if b then thR port 10 a n else []
def UpM (b : Bool) (port : Int) (a n : Nat) : List Ms := if b then [] else msR port a n
def OrRel1 (w : World) (g k : Nat) (b : Bool) (port : Int) (gk : Nat) (vi : Value) (wq : World) : Prop :=
  ∃ i : Nat, i + gk = k ∧ vi = .int .i64 (i : Int) ∧ St wq g NoS (UpT b port 0 i) (UpM b port 0 i) ∧ Below w.heap.size w wq
def OrRel2 (w : World) (g k : Nat) (b : Bool) (port : Int) (gk : Nat) (vi : Value) (wq : World) : Prop :=
  ∃ i : Nat, i + gk = k ∧ vi = .int .i64 (i : Int) ∧ St wq g NoS (UpT b port i gk) (UpM b port i gk) ∧ Below w.heap.size w wq
set_option maxRecDepth 20000 in
set_option maxHeartbeats 6400000 in
theorem walk_order (port : Int) (n : Nat) (first : Bool) (w : World) :
    Calls Try.prog 3 #[.int .u64 port, .int .u8 (n : Int), .bool first] w fun e w' => e = .returned (.bool true) ∧ Below w.heap.size w w' := by
  obtain ⟨k, hk⟩ : ∃ k, n % 60 = k := ⟨_, rfl⟩
  have hr : (n : Int).tmod 60 = (k : Int) := by rw [Int.tmod_eq_emod_of_nonneg (by omega)]; omega
  have hk60 : k < 60 := by omega
  clear hk
  go_enter Try.func3, Try.ntmps3
  go_wp2_with fail
  refine (awake_any _).mono ?_; rintro e W ⟨rfl, b1⟩
  have HB1 := hide b1
  clear b1
  obtain ⟨X, hX⟩ : ∃ X, W.alloc (.cells #[.slice none 0 0, .slice none 0 0] 28) = X := ⟨_, rfl⟩
  have HBX : Hid (Below w.heap.size w X) := below_one HB1.out (hX ▸ below_alloc W _)
  obtain ⟨g, hg⟩ : ∃ g, W.heap.size = g := ⟨_, rfl⟩
  have HST : Hid (St X g NoS (UpT first port 0 0) (UpM first port 0 0)) := by
    show St _ _ _ _ _
    rw [← hX, ← hg, show UpT first port 0 0 = [] by cases first <;> rfl, show UpM first port 0 0 = [] by cases first <;> rfl]; exact st_new W NoS
  have HG : Hid (w.heap.size ≤ g) := by show _ ≤ _; rw [← hg]; exact HB1.out.size
  go_wp2_with fail
  go_loopg [9] k (fun gk vi wq => OrRel1 w g k first port gk vi wq)
  case atStart => exact ⟨0, by omega, rfl, HST.out, HBX.out⟩
  case round =>
    obtain ⟨i, hi, rfl, st, b⟩ := hrel
    have HS := hide st
    have HB := hide b
    clear st b hX hg
    cases gk with
    | zero =>
      obtain rfl : i = k := by omega
      have hlt : ¬ ((i : Int) < (i : Int)) := by omega
      clear hi hr
      go_wp2_with fail
      go_loopg [16] i (fun gk vi wq => OrRel2 w g i first port gk vi wq)
      case atStart => exact ⟨0, by omega, rfl, HS.out, HB.out⟩
      case round =>
        rename World => wq
        clear HS HB
        obtain ⟨j, hj, rfl, st, b⟩ := hrel
        have HS := hide st
        have HB := hide b
        clear st b
        cases gk with
        | zero =>
          obtain rfl : j = i := by omega
          have hlt : ¬ ((j : Int) < (j : Int)) := by omega
          have HS2 : Hid (St wq g NoS [] []) := by
            have := HS.out
            rw [show UpT first port j 0 = [] by cases first <;> rfl, show UpM first port j 0 = [] by cases first <;> rfl] at this
            exact this
          clear hj
          go_wp2_with fail
          refine (len_any _ HS2.out).mono ?_; rintro e w3 ⟨rfl, b3⟩
          have HB3 := hide (below_one HB.out b3)
          rw [List.length_nil, List.length_nil]
          clear b3
          go_wp2
          go_ret
          exact ⟨rfl, HB3.out⟩
        | succ g1 =>
          have hlt : (j : Int) < (i : Int) := by omega
          have hji : j < i := by omega
          have hj2 : (j : Int) < 60 := by omega
          cases first with
          | true =>
            have HS1 : Hid (St wq g NoS (⟨port, 10 + (j : Int)⟩ :: thR port 10 (j + 1) g1) []) := by
              have := HS.out
              rw [show UpT true port j (g1 + 1) = thR port 10 j (g1 + 1) from rfl, thR_cons] at this
              exact this
            clear HS
            go_wp2_with fail
            refine (offer_hit (msgI port 0) 0 _ HS1.out noS (first_head _ _ _ _ (isP_self _ _))).mono ?_; rintro e w1 ⟨rfl, E1⟩
            obtain ⟨s1, b1⟩ := E1.below HB.out HG.out
            have HS3 := hide s1
            have HB3 := hide b1
            rw [show ((⟨port, 10 + (j : Int)⟩ :: thR port 10 (j + 1) g1 : List Wt).getD 0 Wt.zero).t = 10 + (j : Int) from rfl]
            clear E1 s1 b1
            go_wp2
            go_roundg g1
            case measure => omega
            case rel => exact ⟨j + 1, by omega, by go_num, HS3.out, HB3.out⟩
          | false =>
            have HS1 : Hid (St wq g NoS [] (msgI port (j : Int) :: msR port (j + 1) g1)) := by
              have := HS.out
              rw [show UpM false port j (g1 + 1) = msR port j (g1 + 1) from rfl, msR_cons] at this
              exact this
            have hw : IntKind.u32.wrap (j : Int) = (j : Int) := by rw [IntKind.wrap_u32]; omega
            clear HS
            go_wp2_with fail
            refine (get_hit port (10 + (j : Int)) 0 _ HS1.out noS rfl (first_head _ _ _ _ (isTo_self _ _))).mono ?_; rintro e w1 ⟨q, rfl, hq, _, _, E1⟩
            obtain ⟨s1, b1⟩ := E1.below HB.out HG.out
            have HY : Hid (q.id = (j : Int)) := congrArg Ms.id hq
            obtain ⟨qi, hqi⟩ : ∃ qi, q.id = qi := ⟨_, rfl⟩
            rw [hqi] at HY
            obtain rfl : qi = (j : Int) := HY.out
            obtain ⟨Y, hY⟩ : ∃ Y, w1.alloc (.cells #[.int .u64 q.ta, .int .u64 q.rp, .int .u32 q.id, .int .u16 q.op, .int .u16 q.st, .int .u64 q.p, .int .u32 q.o, .int .u8 q.r, .int .u64 q.c, .int .u64 q.ar, .slice q.so q.sn q.sc] 35) = Y := ⟨_, rfl⟩
            have bY : Below w1.heap.size w1 Y := hY ▸ below_alloc w1 _
            have hbq : BoxM Y w1.heap.size q := hY ▸ boxM_new w1 q
            have k2 := hbq.all.2.2.1
            rw [hqi] at k2 hY
            have HS3 := hide (s1.grow bY)
            have HB3 := hide (below_one b1 bY)
            clear E1 s1 b1 bY hbq hq
            go_wp2
            go_roundg g1
            case measure => omega
            case rel => exact ⟨j + 1, by omega, by go_num, HS3.out, HB3.out⟩
    | succ g1 =>
      have hlt : (i : Int) < (k : Int) := by omega
      have hi2 : (i : Int) < 60 := by omega
      have hi3 : i < 60 := by omega
      cases first with
      | true =>
        have HS1 : Hid (St wr g NoS (thR port 10 0 i) []) := HS.out
        clear HS hr
        go_wp2_with fail
        refine (get_wait port (10 + (i : Int)) _ HS1.out noS (thR_no port 10 i _ (Int.le_refl _)) rfl (by rw [thR_len]; omega)).mono ?_; rintro e w1 ⟨rfl, E1⟩
        obtain ⟨s1, b1⟩ := E1.below HB.out HG.out
        have bz := below_alloc w1 (.cells #[.int .u64 0, .int .u64 0, .int .u32 0, .int .u16 0, .int .u16 0, .int .u64 0, .int .u32 0, .int .u8 0, .int .u64 0, .int .u64 0, .slice none 0 0] 35)
        rw [← thR_snoc] at s1
        have HS3 := hide (s1.grow bz)
        have HB3 := hide (below_one b1 bz)
        clear E1 s1 b1 bz
        go_wp2
        go_roundg g1
        case measure => omega
        case rel => exact ⟨i + 1, by omega, by go_num, HS3.out, HB3.out⟩
      | false =>
        have HS1 : Hid (St wr g NoS [] (msR port 0 i)) := HS.out
        have hw : IntKind.u32.wrap (i : Int) = (i : Int) := by rw [IntKind.wrap_u32]; omega
        clear HS hr
        go_wp2_with fail
        refine (offer_wait (msgI port (i : Int)) _ HS1.out noS (msgI_has _ _ _) (msgI_sn _ _) rfl (by rw [msR_len]; omega)).mono ?_; rintro e w1 ⟨rfl, E1⟩
        obtain ⟨s1, b1⟩ := E1.below HB.out HG.out
        rw [msgI_nm, ← msR_snoc] at s1
        have HS3 := hide s1
        have HB3 := hide b1
        clear E1 s1 b1
        go_wp2
        go_roundg g1
        case measure => omega
        case rel => exact ⟨i + 1, by omega, by go_num, HS3.out, HB3.out⟩
end Go.Proofs.Ytfjchchjdjjepaa
