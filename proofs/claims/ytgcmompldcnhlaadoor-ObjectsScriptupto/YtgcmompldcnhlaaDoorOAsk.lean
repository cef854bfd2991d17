/-
  What Ask and Entries answer, as contracts; what became of the world.
-/
import Derived.Test.YtgcmompldcnhlaaDoorOEnter
namespace Go.Proofs.YtgcmompldcnhlaaDoor
open Go.RowKit
theorem TapeAt.off {w : World} {a h : Nat} {ws : List Nat} {t k B g m : Nat} {tp v : Value} {es : List Ent} (T : TapeAt w a h ws t k) (O : Orc w B g m tp v es) : (a ≠ g ∧ a ≠ m ∧ v.ownBlock ≠ Option.some a) ∧ h ≠ g ∧ h ≠ m ∧ v.ownBlock ≠ Option.some h := by
  obtain ⟨x, c, hm⟩ := O.map.isMap
  have hr : w.heap[h]? = Option.some _ := T.row
  refine ⟨⟨fun e => ?_, fun e => ?_, fun e => ?_⟩, fun e => ?_, fun e => ?_, fun e => ?_⟩
  · have := T.box; rw [e, O.box] at this; cases this
  · have := T.box; rw [e, hm] at this; cases this
  · obtain ⟨cur, h1, _⟩ := owns_block O.row e; rw [T.box] at h1; cases h1
  · rw [e, O.box] at hr; simp at hr
  · rw [e, hm] at hr; cases hr
  · obtain ⟨cur, h1, _⟩ := owns_block O.row e; rw [hr] at h1; cases h1
def AskS (g m a : Nat) (v : Value) : Nat → Prop := fun k => k = g ∨ k = m ∨ k = a ∨ v.ownBlock = some k
set_option maxHeartbeats 400000 in
theorem ask_known (g m B j x : Nat) (tp v : Value) (es : List Ent) (f : Int) (i : Nat) (w : World) (O : Orc w B g m tp v es) (hf : -9223372036854775808 ≤ f ∧ f ≤ 9223372036854775807) (hi : i ≤ 18446744073709551615) (hn : findE es f (i % 281474976710656) = some j) (hx : (es.getD j Ent.zero).o = x) :
    Calls Tryd.prog 43 #[.pointer (some ⟨g, 0, none⟩), .int .i64 f, .int .u64 (i : Int)] w fun e w' => e = .returned (.tuple #[.int .u64 (x : Nat), .nilIface]) ∧ ∃ q, w' = w.drewN q := by
  have HO := hide O
  have HN := hide hn
  have HX := hide hx
  have HF := hide hf
  have HI := hide hi
  clear O hn hx hf hi
  go_enter Tryd.func43, Tryd.ntmps43
  go_wp2_with fail
  refine (known_yes g m B j x tp v es f i w HO.out HF.out HI.out HN.out HX.out).mono ?_; rintro e w1 ⟨rfl, q, rfl⟩
  go_wp2
  go_ret2
  exact ⟨rfl, _, rfl⟩
set_option maxHeartbeats 400000 in
theorem ask_none (g m B : Nat) (v : Value) (es : List Ent) (f : Int) (i : Nat) (w : World) (O : Orc w B g m (.pointer none) v es) (hf : -9223372036854775808 ≤ f ∧ f ≤ 9223372036854775807) (hi : i ≤ 18446744073709551615) (hn : findE es f (i % 281474976710656) = none) :
    Calls Tryd.prog 43 #[.pointer (some ⟨g, 0, none⟩), .int .i64 f, .int .u64 (i : Int)] w fun e w' => e = .returned (.tuple #[.int .u64 0, .iface 60 (.int .i64 7)]) ∧ ∃ q, w' = w.drewN q := by
  have HO := hide O
  have HN := hide hn
  have HF := hide hf
  have HI := hide hi
  clear O hn hf hi
  go_enter Tryd.func43, Tryd.ntmps43
  go_wp2_with fail
  refine (known_no g m B _ v es f i w HO.out HF.out HI.out HN.out).mono ?_; rintro e w1 ⟨rfl, q, rfl⟩
  go_wp2_with fail
  refine (odraw_none g m B v es _ (HO.out.drewN q)).mono ?_; rintro e w1 ⟨rfl, rfl⟩
  go_wp2
  go_ret2
  exact ⟨rfl, _, rfl⟩
set_option maxHeartbeats 400000 in
theorem ask_end (g m B a h k : Nat) (v : Value) (es : List Ent) (ws : List Nat) (f : Int) (i : Nat) (w : World) (O : Orc w B g m (.pointer (some ⟨a, 0, none⟩)) v es) (T : TapeAt w a h ws ws.length k) (hf : -9223372036854775808 ≤ f ∧ f ≤ 9223372036854775807) (hi : i ≤ 18446744073709551615) (hn : findE es f (i % 281474976710656) = none) :
    Calls Tryd.prog 43 #[.pointer (some ⟨g, 0, none⟩), .int .i64 f, .int .u64 (i : Int)] w fun e w' => e = .returned (.tuple #[.int .u64 0, .iface 60 (.int .i64 7)]) ∧ ∃ q, w' = w.drewN q := by
  have HO := hide O
  have HT := hide T
  have HN := hide hn
  have HF := hide hf
  have HI := hide hi
  clear O T hn hf hi
  go_enter Tryd.func43, Tryd.ntmps43
  go_wp2_with fail
  refine (known_no g m B _ v es f i w HO.out HF.out HI.out HN.out).mono ?_; rintro e w1 ⟨rfl, q, rfl⟩
  go_wp2_with fail
  refine (odraw_end g m B a h k v es ws _ (HO.out.drewN q) (HT.out.drewN q)).mono ?_; rintro e w1 ⟨rfl, q2, rfl⟩
  go_wp2
  go_ret2
  exact ⟨rfl, _, rfl⟩
set_option maxHeartbeats 800000 in
theorem ask_new (g m B a h t k x : Nat) (v : Value) (es : List Ent) (ws : List Nat) (f : Int) (i : Nat) (w : World) (O : Orc w B g m (.pointer (some ⟨a, 0, none⟩)) v es) (T : TapeAt w a h ws t k) (ht : t < ws.length) (hx : ws.getD t 0 = x)
    (hf : -9223372036854775808 ≤ f ∧ f ≤ 9223372036854775807) (hi : i ≤ 18446744073709551615) (hn : findE es f (i % 281474976710656) = none) (hs : (es.length + 1) * 24 ≤ 140737488355328) (hB : B ≤ w.heap.size) :
    Calls Tryd.prog 43 #[.pointer (some ⟨g, 0, none⟩), .int .i64 f, .int .u64 (i : Int)] w fun e w' => e = .returned (.tuple #[.int .u64 (x : Nat), .nilIface]) ∧
      ∃ v', Orc w' B g m (.pointer (some ⟨a, 0, none⟩)) v' (es ++ [⟨f, i % 281474976710656, x⟩]) ∧ TapeAt w' a h ws (t + 1) k ∧ Foot (AskS g m a v) w w' ∧ ∀ r, v'.ownBlock = some r → v.ownBlock = some r ∨ w.heap.size ≤ r := by
  have HO := hide O
  have HT := hide T
  have HN := hide hn
  have HF := hide hf
  have HX := hide hx
  have H1 := hide ht
  have HS := hide hs
  have HB := hide hB
  have h0 : (0 : Int) ≤ (i : Int) := by omega
  have h1 : (i : Int) < 18446744073709551616 := by omega
  have HI := hide hi
  have HH := hide (And.intro h0 h1)
  clear O T hn hf hi hx ht hs hB h0 h1
  go_enter Tryd.func43, Tryd.ntmps43
  go_wp2_with fail
  refine (known_no g m B _ v es f i w HO.out HF.out HI.out HN.out).mono ?_; rintro e w1 ⟨rfl, q, rfl⟩
  go_wp2_with fail
  refine (odraw_yes g m B a h t k x v es ws _ (HO.out.drewN q) (HT.out.drewN q) H1.out HX.out).mono ?_; rintro e w1 ⟨rfl, T1, t1⟩
  have F1 := hide ((foot_drewN (fun j => j = a) w q).trans t1.foot (fun j e => .inl e))
  have hoff := HT.out.off HO.out
  have HO1 := hide (HO.out.foot F1.out (fun e => hoff.1.1 e.symm) (fun e => hoff.1.2.1 e.symm) (fun r hr e => hoff.1.2.2 (e ▸ hr)))
  have HT1 := hide T1
  clear T1 t1 hoff
  go_wp2_with fail
  refine (cut_any _ _ HH.out.1 HH.out.2).mono ?_; rintro e w2 ⟨rfl, rfl⟩
  rw [cutF_nat]
  have hxl : x ≤ 281474976710655 := by rw [← HX.out]; exact HT1.out.word t
  have HXL := hide hxl
  clear hxl
  go_wp2_with fail
  refine (enter_any g m B _ v es f (i % 281474976710656) x _ HO1.out HF.out (by omega) HXL.out HN.out HS.out (Nat.le_trans HB.out F1.out.size)).mono ?_; rintro e w3 ⟨rfl, v', O3, F3, hv3⟩
  have HO3 := hide O3
  have HF3 := hide F3
  have HV3 := hide hv3
  clear O3 F3 hv3
  go_wp2
  go_ret2
  have hoff := HT1.out.off HO1.out
  refine ⟨rfl, v', HO3.out, HT1.out.foot HF3.out (fun e => ?_) (fun e => ?_), ?_, fun r hr => ?_⟩
  · rcases e with e | e | e
    · exact hoff.1.1 e
    · exact hoff.1.2.1 e
    · exact hoff.1.2.2 e
  · rcases e with e | e | e
    · exact hoff.2.1 e
    · exact hoff.2.2.1 e
    · exact hoff.2.2.2 e
  · refine (F1.out.mono (S' := AskS g m a v) (fun j e => .inr (.inr (.inl e)))).trans HF3.out (fun j e => .inl ?_)
    rcases e with e | e | e
    · exact .inl e
    · exact .inr (.inl e)
    · exact .inr (.inr (.inr e))
  · rcases HV3.out r hr with e | e
    · exact .inl e
    · exact .inr (Nat.le_trans F1.out.size e)
end Go.Proofs.YtgcmompldcnhlaaDoor
