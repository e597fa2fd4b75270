/-
  The journal's own block. The contracts of Room, renew. Conditions: the block is as told.
-/
import Derived.Test.YtgjckddcnmbceaaGreatDoorJLay
import Derived.Test.YtgjckddcnmbceaaGreatDoorJNewest
namespace Go.Proofs.YtgjckddcnmbceaaGreatDoor
open Go.RowKit
set_option linter.unusedVariables false

abbrev tJ : TypeId := 62
abbrev tBy : TypeId := 33
/-- The eight cells of a journal. -/
def jC (pd h N : Nat) (bV rV : Value) (used : Nat) (st lost : Bool) : List Value := [.pointer (some ⟨pd, 0, none⟩), .int .i64 (h : Int), .int .u64 (N : Int), bV, rV, .int .i64 (used : Int), .bool st, .bool lost]
/-- What a call of a journal may turn. -/
def jT : List TypeId := [tDev, tArr, tWri, tJ, tBy]
theorem kp_jT {B : Nat} {w w' : World} (h : Kp devT B w w') : Kp jT B w w' := h.mono (Nat.le_refl _) (fun t ht => by simp only [devT, jT, List.mem_cons, List.not_mem_nil, or_false] at ht ⊢; rcases ht with h | h | h <;> simp [h])

section
variable {w : World} {B pd pj n m k h N used : Nat} {L : List UInt8} {bV rV : Value} {st lost : Bool}
set_option maxRecDepth 100000 in
theorem room_any (hj : Has w pj (jC pd h N bV rV used st lost) tJ) (hd : Dv w B pd n L m k) : Calls Tryz.prog 19 #[.pointer (some ⟨pj, 0, none⟩)] w fun e w' => e = .returned (.int .i64 ((256 * half n : Nat) : Int)) ∧ w = w' := by
  have c0 := hj.cellAt (i := 0) rfl
  have HL := Lib.hid (dlen hd)
  have HH := Lib.hid (half_any n w hd.room)
  have hr := hd.room
  obtain ⟨H, hH⟩ : ∃ H, H = half n := ⟨_, rfl⟩
  have hHs : H ≤ 8192 := by rw [hH]; unfold half; omega
  rw [← hH] at HH ⊢
  have e1 : IntKind.i64.wrap ((H : Int) * 256) = ((256 * H : Nat) : Int) := by rw [IntKind.wrap_i64]; omega
  have e2 : wrap64 ((H : Int) * 256) = ((256 * H : Nat) : Int) := by unfold wrap64; omega
  clear hj hd hH
  go_enter Tryz.func19, Tryz.ntmps19
  go_wp2_with (first | (go_at_call 38; refine HL.out.mono ?_; rintro e w1 ⟨rfl, rfl⟩) | (go_at_call 10; refine HH.out.mono ?_; rintro e w1 ⟨rfl, rfl⟩))
  go_ret
  exact ⟨by first | rfl | (congr 2; omega), rfl⟩
theorem room_q (hj : Has w pj (jC pd h N bV rV used st lost) tJ) (hd : Dv w B pd n L m k) (q : Nat) : Calls Tryz.prog 19 #[.pointer (some ⟨pj, 0, none⟩)] (w.drewN q) fun e w' => e = .returned (.int .i64 ((256 * half n : Nat) : Int)) ∧ w' = w.drewN q :=
  (room_any (w := w.drewN q) hj (hd.later ⟨rfl, rfl, rfl, Nat.le_refl _, fun _ _ => rfl⟩)).mono fun _ _ ⟨a, b⟩ => ⟨a, b.symm⟩
theorem renew_any (hj : Has w pj (jC pd h N bV rV used st false) tJ) : Calls Tryz.prog 28 #[.pointer (some ⟨pj, 0, none⟩)] w fun e w' => e = .returned (.int .i64 0) ∧ w = w' := by
  have c7 := hj.cellAt (i := 7) rfl
  clear hj
  go_enter Tryz.func28, Tryz.ntmps28
  go_wp2
  go_ret
  exact ⟨rfl, rfl⟩
end

end Go.Proofs.YtgjckddcnmbceaaGreatDoor
