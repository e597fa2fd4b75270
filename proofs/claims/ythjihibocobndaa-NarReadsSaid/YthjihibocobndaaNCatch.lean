/-
  What the reader's whole defers: it catches what the reader throws.
-/
import Derived.Test.YthjihibocobndaaNTr
import Derived.Tactics
import Derived.Tactics2
import Derived.Defers
import Derived.Recover
import Derived.Laws.Pointers
namespace Go.Proofs.Ythjihibocobndaa
open Go.RowKit
set_option linter.unusedVariables false

set_option maxHeartbeats 4000000 in
theorem catch_idle (A : Nat) (w : World) :
    CallsD Try.prog 27 #[.pointer (some ⟨A, 0, none⟩), .pointer (some ⟨A + 1, 0, none⟩)] .returning w fun e u' w' => e = .returned (.tuple #[]) ∧ u' = .returning ∧ w' = w := by
  refine callsD_of_wpS Try.func27 rfl fun c₀ cs hu => ?_
  apply wpS_seq
  apply wpS_region
  simp [wpOpsS, go_sem, recoverD, hu, Try.ntmps27, Exit.thenS]
  refine wpS_of_wp ?_
  show Code.wp Try.prog _ _ { tmps := #[.pointer (some ⟨A, 0, none⟩), .pointer (some ⟨A + 1, 0, none⟩), undef, undef, undef, .nilIface, undef, undef, undef, undef, undef, undef, undef], defers := [] } w
  obtain ⟨Q, hQ⟩ : ∃ Q : Exit → Act → World → Prop, Q = fun e a' w' => bodyPostS Try.prog Try.f27 c₀ cs (fun e u' w' => e = .returned (.tuple #[]) ∧ u' = .returning ∧ w' = w) e a' (c₀ :: cs) w' := ⟨_, rfl⟩
  rw [← hQ]
  have HQ := Lib.hid hQ
  clear hQ
  go_wp2_with fail
  rw [HQ.out]
  cases c₀
  simp_all [bodyPostS, results, Try.results27]

theorem assert_errno (w : World) : (Instr.typeAssert (.iface 29 (.int .i64 3)) 20 29 true).run Try.prog w = .ok (.tuple #[.int .i64 3, .bool true]) w := by
  simp [Instr.typeAssert, run_underlying Try.underlying29]

set_option maxHeartbeats 4000000 in
theorem catch_fell (A : Nat) (w : World) (C : List Value) (x : Int) (hA : Has w A C 26) (hC : C.length = 5) (hE : Has w (A + 1) [.int .i64 x] 29) (older : List PanicEntry) :
    CallsD Try.prog 27 #[.pointer (some ⟨A, 0, none⟩), .pointer (some ⟨A + 1, 0, none⟩)] (.panicking ({ v := .iface 29 (.int .i64 3), recovered := false } :: older)) w fun e u' w' =>
      e = .returned (.tuple #[]) ∧ u' = .panicking ({ v := .iface 29 (.int .i64 3), recovered := true } :: older) ∧ w' = (w.setRow A zeroL.toArray).setCell ⟨A + 1, 0, none⟩ (.int .i64 3) := by
  refine callsD_of_wpS Try.func27 rfl fun c₀ cs hu => ?_
  apply wpS_seq
  apply wpS_region
  simp [wpOpsS, go_sem, recoverD, hu, Try.ntmps27, Exit.thenS]
  refine wpS_of_wp ?_
  show Code.wp Try.prog _ _ { tmps := #[.pointer (some ⟨A, 0, none⟩), .pointer (some ⟨A + 1, 0, none⟩), undef, undef, undef, .iface 29 (.int .i64 3), undef, undef, undef, undef, undef, undef, undef], defers := [] } w
  obtain ⟨Q, hQ⟩ : ∃ Q : Exit → Act → World → Prop, Q = fun e a' w' => bodyPostS Try.prog Try.f27 c₀ cs (fun e u' w' => e = .returned (.tuple #[]) ∧ u' = .panicking ({ v := .iface 29 (.int .i64 3), recovered := true } :: older) ∧ w' = (w.setRow A zeroL.toArray).setCell ⟨A + 1, 0, none⟩ (.int .i64 3)) e a'
      ({ fn := c₀.fn, tmps := c₀.tmps, todo := c₀.todo, defers := c₀.defers, mode := .panicking ({ v := .iface 29 (.int .i64 3), recovered := true } :: older), kind := c₀.kind, roundOf := c₀.roundOf } :: cs) w' := ⟨_, rfl⟩
  rw [← hQ]
  have HQ := Lib.hid hQ
  have HAH : Hid (w.heap[A]? = some (.cells C.toArray 26 (0, 0))) := Lib.hid hA
  have HCS : Hid (C.toArray.size = zeroL.toArray.size) := Lib.hid (by simp [hC, zeroL])
  have hE1 : Has (w.setRow A zeroL.toArray) (A + 1) [.int .i64 x] 29 := hE.rowOther (by omega) _
  have hc := hE1.cellAt (i := 0) rfl
  have hf := hE1.frozen 0
  obtain ⟨w2, hw2⟩ : ∃ w2, w2 = w.setRow A zeroL.toArray := ⟨_, rfl⟩
  rw [← hw2] at hc hf
  have HW2 := Lib.hid hw2
  have hta := assert_errno w
  clear hQ hA hE hE1 hw2 hC hu
  go_wp2_with (refine wpList_store_row rfl 26 _ _ rfl A zeroL.toArray rfl rfl 26 _ HAH.out zero_info HCS.out (cells_one 0 false none 0 0) ?_; rw [← HW2.out])
  rw [HQ.out, HW2.out]
  clear hc hf HW2 HAH HCS HQ
  cases c₀
  simp [bodyPostS, results, Try.results27]

end Go.Proofs.Ythjihibocobndaa
