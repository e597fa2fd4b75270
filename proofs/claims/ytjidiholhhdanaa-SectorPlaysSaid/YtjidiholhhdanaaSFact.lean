/-
  What the walks want to know of the types: zero values, sizes, rows that are made. No conditions.
-/
import Derived.Test.YtjidiholhhdanaaSDat
import Derived.Laws.MakeOwn
import Derived.Laws.OwnMore
import Derived.Laws.LoneSync
namespace Go.Proofs.Ytjidiholhhdanaa
open Go.RowKit
set_option linter.unusedVariables false

def zer (n : Nat) : List UInt8 := List.replicate n 0
theorem mk256 (w : World) : (Instr.makeSlice 31 (.int .i64 256) (.int .i64 256)).run Try.prog w = .ok (.slice (some ⟨w.heap.size, 0, none⟩) 256 256) (w.alloc (.cells ((zer 256).map bv).toArray 5)) := by kernel_rfl
theorem zeroW (w : World) : (zeroValue 70).run Try.prog w = .ok (.agg (wcells (0, zer 256)).toArray) w := by kernel_rfl
theorem zeroA (w : World) : (zeroValue 68).run Try.prog w = .ok (.agg ((zer 256).map bv).toArray) w := by kernel_rfl
theorem builtW (i : Int) : Try.prog.built 70 [(0, .int .i64 i)] = some (.int .i64 i :: (zer 256).map bv).toArray := by kernel_rfl
theorem infoW_parts : ∃ i z, Try.prog.info? 70 = some i ∧ i.zero = some z ∧ i.size = 257 ∧ i.bytes = 264 ∧ z.cells.size = 257 := by
  have h : (Try.prog.info? 70).map (fun i => (i.zero, i.size, i.bytes)) = some (some (.agg (wcells (0, zer 256)).toArray), 257, 264) := by kernel_rfl
  obtain ⟨i, hi, hx⟩ := Option.map_eq_some_iff.1 h
  simp only [Prod.mk.injEq] at hx
  exact ⟨i, _, hi, hx.1, hx.2.1, hx.2.2, by kernel_rfl⟩
theorem infoW_z : ∃ i z, Try.prog.info? 70 = some i ∧ i.zero = some z ∧ i.size = 257 ∧ i.bytes = 264 ∧ z.cells.size = 257 ∧ z = .agg (wcells (0, zer 256)).toArray := by
  have h : (Try.prog.info? 70).map (fun i => (i.zero, i.size, i.bytes)) = some (some (.agg (wcells (0, zer 256)).toArray), 257, 264) := by kernel_rfl
  obtain ⟨i, hi, hx⟩ := Option.map_eq_some_iff.1 h
  simp only [Prod.mk.injEq] at hx
  exact ⟨i, _, hi, hx.1, hx.2.1, hx.2.2, by kernel_rfl, rfl⟩
theorem infoA_parts : ∃ i, Try.prog.info? 68 = some i ∧ i.zero = some (.agg ((zer 256).map bv).toArray) ∧ i.size = 256 ∧ i.bytes = 256 := by
  have h : (Try.prog.info? 68).map (fun i => (i.zero, i.size, i.bytes)) = some (some (.agg ((zer 256).map bv).toArray), 256, 256) := by kernel_rfl
  obtain ⟨i, hi, hx⟩ := Option.map_eq_some_iff.1 h
  simp only [Prod.mk.injEq] at hx
  exact ⟨i, hi, hx.1, hx.2.1, hx.2.2⟩
theorem infoU : (Try.prog.info? 5).map (·.size) = some 1 := by kernel_rfl

set_option maxHeartbeats 1000000 in
theorem has_any (pb bd : Nat) (w : World) (i : Int) (n : Nat) (hc : w.cell? ⟨pb, 0, none⟩ = some (.slice (some ⟨bd, 0, none⟩) n n)) (hn : n ≤ 8192) :
    Calls Try.prog 27 #[.pointer (some ⟨pb, 0, none⟩), .int .i64 i] w fun e w' => e = .returned (.bool (decide (0 ≤ i) && decide (i < (n : Int)))) ∧ w = w' := by
  by_cases h0 : 0 ≤ i
  · have h0' : decide (0 ≤ i) = true := by simpa using h0
    go_enter Try.func27, Try.ntmps27
    go_wp2
    go_ret
    exact ⟨by rw [h0']; rfl, rfl⟩
  · have h0' : decide (0 ≤ i) = false := by simpa using h0
    go_enter Try.func27, Try.ntmps27
    go_wp2
    go_ret
    exact ⟨rfl, rfl⟩

theorem add_any (b o : Nat) (n : Nat) (w : World) (hc : w.cell? ⟨b, o, none⟩ = some (.int .u64 (n : Int))) (hz : w.frozen? ⟨b, o, none⟩ = false) (hn : n < 9223372036854775807) :
    Calls Try.prog 31 #[.pointer (some ⟨b, o, none⟩), .int .u64 1] w fun e w' => e = .returned (.int .u64 ((n + 1 : Nat) : Int)) ∧ w' = w.setCell ⟨b, o, none⟩ (.int .u64 ((n + 1 : Nat) : Int)) := by
  have hadd := run_call_add (P := Try.prog) Try.func32 (by kernel_rfl) (by kernel_rfl) (by kernel_rfl) .u64 (by kernel_rfl) (y := 1) (s := ((n + 1 : Nat) : Int)) hc hz (by simp [go_sem, IntKind.wrap, IntKind.bits, IntKind.signed]; omega)
  go_enter Try.func31, Try.ntmps31
  go_wp2
  go_ret
  exact ⟨rfl, rfl⟩
theorem load_any (b o : Nat) (n : Int) (w : World) (hc : w.cell? ⟨b, o, none⟩ = some (.int .u64 n)) :
    Calls Try.prog 25 #[.pointer (some ⟨b, o, none⟩)] w fun e w' => e = .returned (.int .u64 n) ∧ w = w' := by
  have hl := run_call_load (P := Try.prog) Try.func30 (by kernel_rfl) (by kernel_rfl) (by kernel_rfl) .u64 (by kernel_rfl) hc
  go_enter Try.func25, Try.ntmps25
  go_wp2
  go_ret
  exact ⟨rfl, rfl⟩

end Go.Proofs.Ytjidiholhhdanaa
