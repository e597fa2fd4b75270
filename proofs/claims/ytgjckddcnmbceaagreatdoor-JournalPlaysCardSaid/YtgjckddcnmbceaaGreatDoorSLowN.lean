/-
  What the walks want to know of the types: zero values, sizes, rows that are made. No conditions.
-/
import Derived.Test.YtgjckddcnmbceaaGreatDoorSDat
import Derived.Laws.MakeOwn
import Derived.Laws.OwnMore
import Derived.Laws.LoneSync
import Derived.Deep.RegionHeld
import Derived.Deep.RegionLaw
import Derived.Deep.Cut
import Derived.BigFrame
namespace Go.Proofs.YtgjckddcnmbceaaGreatDoor
open Go.RowKit
set_option linter.unusedVariables false

def zer (n : Nat) : List UInt8 := List.replicate n 0
theorem mk256 (w : World) : (Instr.makeSlice 33 (.int .i64 256) (.int .i64 256)).run Tryz.prog w = .ok (.slice (some ⟨w.heap.size, 0, none⟩) 256 256) (w.alloc (.cells ((zer 256).map bv).toArray 5)) := by kernel_rfl
theorem zeroW (w : World) : (zeroValue 77).run Tryz.prog w = .ok (.agg (wcells (0, zer 256)).toArray) w := by kernel_rfl
theorem zeroA (w : World) : (zeroValue 75).run Tryz.prog w = .ok (.agg ((zer 256).map bv).toArray) w := by kernel_rfl
theorem builtW (i : Int) : Tryz.prog.built 77 [(0, .int .i64 i)] = some (.int .i64 i :: (zer 256).map bv).toArray := by kernel_rfl
theorem infoW_parts : ∃ i z, Tryz.prog.info? 77 = some i ∧ i.zero = some z ∧ i.size = 257 ∧ i.bytes = 264 ∧ z.cells.size = 257 := by
  have h : (Tryz.prog.info? 77).map (fun i => (i.zero, i.size, i.bytes)) = some (some (.agg (wcells (0, zer 256)).toArray), 257, 264) := by kernel_rfl
  obtain ⟨i, hi, hx⟩ := Option.map_eq_some_iff.1 h
  simp only [Prod.mk.injEq] at hx
  exact ⟨i, _, hi, hx.1, hx.2.1, hx.2.2, by kernel_rfl⟩
theorem infoW_z : ∃ i z, Tryz.prog.info? 77 = some i ∧ i.zero = some z ∧ i.size = 257 ∧ i.bytes = 264 ∧ z.cells.size = 257 ∧ z = .agg (wcells (0, zer 256)).toArray := by
  have h : (Tryz.prog.info? 77).map (fun i => (i.zero, i.size, i.bytes)) = some (some (.agg (wcells (0, zer 256)).toArray), 257, 264) := by kernel_rfl
  obtain ⟨i, hi, hx⟩ := Option.map_eq_some_iff.1 h
  simp only [Prod.mk.injEq] at hx
  exact ⟨i, _, hi, hx.1, hx.2.1, hx.2.2, by kernel_rfl, rfl⟩
theorem infoA_parts : ∃ i, Tryz.prog.info? 75 = some i ∧ i.zero = some (.agg ((zer 256).map bv).toArray) ∧ i.size = 256 ∧ i.bytes = 256 := by
  have h : (Tryz.prog.info? 75).map (fun i => (i.zero, i.size, i.bytes)) = some (some (.agg ((zer 256).map bv).toArray), 256, 256) := by kernel_rfl
  obtain ⟨i, hi, hx⟩ := Option.map_eq_some_iff.1 h
  simp only [Prod.mk.injEq] at hx
  exact ⟨i, hi, hx.1, hx.2.1, hx.2.2⟩
theorem infoU : (Tryz.prog.info? 5).map (·.size) = some 1 := by kernel_rfl

set_option maxHeartbeats 1000000 in
theorem has_any (pb bd : Nat) (w : World) (i : Int) (n : Nat) (hc : w.cell? ⟨pb, 0, none⟩ = some (.slice (some ⟨bd, 0, none⟩) n n)) (hn : n ≤ 8192) :
    Calls Tryz.prog 67 #[.pointer (some ⟨pb, 0, none⟩), .int .i64 i] w fun e w' => e = .returned (.bool (decide (0 ≤ i) && decide (i < (n : Int)))) ∧ w = w' := by
  by_cases h0 : 0 ≤ i
  · have h0' : decide (0 ≤ i) = true := by simpa using h0
    go_enter Tryz.func67, Tryz.ntmps67
    go_wp2
    go_ret
    exact ⟨by rw [h0']; rfl, rfl⟩
  · have h0' : decide (0 ≤ i) = false := by simpa using h0
    go_enter Tryz.func67, Tryz.ntmps67
    go_wp2
    go_ret
    exact ⟨rfl, rfl⟩

theorem add_any (b o : Nat) (n : Nat) (w : World) (hc : w.cell? ⟨b, o, none⟩ = some (.int .u64 (n : Int))) (hz : w.frozen? ⟨b, o, none⟩ = false) (hn : n < 9223372036854775807) :
    Calls Tryz.prog 66 #[.pointer (some ⟨b, o, none⟩), .int .u64 1] w fun e w' => e = .returned (.int .u64 ((n + 1 : Nat) : Int)) ∧ w' = w.setCell ⟨b, o, none⟩ (.int .u64 ((n + 1 : Nat) : Int)) := by
  have hadd := run_call_add (P := Tryz.prog) Tryz.func76 (by kernel_rfl) (by kernel_rfl) (by kernel_rfl) .u64 (by kernel_rfl) (y := 1) (s := ((n + 1 : Nat) : Int)) hc hz (by simp [go_sem, IntKind.wrap, IntKind.bits, IntKind.signed]; omega)
  go_enter Tryz.func66, Tryz.ntmps66
  go_wp2
  go_ret
  exact ⟨rfl, rfl⟩
theorem load_any (b o : Nat) (n : Int) (w : World) (hc : w.cell? ⟨b, o, none⟩ = some (.int .u64 n)) :
    Calls Tryz.prog 39 #[.pointer (some ⟨b, o, none⟩)] w fun e w' => e = .returned (.int .u64 n) ∧ w = w' := by
  have hl := run_call_load (P := Tryz.prog) Tryz.func49 (by kernel_rfl) (by kernel_rfl) (by kernel_rfl) .u64 (by kernel_rfl) hc
  go_enter Tryz.func39, Tryz.ntmps39
  go_wp2
  go_ret
  exact ⟨rfl, rfl⟩

end Go.Proofs.YtgjckddcnmbceaaGreatDoor

namespace Go.Proofs.YtgjckddcnmbceaaGreatDoor
open Go.RowKit
set_option linter.unusedVariables false

/-- The cells of the device's own block. -/
def boxL (bd bl : Nat) (v : Value) (n ops fall : Nat) (off : Bool) : List Value := [.slice (some ⟨bd, 0, none⟩) n n, .slice (some ⟨bl, 0, none⟩) n n, v, .int .u64 (ops : Int), .int .u64 (fall : Int), .bool off]

/-- Behind begin. -/
def BegP (pb bd bl : Nat) (v : Value) (n ops fall : Nat) (off : Bool) (w : World) (e : Ending) (w' : World) : Prop :=
  e = .returned (.int .i64 (if ops + 1 = fall then 14 else 0)) ∧ Has w' pb (boxL bd bl v n (ops + 1) fall (off || decide (ops + 1 = fall))) 72 ∧ But w.heap.size pb w w'

set_option maxRecDepth 100000 in
set_option maxHeartbeats 2000000 in
theorem begin_any (pb bd bl : Nat) (v : Value) (n ops fall : Nat) (off : Bool) (w : World) (hb : Has w pb (boxL bd bl v n ops fall off) 72) (ho : ops < 9223372036854775807) :
    Calls Tryz.prog 48 #[.pointer (some ⟨pb, 0, none⟩)] w (BegP pb bd bl v n ops fall off w) := by
  have c3 := hb.cellAt (i := 3) rfl
  have f3 := hb.frozen 3
  have c4 := hb.cellAt (i := 4) rfl
  have HK : Hid (∀ x, (w.setCell ⟨pb, 3, none⟩ x).drew.cell? ⟨pb, 4, none⟩ = some (.int .u64 (fall : Int))) := Lib.hid (fun x => (hb.set 3 x).drew.cellAt (i := 4) rfl)
  have HB := Lib.hid hb
  clear hb
  by_cases he : ops + 1 = fall
  · have hne : (((ops + 1 : Nat) : Int) != (fall : Int)) = false := by simp; omega
    have hne2 : ((ops : Int) + 1 != (fall : Int)) = false := by simp; omega
    have HE := Lib.hid he
    clear he
    go_enter Tryz.func48, Tryz.ntmps48
    go_wp2_with fail
    go_region_held (fun w' => w'.cell? ⟨pb, 4, none⟩ = some (.int .u64 (fall : Int))) (first | exact HK.out _ | go_keep) (first | (go_at_call 66; refine (add_any pb 3 ops _ (by simpa using c3) (by simpa using f3) ho).mono ?_; rintro e w' ⟨rfl, rfl⟩))
    obtain ⟨w1, hw1⟩ : ∃ w1, w1 = (w.setCell ⟨pb, 3, none⟩ (.int .u64 ((ops : Int) + 1))).drew := ⟨_, rfl⟩
    have H1 : Hid (Has w1 pb (boxL bd bl v n (ops + 1) fall off) 72) := Lib.hid (by rw [hw1]; exact (HB.out.set 3 _).drew)
    have B1 : Hid (But w.heap.size pb w w1) := Lib.hid (by rw [hw1]; exact ((But.refl _ _ _).setB 3 _).drew)
    rw [← hw1]
    clear hw1 c3 f3 c4 HK
    rename_i hHeld
    clear hHeld
    have c5 := H1.out.cellAt (i := 5) rfl
    have f5 := H1.out.frozen 5
    go_wp2_with fail
    go_ret
    refine ⟨?_, ?_, ?_⟩
    · rw [if_pos HE.out]; rfl
    · rw [decide_eq_true HE.out, Bool.or_true]; exact H1.out.set 5 _
    · exact B1.out.setB 5 _
  · have hne : (((ops + 1 : Nat) : Int) != (fall : Int)) = true := by simp; omega
    have hne2 : ((ops : Int) + 1 != (fall : Int)) = true := by simp; omega
    have HE := Lib.hid he
    clear he
    go_enter Tryz.func48, Tryz.ntmps48
    go_wp2_with fail
    go_region_held (fun w' => w'.cell? ⟨pb, 4, none⟩ = some (.int .u64 (fall : Int))) (first | exact HK.out _ | go_keep) (first | (go_at_call 66; refine (add_any pb 3 ops _ (by simpa using c3) (by simpa using f3) ho).mono ?_; rintro e w' ⟨rfl, rfl⟩))
    obtain ⟨w1, hw1⟩ : ∃ w1, w1 = (w.setCell ⟨pb, 3, none⟩ (.int .u64 ((ops : Int) + 1))).drew := ⟨_, rfl⟩
    have H1 : Hid (Has w1 pb (boxL bd bl v n (ops + 1) fall off) 72) := Lib.hid (by rw [hw1]; exact (HB.out.set 3 _).drew)
    have B1 : Hid (But w.heap.size pb w w1) := Lib.hid (by rw [hw1]; exact ((But.refl _ _ _).setB 3 _).drew)
    rw [← hw1]
    clear hw1 c3 f3 c4 HK
    rename_i hHeld
    clear hHeld
    go_wp2_with fail
    go_ret
    refine ⟨?_, ?_, ?_⟩
    · rw [if_neg HE.out]; rfl
    · rw [decide_eq_false HE.out, Bool.or_false]; exact H1.out
    · exact B1.out

end Go.Proofs.YtgjckddcnmbceaaGreatDoor
