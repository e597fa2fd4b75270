/-
  The contract of New. Conditions: none.
-/
import Derived.Test.YtgjckddcnmbceaaGreatDoorSWhole
import Derived.BigRegion
namespace Go.Proofs.YtgjckddcnmbceaaGreatDoor
open Go.RowKit
set_option linter.unusedVariables false

theorem zer_get (k i : Nat) (h : i < k) : (zer k)[i]? = some 0 := by simp [zer, h]
theorem made_zer (k m : Nat) (hk : 0 < k) : madeCells ((zer k).map bv).toArray m = ((zer m).map bv).toArray := by
  unfold madeCells
  apply Array.ext
  · simp [zer]
  · intro i h1 h2
    have h3 : i % k < k := Nat.mod_lt _ hk
    simp [zer, h3]
theorem made_rows (n : Nat) : madeCells (Value.agg ((zer 256).map bv).toArray).cells (n * 256) = ((zer (256 * n)).map bv).toArray := by
  have hz : (Value.agg ((zer 256).map bv).toArray).cells = ((zer 256).map bv).toArray := rfl
  rw [hz, made_zer 256 _ (by omega), Nat.mul_comm]
theorem three_new (w : World) (Z1 Z2 Z3 : List Value) (t u : TypeId) : Has (((w.alloc (.cells Z1.toArray t)).alloc (.cells Z2.toArray t)).alloc (.cells Z3.toArray u)).drew w.heap.size Z1 t ∧
    Has (((w.alloc (.cells Z1.toArray t)).alloc (.cells Z2.toArray t)).alloc (.cells Z3.toArray u)).drew (w.heap.size + 1) Z2 t ∧
    Has (((w.alloc (.cells Z1.toArray t)).alloc (.cells Z2.toArray t)).alloc (.cells Z3.toArray u)).drew (w.heap.size + 1 + 1) Z3 u ∧
    Below w.heap.size w (((w.alloc (.cells Z1.toArray t)).alloc (.cells Z2.toArray t)).alloc (.cells Z3.toArray u)).drew := by
  have e1 : (w.alloc (.cells Z1.toArray t)).heap.size = w.heap.size + 1 := by simp
  have e2 : ((w.alloc (.cells Z1.toArray t)).alloc (.cells Z2.toArray t)).heap.size = w.heap.size + 1 + 1 := by simp
  have a := Has.new w Z1 t
  have b := Has.new (w.alloc (.cells Z1.toArray t)) Z2 t
  have c := Has.new ((w.alloc (.cells Z1.toArray t)).alloc (.cells Z2.toArray t)) Z3 u
  rw [e1] at b
  rw [e2] at c
  exact ⟨((a.alloc _).alloc _).drew, (b.alloc _).drew, c.drew, ((((Below.refl _ _).alloc (Nat.le_refl _) _).alloc (by rw [e1]; omega) _).alloc (by rw [e2]; omega) _).drew⟩
theorem mk_rows (n : Nat) (hn : n ≤ 8192) (w : World) : (Instr.makeSlice 64 (.int .i64 (n : Int)) (.int .i64 (n : Int))).run Tryz.prog w = .ok (.slice (some ⟨w.heap.size, 0, none⟩) n n) (w.alloc (.cells ((zer (256 * n)).map bv).toArray 75)) := by
  obtain ⟨i, hi, hz, hs, hb⟩ := infoA_parts
  have h := run_make (P := Tryz.prog) w 64 75 i _ Tryz.underlying64 hi hz .i64 .i64 (n : Int) (n : Int) (by omega) (Int.le_refl _) (by rw [hb]; omega) (by omega)
  rw [hs, Int.toNat_natCast, made_rows] at h
  exact h

def NewP (n : Nat) (w : World) (e : Ending) (w' : World) : Prop :=
  ∃ pb bd bl, e = .returned (.tuple #[.pointer (some ⟨pb, 0, none⟩), .int .i64 0]) ∧ Dev w' w.heap.size pb bd bl (.slice none 0 0) n (zer (256 * n)) (zer (256 * n)) [] 0 0 false ∧ Below w.heap.size w w'

theorem new_dev {w : World} {n : Nat} (hn : n ≤ 8192) (bd bl : Nat) (w' : World) (hb : Below w.heap.size w w') (pb : Nat)
    (h1 : Has w' pb (boxL bd bl (.slice none 0 0) n 0 0 false) 72) (h2 : Has w' bd ((zer (256 * n)).map bv) 75) (h3 : Has w' bl ((zer (256 * n)).map bv) 75)
    (l1 : w.heap.size ≤ pb) (l2 : w.heap.size ≤ bd) (l3 : w.heap.size ≤ bl) (hne : bd ≠ bl) :
    NewP n w (.returned (.tuple #[.pointer (some ⟨pb, 0, none⟩), .int .i64 0])) w' :=
  ⟨pb, bd, bl, rfl, ⟨h1, h2, h3, World.ownsRow_nil _ _ _ _, by simp [zer], by simp [zer], Good.nil n, l1, l2, l3, hne, hn⟩, hb⟩

set_option maxRecDepth 100000 in
set_option maxHeartbeats 2000000 in
theorem new_any (n : Nat) (w : World) (h1 : 1 ≤ n) (hn : n ≤ 8192) : Calls Tryz.prog 26 #[.int .i64 (n : Int)] w (NewP n w) := by
  have hmk := mk_rows n hn
  have i1 : ¬ (n : Int) < 1 := by omega
  have i2 : ¬ (8192 : Int) < (n : Int) := by omega
  obtain ⟨Z, hZ⟩ : ∃ Z, Z = ((zer (256 * n)).map bv) := ⟨_, rfl⟩
  rw [← hZ] at hmk
  have HZ := Lib.hid hZ
  clear hZ
  go_enter Tryz.func26, Tryz.ntmps26
  go_upto_region 3 with fail
  go_region
  all_goals
    go_wp2_with fail
    go_ret2
    obtain ⟨a, b, c, d⟩ := three_new w Z Z (boxL _ _ (.slice none 0 0) n 0 0 false) 75 72
    first
      | exact new_dev hn _ _ _ d _ c (by rw [← HZ.out]; exact a) (by rw [← HZ.out]; exact b) (by omega) (by omega) (by omega) (by omega)
      | exact new_dev hn _ _ _ d _ c (by rw [← HZ.out]; exact b) (by rw [← HZ.out]; exact a) (by omega) (by omega) (by omega) (by omega)

theorem new_no (n : Int) (w : World) (h : n < 1 ∨ 8192 < n) : Calls Tryz.prog 26 #[.int .i64 n] w fun e w' => e = .returned (.tuple #[.pointer none, .int .i64 1]) ∧ w = w' := by
  by_cases h0 : n < 1
  · go_enter Tryz.func26, Tryz.ntmps26
    go_wp2
    go_ret2
    exact ⟨rfl, rfl⟩
  · have h1 : (8192 : Int) < n := by omega
    go_enter Tryz.func26, Tryz.ntmps26
    go_wp2
    go_ret2
    exact ⟨rfl, rfl⟩

end Go.Proofs.YtgjckddcnmbceaaGreatDoor
