/-
  The contracts of the rotations of a word. Conditions: the word is below 2^32, the number of bits from 1 to 31.
-/
import Derived.Test.YthomkagbcoaipaaDoorRows
import Derived.WalkKit
import Derived.WalkSpells
import Derived.WalkLawsBesides
import Derived.Lib.Hide
import Derived.Deep.QuietTactic
import Derived.BigQuiet
namespace Go.Proofs.YthomkagbcoaipaaDoor
open Go.RowKit

/-- A word turned to the right. -/
def rotr (x n : Nat) : Nat := x / 2 ^ n ||| x * 2 ^ (32 - n) % 4294967296

theorem ret_u32 {a b : Int} (h : a = b) : Ending.returned (.int .u32 a) = .returned (.int .u32 b) := by rw [h]

theorem pow_pos2 (n : Nat) : 0 < 2 ^ n := Nat.pos_of_ne_zero (by simp)

theorem div_small (x n : Nat) (hx : x < 4294967296) : x / 2 ^ n < 4294967296 := Nat.lt_of_le_of_lt (Nat.div_le_self _ _) hx

theorem rotr_lt (x n : Nat) (hx : x < 4294967296) : rotr x n < 4294967296 := by
  unfold rotr
  have h1 : x / 2 ^ n < 2 ^ 32 := div_small x n hx
  have h2 : x * 2 ^ (32 - n) % 4294967296 < 2 ^ 32 := Nat.mod_lt _ (by omega)
  exact Nat.or_lt_two_pow h1 h2

theorem rotr_bits (x n : Nat) (hx : x < 4294967296) : bits .or .u32 ((x / 2 ^ n : Nat) : Int) ((x * 2 ^ (32 - n) % 4294967296 : Nat) : Int) = (rotr x n : Int) := by
  rw [u32_or_nat _ _ (div_small x n hx) (Nat.mod_lt _ (by omega))]; rfl

theorem rotr_bits' (x n : Nat) (hx : x < 4294967296) : bits .or .u32 ((x * 2 ^ (32 - n) % 4294967296 : Nat) : Int) ((x / 2 ^ n : Nat) : Int) = (rotr x n : Int) := by
  rw [u32_or_nat _ _ (Nat.mod_lt _ (by omega)) (div_small x n hx), Nat.or_comm]; rfl

theorem neg_mask (n : Nat) (h1 : 1 ≤ n) (h2 : n ≤ 31) : bits .and .u64 (IntKind.u64.wrap (-(n : Int))) 31 = ((32 - n : Nat) : Int) := by
  have hw : IntKind.u64.wrap (-(n : Int)) = ((18446744073709551616 - n : Nat) : Int) := by
    simp [IntKind.wrap, IntKind.bits, IntKind.signed]; omega
  have h31 : (31 : Int) = ((31 : Nat) : Int) := rfl
  rw [hw, h31, u64_and_nat _ _ (by omega) (by omega), nat_mask5]
  omega

set_option maxHeartbeats 400000 in
theorem rotl_any (x n : Nat) (w : World) (hx : x < 4294967296) (n0 : 1 ≤ n) (n1 : n ≤ 31) :
    Calls Tryd.prog 58 #[.int .u32 (x : Int), .int .i64 (-(n : Int))] w fun e w' => e = .returned (.int .u32 (rotr x n : Int)) ∧ w = w' := by
  have x1 : (x : Int) < 4294967296 := by omega
  have hm := neg_mask n n0 n1
  obtain ⟨m, hmd⟩ : ∃ m, m = 32 - n := ⟨_, rfl⟩
  rw [← hmd] at hm
  have HM := Lib.hid hmd
  have hm1 : (m : Int) < 32 := by omega
  clear hmd
  go_enter Tryd.func58, Tryd.ntmps58
  go_wp2
  go_ret
  refine ⟨ret_u32 ?_, rfl⟩
  rw [← rotr_bits' x n hx, ← HM.out]
  have e1 : 32 - m = n := by have := HM.out; omega
  simp [e1]

set_option maxHeartbeats 400000 in
theorem right_any (x n : Nat) (w : World) (hx : x < 4294967296) (n0 : 1 ≤ n) (n1 : n ≤ 31) :
    Calls Tryd.prog 43 #[.int .u32 (x : Int), .int .i64 (n : Int)] w fun e w' => e = .returned (.int .u32 (rotr x n : Int)) ∧ ∃ k, w' = w.drewN k := by
  have x1 : (x : Int) < 4294967296 := by omega
  have h1 : (0 : Int) ≤ (n : Int) := by omega
  have h2 : (0 : Int) ≤ 32 - (n : Int) := by omega
  go_enter Tryd.func43, Tryd.ntmps43
  go_wp2
  go_quiet (fail)
  go_wp2
  go_ret
  refine ⟨ret_u32 ?_, _, rfl⟩
  rw [← rotr_bits x n hx]
  simp

/-- A word turned by three numbers of bits, one over the other. -/
def turn3 (x a b c : Nat) : Nat := (rotr x a ^^^ rotr x b) ^^^ rotr x c

theorem xor_lt (a b : Nat) (ha : a < 4294967296) (hb : b < 4294967296) : a ^^^ b < 4294967296 := Nat.xor_lt_two_pow (n := 32) ha hb

theorem turn3_lt (x a b c : Nat) (hx : x < 4294967296) : turn3 x a b c < 4294967296 :=
  xor_lt _ _ (xor_lt _ _ (rotr_lt _ _ hx) (rotr_lt _ _ hx)) (rotr_lt _ _ hx)

set_option maxHeartbeats 400000 in
theorem turned_any (x a b c : Nat) (w : World) (hx : x < 4294967296) (a0 : 1 ≤ a) (a1 : a ≤ 31) (b0 : 1 ≤ b) (b1 : b ≤ 31) (c0 : 1 ≤ c) (c1 : c ≤ 31) :
    Calls Tryd.prog 52 #[.int .u32 (x : Int), .int .i64 (a : Int), .int .i64 (b : Int), .int .i64 (c : Int)] w fun e w' => e = .returned (.int .u32 (turn3 x a b c : Int)) ∧ w = w' := by
  go_enter Tryd.func52, Tryd.ntmps52
  go_wp2_with fail
  refine (rotl_any x a _ hx a0 a1).mono ?_
  rintro e w' ⟨rfl, rfl⟩
  go_wp2_with fail
  refine (rotl_any x b _ hx b0 b1).mono ?_
  rintro e w' ⟨rfl, rfl⟩
  go_wp2_with fail
  refine (rotl_any x c _ hx c0 c1).mono ?_
  rintro e w' ⟨rfl, rfl⟩
  go_wp2_with fail
  go_ret
  refine ⟨ret_u32 ?_, rfl⟩
  unfold turn3
  rw [u32_xor_nat _ _ (rotr_lt _ _ hx) (rotr_lt _ _ hx), u32_xor_nat _ _ (xor_lt _ _ (rotr_lt _ _ hx) (rotr_lt _ _ hx)) (rotr_lt _ _ hx)]

end Go.Proofs.YthomkagbcoaipaaDoor
