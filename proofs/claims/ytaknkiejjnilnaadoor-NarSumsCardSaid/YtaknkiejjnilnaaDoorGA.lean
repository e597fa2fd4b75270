/-
  The contracts of the rotations of a word. Conditions: the word is below 2^32, the number of bits from 1 to 31.
-/
import Derived.Test.YtaknkiejjnilnaaDoorRows
import Derived.WalkKit
import Derived.WalkSpells
import Derived.WalkLawsBesides
import Derived.Lib.Hide
import Derived.Deep.QuietTactic
import Derived.BigQuiet
import Derived.Laws.BitsAllLaws
import Derived.Lib.BitFns
namespace Go.Proofs.YtaknkiejjnilnaaDoor
open Go.RowKit

/-- A word turned to the right. -/
def rotr (x n : Nat) : Nat := x / 2 ^ n ||| x * 2 ^ (32 - n) % 4294967296

theorem ret_u32 {a b : Int} (h : a = b) : Ending.returned (.int .u32 a) = .returned (.int .u32 b) := by rw [h]

theorem pow_pos2 (n : Nat) : 0 < 2 ^ n := Nat.pos_of_ne_zero (by simp)

theorem div_small (x n : Nat) (hx : x < 4294967296) : x / 2 ^ n < 4294967296 := Nat.lt_of_le_of_lt (Nat.div_le_self _ _) hx

theorem rotr_lt (x n : Nat) (hx : x < 4294967296) : rotr x n < 4294967296 := by
  unfold rotr
  have h1 : x / 2 ^ n < 2 ^ 32 := div_small x n hx
  have h2 : x * 2 ^ (32 - n) % 4294967296 < 2 ^ 32 := Nat.mod_lt _ (by omega)
  exact Nat.or_lt_two_pow h1 h2

theorem rotr_bits (x n : Nat) (hx : x < 4294967296) : bits .or .u32 ((x / 2 ^ n : Nat) : Int) ((x * 2 ^ (32 - n) % 4294967296 : Nat) : Int) = (rotr x n : Int) := by
  rw [u32_or_nat _ _ (div_small x n hx) (Nat.mod_lt _ (by omega))]; rfl

theorem rotr_bits' (x n : Nat) (hx : x < 4294967296) : bits .or .u32 ((x * 2 ^ (32 - n) % 4294967296 : Nat) : Int) ((x / 2 ^ n : Nat) : Int) = (rotr x n : Int) := by
  rw [u32_or_nat _ _ (Nat.mod_lt _ (by omega)) (div_small x n hx), Nat.or_comm]; rfl

theorem neg_mask (n : Nat) (h1 : 1 ≤ n) (h2 : n ≤ 31) : bits .and .u64 (IntKind.u64.wrap (-(n : Int))) 31 = ((32 - n : Nat) : Int) := by
  have hw : IntKind.u64.wrap (-(n : Int)) = ((18446744073709551616 - n : Nat) : Int) := by
    simp [IntKind.wrap, IntKind.bits, IntKind.signed]; omega
  have h31 : (31 : Int) = ((31 : Nat) : Int) := rfl
  rw [hw, h31, u64_and_nat _ _ (by omega) (by omega), nat_mask5]
  omega

set_option maxHeartbeats 400000 in
theorem rotl_any (x n : Nat) (w : World) (hx : x < 4294967296) (n0 : 1 ≤ n) (n1 : n ≤ 31) :
    Calls Tryd.prog 42 #[.int .u32 (x : Int), .int .i64 (-(n : Int))] w fun e w' => e = .returned (.int .u32 (rotr x n : Int)) ∧ w = w' := by
  have x1 : (x : Int) < 4294967296 := by omega
  have hm := neg_mask n n0 n1
  obtain ⟨m, hmd⟩ : ∃ m, m = 32 - n := ⟨_, rfl⟩
  rw [← hmd] at hm
  have HM := Lib.hid hmd
  have hm1 : (m : Int) < 32 := by omega
  clear hmd
  go_enter Tryd.func42, Tryd.ntmps42
  go_wp2
  go_ret
  refine ⟨ret_u32 ?_, rfl⟩
  rw [← rotr_bits' x n hx, ← HM.out]
  have e1 : 32 - m = n := by have := HM.out; omega
  simp [e1]

set_option maxHeartbeats 400000 in
theorem right_any (x n : Nat) (w : World) (hx : x < 4294967296) (n0 : 1 ≤ n) (n1 : n ≤ 31) :
    Calls Tryd.prog 25 #[.int .u32 (x : Int), .int .i64 (n : Int)] w fun e w' => e = .returned (.int .u32 (rotr x n : Int)) ∧ ∃ k, w' = w.drewN k := by
  have x1 : (x : Int) < 4294967296 := by omega
  have h1 : (0 : Int) ≤ (n : Int) := by omega
  have h2 : (0 : Int) ≤ 32 - (n : Int) := by omega
  go_enter Tryd.func25, Tryd.ntmps25
  go_wp2
  go_quiet (fail)
  go_wp2
  go_ret
  refine ⟨ret_u32 ?_, _, rfl⟩
  rw [← rotr_bits x n hx]
  simp

/-- A word turned by three numbers of bits, one over the other. -/
def turn3 (x a b c : Nat) : Nat := (rotr x a ^^^ rotr x b) ^^^ rotr x c

theorem xor_lt (a b : Nat) (ha : a < 4294967296) (hb : b < 4294967296) : a ^^^ b < 4294967296 := Nat.xor_lt_two_pow (n := 32) ha hb

theorem turn3_lt (x a b c : Nat) (hx : x < 4294967296) : turn3 x a b c < 4294967296 :=
  xor_lt _ _ (xor_lt _ _ (rotr_lt _ _ hx) (rotr_lt _ _ hx)) (rotr_lt _ _ hx)

set_option maxHeartbeats 400000 in
theorem turned_any (x a b c : Nat) (w : World) (hx : x < 4294967296) (a0 : 1 ≤ a) (a1 : a ≤ 31) (b0 : 1 ≤ b) (b1 : b ≤ 31) (c0 : 1 ≤ c) (c1 : c ≤ 31) :
    Calls Tryd.prog 36 #[.int .u32 (x : Int), .int .i64 (a : Int), .int .i64 (b : Int), .int .i64 (c : Int)] w fun e w' => e = .returned (.int .u32 (turn3 x a b c : Int)) ∧ w = w' := by
  go_enter Tryd.func36, Tryd.ntmps36
  go_wp2_with fail
  refine (rotl_any x a _ hx a0 a1).mono ?_
  rintro e w' ⟨rfl, rfl⟩
  go_wp2_with fail
  refine (rotl_any x b _ hx b0 b1).mono ?_
  rintro e w' ⟨rfl, rfl⟩
  go_wp2_with fail
  refine (rotl_any x c _ hx c0 c1).mono ?_
  rintro e w' ⟨rfl, rfl⟩
  go_wp2_with fail
  go_ret
  refine ⟨ret_u32 ?_, rfl⟩
  unfold turn3
  rw [u32_xor_nat _ _ (rotr_lt _ _ hx) (rotr_lt _ _ hx), u32_xor_nat _ _ (xor_lt _ _ (rotr_lt _ _ hx) (rotr_lt _ _ hx)) (rotr_lt _ _ hx)]

end Go.Proofs.YtaknkiejjnilnaaDoor

namespace Go.Proofs.YtaknkiejjnilnaaDoor

theorem kn_start (U Y y1 y0 : Nat) (hY : Y = y1 * 4294967296 + y0) (h1 : 2147483648 ≤ y1) (h0 : y0 < 4294967296) (hU : U < Y) :
    U * 4294967296 / Y ≤ U / y1 ∧ U / y1 ≤ 4294967297 := by
  have hy1 : 0 < y1 := by omega
  constructor
  · rw [Nat.le_div_iff_mul_le hy1]
    have h := Nat.div_mul_le_self (U * 4294967296) Y
    generalize U * 4294967296 / Y = Q at *
    rw [hY, Nat.mul_add, ← Nat.mul_assoc] at h
    omega
  · have h := Nat.div_mul_le_self U y1
    rcases Nat.lt_or_ge (U / y1) 4294967298 with h2 | h2
    · omega
    · have := Nat.mul_le_mul_right y1 h2
      omega

theorem kn_down (U Y y1 y0 a b : Nat) (hY : Y = y1 * 4294967296 + y0) (hU : U < Y) (hab : U = a * y1 + b) (hQ : U * 4294967296 / Y ≤ a)
    (h : 4294967296 ≤ a ∨ 4294967296 * b < a * y0) : U * 4294967296 / Y ≤ a - 1 ∧ 1 ≤ a ∧ U = (a - 1) * y1 + (b + y1) := by
  have hYp : 0 < Y := by omega
  have hlt : U * 4294967296 / Y < a := by
    rcases h with h | h
    · have : U * 4294967296 / Y < 4294967296 := by
        rw [Nat.div_lt_iff_lt_mul hYp, Nat.mul_comm]
        exact Nat.mul_lt_mul_of_pos_left hU (by omega)
      omega
    · rw [Nat.div_lt_iff_lt_mul hYp, hY, Nat.mul_add, ← Nat.mul_assoc]
      rw [hab]
      omega
  generalize U * 4294967296 / Y = Q at *
  refine ⟨by omega, by omega, ?_⟩
  obtain ⟨c, rfl⟩ : ∃ c, a = c + 1 := ⟨a - 1, by omega⟩
  rw [hab, Nat.add_mul]
  simp
  omega

theorem kn_done (U Y y1 y0 a b : Nat) (hY : Y = y1 * 4294967296 + y0) (hYp : 0 < Y) (hab : U = a * y1 + b) (hQ : U * 4294967296 / Y ≤ a) (h : a * y0 ≤ 4294967296 * b) :
    a = U * 4294967296 / Y := by
  refine Nat.le_antisymm ?_ hQ
  rw [Nat.le_div_iff_mul_le hYp, hY, Nat.mul_add, ← Nat.mul_assoc, hab]
  omega

theorem kn_break (U Y y1 y0 a b : Nat) (hY : Y = y1 * 4294967296 + y0) (hYp : 0 < Y) (h0 : y0 < 4294967296) (hab : U = a * y1 + b) (hQ : U * 4294967296 / Y ≤ a) (ha : a ≤ 4294967296) (hb : 4294967296 ≤ b) :
    a = U * 4294967296 / Y := by
  refine kn_done U Y y1 y0 a b hY hYp hab hQ ?_
  have h1 : a * y0 ≤ 4294967296 * y0 := Nat.mul_le_mul_right _ ha
  omega

theorem kn_prod (a y0 : Nat) (ha : a ≤ 4294967297) (h0 : y0 < 4294967296) : a * y0 < 18446744073709551616 := by
  have h1 : a * y0 ≤ 4294967297 * y0 := Nat.mul_le_mul_right _ ha
  omega

theorem kn_gen (N Y B : Nat) (hY : 0 < Y) : N / Y * B + N % Y * B / Y = N * B / Y := by
  have h := Nat.div_add_mod N Y
  have e : N * B = Y * (N / Y * B) + N % Y * B := by
    have h2 : (Y * (N / Y) + N % Y) * B = N * B := by rw [h]
    rw [Nat.add_mul, Nat.mul_assoc] at h2
    exact h2.symm
  rw [e, Nat.mul_add_div hY]

theorem kn_scale (a y p : Nat) (hp : 0 < p) : a * p / (y * p) = a / y := Nat.mul_div_mul_right _ _ hp

theorem kn_all (hi y s : Nat) (hy : 0 < y) :
    hi * 2 ^ s * 4294967296 / (y * 2 ^ s) * 4294967296 + (hi * 2 ^ s * 4294967296 % (y * 2 ^ s)) * 4294967296 / (y * 2 ^ s) = hi * 18446744073709551616 / y := by
  have hp : 0 < 2 ^ s := Nat.pos_of_ne_zero (by simp)
  have hY : 0 < y * 2 ^ s := Nat.mul_pos hy hp
  rw [kn_gen _ _ _ hY, ← kn_scale (hi * 18446744073709551616) y (2 ^ s) hp]
  have e : hi * 2 ^ s * 4294967296 * 4294967296 = hi * 18446744073709551616 * 2 ^ s := by
    rw [Nat.mul_right_comm hi 18446744073709551616 (2 ^ s)]
    generalize hi * 2 ^ s = t
    omega
  rw [e]

theorem bitLen_spec (y : Nat) (h0 : 0 < y) (h1 : y < 18446744073709551616) :
    1 ≤ Lib.bitLen y ∧ Lib.bitLen y ≤ 64 ∧ 9223372036854775808 ≤ y * 2 ^ (64 - Lib.bitLen y) ∧ y * 2 ^ (64 - Lib.bitLen y) < 18446744073709551616 := by
  have key : ∀ (f x : Nat), 0 < x → x < 2 ^ f → 1 ≤ Lib.bitLenAux f x ∧ Lib.bitLenAux f x ≤ f ∧ 2 ^ (Lib.bitLenAux f x - 1) ≤ x ∧ x < 2 ^ Lib.bitLenAux f x := by
    intro f
    induction f with
    | zero => intro x h0 h1; simp at h1; omega
    | succ f ih =>
      intro x h0 h1
      unfold Lib.bitLenAux
      rw [if_neg (by omega)]
      rcases Nat.eq_zero_or_pos (x / 2) with hz | hz
      · have hx : x = 1 := by omega
        have : Lib.bitLenAux f (x / 2) = 0 := by rw [hz]; cases f <;> simp [Lib.bitLenAux]
        rw [this, hx]; simp
      · obtain ⟨a, b, c, d⟩ := ih (x / 2) hz (by rw [Nat.pow_succ] at h1; omega)
        generalize Lib.bitLenAux f (x / 2) = l at *
        refine ⟨by omega, by omega, ?_, ?_⟩
        · have e : 1 + l - 1 = (l - 1) + 1 := by omega
          rw [e, Nat.pow_succ]; omega
        · rw [Nat.add_comm, Nat.pow_succ]; omega
  obtain ⟨a, b, c, d⟩ := key 64 y h0 h1
  have a' : 1 ≤ Lib.bitLen y := a
  have b' : Lib.bitLen y ≤ 64 := b
  have c' : 2 ^ (Lib.bitLen y - 1) ≤ y := c
  have d' : y < 2 ^ Lib.bitLen y := d
  generalize Lib.bitLen y = l at *
  have hp : 0 < 2 ^ (64 - l) := Nat.pos_of_ne_zero (by simp)
  refine ⟨a', b', ?_, ?_⟩
  · have h := Nat.mul_le_mul_right (2 ^ (64 - l)) c'
    rw [← Nat.pow_add, show l - 1 + (64 - l) = 63 from by omega] at h
    exact h
  · have h := Nat.mul_lt_mul_of_pos_right d' hp
    rw [← Nat.pow_add, show l + (64 - l) = 64 from by omega] at h
    exact h

end Go.Proofs.YtaknkiejjnilnaaDoor
