/-
  The contracts of the rotations of a word. Conditions: the word is below 2^32, the number of bits from 1 to 31.
-/
import Derived.Test.YtgjckddcnmbceaaGreatDoorRows
import Derived.WalkKit
import Derived.WalkSpells
import Derived.WalkLawsBesides
import Derived.Lib.Hide
import Derived.Deep.QuietTactic
import Derived.BigQuiet
import Derived.Laws.BitsAllLaws
import Derived.Lib.BitFns
import Derived.Test.YtgjckddcnmbceaaGreatDoorShelf
import Derived.Deep.DeepCutAuto
import Derived.Deep.CutBlock
namespace Go.Proofs.YtgjckddcnmbceaaGreatDoor
open Go.RowKit

/-- A word turned to the right. -/
def rotr (x n : Nat) : Nat := x / 2 ^ n ||| x * 2 ^ (32 - n) % 4294967296

theorem ret_u32 {a b : Int} (h : a = b) : Ending.returned (.int .u32 a) = .returned (.int .u32 b) := by rw [h]

theorem pow_pos2 (n : Nat) : 0 < 2 ^ n := Nat.pos_of_ne_zero (by simp)

theorem div_small (x n : Nat) (hx : x < 4294967296) : x / 2 ^ n < 4294967296 := Nat.lt_of_le_of_lt (Nat.div_le_self _ _) hx

theorem rotr_lt (x n : Nat) (hx : x < 4294967296) : rotr x n < 4294967296 := by
  unfold rotr
  have h1 : x / 2 ^ n < 2 ^ 32 := div_small x n hx
  have h2 : x * 2 ^ (32 - n) % 4294967296 < 2 ^ 32 := Nat.mod_lt _ (by omega)
  exact Nat.or_lt_two_pow h1 h2

theorem rotr_bits (x n : Nat) (hx : x < 4294967296) : bits .or .u32 ((x / 2 ^ n : Nat) : Int) ((x * 2 ^ (32 - n) % 4294967296 : Nat) : Int) = (rotr x n : Int) := by
  rw [u32_or_nat _ _ (div_small x n hx) (Nat.mod_lt _ (by omega))]; rfl

theorem rotr_bits' (x n : Nat) (hx : x < 4294967296) : bits .or .u32 ((x * 2 ^ (32 - n) % 4294967296 : Nat) : Int) ((x / 2 ^ n : Nat) : Int) = (rotr x n : Int) := by
  rw [u32_or_nat _ _ (Nat.mod_lt _ (by omega)) (div_small x n hx), Nat.or_comm]; rfl

theorem neg_mask (n : Nat) (h1 : 1 ≤ n) (h2 : n ≤ 31) : bits .and .u64 (IntKind.u64.wrap (-(n : Int))) 31 = ((32 - n : Nat) : Int) := by
  have hw : IntKind.u64.wrap (-(n : Int)) = ((18446744073709551616 - n : Nat) : Int) := by
    simp [IntKind.wrap, IntKind.bits, IntKind.signed]; omega
  have h31 : (31 : Int) = ((31 : Nat) : Int) := rfl
  rw [hw, h31, u64_and_nat _ _ (by omega) (by omega), nat_mask5]
  omega

set_option maxHeartbeats 400000 in
theorem rotl_any (x n : Nat) (w : World) (hx : x < 4294967296) (n0 : 1 ≤ n) (n1 : n ≤ 31) :
    Calls Tryz.prog 89 #[.int .u32 (x : Int), .int .i64 (-(n : Int))] w fun e w' => e = .returned (.int .u32 (rotr x n : Int)) ∧ w = w' := by
  have x1 : (x : Int) < 4294967296 := by omega
  have hm := neg_mask n n0 n1
  obtain ⟨m, hmd⟩ : ∃ m, m = 32 - n := ⟨_, rfl⟩
  rw [← hmd] at hm
  have HM := Lib.hid hmd
  have hm1 : (m : Int) < 32 := by omega
  clear hmd
  go_enter Tryz.func89, Tryz.ntmps89
  go_wp2
  go_ret
  refine ⟨ret_u32 ?_, rfl⟩
  rw [← rotr_bits' x n hx, ← HM.out]
  have e1 : 32 - m = n := by have := HM.out; omega
  simp [e1]

/-- A word turned by three numbers of bits, one over the other. -/
def turn3 (x a b c : Nat) : Nat := (rotr x a ^^^ rotr x b) ^^^ rotr x c

theorem xor_lt (a b : Nat) (ha : a < 4294967296) (hb : b < 4294967296) : a ^^^ b < 4294967296 := Nat.xor_lt_two_pow (n := 32) ha hb

theorem turn3_lt (x a b c : Nat) (hx : x < 4294967296) : turn3 x a b c < 4294967296 :=
  xor_lt _ _ (xor_lt _ _ (rotr_lt _ _ hx) (rotr_lt _ _ hx)) (rotr_lt _ _ hx)

set_option maxHeartbeats 400000 in
theorem turned_any (x a b c : Nat) (w : World) (hx : x < 4294967296) (a0 : 1 ≤ a) (a1 : a ≤ 31) (b0 : 1 ≤ b) (b1 : b ≤ 31) (c0 : 1 ≤ c) (c1 : c ≤ 31) :
    Calls Tryz.prog 85 #[.int .u32 (x : Int), .int .i64 (a : Int), .int .i64 (b : Int), .int .i64 (c : Int)] w fun e w' => e = .returned (.int .u32 (turn3 x a b c : Int)) ∧ w = w' := by
  go_enter Tryz.func85, Tryz.ntmps85
  go_wp2_with fail
  refine (rotl_any x a _ hx a0 a1).mono ?_
  rintro e w' ⟨rfl, rfl⟩
  go_wp2_with fail
  refine (rotl_any x b _ hx b0 b1).mono ?_
  rintro e w' ⟨rfl, rfl⟩
  go_wp2_with fail
  refine (rotl_any x c _ hx c0 c1).mono ?_
  rintro e w' ⟨rfl, rfl⟩
  go_wp2_with fail
  go_ret
  refine ⟨ret_u32 ?_, rfl⟩
  unfold turn3
  rw [u32_xor_nat _ _ (rotr_lt _ _ hx) (rotr_lt _ _ hx), u32_xor_nat _ _ (xor_lt _ _ (rotr_lt _ _ hx) (rotr_lt _ _ hx)) (rotr_lt _ _ hx)]

end Go.Proofs.YtgjckddcnmbceaaGreatDoor

namespace Go.Proofs.YtgjckddcnmbceaaGreatDoor

theorem kn_start (U Y y1 y0 : Nat) (hY : Y = y1 * 4294967296 + y0) (h1 : 2147483648 ≤ y1) (h0 : y0 < 4294967296) (hU : U < Y) :
    U * 4294967296 / Y ≤ U / y1 ∧ U / y1 ≤ 4294967297 := by
  have hy1 : 0 < y1 := by omega
  constructor
  · rw [Nat.le_div_iff_mul_le hy1]
    have h := Nat.div_mul_le_self (U * 4294967296) Y
    generalize U * 4294967296 / Y = Q at *
    rw [hY, Nat.mul_add, ← Nat.mul_assoc] at h
    omega
  · have h := Nat.div_mul_le_self U y1
    rcases Nat.lt_or_ge (U / y1) 4294967298 with h2 | h2
    · omega
    · have := Nat.mul_le_mul_right y1 h2
      omega

theorem kn_down (U Y y1 y0 a b : Nat) (hY : Y = y1 * 4294967296 + y0) (hU : U < Y) (hab : U = a * y1 + b) (hQ : U * 4294967296 / Y ≤ a)
    (h : 4294967296 ≤ a ∨ 4294967296 * b < a * y0) : U * 4294967296 / Y ≤ a - 1 ∧ 1 ≤ a ∧ U = (a - 1) * y1 + (b + y1) := by
  have hYp : 0 < Y := by omega
  have hlt : U * 4294967296 / Y < a := by
    rcases h with h | h
    · have : U * 4294967296 / Y < 4294967296 := by
        rw [Nat.div_lt_iff_lt_mul hYp, Nat.mul_comm]
        exact Nat.mul_lt_mul_of_pos_left hU (by omega)
      omega
    · rw [Nat.div_lt_iff_lt_mul hYp, hY, Nat.mul_add, ← Nat.mul_assoc]
      rw [hab]
      omega
  generalize U * 4294967296 / Y = Q at *
  refine ⟨by omega, by omega, ?_⟩
  obtain ⟨c, rfl⟩ : ∃ c, a = c + 1 := ⟨a - 1, by omega⟩
  rw [hab, Nat.add_mul]
  simp
  omega

theorem kn_done (U Y y1 y0 a b : Nat) (hY : Y = y1 * 4294967296 + y0) (hYp : 0 < Y) (hab : U = a * y1 + b) (hQ : U * 4294967296 / Y ≤ a) (h : a * y0 ≤ 4294967296 * b) :
    a = U * 4294967296 / Y := by
  refine Nat.le_antisymm ?_ hQ
  rw [Nat.le_div_iff_mul_le hYp, hY, Nat.mul_add, ← Nat.mul_assoc, hab]
  omega

theorem kn_break (U Y y1 y0 a b : Nat) (hY : Y = y1 * 4294967296 + y0) (hYp : 0 < Y) (h0 : y0 < 4294967296) (hab : U = a * y1 + b) (hQ : U * 4294967296 / Y ≤ a) (ha : a ≤ 4294967296) (hb : 4294967296 ≤ b) :
    a = U * 4294967296 / Y := by
  refine kn_done U Y y1 y0 a b hY hYp hab hQ ?_
  have h1 : a * y0 ≤ 4294967296 * y0 := Nat.mul_le_mul_right _ ha
  omega

theorem kn_prod (a y0 : Nat) (ha : a ≤ 4294967297) (h0 : y0 < 4294967296) : a * y0 < 18446744073709551616 := by
  have h1 : a * y0 ≤ 4294967297 * y0 := Nat.mul_le_mul_right _ ha
  omega

theorem kn_gen (N Y B : Nat) (hY : 0 < Y) : N / Y * B + N % Y * B / Y = N * B / Y := by
  have h := Nat.div_add_mod N Y
  have e : N * B = Y * (N / Y * B) + N % Y * B := by
    have h2 : (Y * (N / Y) + N % Y) * B = N * B := by rw [h]
    rw [Nat.add_mul, Nat.mul_assoc] at h2
    exact h2.symm
  rw [e, Nat.mul_add_div hY]

theorem kn_scale (a y p : Nat) (hp : 0 < p) : a * p / (y * p) = a / y := Nat.mul_div_mul_right _ _ hp

theorem kn_all (hi y s : Nat) (hy : 0 < y) :
    hi * 2 ^ s * 4294967296 / (y * 2 ^ s) * 4294967296 + (hi * 2 ^ s * 4294967296 % (y * 2 ^ s)) * 4294967296 / (y * 2 ^ s) = hi * 18446744073709551616 / y := by
  have hp : 0 < 2 ^ s := Nat.pos_of_ne_zero (by simp)
  have hY : 0 < y * 2 ^ s := Nat.mul_pos hy hp
  rw [kn_gen _ _ _ hY, ← kn_scale (hi * 18446744073709551616) y (2 ^ s) hp]
  have e : hi * 2 ^ s * 4294967296 * 4294967296 = hi * 18446744073709551616 * 2 ^ s := by
    rw [Nat.mul_right_comm hi 18446744073709551616 (2 ^ s)]
    generalize hi * 2 ^ s = t
    omega
  rw [e]

theorem bitLen_spec (y : Nat) (h0 : 0 < y) (h1 : y < 18446744073709551616) :
    1 ≤ Lib.bitLen y ∧ Lib.bitLen y ≤ 64 ∧ 9223372036854775808 ≤ y * 2 ^ (64 - Lib.bitLen y) ∧ y * 2 ^ (64 - Lib.bitLen y) < 18446744073709551616 := by
  have key : ∀ (f x : Nat), 0 < x → x < 2 ^ f → 1 ≤ Lib.bitLenAux f x ∧ Lib.bitLenAux f x ≤ f ∧ 2 ^ (Lib.bitLenAux f x - 1) ≤ x ∧ x < 2 ^ Lib.bitLenAux f x := by
    intro f
    induction f with
    | zero => intro x h0 h1; simp at h1; omega
    | succ f ih =>
      intro x h0 h1
      unfold Lib.bitLenAux
      rw [if_neg (by omega)]
      rcases Nat.eq_zero_or_pos (x / 2) with hz | hz
      · have hx : x = 1 := by omega
        have : Lib.bitLenAux f (x / 2) = 0 := by rw [hz]; cases f <;> simp [Lib.bitLenAux]
        rw [this, hx]; simp
      · obtain ⟨a, b, c, d⟩ := ih (x / 2) hz (by rw [Nat.pow_succ] at h1; omega)
        generalize Lib.bitLenAux f (x / 2) = l at *
        refine ⟨by omega, by omega, ?_, ?_⟩
        · have e : 1 + l - 1 = (l - 1) + 1 := by omega
          rw [e, Nat.pow_succ]; omega
        · rw [Nat.add_comm, Nat.pow_succ]; omega
  obtain ⟨a, b, c, d⟩ := key 64 y h0 h1
  have a' : 1 ≤ Lib.bitLen y := a
  have b' : Lib.bitLen y ≤ 64 := b
  have c' : 2 ^ (Lib.bitLen y - 1) ≤ y := c
  have d' : y < 2 ^ Lib.bitLen y := d
  generalize Lib.bitLen y = l at *
  have hp : 0 < 2 ^ (64 - l) := Nat.pos_of_ne_zero (by simp)
  refine ⟨a', b', ?_, ?_⟩
  · have h := Nat.mul_le_mul_right (2 ^ (64 - l)) c'
    rw [← Nat.pow_add, show l - 1 + (64 - l) = 63 from by omega] at h
    exact h
  · have h := Nat.mul_lt_mul_of_pos_right d' hp
    rw [← Nat.pow_add, show l + (64 - l) = 64 from by omega] at h
    exact h

end Go.Proofs.YtgjckddcnmbceaaGreatDoor

namespace Go.Proofs.YtgjckddcnmbceaaGreatDoor
open Go.RowKit

theorem wrap_nat (n : Nat) (h : n < 18446744073709551616) : IntKind.u64.wrap (n : Int) = (n : Int) := by
  simp [IntKind.wrap, IntKind.bits, IntKind.signed]; omega

theorem wrap_mod (n : Int) : IntKind.u64.wrap n = n % 18446744073709551616 := by
  simp [IntKind.wrap, IntKind.bits, IntKind.signed]

set_option maxRecDepth 100000 in
set_option maxHeartbeats 2000000 in
theorem div_any (hi y : Nat) (w : World) (h0 : 0 < hi) (h1 : hi < y) (h2 : y < 18446744073709551616) :
    Calls Tryz.prog 95 #[.int .u64 (hi : Int), .int .u64 0, .int .u64 (y : Int)] w fun e w' => (∃ r : Int, e = .returned (.tuple #[.int .u64 ((hi * 18446744073709551616 / y : Nat) : Int), .int .u64 r])) ∧ w = w' := by
  obtain ⟨b1, b2, b3, b4⟩ := bitLen_spec y (by omega) h2
  obtain ⟨s, hs⟩ : ∃ s, s = 64 - Lib.bitLen y := ⟨_, rfl⟩
  rw [← hs] at b3 b4
  have hU : hi * 2 ^ s < y * 2 ^ s := Nat.mul_lt_mul_of_pos_right h1 (Nat.pos_of_ne_zero (by simp))
  have hs63 : s ≤ 63 := by omega
  have R1 : IntKind.u64.wrap (64 - (Lib.bitLen y : Int)) = (s : Int) := by rw [wrap_mod]; omega
  have R2 : min s 64 = s := by omega
  have KA := Lib.hid (kn_all hi y s (by omega))
  obtain ⟨Y, hY⟩ : ∃ Y, Y = y * 2 ^ s := ⟨_, rfl⟩
  obtain ⟨U, hUd⟩ : ∃ U, U = hi * 2 ^ s := ⟨_, rfl⟩
  rw [← hY] at b3 b4 hU KA
  rw [← hUd] at hU KA
  have R3 : IntKind.u64.wrap ((y : Int) * 2 ^ s) = (Y : Int) := by
    rw [show (y : Int) * 2 ^ s = ((y * 2 ^ s : Nat) : Int) from by simp, ← hY, wrap_nat Y b4]
  have R6 : IntKind.u64.wrap ((hi : Int) * 2 ^ s) = (U : Int) := by
    rw [show (hi : Int) * 2 ^ s = ((hi * 2 ^ s : Nat) : Int) from by simp, ← hUd, wrap_nat U (by omega)]
  obtain ⟨y1, hy1⟩ : ∃ y1, y1 = Y / 4294967296 := ⟨_, rfl⟩
  obtain ⟨y0, hy0⟩ : ∃ y0, y0 = Y % 4294967296 := ⟨_, rfl⟩
  have hYs : Y = y1 * 4294967296 + y0 := by omega
  have y1l : 2147483648 ≤ y1 := by omega
  have y1h : y1 < 4294967296 := by omega
  have y0h : y0 < 4294967296 := by omega
  have R4 : (Y : Int) / 4294967296 = (y1 : Int) := by omega
  have R5 : bits .and .u64 (Y : Int) 4294967295 = (y0 : Int) := by
    rw [show (4294967295 : Int) = ((4294967295 : Nat) : Int) from rfl, u64_and_nat _ _ b4 (by omega), nat_mask32, hy0]
  have R7 : bits .or .u64 (U : Int) 0 = (U : Int) := by
    rw [show (0 : Int) = ((0 : Nat) : Int) from rfl, u64_or_nat _ _ (by omega) (by omega), Nat.or_zero]
  have R8 : bits .and .u64 0 4294967295 = 0 := by decide +kernel
  obtain ⟨S1, S2⟩ := kn_start U Y y1 y0 hYs y1l y0h hU
  obtain ⟨q, hq⟩ : ∃ q, q = U / y1 := ⟨_, rfl⟩
  obtain ⟨r, hr⟩ : ∃ r, r = U % y1 := ⟨_, rfl⟩
  have hUq : U = q * y1 + r := by rw [hq, hr, Nat.mul_comm]; exact (Nat.div_add_mod U y1).symm
  have hrl : r < y1 := by rw [hr]; exact Nat.mod_lt _ (by omega)
  rw [← hq] at S1 S2
  obtain ⟨m, hm⟩ : ∃ m, m = q * y1 := ⟨_, rfl⟩
  rw [← hm] at hUq
  have R9 : IntKind.u64.wrap ((U : Int) / (y1 : Int)) = (q : Int) := by
    rw [show (U : Int) / (y1 : Int) = ((U / y1 : Nat) : Int) from by simp, ← hq, wrap_nat q (by omega)]
  have R10 : IntKind.u64.wrap ((q : Int) * (y1 : Int)) = (m : Int) := by
    rw [show (q : Int) * (y1 : Int) = ((q * y1 : Nat) : Int) from by simp, ← hm, wrap_nat m (by omega)]
  have R11 : IntKind.u64.wrap ((U : Int) - (m : Int)) = (r : Int) := by rw [wrap_mod]; omega
  have c0 : ((y : Int) == 0) = false := by simp; omega
  have c1 : decide ((y : Int) ≤ (hi : Int)) = false := by simp; omega
  have c2 : ((hi : Int) == 0) = false := by simp; omega
  have c3 : ((y1 : Int) == 0) = false := by simp; omega
  have c4 : ¬ (y1 : Int) = 0 := by omega
  have HS := Lib.hid hs
  have HYD := Lib.hid hY
  have HUD := Lib.hid hUd
  have HY1 := Lib.hid hy1
  have HYS := Lib.hid hYs
  have HY0 := Lib.hid hy0
  have HQ := Lib.hid hq
  have HR := Lib.hid hr
  have HUQ := Lib.hid hUq
  have HM := Lib.hid hm
  have HS1 := Lib.hid S1
  clear hs hY hUd hy1 hy0 hYs hq hr hUq hm S1
  go_enter Tryz.func95, Tryz.ntmps95
  go_wp2_with fail
  refine (Tryz.bits_LeadingZeros64 (y : Int) _ (by omega) (by omega)).mono ?_
  rintro e w' ⟨rfl, rfl⟩
  rw [Int.toNat_natCast]
  obtain ⟨Q, hQd⟩ : ∃ Q, Q = U * 4294967296 / Y := ⟨_, rfl⟩
  have HQD := Lib.hid hQd
  clear hQd
  go_upto_block 0 with fail
  clear R1 R2 R3 R4 R5 R6 R7 R9 R10 R11 c0 c1 c2
  go_cut [15] (fun aa wx => aa = .int .u64 (Q : Int) ∧ w' = wx)
  case first =>
    go_wp2_with fail
    go_loop [15, 16] (fun aa bb => ∃ a b : Nat, aa = .int .u64 (a : Int) ∧ bb = .int .u64 (b : Int) ∧ U = a * y1 + b ∧ Q ≤ a ∧ a ≤ 4294967297 ∧ b < 4294967296) (fun aa _ => (intOf aa).toNat)
    case atStart => exact ⟨q, r, rfl, rfl, by rw [← HM.out]; exact HUQ.out, by rw [HQD.out]; exact HS1.out, S2, by omega⟩
    case round =>
      obtain ⟨a, b, rfl, rfl, hab, hQa, ha, hb⟩ := hrel
      have HAB := Lib.hid hab
      clear hab
      by_cases hA : 4294967296 ≤ a
      · have K := kn_down U Y y1 y0 a b HYS.out hU HAB.out (by rw [← HQD.out]; exact hQa) (.inl hA)
        rw [← HQD.out] at K
        obtain ⟨k1, k2, k3⟩ := K
        have HK3 := Lib.hid k3
        have hA2 : (4294967296 : Int) ≤ (a : Int) := by omega
        clear k3
        by_cases hB : 4294967296 ≤ b + y1
        · have hB2 : (4294967296 : Int) ≤ (b : Int) + (y1 : Int) := by omega
          have HE : Hid (a - 1 = Q) := Lib.hid (by rw [HQD.out]; exact kn_break U Y y1 y0 (a - 1) (b + y1) HYS.out (by omega) y0h HK3.out (by rw [← HQD.out]; exact k1) (by omega) hB)
          go_wp2_with fail
          go_meet
          exact ⟨by rw [← HE.out]; congr 1; omega, rfl⟩
        · have hB2 : ¬ (4294967296 : Int) ≤ (b : Int) + (y1 : Int) := by omega
          go_wp2_with fail
          go_round
          case rel => exact ⟨a - 1, b + y1, by congr 1; omega, by congr 1, HK3.out, k1, by omega, by omega⟩
          case measure => simp [intOf]; omega
      · have hA2 : ¬ (4294967296 : Int) ≤ (a : Int) := by omega
        have hPl := kn_prod a y0 ha y0h
        obtain ⟨P, hP⟩ : ∃ P, P = a * y0 := ⟨_, rfl⟩
        rw [← hP] at hPl
        have R : IntKind.u64.wrap ((a : Int) * (y0 : Int)) = (P : Int) := by
          rw [show (a : Int) * (y0 : Int) = ((a * y0 : Nat) : Int) from by simp, ← hP, wrap_nat P hPl]
        have HP := Lib.hid hP
        clear hP
        by_cases hC : 4294967296 * b < P
        · have hC2 : (4294967296 : Int) * (b : Int) < (P : Int) := by omega
          have K := kn_down U Y y1 y0 a b HYS.out hU HAB.out (by rw [← HQD.out]; exact hQa) (.inr (by rw [← HP.out]; exact hC))
          rw [← HQD.out] at K
          obtain ⟨k1, k2, k3⟩ := K
          have HK3 := Lib.hid k3
          clear k3
          by_cases hB : 4294967296 ≤ b + y1
          · have hB2 : (4294967296 : Int) ≤ (b : Int) + (y1 : Int) := by omega
            have HE : Hid (a - 1 = Q) := Lib.hid (by rw [HQD.out]; exact kn_break U Y y1 y0 (a - 1) (b + y1) HYS.out (by omega) y0h HK3.out (by rw [← HQD.out]; exact k1) (by omega) hB)
            go_wp2_with fail
            go_meet
            exact ⟨by rw [← HE.out]; congr 1; omega, rfl⟩
          · have hB2 : ¬ (4294967296 : Int) ≤ (b : Int) + (y1 : Int) := by omega
            go_wp2_with fail
            go_round
            case rel => exact ⟨a - 1, b + y1, by congr 1; omega, by congr 1, HK3.out, k1, by omega, by omega⟩
            case measure => simp [intOf]; omega
        · have hC2 : ¬ (4294967296 : Int) * (b : Int) < (P : Int) := by omega
          have HE : Hid (a = Q) := Lib.hid (by rw [HQD.out]; exact kn_done U Y y1 y0 a b HYS.out (by omega) HAB.out (by rw [← HQD.out]; exact hQa) (by rw [← HP.out]; omega))
          go_wp2_with fail
          go_meet
          exact ⟨by rw [← HE.out], rfl⟩
  case rest =>
    obtain ⟨rfl, rfl⟩ := hcut
    obtain ⟨V, hV⟩ : ∃ V, V = U * 4294967296 % Y := ⟨_, rfl⟩
    have hVY : V < Y := by rw [hV]; exact Nat.mod_lt _ (by omega)
    have hdm : Q * Y + V = U * 4294967296 := by rw [hV, HQD.out, Nat.mul_comm]; exact Nat.div_add_mod _ _
    have hQl : Q < 4294967296 := by
      rw [HQD.out, Nat.div_lt_iff_lt_mul (by omega), Nat.mul_comm]
      exact Nat.mul_lt_mul_of_pos_left hU (by omega)
    obtain ⟨M, hMd⟩ : ∃ M, M = Q * Y := ⟨_, rfl⟩
    rw [← hMd] at hdm
    have T3 : IntKind.u64.wrap ((Q : Int) * (Y : Int)) = (M : Int) % 18446744073709551616 := by
      rw [show (Q : Int) * (Y : Int) = ((Q * Y : Nat) : Int) from by simp, ← hMd, wrap_mod]
    have T1 : IntKind.u64.wrap ((U : Int) * 4294967296) = ((U : Int) * 4294967296) % 18446744073709551616 := wrap_mod _
    have T2 : IntKind.u64.wrap (((U : Int) * 4294967296) % 18446744073709551616) = ((U : Int) * 4294967296) % 18446744073709551616 := by rw [wrap_mod]; omega
    have T4 : IntKind.u64.wrap (((U : Int) * 4294967296) % 18446744073709551616 - (M : Int) % 18446744073709551616) = (V : Int) := by rw [wrap_mod]; omega
    obtain ⟨S1', S2'⟩ := kn_start V Y y1 y0 HYS.out y1l y0h hVY
    obtain ⟨q2, hq2⟩ : ∃ q2, q2 = V / y1 := ⟨_, rfl⟩
    obtain ⟨r2, hr2⟩ : ∃ r2, r2 = V % y1 := ⟨_, rfl⟩
    have hUq2 : V = q2 * y1 + r2 := by rw [hq2, hr2, Nat.mul_comm]; exact (Nat.div_add_mod V y1).symm
    have hrl2 : r2 < y1 := by rw [hr2]; exact Nat.mod_lt _ (by omega)
    rw [← hq2] at S1' S2'
    obtain ⟨m2, hm2⟩ : ∃ m2, m2 = q2 * y1 := ⟨_, rfl⟩
    have hUq3 := hUq2
    rw [← hm2] at hUq3
    have T5 : IntKind.u64.wrap ((V : Int) / (y1 : Int)) = (q2 : Int) := by
      rw [show (V : Int) / (y1 : Int) = ((V / y1 : Nat) : Int) from by simp, ← hq2, wrap_nat q2 (by omega)]
    have T6 : IntKind.u64.wrap ((q2 : Int) * (y1 : Int)) = (m2 : Int) := by
      rw [show (q2 : Int) * (y1 : Int) = ((q2 * y1 : Nat) : Int) from by simp, ← hm2, wrap_nat m2 (by omega)]
    have T7 : IntKind.u64.wrap ((V : Int) - (m2 : Int)) = (r2 : Int) := by rw [wrap_mod]; omega
    obtain ⟨Q2, hQ2d⟩ : ∃ Q2, Q2 = V * 4294967296 / Y := ⟨_, rfl⟩
    have hQ2l : Q2 < 4294967296 := by
      rw [hQ2d, Nat.div_lt_iff_lt_mul (by omega), Nat.mul_comm]
      exact Nat.mul_lt_mul_of_pos_left hVY (by omega)
    have HQD2 := Lib.hid hQ2d
    have HV := Lib.hid hV
    have HUQ2 := Lib.hid hUq2
    have HS12 := Lib.hid S1'
    clear hV hdm hMd hq2 hr2 hUq2 hUq3 hm2 hQ2d S1'
    go_upto_block 2 with fail
    clear T1 T2 T3 T4 T5 T6 T7
    go_cut [18] (fun aa wx => aa = .int .u64 (Q2 : Int) ∧ w' = wx)
    case first =>
      go_wp2_with fail
      go_loop [18, 16] (fun aa bb => ∃ a b : Nat, aa = .int .u64 (a : Int) ∧ bb = .int .u64 (b : Int) ∧ V = a * y1 + b ∧ Q2 ≤ a ∧ a ≤ 4294967297 ∧ b < 4294967296) (fun aa _ => (intOf aa).toNat)
      case atStart => exact ⟨q2, r2, rfl, rfl, HUQ2.out, by rw [HQD2.out]; exact HS12.out, S2', by omega⟩
      case round =>
        obtain ⟨a, b, rfl, rfl, hab, hQa, ha, hb⟩ := hrel
        have HAB := Lib.hid hab
        clear hab
        by_cases hA : 4294967296 ≤ a
        · have K := kn_down V Y y1 y0 a b HYS.out hVY HAB.out (by rw [← HQD2.out]; exact hQa) (.inl hA)
          rw [← HQD2.out] at K
          obtain ⟨k1, k2, k3⟩ := K
          have HK3 := Lib.hid k3
          have hA2 : (4294967296 : Int) ≤ (a : Int) := by omega
          clear k3
          by_cases hB : 4294967296 ≤ b + y1
          · have hB2 : (4294967296 : Int) ≤ (b : Int) + (y1 : Int) := by omega
            have HE : Hid (a - 1 = Q2) := Lib.hid (by rw [HQD2.out]; exact kn_break V Y y1 y0 (a - 1) (b + y1) HYS.out (by omega) y0h HK3.out (by rw [← HQD2.out]; exact k1) (by omega) hB)
            go_wp2_with fail
            go_meet
            exact ⟨by rw [← HE.out]; congr 1; omega, rfl⟩
          · have hB2 : ¬ (4294967296 : Int) ≤ (b : Int) + (y1 : Int) := by omega
            go_wp2_with fail
            go_round
            case rel => exact ⟨a - 1, b + y1, by congr 1; omega, by congr 1, HK3.out, k1, by omega, by omega⟩
            case measure => simp [intOf]; omega
        · have hA2 : ¬ (4294967296 : Int) ≤ (a : Int) := by omega
          have hPl := kn_prod a y0 ha y0h
          obtain ⟨P, hP⟩ : ∃ P, P = a * y0 := ⟨_, rfl⟩
          rw [← hP] at hPl
          have R : IntKind.u64.wrap ((a : Int) * (y0 : Int)) = (P : Int) := by
            rw [show (a : Int) * (y0 : Int) = ((a * y0 : Nat) : Int) from by simp, ← hP, wrap_nat P hPl]
          have HP := Lib.hid hP
          clear hP
          by_cases hC : 4294967296 * b < P
          · have hC2 : (4294967296 : Int) * (b : Int) < (P : Int) := by omega
            have K := kn_down V Y y1 y0 a b HYS.out hVY HAB.out (by rw [← HQD2.out]; exact hQa) (.inr (by rw [← HP.out]; exact hC))
            rw [← HQD2.out] at K
            obtain ⟨k1, k2, k3⟩ := K
            have HK3 := Lib.hid k3
            clear k3
            by_cases hB : 4294967296 ≤ b + y1
            · have hB2 : (4294967296 : Int) ≤ (b : Int) + (y1 : Int) := by omega
              have HE : Hid (a - 1 = Q2) := Lib.hid (by rw [HQD2.out]; exact kn_break V Y y1 y0 (a - 1) (b + y1) HYS.out (by omega) y0h HK3.out (by rw [← HQD2.out]; exact k1) (by omega) hB)
              go_wp2_with fail
              go_meet
              exact ⟨by rw [← HE.out]; congr 1; omega, rfl⟩
            · have hB2 : ¬ (4294967296 : Int) ≤ (b : Int) + (y1 : Int) := by omega
              go_wp2_with fail
              go_round
              case rel => exact ⟨a - 1, b + y1, by congr 1; omega, by congr 1, HK3.out, k1, by omega, by omega⟩
              case measure => simp [intOf]; omega
          · have hC2 : ¬ (4294967296 : Int) * (b : Int) < (P : Int) := by omega
            have HE : Hid (a = Q2) := Lib.hid (by rw [HQD2.out]; exact kn_done V Y y1 y0 a b HYS.out (by omega) HAB.out (by rw [← HQD2.out]; exact hQa) (by rw [← HP.out]; omega))
            go_wp2_with fail
            go_meet
            exact ⟨by rw [← HE.out], rfl⟩
    case rest =>
      obtain ⟨rfl, rfl⟩ := hcut
      go_wp2_with fail
      go_ret2
      have E1 : hi * 18446744073709551616 / y = Q * 4294967296 + Q2 := by
        rw [HQD.out, HQD2.out, HV.out]; exact KA.out.symm
      rw [E1]
      rw [show ((Q * 4294967296 + Q2 : Nat) : Int) = (Q : Int) * 4294967296 + (Q2 : Int) from by simp]
      exact ⟨⟨_, rfl⟩, rfl⟩

end Go.Proofs.YtgjckddcnmbceaaGreatDoor

namespace Go.Proofs.YtgjckddcnmbceaaGreatDoor
open Go.RowKit

def cubeNext (p r : Nat) : Nat := (2 * r + p * 67108864 * 18446744073709551616 / (r * r / 64)) / 3

def cubeRun : Nat → Nat → Nat → Nat
  | 0, _, r => r
  | f + 1, p, r => if r ≤ cubeNext p r then r else cubeRun f p (cubeNext p r)

def cubeOk : Nat → Nat → Nat → Bool
  | 0, _, _ => false
  | f + 1, p, r => decide (r < 34359738368 ∧ 0 < p ∧ p < 1024 ∧ p * 67108864 < r * r / 64 ∧ 2 * r + p * 67108864 * 18446744073709551616 / (r * r / 64) < 18446744073709551616) && (if r ≤ cubeNext p r then true else cubeOk f p (cubeNext p r))

theorem square_bits (s : Nat) (h : s < 1180591620717411303424) : bits .or .u64 ((s / 18446744073709551616 * 288230376151711744 : Nat) : Int) ((s % 18446744073709551616 / 64 : Nat) : Int) = ((s / 64 : Nat) : Int) := by
  have h1 : s / 18446744073709551616 < 64 := by omega
  have h2 : s % 18446744073709551616 / 64 < 2 ^ 58 := by omega
  rw [u64_or_nat _ _ (by omega) (by omega)]
  congr 1
  have e := Nat.shiftLeft_add_eq_or_of_lt h2 (s / 18446744073709551616)
  rw [Nat.shiftLeft_eq] at e
  rw [show (288230376151711744 : Nat) = 2 ^ 58 from rfl, ← e]
  omega

set_option maxRecDepth 100000 in
set_option maxHeartbeats 1000000 in
theorem cube_any (p r f : Nat) (w : World) (hk : cubeOk f p r = true) :
    Calls Tryz.prog 88 #[.int .u64 (p : Int), .int .u64 (r : Int)] w fun e w' => e = .returned (.int .u64 (cubeRun f p r : Int)) ∧ w = w' := by
  obtain ⟨R, hR⟩ : ∃ R, R = cubeRun f p r := ⟨_, rfl⟩
  rw [← hR]
  have HR := Lib.hid hR
  have HK := Lib.hid hk
  clear hk hR
  go_enter Tryz.func88, Tryz.ntmps88
  go_wp2_with fail
  go_loop [5] (fun aa => ∃ a g : Nat, aa = .int .u64 (a : Int) ∧ cubeOk g p a = true ∧ R = cubeRun g p a) (fun aa => (intOf aa).toNat)
  case atStart => exact ⟨r, f, rfl, HK.out, HR.out⟩
  case round =>
    obtain ⟨a, g, rfl, hok, hrun⟩ := hrel
    cases g with
    | zero => simp [cubeOk] at hok
    | succ g =>
      simp only [cubeOk, Bool.and_eq_true, decide_eq_true_eq] at hok
      obtain ⟨⟨a1, p0, p1, hpq, hno⟩, hgo⟩ := hok
      simp only [cubeRun] at hrun
      obtain ⟨P, hP⟩ : ∃ P, P = p * 67108864 := ⟨_, rfl⟩
      obtain ⟨S, hS⟩ : ∃ S, S = a * a := ⟨_, rfl⟩
      have hSb : S < 1180591620717411303424 := by
        rw [hS]; exact Nat.mul_lt_mul_of_lt_of_lt (c := 34359738368) (d := 34359738368) a1 a1 
      obtain ⟨T, hT⟩ : ∃ T, T = S / 64 := ⟨_, rfl⟩
      obtain ⟨Q, hQ⟩ : ∃ Q, Q = P * 18446744073709551616 / T := ⟨_, rfl⟩
      obtain ⟨N, hN⟩ : ∃ N, N = cubeNext p a := ⟨_, rfl⟩
      rw [← hN] at hgo hrun
      have hN2 : N = (2 * a + Q) / 3 := by rw [hN, hQ, hP, hT, hS]; rfl
      rw [← hP, ← hS, ← hT] at hpq hno
      rw [← hQ] at hno
      have hPp : 0 < P := by omega
      have hTb : T < 18446744073709551616 := by omega
      have HGO := Lib.hid hgo
      have HRUN := Lib.hid hrun
      have HQ := Lib.hid hQ
      have HN := Lib.hid hN
      have HS := Lib.hid hS
      have HP := Lib.hid hP
      have R4 : bits .or .u64 ((S : Int) / 18446744073709551616 * 288230376151711744) ((S : Int) % 18446744073709551616 / 64) = (T : Int) := by
        have := square_bits S hSb
        rw [← hT] at this
        rw [← this]; congr 1
      obtain ⟨M, hM⟩ : ∃ M, M = 2 * a + Q := ⟨_, rfl⟩
      have R6 : IntKind.u64.wrap (2 * (a : Int) + (Q : Int)) = (M : Int) := by rw [wrap_mod]; omega
      have R7 : (M : Int) / 3 = (N : Int) := by omega
      have HNO := Lib.hid hno
      have HM := Lib.hid hM
      have HN2 := Lib.hid hN2
      clear hno hM hN2
      have e1 : (p : Int) * 67108864 = (P : Int) := by omega
      clear hgo hrun hQ hN hS hT hP
      go_wp2_with fail
      refine (Tryz.bits_Mul64 a a (by omega) (by omega) _).mono ?_
      rintro e w' ⟨rfl, rfl⟩
      rw [← HS.out]
      go_wp2_with fail
      refine (div_any P T _ hPp hpq hTb).mono ?_
      rintro e w' ⟨⟨rr, rfl⟩, rfl⟩
      rw [← HQ.out]
      clear R4 e1
      have R8 : IntKind.u64.wrap (N : Int) = (N : Int) := wrap_nat N (by have := HNO.out; have := HN2.out; omega)
      by_cases hge : a ≤ N
      · have hge1 : (a : Int) ≤ (N : Int) := by omega
        go_wp2_with fail
        go_ret
        have h2 := HRUN.out
        rw [if_pos hge] at h2
        exact ⟨by rw [h2]; rfl, rfl⟩
      · have hge1 : ¬ (a : Int) ≤ (N : Int) := by omega
        go_wp2_with fail
        go_round
        case rel =>
          have h1 := HGO.out
          have h2 := HRUN.out
          rw [if_neg hge] at h1 h2
          exact ⟨N, g, by rfl, h1, h2⟩
        case measure => simp [intOf]; omega
end Go.Proofs.YtgjckddcnmbceaaGreatDoor
