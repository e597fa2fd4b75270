/-
  The contract of bits.Div64 with nothing in the lower word: the quotient. Conditions: 0 < hi < y.
-/
import Derived.Test.YtaknkiejjnilnaaDoorShelf
import Derived.Test.YtaknkiejjnilnaaDoorGA
import Derived.Deep.DeepCutAuto
import Derived.Deep.CutBlock
import Derived.Test.YtaknkiejjnilnaaDoorGB
import Derived.Tactics
import Derived.Tactics2
import Derived.Defers
import Derived.Laws.Pointers
import Derived.Laws.LoneSync
import Derived.RegionTactic
import Derived.RegionCalls
import Derived.ChangeAlike
namespace Go.Proofs.YtaknkiejjnilnaaDoor
open Go.RowKit

theorem wrap_nat (n : Nat) (h : n < 18446744073709551616) : IntKind.u64.wrap (n : Int) = (n : Int) := by
  simp [IntKind.wrap, IntKind.bits, IntKind.signed]; omega

theorem wrap_mod (n : Int) : IntKind.u64.wrap n = n % 18446744073709551616 := by
  simp [IntKind.wrap, IntKind.bits, IntKind.signed]

set_option maxRecDepth 100000 in
set_option maxHeartbeats 2000000 in
theorem div_any (hi y : Nat) (w : World) (h0 : 0 < hi) (h1 : hi < y) (h2 : y < 18446744073709551616) :
    Calls Tryd.prog 50 #[.int .u64 (hi : Int), .int .u64 0, .int .u64 (y : Int)] w fun e w' => (∃ r : Int, e = .returned (.tuple #[.int .u64 ((hi * 18446744073709551616 / y : Nat) : Int), .int .u64 r])) ∧ w = w' := by
  obtain ⟨b1, b2, b3, b4⟩ := bitLen_spec y (by omega) h2
  obtain ⟨s, hs⟩ : ∃ s, s = 64 - Lib.bitLen y := ⟨_, rfl⟩
  rw [← hs] at b3 b4
  have hU : hi * 2 ^ s < y * 2 ^ s := Nat.mul_lt_mul_of_pos_right h1 (Nat.pos_of_ne_zero (by simp))
  have hs63 : s ≤ 63 := by omega
  have R1 : IntKind.u64.wrap (64 - (Lib.bitLen y : Int)) = (s : Int) := by rw [wrap_mod]; omega
  have R2 : min s 64 = s := by omega
  have KA := Lib.hid (kn_all hi y s (by omega))
  obtain ⟨Y, hY⟩ : ∃ Y, Y = y * 2 ^ s := ⟨_, rfl⟩
  obtain ⟨U, hUd⟩ : ∃ U, U = hi * 2 ^ s := ⟨_, rfl⟩
  rw [← hY] at b3 b4 hU KA
  rw [← hUd] at hU KA
  have R3 : IntKind.u64.wrap ((y : Int) * 2 ^ s) = (Y : Int) := by
    rw [show (y : Int) * 2 ^ s = ((y * 2 ^ s : Nat) : Int) from by simp, ← hY, wrap_nat Y b4]
  have R6 : IntKind.u64.wrap ((hi : Int) * 2 ^ s) = (U : Int) := by
    rw [show (hi : Int) * 2 ^ s = ((hi * 2 ^ s : Nat) : Int) from by simp, ← hUd, wrap_nat U (by omega)]
  obtain ⟨y1, hy1⟩ : ∃ y1, y1 = Y / 4294967296 := ⟨_, rfl⟩
  obtain ⟨y0, hy0⟩ : ∃ y0, y0 = Y % 4294967296 := ⟨_, rfl⟩
  have hYs : Y = y1 * 4294967296 + y0 := by omega
  have y1l : 2147483648 ≤ y1 := by omega
  have y1h : y1 < 4294967296 := by omega
  have y0h : y0 < 4294967296 := by omega
  have R4 : (Y : Int) / 4294967296 = (y1 : Int) := by omega
  have R5 : bits .and .u64 (Y : Int) 4294967295 = (y0 : Int) := by
    rw [show (4294967295 : Int) = ((4294967295 : Nat) : Int) from rfl, u64_and_nat _ _ b4 (by omega), nat_mask32, hy0]
  have R7 : bits .or .u64 (U : Int) 0 = (U : Int) := by
    rw [show (0 : Int) = ((0 : Nat) : Int) from rfl, u64_or_nat _ _ (by omega) (by omega), Nat.or_zero]
  have R8 : bits .and .u64 0 4294967295 = 0 := by decide +kernel
  obtain ⟨S1, S2⟩ := kn_start U Y y1 y0 hYs y1l y0h hU
  obtain ⟨q, hq⟩ : ∃ q, q = U / y1 := ⟨_, rfl⟩
  obtain ⟨r, hr⟩ : ∃ r, r = U % y1 := ⟨_, rfl⟩
  have hUq : U = q * y1 + r := by rw [hq, hr, Nat.mul_comm]; exact (Nat.div_add_mod U y1).symm
  have hrl : r < y1 := by rw [hr]; exact Nat.mod_lt _ (by omega)
  rw [← hq] at S1 S2
  obtain ⟨m, hm⟩ : ∃ m, m = q * y1 := ⟨_, rfl⟩
  rw [← hm] at hUq
  have R9 : IntKind.u64.wrap ((U : Int) / (y1 : Int)) = (q : Int) := by
    rw [show (U : Int) / (y1 : Int) = ((U / y1 : Nat) : Int) from by simp, ← hq, wrap_nat q (by omega)]
  have R10 : IntKind.u64.wrap ((q : Int) * (y1 : Int)) = (m : Int) := by
    rw [show (q : Int) * (y1 : Int) = ((q * y1 : Nat) : Int) from by simp, ← hm, wrap_nat m (by omega)]
  have R11 : IntKind.u64.wrap ((U : Int) - (m : Int)) = (r : Int) := by rw [wrap_mod]; omega
  have c0 : ((y : Int) == 0) = false := by simp; omega
  have c1 : decide ((y : Int) ≤ (hi : Int)) = false := by simp; omega
  have c2 : ((hi : Int) == 0) = false := by simp; omega
  have c3 : ((y1 : Int) == 0) = false := by simp; omega
  have c4 : ¬ (y1 : Int) = 0 := by omega
  have HS := Lib.hid hs
  have HYD := Lib.hid hY
  have HUD := Lib.hid hUd
  have HY1 := Lib.hid hy1
  have HYS := Lib.hid hYs
  have HY0 := Lib.hid hy0
  have HQ := Lib.hid hq
  have HR := Lib.hid hr
  have HUQ := Lib.hid hUq
  have HM := Lib.hid hm
  have HS1 := Lib.hid S1
  clear hs hY hUd hy1 hy0 hYs hq hr hUq hm S1
  go_enter Tryd.func50, Tryd.ntmps50
  go_wp2_with fail
  refine (Tryd.bits_LeadingZeros64 (y : Int) _ (by omega) (by omega)).mono ?_
  rintro e w' ⟨rfl, rfl⟩
  rw [Int.toNat_natCast]
  obtain ⟨Q, hQd⟩ : ∃ Q, Q = U * 4294967296 / Y := ⟨_, rfl⟩
  have HQD := Lib.hid hQd
  clear hQd
  go_upto_block 0 with fail
  clear R1 R2 R3 R4 R5 R6 R7 R9 R10 R11 c0 c1 c2
  go_cut [15] (fun aa wx => aa = .int .u64 (Q : Int) ∧ w' = wx)
  case first =>
    go_wp2_with fail
    go_loop [15, 16] (fun aa bb => ∃ a b : Nat, aa = .int .u64 (a : Int) ∧ bb = .int .u64 (b : Int) ∧ U = a * y1 + b ∧ Q ≤ a ∧ a ≤ 4294967297 ∧ b < 4294967296) (fun aa _ => (intOf aa).toNat)
    case atStart => exact ⟨q, r, rfl, rfl, by rw [← HM.out]; exact HUQ.out, by rw [HQD.out]; exact HS1.out, S2, by omega⟩
    case round =>
      obtain ⟨a, b, rfl, rfl, hab, hQa, ha, hb⟩ := hrel
      have HAB := Lib.hid hab
      clear hab
      by_cases hA : 4294967296 ≤ a
      · have K := kn_down U Y y1 y0 a b HYS.out hU HAB.out (by rw [← HQD.out]; exact hQa) (.inl hA)
        rw [← HQD.out] at K
        obtain ⟨k1, k2, k3⟩ := K
        have HK3 := Lib.hid k3
        have hA2 : (4294967296 : Int) ≤ (a : Int) := by omega
        clear k3
        by_cases hB : 4294967296 ≤ b + y1
        · have hB2 : (4294967296 : Int) ≤ (b : Int) + (y1 : Int) := by omega
          have HE : Hid (a - 1 = Q) := Lib.hid (by rw [HQD.out]; exact kn_break U Y y1 y0 (a - 1) (b + y1) HYS.out (by omega) y0h HK3.out (by rw [← HQD.out]; exact k1) (by omega) hB)
          go_wp2_with fail
          go_meet
          exact ⟨by rw [← HE.out]; congr 1; omega, rfl⟩
        · have hB2 : ¬ (4294967296 : Int) ≤ (b : Int) + (y1 : Int) := by omega
          go_wp2_with fail
          go_round
          case rel => exact ⟨a - 1, b + y1, by congr 1; omega, by congr 1, HK3.out, k1, by omega, by omega⟩
          case measure => simp [intOf]; omega
      · have hA2 : ¬ (4294967296 : Int) ≤ (a : Int) := by omega
        have hPl := kn_prod a y0 ha y0h
        obtain ⟨P, hP⟩ : ∃ P, P = a * y0 := ⟨_, rfl⟩
        rw [← hP] at hPl
        have R : IntKind.u64.wrap ((a : Int) * (y0 : Int)) = (P : Int) := by
          rw [show (a : Int) * (y0 : Int) = ((a * y0 : Nat) : Int) from by simp, ← hP, wrap_nat P hPl]
        have HP := Lib.hid hP
        clear hP
        by_cases hC : 4294967296 * b < P
        · have hC2 : (4294967296 : Int) * (b : Int) < (P : Int) := by omega
          have K := kn_down U Y y1 y0 a b HYS.out hU HAB.out (by rw [← HQD.out]; exact hQa) (.inr (by rw [← HP.out]; exact hC))
          rw [← HQD.out] at K
          obtain ⟨k1, k2, k3⟩ := K
          have HK3 := Lib.hid k3
          clear k3
          by_cases hB : 4294967296 ≤ b + y1
          · have hB2 : (4294967296 : Int) ≤ (b : Int) + (y1 : Int) := by omega
            have HE : Hid (a - 1 = Q) := Lib.hid (by rw [HQD.out]; exact kn_break U Y y1 y0 (a - 1) (b + y1) HYS.out (by omega) y0h HK3.out (by rw [← HQD.out]; exact k1) (by omega) hB)
            go_wp2_with fail
            go_meet
            exact ⟨by rw [← HE.out]; congr 1; omega, rfl⟩
          · have hB2 : ¬ (4294967296 : Int) ≤ (b : Int) + (y1 : Int) := by omega
            go_wp2_with fail
            go_round
            case rel => exact ⟨a - 1, b + y1, by congr 1; omega, by congr 1, HK3.out, k1, by omega, by omega⟩
            case measure => simp [intOf]; omega
        · have hC2 : ¬ (4294967296 : Int) * (b : Int) < (P : Int) := by omega
          have HE : Hid (a = Q) := Lib.hid (by rw [HQD.out]; exact kn_done U Y y1 y0 a b HYS.out (by omega) HAB.out (by rw [← HQD.out]; exact hQa) (by rw [← HP.out]; omega))
          go_wp2_with fail
          go_meet
          exact ⟨by rw [← HE.out], rfl⟩
  case rest =>
    obtain ⟨rfl, rfl⟩ := hcut
    obtain ⟨V, hV⟩ : ∃ V, V = U * 4294967296 % Y := ⟨_, rfl⟩
    have hVY : V < Y := by rw [hV]; exact Nat.mod_lt _ (by omega)
    have hdm : Q * Y + V = U * 4294967296 := by rw [hV, HQD.out, Nat.mul_comm]; exact Nat.div_add_mod _ _
    have hQl : Q < 4294967296 := by
      rw [HQD.out, Nat.div_lt_iff_lt_mul (by omega), Nat.mul_comm]
      exact Nat.mul_lt_mul_of_pos_left hU (by omega)
    obtain ⟨M, hMd⟩ : ∃ M, M = Q * Y := ⟨_, rfl⟩
    rw [← hMd] at hdm
    have T3 : IntKind.u64.wrap ((Q : Int) * (Y : Int)) = (M : Int) % 18446744073709551616 := by
      rw [show (Q : Int) * (Y : Int) = ((Q * Y : Nat) : Int) from by simp, ← hMd, wrap_mod]
    have T1 : IntKind.u64.wrap ((U : Int) * 4294967296) = ((U : Int) * 4294967296) % 18446744073709551616 := wrap_mod _
    have T2 : IntKind.u64.wrap (((U : Int) * 4294967296) % 18446744073709551616) = ((U : Int) * 4294967296) % 18446744073709551616 := by rw [wrap_mod]; omega
    have T4 : IntKind.u64.wrap (((U : Int) * 4294967296) % 18446744073709551616 - (M : Int) % 18446744073709551616) = (V : Int) := by rw [wrap_mod]; omega
    obtain ⟨S1', S2'⟩ := kn_start V Y y1 y0 HYS.out y1l y0h hVY
    obtain ⟨q2, hq2⟩ : ∃ q2, q2 = V / y1 := ⟨_, rfl⟩
    obtain ⟨r2, hr2⟩ : ∃ r2, r2 = V % y1 := ⟨_, rfl⟩
    have hUq2 : V = q2 * y1 + r2 := by rw [hq2, hr2, Nat.mul_comm]; exact (Nat.div_add_mod V y1).symm
    have hrl2 : r2 < y1 := by rw [hr2]; exact Nat.mod_lt _ (by omega)
    rw [← hq2] at S1' S2'
    obtain ⟨m2, hm2⟩ : ∃ m2, m2 = q2 * y1 := ⟨_, rfl⟩
    have hUq3 := hUq2
    rw [← hm2] at hUq3
    have T5 : IntKind.u64.wrap ((V : Int) / (y1 : Int)) = (q2 : Int) := by
      rw [show (V : Int) / (y1 : Int) = ((V / y1 : Nat) : Int) from by simp, ← hq2, wrap_nat q2 (by omega)]
    have T6 : IntKind.u64.wrap ((q2 : Int) * (y1 : Int)) = (m2 : Int) := by
      rw [show (q2 : Int) * (y1 : Int) = ((q2 * y1 : Nat) : Int) from by simp, ← hm2, wrap_nat m2 (by omega)]
    have T7 : IntKind.u64.wrap ((V : Int) - (m2 : Int)) = (r2 : Int) := by rw [wrap_mod]; omega
    obtain ⟨Q2, hQ2d⟩ : ∃ Q2, Q2 = V * 4294967296 / Y := ⟨_, rfl⟩
    have hQ2l : Q2 < 4294967296 := by
      rw [hQ2d, Nat.div_lt_iff_lt_mul (by omega), Nat.mul_comm]
      exact Nat.mul_lt_mul_of_pos_left hVY (by omega)
    have HQD2 := Lib.hid hQ2d
    have HV := Lib.hid hV
    have HUQ2 := Lib.hid hUq2
    have HS12 := Lib.hid S1'
    clear hV hdm hMd hq2 hr2 hUq2 hUq3 hm2 hQ2d S1'
    go_upto_block 2 with fail
    clear T1 T2 T3 T4 T5 T6 T7
    go_cut [18] (fun aa wx => aa = .int .u64 (Q2 : Int) ∧ w' = wx)
    case first =>
      go_wp2_with fail
      go_loop [18, 16] (fun aa bb => ∃ a b : Nat, aa = .int .u64 (a : Int) ∧ bb = .int .u64 (b : Int) ∧ V = a * y1 + b ∧ Q2 ≤ a ∧ a ≤ 4294967297 ∧ b < 4294967296) (fun aa _ => (intOf aa).toNat)
      case atStart => exact ⟨q2, r2, rfl, rfl, HUQ2.out, by rw [HQD2.out]; exact HS12.out, S2', by omega⟩
      case round =>
        obtain ⟨a, b, rfl, rfl, hab, hQa, ha, hb⟩ := hrel
        have HAB := Lib.hid hab
        clear hab
        by_cases hA : 4294967296 ≤ a
        · have K := kn_down V Y y1 y0 a b HYS.out hVY HAB.out (by rw [← HQD2.out]; exact hQa) (.inl hA)
          rw [← HQD2.out] at K
          obtain ⟨k1, k2, k3⟩ := K
          have HK3 := Lib.hid k3
          have hA2 : (4294967296 : Int) ≤ (a : Int) := by omega
          clear k3
          by_cases hB : 4294967296 ≤ b + y1
          · have hB2 : (4294967296 : Int) ≤ (b : Int) + (y1 : Int) := by omega
            have HE : Hid (a - 1 = Q2) := Lib.hid (by rw [HQD2.out]; exact kn_break V Y y1 y0 (a - 1) (b + y1) HYS.out (by omega) y0h HK3.out (by rw [← HQD2.out]; exact k1) (by omega) hB)
            go_wp2_with fail
            go_meet
            exact ⟨by rw [← HE.out]; congr 1; omega, rfl⟩
          · have hB2 : ¬ (4294967296 : Int) ≤ (b : Int) + (y1 : Int) := by omega
            go_wp2_with fail
            go_round
            case rel => exact ⟨a - 1, b + y1, by congr 1; omega, by congr 1, HK3.out, k1, by omega, by omega⟩
            case measure => simp [intOf]; omega
        · have hA2 : ¬ (4294967296 : Int) ≤ (a : Int) := by omega
          have hPl := kn_prod a y0 ha y0h
          obtain ⟨P, hP⟩ : ∃ P, P = a * y0 := ⟨_, rfl⟩
          rw [← hP] at hPl
          have R : IntKind.u64.wrap ((a : Int) * (y0 : Int)) = (P : Int) := by
            rw [show (a : Int) * (y0 : Int) = ((a * y0 : Nat) : Int) from by simp, ← hP, wrap_nat P hPl]
          have HP := Lib.hid hP
          clear hP
          by_cases hC : 4294967296 * b < P
          · have hC2 : (4294967296 : Int) * (b : Int) < (P : Int) := by omega
            have K := kn_down V Y y1 y0 a b HYS.out hVY HAB.out (by rw [← HQD2.out]; exact hQa) (.inr (by rw [← HP.out]; exact hC))
            rw [← HQD2.out] at K
            obtain ⟨k1, k2, k3⟩ := K
            have HK3 := Lib.hid k3
            clear k3
            by_cases hB : 4294967296 ≤ b + y1
            · have hB2 : (4294967296 : Int) ≤ (b : Int) + (y1 : Int) := by omega
              have HE : Hid (a - 1 = Q2) := Lib.hid (by rw [HQD2.out]; exact kn_break V Y y1 y0 (a - 1) (b + y1) HYS.out (by omega) y0h HK3.out (by rw [← HQD2.out]; exact k1) (by omega) hB)
              go_wp2_with fail
              go_meet
              exact ⟨by rw [← HE.out]; congr 1; omega, rfl⟩
            · have hB2 : ¬ (4294967296 : Int) ≤ (b : Int) + (y1 : Int) := by omega
              go_wp2_with fail
              go_round
              case rel => exact ⟨a - 1, b + y1, by congr 1; omega, by congr 1, HK3.out, k1, by omega, by omega⟩
              case measure => simp [intOf]; omega
          · have hC2 : ¬ (4294967296 : Int) * (b : Int) < (P : Int) := by omega
            have HE : Hid (a = Q2) := Lib.hid (by rw [HQD2.out]; exact kn_done V Y y1 y0 a b HYS.out (by omega) HAB.out (by rw [← HQD2.out]; exact hQa) (by rw [← HP.out]; omega))
            go_wp2_with fail
            go_meet
            exact ⟨by rw [← HE.out], rfl⟩
    case rest =>
      obtain ⟨rfl, rfl⟩ := hcut
      go_wp2_with fail
      go_ret2
      have E1 : hi * 18446744073709551616 / y = Q * 4294967296 + Q2 := by
        rw [HQD.out, HQD2.out, HV.out]; exact KA.out.symm
      rw [E1]
      rw [show ((Q * 4294967296 + Q2 : Nat) : Int) = (Q : Int) * 4294967296 + (Q2 : Int) from by simp]
      exact ⟨⟨_, rfl⟩, rfl⟩

end Go.Proofs.YtaknkiejjnilnaaDoor

namespace Go.Proofs.YtaknkiejjnilnaaDoor
open Go.RowKit

def cubeNext (p r : Nat) : Nat := (2 * r + p * 67108864 * 18446744073709551616 / (r * r / 64)) / 3

def cubeRun : Nat → Nat → Nat → Nat
  | 0, _, r => r
  | f + 1, p, r => if r ≤ cubeNext p r then r else cubeRun f p (cubeNext p r)

def cubeOk : Nat → Nat → Nat → Bool
  | 0, _, _ => false
  | f + 1, p, r => decide (r < 34359738368 ∧ 0 < p ∧ p < 1024 ∧ p * 67108864 < r * r / 64 ∧ 2 * r + p * 67108864 * 18446744073709551616 / (r * r / 64) < 18446744073709551616) && (if r ≤ cubeNext p r then true else cubeOk f p (cubeNext p r))

theorem square_bits (s : Nat) (h : s < 1180591620717411303424) : bits .or .u64 ((s / 18446744073709551616 * 288230376151711744 : Nat) : Int) ((s % 18446744073709551616 / 64 : Nat) : Int) = ((s / 64 : Nat) : Int) := by
  have h1 : s / 18446744073709551616 < 64 := by omega
  have h2 : s % 18446744073709551616 / 64 < 2 ^ 58 := by omega
  rw [u64_or_nat _ _ (by omega) (by omega)]
  congr 1
  have e := Nat.shiftLeft_add_eq_or_of_lt h2 (s / 18446744073709551616)
  rw [Nat.shiftLeft_eq] at e
  rw [show (288230376151711744 : Nat) = 2 ^ 58 from rfl, ← e]
  omega

set_option maxRecDepth 100000 in
set_option maxHeartbeats 1000000 in
theorem cube_any (p r f : Nat) (w : World) (hk : cubeOk f p r = true) :
    Calls Tryd.prog 41 #[.int .u64 (p : Int), .int .u64 (r : Int)] w fun e w' => e = .returned (.int .u64 (cubeRun f p r : Int)) ∧ w = w' := by
  obtain ⟨R, hR⟩ : ∃ R, R = cubeRun f p r := ⟨_, rfl⟩
  rw [← hR]
  have HR := Lib.hid hR
  have HK := Lib.hid hk
  clear hk hR
  go_enter Tryd.func41, Tryd.ntmps41
  go_wp2_with fail
  go_loop [5] (fun aa => ∃ a g : Nat, aa = .int .u64 (a : Int) ∧ cubeOk g p a = true ∧ R = cubeRun g p a) (fun aa => (intOf aa).toNat)
  case atStart => exact ⟨r, f, rfl, HK.out, HR.out⟩
  case round =>
    obtain ⟨a, g, rfl, hok, hrun⟩ := hrel
    cases g with
    | zero => simp [cubeOk] at hok
    | succ g =>
      simp only [cubeOk, Bool.and_eq_true, decide_eq_true_eq] at hok
      obtain ⟨⟨a1, p0, p1, hpq, hno⟩, hgo⟩ := hok
      simp only [cubeRun] at hrun
      obtain ⟨P, hP⟩ : ∃ P, P = p * 67108864 := ⟨_, rfl⟩
      obtain ⟨S, hS⟩ : ∃ S, S = a * a := ⟨_, rfl⟩
      have hSb : S < 1180591620717411303424 := by
        rw [hS]; exact Nat.mul_lt_mul_of_lt_of_lt (c := 34359738368) (d := 34359738368) a1 a1 
      obtain ⟨T, hT⟩ : ∃ T, T = S / 64 := ⟨_, rfl⟩
      obtain ⟨Q, hQ⟩ : ∃ Q, Q = P * 18446744073709551616 / T := ⟨_, rfl⟩
      obtain ⟨N, hN⟩ : ∃ N, N = cubeNext p a := ⟨_, rfl⟩
      rw [← hN] at hgo hrun
      have hN2 : N = (2 * a + Q) / 3 := by rw [hN, hQ, hP, hT, hS]; rfl
      rw [← hP, ← hS, ← hT] at hpq hno
      rw [← hQ] at hno
      have hPp : 0 < P := by omega
      have hTb : T < 18446744073709551616 := by omega
      have HGO := Lib.hid hgo
      have HRUN := Lib.hid hrun
      have HQ := Lib.hid hQ
      have HN := Lib.hid hN
      have HS := Lib.hid hS
      have HP := Lib.hid hP
      have R4 : bits .or .u64 ((S : Int) / 18446744073709551616 * 288230376151711744) ((S : Int) % 18446744073709551616 / 64) = (T : Int) := by
        have := square_bits S hSb
        rw [← hT] at this
        rw [← this]; congr 1
      obtain ⟨M, hM⟩ : ∃ M, M = 2 * a + Q := ⟨_, rfl⟩
      have R6 : IntKind.u64.wrap (2 * (a : Int) + (Q : Int)) = (M : Int) := by rw [wrap_mod]; omega
      have R7 : (M : Int) / 3 = (N : Int) := by omega
      have HNO := Lib.hid hno
      have HM := Lib.hid hM
      have HN2 := Lib.hid hN2
      clear hno hM hN2
      have e1 : (p : Int) * 67108864 = (P : Int) := by omega
      clear hgo hrun hQ hN hS hT hP
      go_wp2_with fail
      refine (Tryd.bits_Mul64 a a (by omega) (by omega) _).mono ?_
      rintro e w' ⟨rfl, rfl⟩
      rw [← HS.out]
      go_wp2_with fail
      refine (div_any P T _ hPp hpq hTb).mono ?_
      rintro e w' ⟨⟨rr, rfl⟩, rfl⟩
      rw [← HQ.out]
      clear R4 e1
      have R8 : IntKind.u64.wrap (N : Int) = (N : Int) := wrap_nat N (by have := HNO.out; have := HN2.out; omega)
      by_cases hge : a ≤ N
      · have hge1 : (a : Int) ≤ (N : Int) := by omega
        go_wp2_with fail
        go_ret
        have h2 := HRUN.out
        rw [if_pos hge] at h2
        exact ⟨by rw [h2]; rfl, rfl⟩
      · have hge1 : ¬ (a : Int) ≤ (N : Int) := by omega
        go_wp2_with fail
        go_round
        case rel =>
          have h1 := HGO.out
          have h2 := HRUN.out
          rw [if_neg hge] at h1 h2
          exact ⟨N, g, by rfl, h1, h2⟩
        case measure => simp [intOf]; omega
end Go.Proofs.YtaknkiejjnilnaaDoor

namespace Go.Proofs.YtaknkiejjnilnaaDoor
open Go.RowKit

def primesL : List Nat := [2, 3, 5, 7, 11, 13, 17, 19, 23, 29, 31, 37, 41, 43, 47, 53, 59, 61, 67, 71, 73, 79, 83, 89, 97, 101, 103, 107, 109, 113, 127, 131, 137, 139, 149, 151, 157, 163, 167, 173, 179, 181, 191, 193, 197, 199, 211, 223, 227, 229, 233, 239, 241, 251, 257, 263, 269, 271, 277, 281, 283, 293, 307, 311]

def wordsK : List Nat := [0x428a2f98, 0x71374491, 0xb5c0fbcf, 0xe9b5dba5, 0x3956c25b, 0x59f111f1, 0x923f82a4, 0xab1c5ed5,
  0xd807aa98, 0x12835b01, 0x243185be, 0x550c7dc3, 0x72be5d74, 0x80deb1fe, 0x9bdc06a7, 0xc19bf174,
  0xe49b69c1, 0xefbe4786, 0x0fc19dc6, 0x240ca1cc, 0x2de92c6f, 0x4a7484aa, 0x5cb0a9dc, 0x76f988da,
  0x983e5152, 0xa831c66d, 0xb00327c8, 0xbf597fc7, 0xc6e00bf3, 0xd5a79147, 0x06ca6351, 0x14292967,
  0x27b70a85, 0x2e1b2138, 0x4d2c6dfc, 0x53380d13, 0x650a7354, 0x766a0abb, 0x81c2c92e, 0x92722c85,
  0xa2bfe8a1, 0xa81a664b, 0xc24b8b70, 0xc76c51a3, 0xd192e819, 0xd6990624, 0xf40e3585, 0x106aa070,
  0x19a4c116, 0x1e376c08, 0x2748774c, 0x34b0bcb5, 0x391c0cb3, 0x4ed8aa4a, 0x5b9cca4f, 0x682e6ff3,
  0x748f82ee, 0x78a5636f, 0x84c87814, 0x8cc70208, 0x90befffa, 0xa4506ceb, 0xbef9a3f7, 0xc67178f2]

theorem wordsK_length : wordsK.length = 64 := rfl

def rootAt : Nat → Nat
  | 0 => 30064771072
  | i + 1 => cubeRun 64 (primesL.getD (63 - i) 0) (rootAt i)

theorem roots_ok : ∀ i, i < 64 → cubeOk 64 (primesL.getD (63 - i) 0) (rootAt i) = true ∧ rootAt (i + 1) % 4294967296 = wordsK.getD (63 - i) 0 := by decide +kernel

def rowW (L : List Value) (k : Nat) : List Value := L.take (67 - k) ++ ((wordsK.drop (64 - k)).map wv ++ L.drop 67)

theorem rowW_zero (L : List Value) : rowW L 0 = L := by
  unfold rowW
  rw [List.drop_eq_nil_of_le (by rw [wordsK_length]; omega)]
  simp

theorem rowW_set (L : List Value) (k : Nat) (hk : k < 64) (hL : L.length = 140) : (rowW L k).set (3 + (63 - k)) (wv (wordsK.getD (63 - k) 0)) = rowW L (k + 1) := by
  unfold rowW
  have e1 : 3 + (63 - k) = 66 - k := by omega
  have e2 : 67 - k = (66 - k) + 1 := by omega
  have e3 : 67 - (k + 1) = 66 - k := by omega
  have e4 : 64 - (k + 1) = 63 - k := by omega
  have e5 : wordsK.drop (63 - k) = wordsK.getD (63 - k) 0 :: wordsK.drop (64 - k) := by
    rw [List.drop_eq_getElem_cons (by rw [wordsK_length]; omega), show 63 - k + 1 = 64 - k from by omega]
    congr 1
    rw [List.getD_eq_getElem?_getD, List.getElem?_eq_getElem (by rw [wordsK_length]; omega)]; rfl
  rw [e1, e2, e3, e4, e5]
  have e6 : L.take (66 - k + 1) = L.take (66 - k) ++ [L[66 - k]'(by omega)] := by simp
  rw [e6]
  apply List.ext_getElem?
  intro i
  have hl : (L.take (66 - k)).length = 66 - k := by simp; omega
  generalize L.take (66 - k) = A at *
  rw [List.append_assoc, List.set_append_right _ _ (by omega), hl, Nat.sub_self]
  simp

theorem rowW_length (L : List Value) (k : Nat) (hk : k ≤ 64) (hL : L.length = 140) : (rowW L k).length = 140 := by
  simp [rowW, wordsK_length, hL]; omega

set_option maxRecDepth 100000 in
set_option maxHeartbeats 1000000 in
theorem words_any (b : Nat) (L : List Value) (t : TypeId) (w : World) (hL : L.length = 140) (hb : Has w b L t) (hb1 : 1 < b)
    (hP : ∀ i, i < 64 → w.cell? ⟨1, i, none⟩ = some (.int .u64 ((primesL.getD i 0 : Nat) : Int))) :
    Calls Tryd.prog 34 #[.pointer (some ⟨b, 0, none⟩)] w fun e w' => e = .returned (.tuple #[]) ∧ Has w' b (rowW L 64) t ∧ But w.heap.size b w w' := by
  have HP := Lib.hid hP
  clear hP
  have hblt := hb.lt
  go_enter Tryd.func34, Tryd.ntmps34
  go_wp2_with fail
  go_loopw [2, 5] (fun rr ii wr => ∃ k : Nat, k ≤ 64 ∧ ii = .int .i64 k ∧ rr = .int .u64 (rootAt k : Int) ∧ Has wr b (rowW L k) t ∧ But w.heap.size b w wr) (fun _ ii _ => 64 - (intOf ii).toNat)
  case atStart => exact ⟨0, Nat.zero_le _, rfl, rfl, by rw [rowW_zero]; exact hb, But.refl _ _ _⟩
  case round =>
    obtain ⟨k, hk, rfl, rfl, hh, hbut⟩ := hrel
    by_cases hlt : k < 64
    · obtain ⟨hok, hw⟩ := roots_ok k hlt
      have hprime : wr.cell? ⟨1, 63 - k, none⟩ = some (.int .u64 ((primesL.getD (63 - k) 0 : Nat) : Int)) :=
        (World.cell?_of_block (w := w) (hbut.block 1 (by omega) (by omega))).trans (HP.out _ (by omega))
      obtain ⟨u, hu⟩ : ∃ u, (rowW L k)[3 + (63 - k)]? = some u := ⟨_, List.getElem?_eq_getElem (by rw [rowW_length L k hk hL]; omega)⟩
      have hcell := hh.cellAt hu
      have hfree := hh.frozen (3 + (63 - k))
      have hnext : rootAt (k + 1) = cubeRun 64 (primesL.getD (63 - k) 0) (rootAt k) := rfl
      have HS := Lib.hid (rowW_set L k hlt hL)
      obtain ⟨N, hNd⟩ : ∃ N, N = rootAt (k + 1) := ⟨_, rfl⟩
      rw [← hNd] at hnext hw
      have HN := Lib.hid hnext
      have HND := Lib.hid hNd
      have HOK := Lib.hid hok
      generalize primesL.getD (63 - k) 0 = p at *
      generalize wordsK.getD (63 - k) 0 = kw at *
      have R1 : IntKind.u32.wrap (N : Int) = (kw : Int) := by
        simp [IntKind.wrap, IntKind.bits, IntKind.signed]; omega
      have HK := Lib.hid hw
      have HU := Lib.hid hu
      clear hw hu hok hnext hNd
      have hk64 : (k : Int) < 64 := by omega
      go_wp2_with fail
      refine (cube_any p (rootAt k) 64 _ HOK.out).mono ?_
      rintro e w' ⟨rfl, rfl⟩
      rw [← HN.out]
      go_wp2_with fail
      go_roundw
      case rel => exact ⟨k + 1, by omega, by go_num, by rw [HND.out], by rw [← HS.out]; exact hh.set _ _, hbut.setCell (.inr rfl) _⟩
      case measure => simp [intOf]; omega
    · obtain rfl : k = 64 := by omega
      go_wp2_with fail
      go_end0
      exact ⟨rfl, hh, hbut⟩

end Go.Proofs.YtaknkiejjnilnaaDoor

namespace Go.Proofs.YtaknkiejjnilnaaDoor
open Go.RowKit

theorem disable (w : World) : (callFunc 60 #[]).run Tryd.prog w = .ok (.value (.tuple #[])) w := run_call_mark0 Tryd.func60 (by kernel_rfl) (by kernel_rfl) (by kernel_rfl) .disable (by kernel_rfl) w
theorem enable (w : World) : (callFunc 62 #[]).run Tryd.prog w = .ok (.value (.tuple #[])) w := run_call_mark0 Tryd.func62 (by kernel_rfl) (by kernel_rfl) (by kernel_rfl) .enable (by kernel_rfl) w
theorem acquire (a : Addr) (w : World) : (callFunc 63 #[.pointer (some a)]).run Tryd.prog w = .ok (.value (.tuple #[])) w := run_call_marked Tryd.func63 (by kernel_rfl) (by kernel_rfl) (by kernel_rfl) .acquire (by kernel_rfl) a w
theorem releaseMerge (a : Addr) (w : World) : (callFunc 65 #[.pointer (some a)]).run Tryd.prog w = .ok (.value (.tuple #[])) w := run_call_marked Tryd.func65 (by kernel_rfl) (by kernel_rfl) (by kernel_rfl) .releaseMerge (by kernel_rfl) a w

theorem store_deferred (a : Addr) (x : Value) (u : FrameMode) (w : World) (hc : w.cell? a = some x) (hz : w.frozen? a = false) :
    CallsD Tryd.prog 48 #[.pointer (some a), .bool true] u w fun e u' w' => u' = u ∧ (e = .returned (.tuple #[]) ∧ w' = w.drew.setCell a (.int .u32 1)) := by
  have hc' : w.drew.cell? a = some x := by go_simp
  have hz' : w.drew.frozen? a = false := by go_simp
  have hst := run_call_store (P := Tryd.prog) Tryd.func55 (by kernel_rfl) (by kernel_rfl) (by kernel_rfl) (by kernel_rfl) (k := .u32) (y := 1) hc' hz'
  go_enter_d Tryd.func48, Tryd.ntmps48
  go_wp2
  go_region_calls
  all_goals (go_end0; exact ⟨rfl, rfl⟩)

set_option maxRecDepth 100000 in
theorem unlock_deferred (a : Addr) (u : FrameMode) (w : World) (hc : w.cell? a = some (.int .i32 1)) (hz : w.frozen? a = false) :
    CallsD Tryd.prog 47 #[.pointer (some a)] u w fun e u' w' => u' = u ∧ (e = .returned (.tuple #[]) ∧ w' = w.setCell a (.int .i32 0)) := by
  have hd := disable
  have he := enable
  have hr := releaseMerge
  have hadd := run_call_add (P := Tryd.prog) Tryd.func66 (by kernel_rfl) (by kernel_rfl) (by kernel_rfl) .i32 (by kernel_rfl) (y := -1) (s := 0) hc hz (by simp [go_sem]; rfl)
  have hcv := run_convert_to_unsafe (P := Tryd.prog) (src := 113) (dst := 117) Tryd.underlying113 Tryd.underlying117 (by kernel_rfl) hc
  go_enter_d Tryd.func47, Tryd.ntmps47
  go_wp2
  go_end0
  go_wp2
  go_end0
  exact ⟨rfl, rfl⟩

set_option maxRecDepth 100000 in
theorem lock_free (a : Addr) (w : World) (hc : w.cell? a = some (.int .i32 0)) (hz : w.frozen? a = false) :
    Calls Tryd.prog 46 #[.pointer (some a)] w fun e w' => e = .returned (.tuple #[]) ∧ w' = w.setCell a (.int .i32 1) := by
  have hd := disable
  have he := enable
  have ha := acquire
  have hcas := run_call_cas_hit (P := Tryd.prog) Tryd.func61 (by kernel_rfl) (by kernel_rfl) (by kernel_rfl) .i32 (by kernel_rfl) (y := 1) hc hz
  have hc' : (w.setCell a (.int .i32 1)).cell? a = some (.int .i32 1) := World.cell?_setCell_same w a _ hc
  have hcv := run_convert_to_unsafe (P := Tryd.prog) (src := 113) (dst := 117) Tryd.underlying113 Tryd.underlying117 (by kernel_rfl) hc'
  go_enter Tryd.func46, Tryd.ntmps46
  go_wp2
  first | go_end0 | (simp only [Exit.inBlock, Exit.then]; refine bodyPost_ret (results_none rfl _ _ _) rfl ?_) | refine bodyPost_ret (results_none rfl _ _ _) rfl ?_
  go_wp2
  go_end0
  exact ⟨rfl, rfl⟩

theorem load_any (a : Addr) (d : Int) (w : World) (hc : w.cell? a = some (.int .u32 d)) :
    Calls Tryd.prog 39 #[.pointer (some a)] w fun e w' => e = .returned (.bool (d != 0)) ∧ w' = w := by
  have hl := run_call_load (P := Tryd.prog) Tryd.func45 (by kernel_rfl) (by kernel_rfl) (by kernel_rfl) .u32 (by kernel_rfl) hc
  go_enter Tryd.func39, Tryd.ntmps39
  go_wp2
  go_ret
  exact ⟨rfl, rfl⟩

end Go.Proofs.YtaknkiejjnilnaaDoor
