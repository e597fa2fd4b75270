/-
  The contract of bits.Div64 with nothing in the lower word: the quotient. Conditions: 0 < hi < y.
-/
import Derived.Test.YthomkagbcoaipaaDoorShelf
import Derived.Test.YthomkagbcoaipaaDoorRot
import Derived.Test.YthomkagbcoaipaaDoorDivMath
import Derived.Deep.DeepCutAuto
import Derived.Deep.CutBlock
namespace Go.Proofs.YthomkagbcoaipaaDoor
open Go.RowKit

theorem wrap_nat (n : Nat) (h : n < 18446744073709551616) : IntKind.u64.wrap (n : Int) = (n : Int) := by
  simp [IntKind.wrap, IntKind.bits, IntKind.signed]; omega

theorem wrap_mod (n : Int) : IntKind.u64.wrap n = n % 18446744073709551616 := by
  simp [IntKind.wrap, IntKind.bits, IntKind.signed]

set_option maxRecDepth 100000 in
set_option maxHeartbeats 2000000 in
theorem div_any (hi y : Nat) (w : World) (h0 : 0 < hi) (h1 : hi < y) (h2 : y < 18446744073709551616) :
    Calls Tryd.prog 65 #[.int .u64 (hi : Int), .int .u64 0, .int .u64 (y : Int)] w fun e w' => (∃ r : Int, e = .returned (.tuple #[.int .u64 ((hi * 18446744073709551616 / y : Nat) : Int), .int .u64 r])) ∧ w = w' := by
  obtain ⟨b1, b2, b3, b4⟩ := bitLen_spec y (by omega) h2
  obtain ⟨s, hs⟩ : ∃ s, s = 64 - Lib.bitLen y := ⟨_, rfl⟩
  rw [← hs] at b3 b4
  have hU : hi * 2 ^ s < y * 2 ^ s := Nat.mul_lt_mul_of_pos_right h1 (Nat.pos_of_ne_zero (by simp))
  have hs63 : s ≤ 63 := by omega
  have R1 : IntKind.u64.wrap (64 - (Lib.bitLen y : Int)) = (s : Int) := by rw [wrap_mod]; omega
  have R2 : min s 64 = s := by omega
  have KA := Lib.hid (kn_all hi y s (by omega))
  obtain ⟨Y, hY⟩ : ∃ Y, Y = y * 2 ^ s := ⟨_, rfl⟩
  obtain ⟨U, hUd⟩ : ∃ U, U = hi * 2 ^ s := ⟨_, rfl⟩
  rw [← hY] at b3 b4 hU KA
  rw [← hUd] at hU KA
  have R3 : IntKind.u64.wrap ((y : Int) * 2 ^ s) = (Y : Int) := by
    rw [show (y : Int) * 2 ^ s = ((y * 2 ^ s : Nat) : Int) from by simp, ← hY, wrap_nat Y b4]
  have R6 : IntKind.u64.wrap ((hi : Int) * 2 ^ s) = (U : Int) := by
    rw [show (hi : Int) * 2 ^ s = ((hi * 2 ^ s : Nat) : Int) from by simp, ← hUd, wrap_nat U (by omega)]
  obtain ⟨y1, hy1⟩ : ∃ y1, y1 = Y / 4294967296 := ⟨_, rfl⟩
  obtain ⟨y0, hy0⟩ : ∃ y0, y0 = Y % 4294967296 := ⟨_, rfl⟩
  have hYs : Y = y1 * 4294967296 + y0 := by omega
  have y1l : 2147483648 ≤ y1 := by omega
  have y1h : y1 < 4294967296 := by omega
  have y0h : y0 < 4294967296 := by omega
  have R4 : (Y : Int) / 4294967296 = (y1 : Int) := by omega
  have R5 : bits .and .u64 (Y : Int) 4294967295 = (y0 : Int) := by
    rw [show (4294967295 : Int) = ((4294967295 : Nat) : Int) from rfl, u64_and_nat _ _ b4 (by omega), nat_mask32, hy0]
  have R7 : bits .or .u64 (U : Int) 0 = (U : Int) := by
    rw [show (0 : Int) = ((0 : Nat) : Int) from rfl, u64_or_nat _ _ (by omega) (by omega), Nat.or_zero]
  have R8 : bits .and .u64 0 4294967295 = 0 := by decide +kernel
  obtain ⟨S1, S2⟩ := kn_start U Y y1 y0 hYs y1l y0h hU
  obtain ⟨q, hq⟩ : ∃ q, q = U / y1 := ⟨_, rfl⟩
  obtain ⟨r, hr⟩ : ∃ r, r = U % y1 := ⟨_, rfl⟩
  have hUq : U = q * y1 + r := by rw [hq, hr, Nat.mul_comm]; exact (Nat.div_add_mod U y1).symm
  have hrl : r < y1 := by rw [hr]; exact Nat.mod_lt _ (by omega)
  rw [← hq] at S1 S2
  obtain ⟨m, hm⟩ : ∃ m, m = q * y1 := ⟨_, rfl⟩
  rw [← hm] at hUq
  have R9 : IntKind.u64.wrap ((U : Int) / (y1 : Int)) = (q : Int) := by
    rw [show (U : Int) / (y1 : Int) = ((U / y1 : Nat) : Int) from by simp, ← hq, wrap_nat q (by omega)]
  have R10 : IntKind.u64.wrap ((q : Int) * (y1 : Int)) = (m : Int) := by
    rw [show (q : Int) * (y1 : Int) = ((q * y1 : Nat) : Int) from by simp, ← hm, wrap_nat m (by omega)]
  have R11 : IntKind.u64.wrap ((U : Int) - (m : Int)) = (r : Int) := by rw [wrap_mod]; omega
  have c0 : ((y : Int) == 0) = false := by simp; omega
  have c1 : decide ((y : Int) ≤ (hi : Int)) = false := by simp; omega
  have c2 : ((hi : Int) == 0) = false := by simp; omega
  have c3 : ((y1 : Int) == 0) = false := by simp; omega
  have c4 : ¬ (y1 : Int) = 0 := by omega
  have HS := Lib.hid hs
  have HYD := Lib.hid hY
  have HUD := Lib.hid hUd
  have HY1 := Lib.hid hy1
  have HYS := Lib.hid hYs
  have HY0 := Lib.hid hy0
  have HQ := Lib.hid hq
  have HR := Lib.hid hr
  have HUQ := Lib.hid hUq
  have HM := Lib.hid hm
  have HS1 := Lib.hid S1
  clear hs hY hUd hy1 hy0 hYs hq hr hUq hm S1
  go_enter Tryd.func65, Tryd.ntmps65
  go_wp2_with fail
  refine (Tryd.bits_LeadingZeros64 (y : Int) _ (by omega) (by omega)).mono ?_
  rintro e w' ⟨rfl, rfl⟩
  rw [Int.toNat_natCast]
  obtain ⟨Q, hQd⟩ : ∃ Q, Q = U * 4294967296 / Y := ⟨_, rfl⟩
  have HQD := Lib.hid hQd
  clear hQd
  go_upto_block 0 with fail
  clear R1 R2 R3 R4 R5 R6 R7 R9 R10 R11 c0 c1 c2
  go_cut [15] (fun aa wx => aa = .int .u64 (Q : Int) ∧ w' = wx)
  case first =>
    go_wp2_with fail
    go_loop [15, 16] (fun aa bb => ∃ a b : Nat, aa = .int .u64 (a : Int) ∧ bb = .int .u64 (b : Int) ∧ U = a * y1 + b ∧ Q ≤ a ∧ a ≤ 4294967297 ∧ b < 4294967296) (fun aa _ => (intOf aa).toNat)
    case atStart => exact ⟨q, r, rfl, rfl, by rw [← HM.out]; exact HUQ.out, by rw [HQD.out]; exact HS1.out, S2, by omega⟩
    case round =>
      obtain ⟨a, b, rfl, rfl, hab, hQa, ha, hb⟩ := hrel
      have HAB := Lib.hid hab
      clear hab
      by_cases hA : 4294967296 ≤ a
      · have K := kn_down U Y y1 y0 a b HYS.out hU HAB.out (by rw [← HQD.out]; exact hQa) (.inl hA)
        rw [← HQD.out] at K
        obtain ⟨k1, k2, k3⟩ := K
        have HK3 := Lib.hid k3
        have hA2 : (4294967296 : Int) ≤ (a : Int) := by omega
        clear k3
        by_cases hB : 4294967296 ≤ b + y1
        · have hB2 : (4294967296 : Int) ≤ (b : Int) + (y1 : Int) := by omega
          have HE : Hid (a - 1 = Q) := Lib.hid (by rw [HQD.out]; exact kn_break U Y y1 y0 (a - 1) (b + y1) HYS.out (by omega) y0h HK3.out (by rw [← HQD.out]; exact k1) (by omega) hB)
          go_wp2_with fail
          go_meet
          exact ⟨by rw [← HE.out]; congr 1; omega, rfl⟩
        · have hB2 : ¬ (4294967296 : Int) ≤ (b : Int) + (y1 : Int) := by omega
          go_wp2_with fail
          go_round
          case rel => exact ⟨a - 1, b + y1, by congr 1; omega, by congr 1, HK3.out, k1, by omega, by omega⟩
          case measure => simp [intOf]; omega
      · have hA2 : ¬ (4294967296 : Int) ≤ (a : Int) := by omega
        have hPl := kn_prod a y0 ha y0h
        obtain ⟨P, hP⟩ : ∃ P, P = a * y0 := ⟨_, rfl⟩
        rw [← hP] at hPl
        have R : IntKind.u64.wrap ((a : Int) * (y0 : Int)) = (P : Int) := by
          rw [show (a : Int) * (y0 : Int) = ((a * y0 : Nat) : Int) from by simp, ← hP, wrap_nat P hPl]
        have HP := Lib.hid hP
        clear hP
        by_cases hC : 4294967296 * b < P
        · have hC2 : (4294967296 : Int) * (b : Int) < (P : Int) := by omega
          have K := kn_down U Y y1 y0 a b HYS.out hU HAB.out (by rw [← HQD.out]; exact hQa) (.inr (by rw [← HP.out]; exact hC))
          rw [← HQD.out] at K
          obtain ⟨k1, k2, k3⟩ := K
          have HK3 := Lib.hid k3
          clear k3
          by_cases hB : 4294967296 ≤ b + y1
          · have hB2 : (4294967296 : Int) ≤ (b : Int) + (y1 : Int) := by omega
            have HE : Hid (a - 1 = Q) := Lib.hid (by rw [HQD.out]; exact kn_break U Y y1 y0 (a - 1) (b + y1) HYS.out (by omega) y0h HK3.out (by rw [← HQD.out]; exact k1) (by omega) hB)
            go_wp2_with fail
            go_meet
            exact ⟨by rw [← HE.out]; congr 1; omega, rfl⟩
          · have hB2 : ¬ (4294967296 : Int) ≤ (b : Int) + (y1 : Int) := by omega
            go_wp2_with fail
            go_round
            case rel => exact ⟨a - 1, b + y1, by congr 1; omega, by congr 1, HK3.out, k1, by omega, by omega⟩
            case measure => simp [intOf]; omega
        · have hC2 : ¬ (4294967296 : Int) * (b : Int) < (P : Int) := by omega
          have HE : Hid (a = Q) := Lib.hid (by rw [HQD.out]; exact kn_done U Y y1 y0 a b HYS.out (by omega) HAB.out (by rw [← HQD.out]; exact hQa) (by rw [← HP.out]; omega))
          go_wp2_with fail
          go_meet
          exact ⟨by rw [← HE.out], rfl⟩
  case rest =>
    obtain ⟨rfl, rfl⟩ := hcut
    obtain ⟨V, hV⟩ : ∃ V, V = U * 4294967296 % Y := ⟨_, rfl⟩
    have hVY : V < Y := by rw [hV]; exact Nat.mod_lt _ (by omega)
    have hdm : Q * Y + V = U * 4294967296 := by rw [hV, HQD.out, Nat.mul_comm]; exact Nat.div_add_mod _ _
    have hQl : Q < 4294967296 := by
      rw [HQD.out, Nat.div_lt_iff_lt_mul (by omega), Nat.mul_comm]
      exact Nat.mul_lt_mul_of_pos_left hU (by omega)
    obtain ⟨M, hMd⟩ : ∃ M, M = Q * Y := ⟨_, rfl⟩
    rw [← hMd] at hdm
    have T3 : IntKind.u64.wrap ((Q : Int) * (Y : Int)) = (M : Int) % 18446744073709551616 := by
      rw [show (Q : Int) * (Y : Int) = ((Q * Y : Nat) : Int) from by simp, ← hMd, wrap_mod]
    have T1 : IntKind.u64.wrap ((U : Int) * 4294967296) = ((U : Int) * 4294967296) % 18446744073709551616 := wrap_mod _
    have T2 : IntKind.u64.wrap (((U : Int) * 4294967296) % 18446744073709551616) = ((U : Int) * 4294967296) % 18446744073709551616 := by rw [wrap_mod]; omega
    have T4 : IntKind.u64.wrap (((U : Int) * 4294967296) % 18446744073709551616 - (M : Int) % 18446744073709551616) = (V : Int) := by rw [wrap_mod]; omega
    obtain ⟨S1', S2'⟩ := kn_start V Y y1 y0 HYS.out y1l y0h hVY
    obtain ⟨q2, hq2⟩ : ∃ q2, q2 = V / y1 := ⟨_, rfl⟩
    obtain ⟨r2, hr2⟩ : ∃ r2, r2 = V % y1 := ⟨_, rfl⟩
    have hUq2 : V = q2 * y1 + r2 := by rw [hq2, hr2, Nat.mul_comm]; exact (Nat.div_add_mod V y1).symm
    have hrl2 : r2 < y1 := by rw [hr2]; exact Nat.mod_lt _ (by omega)
    rw [← hq2] at S1' S2'
    obtain ⟨m2, hm2⟩ : ∃ m2, m2 = q2 * y1 := ⟨_, rfl⟩
    have hUq3 := hUq2
    rw [← hm2] at hUq3
    have T5 : IntKind.u64.wrap ((V : Int) / (y1 : Int)) = (q2 : Int) := by
      rw [show (V : Int) / (y1 : Int) = ((V / y1 : Nat) : Int) from by simp, ← hq2, wrap_nat q2 (by omega)]
    have T6 : IntKind.u64.wrap ((q2 : Int) * (y1 : Int)) = (m2 : Int) := by
      rw [show (q2 : Int) * (y1 : Int) = ((q2 * y1 : Nat) : Int) from by simp, ← hm2, wrap_nat m2 (by omega)]
    have T7 : IntKind.u64.wrap ((V : Int) - (m2 : Int)) = (r2 : Int) := by rw [wrap_mod]; omega
    obtain ⟨Q2, hQ2d⟩ : ∃ Q2, Q2 = V * 4294967296 / Y := ⟨_, rfl⟩
    have hQ2l : Q2 < 4294967296 := by
      rw [hQ2d, Nat.div_lt_iff_lt_mul (by omega), Nat.mul_comm]
      exact Nat.mul_lt_mul_of_pos_left hVY (by omega)
    have HQD2 := Lib.hid hQ2d
    have HV := Lib.hid hV
    have HUQ2 := Lib.hid hUq2
    have HS12 := Lib.hid S1'
    clear hV hdm hMd hq2 hr2 hUq2 hUq3 hm2 hQ2d S1'
    go_upto_block 2 with fail
    clear T1 T2 T3 T4 T5 T6 T7
    go_cut [18] (fun aa wx => aa = .int .u64 (Q2 : Int) ∧ w' = wx)
    case first =>
      go_wp2_with fail
      go_loop [18, 16] (fun aa bb => ∃ a b : Nat, aa = .int .u64 (a : Int) ∧ bb = .int .u64 (b : Int) ∧ V = a * y1 + b ∧ Q2 ≤ a ∧ a ≤ 4294967297 ∧ b < 4294967296) (fun aa _ => (intOf aa).toNat)
      case atStart => exact ⟨q2, r2, rfl, rfl, HUQ2.out, by rw [HQD2.out]; exact HS12.out, S2', by omega⟩
      case round =>
        obtain ⟨a, b, rfl, rfl, hab, hQa, ha, hb⟩ := hrel
        have HAB := Lib.hid hab
        clear hab
        by_cases hA : 4294967296 ≤ a
        · have K := kn_down V Y y1 y0 a b HYS.out hVY HAB.out (by rw [← HQD2.out]; exact hQa) (.inl hA)
          rw [← HQD2.out] at K
          obtain ⟨k1, k2, k3⟩ := K
          have HK3 := Lib.hid k3
          have hA2 : (4294967296 : Int) ≤ (a : Int) := by omega
          clear k3
          by_cases hB : 4294967296 ≤ b + y1
          · have hB2 : (4294967296 : Int) ≤ (b : Int) + (y1 : Int) := by omega
            have HE : Hid (a - 1 = Q2) := Lib.hid (by rw [HQD2.out]; exact kn_break V Y y1 y0 (a - 1) (b + y1) HYS.out (by omega) y0h HK3.out (by rw [← HQD2.out]; exact k1) (by omega) hB)
            go_wp2_with fail
            go_meet
            exact ⟨by rw [← HE.out]; congr 1; omega, rfl⟩
          · have hB2 : ¬ (4294967296 : Int) ≤ (b : Int) + (y1 : Int) := by omega
            go_wp2_with fail
            go_round
            case rel => exact ⟨a - 1, b + y1, by congr 1; omega, by congr 1, HK3.out, k1, by omega, by omega⟩
            case measure => simp [intOf]; omega
        · have hA2 : ¬ (4294967296 : Int) ≤ (a : Int) := by omega
          have hPl := kn_prod a y0 ha y0h
          obtain ⟨P, hP⟩ : ∃ P, P = a * y0 := ⟨_, rfl⟩
          rw [← hP] at hPl
          have R : IntKind.u64.wrap ((a : Int) * (y0 : Int)) = (P : Int) := by
            rw [show (a : Int) * (y0 : Int) = ((a * y0 : Nat) : Int) from by simp, ← hP, wrap_nat P hPl]
          have HP := Lib.hid hP
          clear hP
          by_cases hC : 4294967296 * b < P
          · have hC2 : (4294967296 : Int) * (b : Int) < (P : Int) := by omega
            have K := kn_down V Y y1 y0 a b HYS.out hVY HAB.out (by rw [← HQD2.out]; exact hQa) (.inr (by rw [← HP.out]; exact hC))
            rw [← HQD2.out] at K
            obtain ⟨k1, k2, k3⟩ := K
            have HK3 := Lib.hid k3
            clear k3
            by_cases hB : 4294967296 ≤ b + y1
            · have hB2 : (4294967296 : Int) ≤ (b : Int) + (y1 : Int) := by omega
              have HE : Hid (a - 1 = Q2) := Lib.hid (by rw [HQD2.out]; exact kn_break V Y y1 y0 (a - 1) (b + y1) HYS.out (by omega) y0h HK3.out (by rw [← HQD2.out]; exact k1) (by omega) hB)
              go_wp2_with fail
              go_meet
              exact ⟨by rw [← HE.out]; congr 1; omega, rfl⟩
            · have hB2 : ¬ (4294967296 : Int) ≤ (b : Int) + (y1 : Int) := by omega
              go_wp2_with fail
              go_round
              case rel => exact ⟨a - 1, b + y1, by congr 1; omega, by congr 1, HK3.out, k1, by omega, by omega⟩
              case measure => simp [intOf]; omega
          · have hC2 : ¬ (4294967296 : Int) * (b : Int) < (P : Int) := by omega
            have HE : Hid (a = Q2) := Lib.hid (by rw [HQD2.out]; exact kn_done V Y y1 y0 a b HYS.out (by omega) HAB.out (by rw [← HQD2.out]; exact hQa) (by rw [← HP.out]; omega))
            go_wp2_with fail
            go_meet
            exact ⟨by rw [← HE.out], rfl⟩
    case rest =>
      obtain ⟨rfl, rfl⟩ := hcut
      go_wp2_with fail
      go_ret2
      have E1 : hi * 18446744073709551616 / y = Q * 4294967296 + Q2 := by
        rw [HQD.out, HQD2.out, HV.out]; exact KA.out.symm
      rw [E1]
      rw [show ((Q * 4294967296 + Q2 : Nat) : Int) = (Q : Int) * 4294967296 + (Q2 : Int) from by simp]
      exact ⟨⟨_, rfl⟩, rfl⟩

end Go.Proofs.YthomkagbcoaipaaDoor
