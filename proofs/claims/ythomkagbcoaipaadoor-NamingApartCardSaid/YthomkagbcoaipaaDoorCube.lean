/-
  The contract of hash.cubeRoot: what Newton's way comes to, by fuel. Condition: the fuel is enough and nothing overflows on the way (a closed check).
-/
import Derived.Test.YthomkagbcoaipaaDoorDiv
namespace Go.Proofs.YthomkagbcoaipaaDoor
open Go.RowKit

def cubeNext (p r : Nat) : Nat := (2 * r + p * 67108864 * 18446744073709551616 / (r * r / 64)) / 3

def cubeRun : Nat → Nat → Nat → Nat
  | 0, _, r => r
  | f + 1, p, r => if r ≤ cubeNext p r then r else cubeRun f p (cubeNext p r)

def cubeOk : Nat → Nat → Nat → Bool
  | 0, _, _ => false
  | f + 1, p, r => decide (r < 34359738368 ∧ 0 < p ∧ p < 1024 ∧ p * 67108864 < r * r / 64 ∧ 2 * r + p * 67108864 * 18446744073709551616 / (r * r / 64) < 18446744073709551616) && (if r ≤ cubeNext p r then true else cubeOk f p (cubeNext p r))

theorem square_bits (s : Nat) (h : s < 1180591620717411303424) : bits .or .u64 ((s / 18446744073709551616 * 288230376151711744 : Nat) : Int) ((s % 18446744073709551616 / 64 : Nat) : Int) = ((s / 64 : Nat) : Int) := by
  have h1 : s / 18446744073709551616 < 64 := by omega
  have h2 : s % 18446744073709551616 / 64 < 2 ^ 58 := by omega
  rw [u64_or_nat _ _ (by omega) (by omega)]
  congr 1
  have e := Nat.shiftLeft_add_eq_or_of_lt h2 (s / 18446744073709551616)
  rw [Nat.shiftLeft_eq] at e
  rw [show (288230376151711744 : Nat) = 2 ^ 58 from rfl, ← e]
  omega

set_option maxRecDepth 100000 in
set_option maxHeartbeats 1000000 in
theorem cube_any (p r f : Nat) (w : World) (hk : cubeOk f p r = true) :
    Calls Tryd.prog 57 #[.int .u64 (p : Int), .int .u64 (r : Int)] w fun e w' => e = .returned (.int .u64 (cubeRun f p r : Int)) ∧ w = w' := by
  obtain ⟨R, hR⟩ : ∃ R, R = cubeRun f p r := ⟨_, rfl⟩
  rw [← hR]
  have HR := Lib.hid hR
  have HK := Lib.hid hk
  clear hk hR
  go_enter Tryd.func57, Tryd.ntmps57
  go_wp2_with fail
  go_loop [5] (fun aa => ∃ a g : Nat, aa = .int .u64 (a : Int) ∧ cubeOk g p a = true ∧ R = cubeRun g p a) (fun aa => (intOf aa).toNat)
  case atStart => exact ⟨r, f, rfl, HK.out, HR.out⟩
  case round =>
    obtain ⟨a, g, rfl, hok, hrun⟩ := hrel
    cases g with
    | zero => simp [cubeOk] at hok
    | succ g =>
      simp only [cubeOk, Bool.and_eq_true, decide_eq_true_eq] at hok
      obtain ⟨⟨a1, p0, p1, hpq, hno⟩, hgo⟩ := hok
      simp only [cubeRun] at hrun
      obtain ⟨P, hP⟩ : ∃ P, P = p * 67108864 := ⟨_, rfl⟩
      obtain ⟨S, hS⟩ : ∃ S, S = a * a := ⟨_, rfl⟩
      have hSb : S < 1180591620717411303424 := by
        rw [hS]; exact Nat.mul_lt_mul_of_lt_of_lt (c := 34359738368) (d := 34359738368) a1 a1 
      obtain ⟨T, hT⟩ : ∃ T, T = S / 64 := ⟨_, rfl⟩
      obtain ⟨Q, hQ⟩ : ∃ Q, Q = P * 18446744073709551616 / T := ⟨_, rfl⟩
      obtain ⟨N, hN⟩ : ∃ N, N = cubeNext p a := ⟨_, rfl⟩
      rw [← hN] at hgo hrun
      have hN2 : N = (2 * a + Q) / 3 := by rw [hN, hQ, hP, hT, hS]; rfl
      rw [← hP, ← hS, ← hT] at hpq hno
      rw [← hQ] at hno
      have hPp : 0 < P := by omega
      have hTb : T < 18446744073709551616 := by omega
      have HGO := Lib.hid hgo
      have HRUN := Lib.hid hrun
      have HQ := Lib.hid hQ
      have HN := Lib.hid hN
      have HS := Lib.hid hS
      have HP := Lib.hid hP
      have R4 : bits .or .u64 ((S : Int) / 18446744073709551616 * 288230376151711744) ((S : Int) % 18446744073709551616 / 64) = (T : Int) := by
        have := square_bits S hSb
        rw [← hT] at this
        rw [← this]; congr 1
      obtain ⟨M, hM⟩ : ∃ M, M = 2 * a + Q := ⟨_, rfl⟩
      have R6 : IntKind.u64.wrap (2 * (a : Int) + (Q : Int)) = (M : Int) := by rw [wrap_mod]; omega
      have R7 : (M : Int) / 3 = (N : Int) := by omega
      have HNO := Lib.hid hno
      have HM := Lib.hid hM
      have HN2 := Lib.hid hN2
      clear hno hM hN2
      have e1 : (p : Int) * 67108864 = (P : Int) := by omega
      clear hgo hrun hQ hN hS hT hP
      go_wp2_with fail
      refine (Tryd.bits_Mul64 a a (by omega) (by omega) _).mono ?_
      rintro e w' ⟨rfl, rfl⟩
      rw [← HS.out]
      go_wp2_with fail
      refine (div_any P T _ hPp hpq hTb).mono ?_
      rintro e w' ⟨⟨rr, rfl⟩, rfl⟩
      rw [← HQ.out]
      clear R4 e1
      have R8 : IntKind.u64.wrap (N : Int) = (N : Int) := wrap_nat N (by have := HNO.out; have := HN2.out; omega)
      by_cases hge : a ≤ N
      · have hge1 : (a : Int) ≤ (N : Int) := by omega
        go_wp2_with fail
        go_ret
        have h2 := HRUN.out
        rw [if_pos hge] at h2
        exact ⟨by rw [h2]; rfl, rfl⟩
      · have hge1 : ¬ (a : Int) ≤ (N : Int) := by omega
        go_wp2_with fail
        go_round
        case rel =>
          have h1 := HGO.out
          have h2 := HRUN.out
          rw [if_neg hge] at h1 h2
          exact ⟨N, g, by rfl, h1, h2⟩
        case measure => simp [intOf]; omega
end Go.Proofs.YthomkagbcoaipaaDoor
