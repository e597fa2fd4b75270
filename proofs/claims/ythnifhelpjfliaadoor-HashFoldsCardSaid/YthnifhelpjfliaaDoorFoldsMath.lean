/-
  Plain mathematics of Fold: it goes through xor.
-/
import Derived.Test.YthnifhelpjfliaaDoorFold
namespace Go.Proofs.YthnifhelpjfliaaDoor
open Go.RowKit

def xorL (D E : List Nat) : Nat → List Nat
  | 0 => List.replicate 32 0
  | k + 1 => (xorL D E k).set k (D.getD k 0 ^^^ E.getD k 0)

theorem xorL_length (D E : List Nat) : ∀ k, (xorL D E k).length = 32
  | 0 => by simp [xorL]
  | k + 1 => by simp [xorL, xorL_length D E k]

theorem xorL_lt (D E : List Nat) (hD : ∀ x ∈ D, x < 256) (hE : ∀ x ∈ E, x < 256) : ∀ k, ∀ x ∈ xorL D E k, x < 256
  | 0 => by intro x hx; simp [xorL] at hx; omega
  | k + 1 => by
    intro x hx
    rcases List.mem_or_eq_of_mem_set hx with h | h
    · exact xorL_lt D E hD hE k x h
    · rw [h]; exact xor8_lt (getD_all hD (by omega) _) (getD_all hE (by omega) _)

theorem xor_rw (a b c d : Nat) : (a ^^^ b) ^^^ (c ^^^ d) = (a ^^^ c) ^^^ (b ^^^ d) := by
  apply Nat.eq_of_testBit_eq
  intro i
  simp only [Nat.testBit_xor]
  cases a.testBit i <;> cases b.testBit i <;> cases c.testBit i <;> cases d.testBit i <;> rfl

theorem xorL_get (D E : List Nat) : ∀ k, k ≤ 32 → ∀ j, j < k → (xorL D E k).getD j 0 = D.getD j 0 ^^^ E.getD j 0
  | 0, _, j, h => by omega
  | k + 1, hk, j, h => by
    have hl := xorL_length D E k
    rw [List.getD_eq_getElem?_getD]
    unfold xorL
    by_cases hj : j = k
    · subst hj
      rw [List.getElem?_set_self (by omega)]; rfl
    · rw [List.getElem?_set_ne (by omega), ← List.getD_eq_getElem?_getD]
      exact xorL_get D E k (by omega) j (by omega)

theorem foldP_get (X : List Nat) : ∀ i, i < 20 → (foldP X 32).getD i 0 = X.getD i 0 ^^^ (if i < 12 then X.getD (20 + i) 0 else 0) := by
  intro i hi
  have : i = 0 ∨ i = 1 ∨ i = 2 ∨ i = 3 ∨ i = 4 ∨ i = 5 ∨ i = 6 ∨ i = 7 ∨ i = 8 ∨ i = 9 ∨ i = 10 ∨ i = 11 ∨ i = 12 ∨ i = 13 ∨ i = 14 ∨ i = 15 ∨ i = 16 ∨ i = 17 ∨ i = 18 ∨ i = 19 := by omega
  rcases this with rfl | rfl | rfl | rfl | rfl | rfl | rfl | rfl | rfl | rfl | rfl | rfl | rfl | rfl | rfl | rfl | rfl | rfl | rfl | rfl <;> simp [foldP]

theorem fold_xor (D E : List Nat) (i : Nat) (hi : i < 20) : (foldP (xorL D E 32) 32).getD i 0 = (foldP D 32).getD i 0 ^^^ (foldP E 32).getD i 0 := by
  rw [foldP_get _ i hi, foldP_get _ i hi, foldP_get _ i hi, xorL_get D E 32 (by omega) i (by omega)]
  by_cases h : i < 12
  · rw [if_pos h, if_pos h, if_pos h, xorL_get D E 32 (by omega) (20 + i) (by omega), xor_rw]
  · rw [if_neg h, if_neg h, if_neg h]; simp

end Go.Proofs.YthnifhelpjfliaaDoor
