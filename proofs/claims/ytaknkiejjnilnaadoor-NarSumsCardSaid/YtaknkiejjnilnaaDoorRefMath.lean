/-
  The reference's words are the program's: or for exclusive or, sums in another order; the padded bytes.
-/
import Derived.Test.YtaknkiejjnilnaaDoorGF
namespace Go.Proofs.YtaknkiejjnilnaaDoor
open Go.RowKit
set_option linter.unusedVariables false

theorem testBit_not32 (w : Nat) (hw : w < 4294967296) (i : Nat) : (4294967295 - w).testBit i = (decide (i < 32) && !w.testBit i) := by
  have h := Nat.testBit_two_pow_sub_succ (x := w) (n := 32) (by simpa using hw) i
  rw [← h]
  congr 1
  omega

theorem choice_or (w x y : Nat) (hw : w < 4294967296) : (w &&& x) ||| ((4294967295 - w) &&& y) = choice w x y := by
  unfold choice
  apply Nat.eq_of_testBit_eq
  intro i
  simp only [Nat.testBit_or, Nat.testBit_xor, Nat.testBit_and, testBit_not32 w hw]
  cases w.testBit i <;> cases x.testBit i <;> cases y.testBit i <;> cases decide (i < 32) <;> rfl

theorem major_or (s t u : Nat) : ((s &&& t) ||| (s &&& u)) ||| (t &&& u) = major s t u := by
  unfold major
  apply Nat.eq_of_testBit_eq
  intro i
  simp only [Nat.testBit_or, Nat.testBit_xor, Nat.testBit_and]
  cases s.testBit i <;> cases t.testBit i <;> cases u.testBit i <;> rfl

theorem first_ref (a : S8) (k p : Nat) : (((a.z + k) % 4294967296 + p) % 4294967296 + turn3 a.w 6 11 25) % 4294967296 = (a.z + turn3 a.w 6 11 25 + k + p) % 4294967296 := by omega

theorem firstOf_ref (a : S8) (k p : Nat) : ((((a.z + k) % 4294967296 + p) % 4294967296 + turn3 a.w 6 11 25) % 4294967296 + choice a.w a.x a.y) % 4294967296 = firstOf a k p := by
  unfold firstOf; omega

theorem nextW_ref (B l : List Nat) (i : Nat) (hi : ¬ i < 16) : (((l.getD (i - 16) 0 + l.getD (i - 7) 0) % 4294967296 + small (l.getD (i - 15) 0)) % 4294967296 + great (l.getD (i - 2) 0)) % 4294967296 = nextW B l i := by
  unfold nextW; rw [if_neg hi]; omega

/-- How many noughts stand behind the mark. -/
def padZ (n : Nat) : Nat := (119 - n % 64) % 64
theorem padZ_lt (n : Nat) : padZ n < 64 := Nat.mod_lt _ (by omega)
theorem padZ_mod (n : Nat) : (n + 1 + padZ n) % 64 = 56 := by unfold padZ; omega
theorem padZ_least (n k : Nat) (hk : k < padZ n) : (n + 1 + k) % 64 ≠ 56 := by unfold padZ at hk; omega

/-- The number's bytes, the highest first. -/
def lenB (n : Nat) : List Nat := (List.range 8).map fun i => n * 8 % 18446744073709551616 / 2 ^ (56 - 8 * i) % 256
/-- The bytes, the mark, the noughts, the number. -/
def padL (M : List Nat) : List Nat := M ++ (128 :: (List.replicate (padZ M.length) 0 ++ lenB M.length))
theorem padL_length (M : List Nat) : (padL M).length = M.length + 9 + padZ M.length := by simp [padL, lenB]; omega
theorem padL_mod (M : List Nat) : (padL M).length % 64 = 0 := by rw [padL_length]; unfold padZ; omega

theorem set_mid (A X C : List Nat) (j v : Nat) (hj : j < X.length) : (A ++ (X ++ C)).set (A.length + j) v = A ++ (X.set j v ++ C) := by
  rw [List.set_append_right _ _ (by omega), Nat.add_sub_cancel_left, List.set_append_left _ _ hj]

theorem endL_pad (T : List Nat) (N : Nat) (hT : T.length = N % 64) :
    endL T N 8 = (T ++ (128 :: (List.replicate (padZ N) 0 ++ lenB N))) ++ List.replicate (128 - endN (N % 64)) 0 := by
  have hz : padZ N + (N % 64) + 9 = endN (N % 64) := by unfold padZ endN; split <;> omega
  obtain ⟨A, hA⟩ : ∃ A, A = T ++ (128 :: List.replicate (padZ N) 0) := ⟨_, rfl⟩
  have hAl : A.length = endN (N % 64) - 8 := by rw [hA]; simp; omega
  have he : endN (N % 64) ≤ 128 := by unfold endN; split <;> omega
  have he2 : 64 ≤ endN (N % 64) := by unfold endN; split <;> omega
  obtain ⟨C, hC⟩ : ∃ C, C = List.replicate (128 - endN (N % 64)) 0 := ⟨_, rfl⟩
  obtain ⟨f, hf⟩ : ∃ f : Nat → Nat, ∀ i, N * 8 % 18446744073709551616 / 2 ^ (8 * i) % 256 = f i := ⟨_, fun _ => rfl⟩
  have h0 : endL T N 0 = A ++ ([0, 0, 0, 0, 0, 0, 0, 0] ++ C) := by
    show (end0 T (N % 64)).set (N % 64) 128 = _
    unfold end0
    have e8 : ([0, 0, 0, 0, 0, 0, 0, 0] : List Nat) = List.replicate 8 0 := rfl
    rw [List.take_of_length_le (by omega), List.set_append_right _ _ (by omega), hT, Nat.sub_self, hA, hC, e8,
      show 128 - N % 64 = (padZ N + (8 + (128 - endN (N % 64)))) + 1 from by omega, List.replicate_succ, List.set_cons_zero, List.append_assoc, List.cons_append,
      List.replicate_append_replicate, List.replicate_append_replicate]
  have step : ∀ i, i < 8 → ∀ X : List Nat, X.length = 8 → endL T N i = A ++ (X ++ C) → endL T N (i + 1) = A ++ (X.set (7 - i) (f i) ++ C) := by
    intro i hi X hX h
    show (endL T N i).set (endN (N % 64) - 1 - i) (N * 8 % 18446744073709551616 / 2 ^ (8 * i) % 256) = _
    rw [h, hf, show endN (N % 64) - 1 - i = A.length + (7 - i) from by omega]
    exact set_mid A X C _ _ (by omega)
  have h8 := step 7 (by omega) _ rfl (step 6 (by omega) _ rfl (step 5 (by omega) _ rfl (step 4 (by omega) _ rfl (step 3 (by omega) _ rfl (step 2 (by omega) _ rfl (step 1 (by omega) _ rfl (step 0 (by omega) _ rfl h0)))))))
  rw [h8]
  have hl : lenB N = [f 7, f 6, f 5, f 4, f 3, f 2, f 1, f 0] := by
    simp only [← hf]; rfl
  rw [hl, hA, hC]
  simp

theorem stAt_take (S M : List Nat) (q : Nat) (hq : 64 * q ≤ M.length) : stAt S (M.take (64 * q)) q = stAt S M q := by
  have h := stAt_append S (M.take (64 * q)) (M.drop (64 * q)) q (by rw [List.length_take]; omega)
  rw [List.take_append_drop] at h
  exact h.symm

theorem dig_pad (M : List Nat) : dig M = bytesL (stAt startL (padL M) ((padL M).length / 64)) 32 := by
  obtain ⟨q, hq⟩ : ∃ q, q = M.length / 64 := ⟨_, rfl⟩
  obtain ⟨E, hE⟩ : ∃ E, E = M.drop (64 * q) ++ (128 :: (List.replicate (padZ M.length) 0 ++ lenB M.length)) := ⟨_, rfl⟩
  have hs : padL M = M.take (64 * q) ++ E := by rw [hE, ← List.append_assoc, List.take_append_drop]; rfl
  have hz : padZ M.length + (M.length % 64) + 9 = endN (M.length % 64) := by unfold padZ endN; split <;> omega
  have hEl : E.length = endN (M.length % 64) := by rw [hE]; simp [lenB]; omega
  have hmod : endN (M.length % 64) % 64 = 0 := by unfold endN; split <;> rfl
  have hl : (padL M).length / 64 = q + endN (M.length % 64) / 64 := by rw [hs, List.length_append, hEl, List.length_take]; omega
  unfold dig sumL
  rw [← hq, endL_pad _ _ (by rw [List.length_drop]; omega), ← hE, stAt_append _ E _ _ (by omega), hl, hs, stAt_more startL (M.take (64 * q)) E q (by rw [List.length_take]; omega), stAt_take _ _ _ (by omega)]

end Go.Proofs.YtaknkiejjnilnaaDoor
