/-
  The digest of any bytes, plainly: what a hasher holds behind a number of bytes, and the state behind whole blocks.
-/
import Derived.Test.YthomkagbcoaipaaDoorOfS
namespace Go.Proofs.YthomkagbcoaipaaDoor
open Go.RowKit
set_option linter.unusedVariables false

/-- The digest of bytes. -/
def dig (M : List Nat) : List Nat := sumL (stAt startL M (M.length / 64)) (M.drop (64 * (M.length / 64))) M.length

theorem sumL_length (S T : List Nat) (N : Nat) : (sumL S T N).length = 32 := by unfold sumL; exact bytesL_length _ 32
theorem dig_length (M : List Nat) : (dig M).length = 32 := by unfold dig; exact sumL_length _ _ _
theorem bytesL_lt (S : List Nat) : ∀ k, ∀ x ∈ bytesL S k, x < 256
  | 0 => by intro x hx; simp [bytesL] at hx; omega
  | k + 1 => by
    intro x hx
    rcases List.mem_or_eq_of_mem_set hx with h | h
    · exact bytesL_lt S k x h
    · rw [h]; exact byteAt_lt S k
theorem dig_lt (M : List Nat) : ∀ x ∈ dig M, x < 256 := by unfold dig sumL; exact bytesL_lt _ 32

theorem endL_tail {T T' : List Nat} {N : Nat} (h : T.take (N % 64) = T'.take (N % 64)) : ∀ i, endL T N i = endL T' N i
  | 0 => by unfold endL end0; rw [h]
  | i + 1 => by unfold endL; rw [endL_tail h i]

theorem sumL_tail (S : List Nat) {T T' : List Nat} {N : Nat} (h : T.take (N % 64) = T'.take (N % 64)) : sumL S T N = sumL S T' N := by
  unfold sumL; rw [endL_tail h]

/-- The hasher's row holds just these bytes taken. -/
def Took (L : List Value) (M : List Nat) : Prop := ∃ S T, Holds L S T M.length ∧ S = stAt startL M (M.length / 64) ∧ T.take (M.length % 64) = M.drop (64 * (M.length / 64))

theorem Took.dig {L : List Value} {M S T : List Nat} (hS : S = stAt startL M (M.length / 64)) (hT : T.take (M.length % 64) = M.drop (64 * (M.length / 64))) : sumL S T M.length = dig M := by
  unfold Go.Proofs.YthomkagbcoaipaaDoor.dig
  rw [hS]
  refine sumL_tail _ ?_
  rw [hT]
  exact (List.take_of_length_le (by rw [List.length_drop]; omega)).symm

theorem Took.rowD {L : List Value} {M : List Nat} (h : Took L M) : Took (Go.Proofs.YthomkagbcoaipaaDoor.rowD L) M := by
  obtain ⟨S, T, hH, hS, hT⟩ := h
  exact ⟨S, T, hH.rowD, hS, hT⟩

theorem took_new : Took newRow [] := ⟨startL, List.replicate 64 0, newRow_holds, rfl, rfl⟩

/-- The state behind k blocks hangs on these blocks alone. -/
theorem stAt_append (S A B : List Nat) : ∀ k, 64 * k ≤ A.length → stAt S (A ++ B) k = stAt S A k
  | 0, _ => rfl
  | k + 1, h => by
    unfold stAt
    rw [stAt_append S A B k (by omega), List.drop_append_of_le_length (by omega), List.take_append_of_le_length (by rw [List.length_drop]; omega)]

theorem stAt_more (S A B : List Nat) (q : Nat) (hq : A.length = 64 * q) : ∀ k, stAt S (A ++ B) (q + k) = stAt (stAt S A q) B k
  | 0 => by
    rw [Nat.add_zero, stAt_append S A B q (by omega)]; rfl
  | k + 1 => by
    show mixL (stAt S (A ++ B) (q + k)) (((A ++ B).drop (64 * (q + k))).take 64) = mixL (stAt (stAt S A q) B k) ((B.drop (64 * k)).take 64)
    rw [stAt_more S A B q hq k, List.drop_append, List.drop_eq_nil_of_le (by omega), List.nil_append]
    congr 3
    omega

end Go.Proofs.YthomkagbcoaipaaDoor
