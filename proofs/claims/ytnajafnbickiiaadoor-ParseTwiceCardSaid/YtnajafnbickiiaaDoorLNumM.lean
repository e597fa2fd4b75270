/-
  The number that digits spell, as strconv reads it. No program text.
-/
import Derived.Test.YtnajafnbickiiaaDoorLMath
import Derived.Lib.ParseIntB
namespace Go.Proofs.YtnajafnbickiiaaDoor
open Go.RowKit
set_option linter.unusedVariables false

def decA (acc : Nat) (l : List UInt8) : Nat := l.foldl (fun a c => a * 10 + (c.toNat - 48)) acc
theorem decA_cons (acc : Nat) (c : UInt8) (l : List UInt8) : decA acc (c :: l) = decA (acc * 10 + (c.toNat - 48)) l := by simp only [decA, List.foldl_cons]
theorem decA_ge (l : List UInt8) : ∀ acc : Nat, acc ≤ decA acc l := by
  induction l with
  | nil => intro acc; exact Nat.le_refl _
  | cons c l ih =>
    intro acc
    rw [decA_cons]
    have := ih (acc * 10 + (c.toNat - 48))
    omega
theorem dig_iff {c : UInt8} (h : digL c = true) : 48 ≤ c.toNat ∧ c.toNat ≤ 57 := by
  unfold digL at h; simpa using h
theorem uintM_dig (M : Nat) (hM : M = 18446744073709551615) (l : List UInt8) : ∀ acc : Nat, (∀ c ∈ l, digL c = true) → acc ≤ M →
    Lib.parseUintM M acc l = if M < decA acc l then .range else .ok (decA acc l) := by
  induction l with
  | nil =>
    intro acc _ ha
    rw [Lib.parseUintM, if_neg]
    · rfl
    · show ¬ M < acc; omega
  | cons c l ih =>
    intro acc h ha
    have hc := dig_iff (h c (by simp))
    rw [Lib.parseUintM, if_pos hc, decA_cons]
    have hge := decA_ge l (acc * 10 + (c.toNat - 48))
    split
    · rw [if_pos (by omega)]
    · split
      · rw [if_pos (by omega)]
      · exact ih _ (fun c' hc' => h c' (by simp [hc'])) (by omega)

theorem parse_dig {l : List UInt8} (h0 : l ≠ []) (h : ∀ c ∈ l, digL c = true) : Lib.parseIntB 64 l = if 9223372036854775807 < decV l then .range else .ok (decV l : Int) := by
  match l, h0 with
  | c :: r, _ =>
    have hc := dig_iff (h c (by simp))
    have e1 : ¬ (c.toNat = 43 ∨ c.toNat = 45) := by omega
    have e2 : Lib.parseUintB 64 (c :: r) = if 2 ^ 64 - 1 < decV (c :: r) then .range else .ok (decV (c :: r)) := by
      unfold Lib.parseUintB
      rw [if_neg (by simp)]
      exact uintM_dig (2 ^ 64 - 1) (by decide) (c :: r) 0 h (by omega)
    have p64 : (2 : Nat) ^ 64 - 1 = 18446744073709551615 := by decide
    have p63 : (2 : Nat) ^ (64 - 1) = 9223372036854775808 := by decide
    rw [p64] at e2
    obtain ⟨V, hV⟩ : ∃ V, V = decV (c :: r) := ⟨_, rfl⟩
    rw [← hV] at e2 ⊢
    have hn : ¬ c.toNat = 45 := by omega
    unfold Lib.parseIntB
    simp only [if_neg e1, e2]
    by_cases hv : 18446744073709551615 < V
    · rw [if_pos hv, if_pos (by omega)]
    · rw [if_neg hv]
      simp only [p63, hn, not_false_eq_true, true_and, false_and, if_false]
      by_cases h3 : 9223372036854775807 < V
      · rw [if_pos h3, if_pos (by omega)]
      · rw [if_neg h3, if_neg (by omega)]

theorem take_dig : ∀ (l : List UInt8), ∀ c ∈ l.take (lenOf digL l), digL c = true
  | [], c, h => by simp at h
  | d :: t, c, h => by
    rw [lenOf] at h
    by_cases hd : digL d = true
    · rw [if_pos hd, List.take_succ_cons] at h
      rcases List.mem_cons.1 h with e | e
      · rw [e]; exact hd
      · exact take_dig t c e
    · rw [if_neg hd] at h; simp at h

end Go.Proofs.YtnajafnbickiiaaDoor
