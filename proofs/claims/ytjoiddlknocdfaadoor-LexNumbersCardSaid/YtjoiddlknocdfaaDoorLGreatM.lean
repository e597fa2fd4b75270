/-
  Numbers in digits: the mathematics of LexNumbers. No program text.
-/
import Derived.Test.YtjoiddlknocdfaaDoorLJoinM
import Derived.Test.YtjoiddlknocdfaaDoorLNumM
import Derived.WalkKit
namespace Go.Proofs.YtjoiddlknocdfaaDoor
open Go.RowKit
set_option linter.unusedVariables false

theorem decA_eq (l : List UInt8) : ∀ acc : Nat, decA acc l = acc * 10 ^ l.length + decA 0 l := by
  induction l with
  | nil => intro acc; simp [decA]
  | cons c l ih =>
    intro acc
    rw [decA_cons, decA_cons, ih, ih (0 * 10 + (c.toNat - 48)), List.length_cons, Nat.pow_succ, Nat.add_mul, Nat.zero_mul, Nat.zero_add, Nat.mul_assoc, Nat.mul_comm 10, Nat.add_assoc]
theorem decA_lt : ∀ l : List UInt8, (∀ c ∈ l, digL c = true) → decA 0 l < 10 ^ l.length
  | [], _ => by simp [decA]
  | c :: l, h => by
    have hc := dig_iff (h c (by simp))
    have ih := decA_lt l (fun d hd => h d (by simp [hd]))
    rw [decA_cons, decA_eq, List.length_cons, Nat.pow_succ, Nat.zero_mul, Nat.zero_add]
    have : (c.toNat - 48) * 10 ^ l.length ≤ 9 * 10 ^ l.length := Nat.mul_le_mul_right _ (by omega)
    omega
theorem decV_eq (l : List UInt8) : decV l = decA 0 l := rfl
theorem decA_zero (l : List UInt8) : decA 0 (48 :: l) = decA 0 l := by rw [decA_cons]; rfl
theorem decA_zeros (n : Nat) (l : List UInt8) : decA 0 (List.replicate n 48 ++ l) = decA 0 l := by
  induction n with
  | zero => rfl
  | succ n ih => rw [List.replicate_succ, List.cons_append, decA_zero, ih]

/-- Of as many digits the bytes stand as the numbers do. -/
theorem less_dec : ∀ a b : List UInt8, a.length = b.length → (∀ c ∈ a, digL c = true) → (∀ c ∈ b, digL c = true) → Op.bytesLess a b = decide (decA 0 a < decA 0 b)
  | [], [], _, _, _ => rfl
  | c :: a, d :: b, hl, ha, hb => by
    have hl' : a.length = b.length := by simpa using hl
    have ih := less_dec a b hl' (fun x hx => ha x (by simp [hx])) (fun x hx => hb x (by simp [hx]))
    have hc := dig_iff (ha c (by simp))
    have hd := dig_iff (hb d (by simp))
    have la := decA_lt a (fun x hx => ha x (by simp [hx]))
    have lb := decA_lt b (fun x hx => hb x (by simp [hx]))
    rw [decA_cons, decA_cons, decA_eq a, decA_eq b, hl', Nat.zero_mul, Nat.zero_add, Nat.zero_add]
    rw [hl'] at la
    obtain ⟨P, hP⟩ : ∃ P, P = 10 ^ b.length := ⟨_, rfl⟩
    rw [← hP] at la lb ⊢
    unfold Op.bytesLess
    rcases Nat.lt_trichotomy c.toNat d.toNat with h | h | h
    · have e : (c < d) := by rw [UInt8.lt_iff_toNat_lt]; exact h
      have h2 : (c.toNat - 48 + 1) * P ≤ (d.toNat - 48) * P := Nat.mul_le_mul_right _ (by omega)
      rw [Nat.add_mul, Nat.one_mul] at h2
      rw [show decide ((c.toNat - 48) * P + decA 0 a < (d.toNat - 48) * P + decA 0 b) = true from decide_eq_true (by omega)]
      simp [e]
    · have e : c = d := UInt8.toNat_inj.1 h
      subst e
      have h1 : ¬ c < c := by rw [UInt8.lt_iff_toNat_lt]; omega
      have h2 : decide ((c.toNat - 48) * P + decA 0 a < (c.toNat - 48) * P + decA 0 b) = decide (decA 0 a < decA 0 b) := by
        rw [decide_eq_decide]; omega
      rw [h2, ← ih]
      simp [h1]
    · have e : ¬ (c < d) := by rw [UInt8.lt_iff_toNat_lt]; omega
      have e2 : ¬ c = d := fun h' => by rw [h'] at h; omega
      have h2 : (d.toNat - 48 + 1) * P ≤ (c.toNat - 48) * P := Nat.mul_le_mul_right _ (by omega)
      rw [Nat.add_mul, Nat.one_mul] at h2
      rw [show decide ((c.toNat - 48) * P + decA 0 a < (d.toNat - 48) * P + decA 0 b) = false from decide_eq_false (by omega)]
      simp [e, e2]

def maxD : List UInt8 := [57, 50, 50, 51, 51, 55, 50, 48, 51, 54, 56, 53, 52, 55, 55, 53, 56, 48, 55]
theorem maxD_dec : decA 0 maxD = 9223372036854775807 := by decide +kernel
theorem maxD_dig : ∀ c ∈ maxD, digL c = true := by decide
/-- Digits without a nought ahead. -/
theorem great_long {c : UInt8} {l : List UInt8} (h : ∀ d ∈ c :: l, digL d = true) (h0 : c.toNat ≠ 48) (hl : 19 ≤ l.length) : 9223372036854775807 < decA 0 (c :: l) := by
  have hc := dig_iff (h c (by simp))
  rw [decA_cons, decA_eq, Nat.zero_mul, Nat.zero_add]
  have h1 : 10 ^ 19 ≤ 10 ^ l.length := Nat.pow_le_pow_right (by omega) hl
  have h2 : 1 * 10 ^ l.length ≤ (c.toNat - 48) * 10 ^ l.length := Nat.mul_le_mul_right _ (by omega)
  have h3 : (9223372036854775807 : Nat) < 10 ^ 19 := by decide
  omega
theorem great_short {l : List UInt8} (h : ∀ d ∈ l, digL d = true) (hl : l.length < 19) : ¬ 9223372036854775807 < decA 0 l := by
  have h1 := decA_lt l h
  have h2 : 10 ^ l.length ≤ 10 ^ 18 := Nat.pow_le_pow_right (by omega) (by omega)
  have h3 : (10 : Nat) ^ 18 < 9223372036854775807 := by decide
  omega
theorem great_even {l : List UInt8} (h : ∀ d ∈ l, digL d = true) (hl : l.length = 19) : Op.bytesLess maxD l = decide (9223372036854775807 < decA 0 l) := by
  rw [less_dec maxD l (by rw [hl]; rfl) maxD_dig h, maxD_dec]

theorem less_anti : ∀ a b : List UInt8, Op.bytesLess a b = false → Op.bytesLess b a = false → a.length = b.length → a = b
  | [], [], _, _, _ => rfl
  | c :: a, d :: b, h1, h2, hl => by
    unfold Op.bytesLess at h1 h2
    simp only [Bool.or_eq_false_iff, Bool.and_eq_false_iff, decide_eq_false_iff_not, UInt8.lt_iff_toNat_lt] at h1 h2
    have e : c = d := UInt8.toNat_inj.1 (by omega)
    subst e
    simp only [beq_self_eq_true, Bool.true_eq_false, false_or] at h1 h2
    rw [less_anti a b h1.2 h2.2 (by simpa using hl)]
theorem great_even' {l : List UInt8} (h : ∀ d ∈ l, digL d = true) (hl : l.length = 19) : (!(Op.bytesLess l maxD || l == maxD)) = decide (9223372036854775807 < decA 0 l) := by
  have hlm : l.length = maxD.length := by rw [hl]; rfl
  rw [← great_even h hl]
  have h1 := less_dec l maxD hlm h maxD_dig
  have h2 := less_dec maxD l hlm.symm maxD_dig h
  cases e1 : Op.bytesLess l maxD <;> cases e2 : Op.bytesLess maxD l
  · rw [less_anti l maxD e1 e2 hlm]; simp
  · have : l ≠ maxD := by
      intro hh; subst hh; rw [e1] at e2; cases e2
    simp [this]
  · simp
  · rw [e1] at h1; rw [e2] at h2
    have := of_decide_eq_true h1.symm; have := of_decide_eq_true h2.symm; omega

theorem dig_blk {c : UInt8} (h : digL c = true) : blkL c = false ∧ c.toNat ≠ 35 ∧ bgnL c = false := by
  have := dig_iff h
  refine ⟨?_, by omega, ?_⟩
  · unfold blkL; simp; omega
  · unfold bgnL; simp; omega
theorem lenOf_all {p : UInt8 → Bool} : ∀ l : List UInt8, (∀ c ∈ l, p c = true) → lenOf p l = l.length
  | [], _ => rfl
  | c :: l, h => by rw [lenOf, if_pos (h c (by simp)), lenOf_all l (fun d hd => h d (by simp [hd]))]; rfl

/-- What both tell of a name and digits. -/
def numR (ds : List UInt8) : Except (Nat × Int) (List Tk) := if 9223372036854775807 < decA 0 ds then .error (2, 13) else .ok [⟨1, [97], 0⟩, ⟨3, ds, 2⟩, ⟨0, [], 2 + ds.length⟩]
theorem top_num {ds : List UInt8} (h0 : ds ≠ []) (h : ∀ c ∈ ds, digL c = true) (hl : ds.length ≤ 1000) : lexTop (97 :: 32 :: ds) = numR ds := by
  unfold lexTop
  rw [if_neg (by simp; omega)]
  have en : lenOf inL (97 :: 32 :: ds) = 1 := by
    show (if inL 97 = true then lenOf inL (32 :: ds) + 1 else 0) = 1
    rw [if_pos (by decide)]
    show (if inL 32 = true then _ else 0) + 1 = 1
    rw [if_neg (by decide)]
  have s1 : stepL (97 :: 32 :: ds) 0 false [] = .ok ([⟨1, [97], 0⟩], 1, false, []) := by
    rw [step_name (by decide) (by decide) (by decide), en]
    have e : (if (97 :: 32 :: ds).take 1 ∈ wordsL then 2 else 1) = 1 := if_neg (show ¬ [97] ∈ wordsL by decide)
    rw [e]; rfl
  rw [lexA_ok (by simp) s1]
  show ahead _ (lexA (32 :: ds) (0 + 1) false []) = _
  rw [Nat.zero_add, lexA_ok (by simp) (step_blank (by decide)), ahead_nil]
  show ahead _ (lexA ds (1 + 1) false []) = _
  match ds, h0 with
  | c :: t, _ =>
    obtain ⟨b1, b2, b3⟩ := dig_blk (h c (by simp))
    have el := lenOf_all (p := digL) (c :: t) h
    have s2 := step_num (t := t) (at_ := 2) (p := []) b1 b2 b3 (h c (by simp))
    rw [el, List.drop_of_length_le (Nat.le_refl _), List.take_of_length_le (Nat.le_refl _)] at s2
    unfold numR
    by_cases hg : 9223372036854775807 < decA 0 (c :: t)
    · rw [if_pos hg]
      rw [if_neg (by decide), if_pos (show 9223372036854775807 < decV (c :: t) from hg)] at s2
      rw [lexA_error (by simp) s2]; rfl
    · rw [if_neg hg]
      rw [if_neg (by decide), if_neg (show ¬ 9223372036854775807 < decV (c :: t) from hg)] at s2
      rw [lexA_ok (by simp) s2, List.drop_of_length_le (Nat.le_refl _), lexA_nil, if_neg (by simp)]
      rfl

end Go.Proofs.YtjoiddlknocdfaaDoor
