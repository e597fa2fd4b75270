/-
  Plain mathematics: of as many bytes the signs stand as the numbers do. No conditions.
-/
import Derived.Test.YtcmgafehidgkmaaBm
namespace Go.Proofs.Ytcmgafehidgkmaa.Nam

theorem sgn_lt (a b : Nat) (ha : a < 32) (hb : b < 32) : ((sgn a).toNat < (sgn b).toNat) ↔ a < b := by
  have : ∀ x y : Fin 32, ((sgn x.val).toNat < (sgn y.val).toNat) ↔ x.val < y.val := by decide
  exact this ⟨a, ha⟩ ⟨b, hb⟩

theorem sgn_inj (a b : Nat) (ha : a < 32) (hb : b < 32) (h : sgn a = sgn b) : a = b := by
  have : ∀ x y : Fin 32, sgn x.val = sgn y.val → x.val = y.val := by decide
  exact this ⟨a, ha⟩ ⟨b, hb⟩ h

theorem mod_split (v n : Nat) : v % 32 ^ (n + 1) = 32 ^ n * dig v n + v % 32 ^ n := by
  unfold dig
  rw [Nat.pow_succ, Nat.mod_mul]
  omega

theorem order_N : ∀ n a b, Op.bytesLess (encN n a) (encN n b) = decide (a % 32 ^ n < b % 32 ^ n)
  | 0, a, b => by simp [encN, Op.bytesLess, Nat.mod_one]
  | n + 1, a, b => by
    have ih := order_N n a b
    have da := dig_lt a n
    have db := dig_lt b n
    have hp : 0 < 32 ^ n := Nat.pos_of_ne_zero (by simp)
    have ra := Nat.mod_lt a hp
    have rb := Nat.mod_lt b hp
    rw [mod_split, mod_split]
    simp only [encN, Op.bytesLess]
    have lt1 : decide (sgn (dig a n) < sgn (dig b n)) = decide (dig a n < dig b n) := by
      have := sgn_lt _ _ da db
      rw [Bool.eq_iff_iff, decide_eq_true_iff, decide_eq_true_iff, UInt8.lt_iff_toNat_lt]
      exact this
    rw [lt1, ih]
    by_cases h : dig a n = dig b n
    · simp [h]
    · have hne : (sgn (dig a n) == sgn (dig b n)) = false := by
        rw [beq_eq_false_iff_ne]
        exact fun e => h (sgn_inj _ _ da db e)
      rw [hne]
      generalize 32 ^ n = P at *
      generalize dig a n = x at *
      generalize dig b n = y at *
      rw [Bool.false_and, Bool.or_false]
      by_cases hxy : x < y
      · have := Nat.mul_le_mul_left P (show x + 1 ≤ y from hxy)
        rw [Nat.mul_add, Nat.mul_one] at this
        rw [decide_eq_true hxy]
        exact (decide_eq_true (by omega)).symm
      · have := Nat.mul_le_mul_left P (show y + 1 ≤ x from by omega)
        rw [Nat.mul_add, Nat.mul_one] at this
        rw [decide_eq_false hxy]
        exact (decide_eq_false (by omega)).symm

theorem val_fits (l : List UInt8) : val l < 32 ^ slen l.length := by
  refine Nat.lt_of_lt_of_le (val_lt l) ?_
  have e : (256 : Nat) = 2 ^ 8 := rfl
  rw [e, ← Nat.pow_mul, pow32]
  exact Nat.pow_le_pow_right (by omega) (by unfold slen; omega)

/-- Of as many bytes the signs stand as the numbers do. -/
theorem order_enc (p q : List UInt8) (h : p.length = q.length) : Op.bytesLess (enc p) (enc q) = decide (val p < val q) := by
  unfold enc
  rw [h, order_N, Nat.mod_eq_of_lt (val_fits q), ← h, Nat.mod_eq_of_lt (val_fits p)]

/-- The last byte counts first. -/
theorem val_snoc : ∀ (l : List UInt8) (b : UInt8), val (l ++ [b]) = val l + 256 ^ l.length * b.toNat
  | [], b => by simp [val]
  | a :: t, b => by
    simp only [List.cons_append, val, List.length_cons, val_snoc t b, Nat.pow_succ]
    rw [Nat.mul_add, Nat.mul_comm (256 ^ t.length) 256, Nat.mul_assoc]
    omega

theorem val_take (l : List UInt8) (k : Nat) (h : k < l.length) : val (l.take (k + 1)) = val (l.take k) + 256 ^ k * (l.getD k 0).toNat := by
  have e : l.take (k + 1) = l.take k ++ [l.getD k 0] := by
    rw [List.take_succ_eq_append_getElem h]; simp [List.getD, h]
  rw [e, val_snoc, List.length_take, Nat.min_eq_left (by omega)]

/-- One byte more: unlike bytes decide, like ones leave it. -/
theorem less_step (p q : List UInt8) (k : Nat) (hp : k < p.length) (hq : k < q.length) :
    decide (val (p.take (k + 1)) < val (q.take (k + 1))) =
      if (p.getD k 0).toNat = (q.getD k 0).toNat then decide (val (p.take k) < val (q.take k)) else decide ((p.getD k 0).toNat < (q.getD k 0).toNat) := by
  have bp := val_lt (p.take k)
  have bq := val_lt (q.take k)
  rw [List.length_take, Nat.min_eq_left (by omega)] at bp bq
  rw [val_take p k hp, val_take q k hq]
  generalize 256 ^ k = P at *
  generalize (p.getD k 0).toNat = x at *
  generalize (q.getD k 0).toNat = y at *
  by_cases h : x = y
  · rw [if_pos h, h]
    simp
  · rw [if_neg h]
    by_cases hxy : x < y
    · have := Nat.mul_le_mul_left P (show x + 1 ≤ y from hxy)
      rw [Nat.mul_add, Nat.mul_one] at this
      rw [decide_eq_true hxy]
      exact decide_eq_true (by omega)
    · have := Nat.mul_le_mul_left P (show y + 1 ≤ x from by omega)
      rw [Nat.mul_add, Nat.mul_one] at this
      rw [decide_eq_false hxy]
      exact decide_eq_false (by omega)

end Go.Proofs.Ytcmgafehidgkmaa.Nam
