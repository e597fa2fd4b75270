/-
  Plain mathematics: bytes behind a number of fives stand ahead of them in signs. No conditions.
-/
import Derived.Test.YtcmgafehidgkmaaOrdMath
namespace Go.Proofs.Ytcmgafehidgkmaa.Nam

theorem dig_high (a b t j : Nat) (h : a < 32 ^ t) : dig (a + 32 ^ t * b) (j + t) = dig b j := by
  unfold dig
  have hp : 0 < 32 ^ t := Nat.pos_of_ne_zero (by simp)
  rw [Nat.add_comm j t, Nat.pow_add, ← Nat.div_div_eq_div_mul, Nat.add_mul_div_left _ _ hp, Nat.div_eq_of_lt h, Nat.zero_add]

theorem dig_low (a b t j : Nat) (h : j < t) : dig (a + 32 ^ t * b) j = dig a j := by
  unfold dig
  obtain ⟨u, rfl⟩ : ∃ u, t = j + 1 + u := ⟨t - (j + 1), by omega⟩
  have hp : 0 < 32 ^ j := Nat.pos_of_ne_zero (by simp)
  have e : 32 ^ (j + 1 + u) * b = 32 ^ j * (32 * (32 ^ u * b)) := by
    rw [Nat.pow_add, Nat.pow_succ, Nat.mul_assoc, Nat.mul_assoc]
  rw [e, Nat.add_mul_div_left _ _ hp]
  omega

theorem encN_low : ∀ n a b t, n ≤ t → encN n (a + 32 ^ t * b) = encN n a
  | 0, _, _, _, _ => rfl
  | n + 1, a, b, t, h => by simp only [encN]; rw [dig_low a b t n (by omega), encN_low n a b t (by omega)]

theorem encN_high : ∀ s t a b, a < 32 ^ t → encN (s + t) (a + 32 ^ t * b) = encN s b ++ encN t a
  | 0, t, a, b, h => by rw [Nat.zero_add, encN_low t a b t (Nat.le_refl _)]; rfl
  | s + 1, t, a, b, h => by
    rw [show s + 1 + t = (s + t) + 1 from by omega]
    simp only [encN]
    rw [dig_high a b t s h, encN_high s t a b h]
    rfl

theorem val_append : ∀ l m, val (l ++ m) = val l + 256 ^ l.length * val m
  | [], m => by simp [val]
  | a :: t, m => by
    simp only [List.cons_append, val, List.length_cons, val_append t m, Nat.pow_succ]
    rw [Nat.mul_add, Nat.mul_comm (256 ^ t.length) 256, Nat.mul_assoc]
    omega

theorem enc_append (l m : List UInt8) (k : Nat) (h : l.length = 5 * k) : enc (l ++ m) = enc m ++ enc l := by
  have e1 : slen (l ++ m).length = slen m.length + 8 * k := by rw [List.length_append, h]; unfold slen; omega
  have e2 : slen l.length = 8 * k := by rw [h]; unfold slen; omega
  have e3 : (256 : Nat) ^ (5 * k) = 32 ^ (8 * k) := by
    rw [Nat.pow_mul, Nat.pow_mul]
  have hl := val_fits l
  rw [e2] at hl
  unfold enc
  rw [e1, e2, val_append, h, e3, encN_high _ _ _ _ hl]

theorem enc_parts (p q : List UInt8) : enc (p.take (p.length - p.length % 5) ++ q) = enc q ++ enc (p.take (p.length - p.length % 5)) :=
  enc_append _ _ (p.length / 5) (by rw [List.length_take]; omega)

end Go.Proofs.Ytcmgafehidgkmaa.Nam
