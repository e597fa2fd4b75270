/-
  Plain mathematics: one sign more at the end of a great number, byte by byte with a carry. No conditions.
-/
import Derived.Test.YtcmgafehidgkmaaREncMath
namespace Go.Proofs.Ytcmgafehidgkmaa.Nam

/-- The carry behind k bytes. -/
def carry (h v k : Nat) : Nat := (32 * (h % 256 ^ k) + v) / 256 ^ k

theorem carry_zero (h v : Nat) : carry h v 0 = v := by simp [carry, Nat.mod_one]

theorem carry_le (h v k : Nat) (hv : v < 32) : carry h v k ≤ 32 := by
  unfold carry
  have hp : 0 < 256 ^ k := Nat.pos_of_ne_zero (by simp)
  have := Nat.mod_lt h hp
  have h2 : 32 * (h % 256 ^ k) + v < 256 ^ k * 33 := by omega
  have := (Nat.div_lt_iff_lt_mul hp).2 (by rw [Nat.mul_comm]; exact h2)
  omega

theorem carry_sum (h v k : Nat) : (h * 32 + v) / 256 ^ k = 32 * (h / 256 ^ k) + carry h v k := by
  unfold carry
  have hp : 0 < 256 ^ k := Nat.pos_of_ne_zero (by simp)
  have e : h * 32 + v = 256 ^ k * (32 * (h / 256 ^ k)) + (32 * (h % 256 ^ k) + v) := by
    have := Nat.div_add_mod h (256 ^ k)
    have e2 : 256 ^ k * (32 * (h / 256 ^ k)) = 32 * (256 ^ k * (h / 256 ^ k)) := by rw [Nat.mul_left_comm]
    rw [e2]
    omega
  rw [e, Nat.mul_add_div hp]

theorem carry_step (h v k : Nat) : (carry h v k + h / 256 ^ k % 256 * 32) / 256 = carry h v (k + 1) := by
  have h1 := carry_sum h v k
  have h2 := carry_sum h v (k + 1)
  have e1 : (h * 32 + v) / 256 ^ (k + 1) = (h * 32 + v) / 256 ^ k / 256 := by rw [Nat.div_div_eq_div_mul, Nat.pow_succ]
  have e2 : h / 256 ^ (k + 1) = h / 256 ^ k / 256 := by rw [Nat.div_div_eq_div_mul, Nat.pow_succ]
  rw [e1, e2] at h2
  generalize (h * 32 + v) / 256 ^ k = T at *
  generalize h / 256 ^ k = H at *
  omega

theorem carry_digit (h v k : Nat) : (carry h v k + h / 256 ^ k % 256 * 32) % 256 = (h * 32 + v) / 256 ^ k % 256 := by
  have h1 := carry_sum h v k
  generalize (h * 32 + v) / 256 ^ k = T at *
  generalize h / 256 ^ k = H at *
  omega

theorem carry_end (h v m : Nat) (hh : h < 256 ^ m) : (carry h v m = 0 ↔ h * 32 + v < 256 ^ m) := by
  have hp : 0 < 256 ^ m := Nat.pos_of_ne_zero (by simp)
  have h1 := carry_sum h v m
  rw [Nat.div_eq_of_lt hh, Nat.mul_zero, Nat.zero_add] at h1
  rw [← h1, Nat.div_eq_zero_iff]
  omega

/-- What stands there behind k of the m bytes. -/
def carryRow (m h v k : Nat) : List Value := ((byN m (h * 32 + v)).take k ++ (byN m h).drop k).map iv

theorem carryRow_start (m h v : Nat) : carryRow m h v 0 = (byN m h).map iv := by simp [carryRow]

theorem carryRow_end (m h v : Nat) : carryRow m h v m = (byN m (h * 32 + v)).map iv := by
  have h1 : (byN m (h * 32 + v)).take m = byN m (h * 32 + v) := List.take_of_length_le (by rw [byN_length]; exact Nat.le_refl _)
  have h2 : (byN m h).drop m = [] := List.drop_eq_nil_of_le (by rw [byN_length]; exact Nat.le_refl _)
  simp [carryRow, h1, h2]

theorem carryRow_get (m h v k : Nat) (hk : k < m) : (carryRow m h v k)[k]? = some (.int .i64 ((h / 256 ^ k % 256 : Nat) : Int)) := by
  unfold carryRow
  rw [List.getElem?_map, List.getElem?_append_right (by rw [List.length_take, byN_length]; omega)]
  have e : k - ((byN m (h * 32 + v)).take k).length = 0 := by rw [List.length_take, byN_length]; omega
  rw [e, List.getElem?_drop, Nat.add_zero, byN_get m h k hk]
  simp only [Option.map_some, iv]
  rw [UInt8.toNat_ofNat', Nat.mod_mod_of_dvd _ (by decide)]

theorem carryRow_step (m h v k : Nat) (hk : k < m) : (carryRow m h v k).set k (.int .i64 (((carry h v k + h / 256 ^ k % 256 * 32) % 256 : Nat) : Int)) = carryRow m h v (k + 1) := by
  rw [carry_digit]
  have hlen : ((byN m (h * 32 + v)).take k).length = k := by rw [List.length_take, byN_length]; omega
  have hd : (byN m h).drop k = UInt8.ofNat (h / 256 ^ k % 256) :: (byN m h).drop (k + 1) := by
    have hlt : k < (byN m h).length := by rw [byN_length]; exact hk
    rw [List.drop_eq_getElem_cons hlt]
    have := byN_get m h k hk
    rw [List.getElem?_eq_getElem hlt] at this
    rw [Option.some.inj this]
  have ht : (byN m (h * 32 + v)).take (k + 1) = (byN m (h * 32 + v)).take k ++ [UInt8.ofNat ((h * 32 + v) / 256 ^ k % 256)] := by
    have hlt : k < (byN m (h * 32 + v)).length := by rw [byN_length]; exact hk
    rw [List.take_succ_eq_append_getElem hlt]
    have := byN_get m (h * 32 + v) k hk
    rw [List.getElem?_eq_getElem hlt] at this
    rw [Option.some.inj this]
  unfold carryRow
  rw [hd, ht, List.map_append, List.set_append_right k _ (by rw [List.length_map, hlen]; exact Nat.le_refl _)]
  rw [List.length_map, hlen, Nat.sub_self]
  simp only [List.map_cons, List.set_cons_zero, List.append_assoc, List.map_append, List.cons_append, List.nil_append, iv]
  rw [UInt8.toNat_ofNat', Nat.mod_mod_of_dvd _ (by decide)]

/-- The number of the first signs. -/
def hvN (s : List UInt8) (i : Nat) : Nat := rv (s.take i).reverse

theorem hvN_step (s : List UInt8) (i : Nat) (h : i < s.length) : hvN s (i + 1) = hvN s i * 32 + (sv (s.getD i 0)).toNat := by
  unfold hvN
  rw [take_one s 0 i h, List.reverse_append]
  simp [rv]
  omega

theorem hvN_all (s : List UInt8) : hvN s s.length = rv s.reverse := by unfold hvN; rw [List.take_length]

theorem hvN_le (s : List UInt8) (i : Nat) : hvN s i ≤ rv s.reverse := by
  have h := rv_append (s.drop i).reverse (s.take i).reverse
  rw [← List.reverse_append, List.take_append_drop] at h
  unfold hvN
  rw [h]
  have hp : 1 ≤ 32 ^ (s.drop i).reverse.length := Nat.pos_of_ne_zero (by simp)
  have := Nat.mul_le_mul_right (rv (s.take i).reverse) hp
  omega

/-- What the search has found behind k signs. -/
def fnd (c : UInt8) (k : Nat) : Int := if 0 ≤ sv c ∧ sv c < k then sv c else -1

theorem fnd_zero (c : UInt8) : fnd c 0 = -1 := by unfold fnd; rw [if_neg (by omega)]

theorem fnd_all (c : UInt8) : fnd c 32 = sv c := by
  unfold fnd
  rcases sv_cases c with h | h
  · rw [if_neg (by omega), h]
  · rw [if_pos (by omega)]

theorem sgn_eq (c : UInt8) (k : Nat) (hk : k < 32) : (sgn k = c) ↔ sv c = (k : Int) := by
  constructor
  · intro h; rw [← h]; exact sv_sgn k hk
  · intro h
    rcases sv_cases c with h1 | h1
    · omega
    · rw [← h1.2.2, h]; simp

theorem fnd_hit (c : UInt8) (k : Nat) (hk : k < 32) (h : sgn k = c) : fnd c (k + 1) = (k : Int) := by
  have := (sgn_eq c k hk).1 h
  unfold fnd; rw [if_pos (by omega), this]

theorem fnd_miss (c : UInt8) (k : Nat) (hk : k < 32) (h : sgn k ≠ c) : fnd c (k + 1) = fnd c k := by
  have : sv c ≠ (k : Int) := fun e => h ((sgn_eq c k hk).2 e)
  unfold fnd
  by_cases h2 : 0 ≤ sv c ∧ sv c < k
  · rw [if_pos h2, if_pos (by omega)]
  · rw [if_neg h2, if_neg (by omega)]

end Go.Proofs.Ytcmgafehidgkmaa.Nam
