/-
  Plain mathematics of bytes as one number and its signs to the base 32: no program is named here. No conditions.
-/
import Derived.Laws.BitsAllLaws
import Derived.Lib.Bytealg
namespace Go.Proofs.YtokbakpbhpknfaaGreatDoor.Nam

/-- Bytes as one number, the first byte the lowest. -/
def val : List UInt8 → Nat
  | [] => 0
  | b :: t => b.toNat + 256 * val t

theorem val_drop : ∀ (q : Nat) (l : List UInt8), val l / 256 ^ q = val (l.drop q)
  | 0, l => by simp
  | q + 1, [] => by simp [val]
  | q + 1, b :: t => by
    have ih := val_drop q t
    have hb := b.toNat_lt
    rw [List.drop_succ_cons, ← ih, Nat.pow_succ, Nat.mul_comm, ← Nat.div_div_eq_div_mul]
    congr 1
    simp only [val]
    omega

theorem val_lt : ∀ l : List UInt8, val l < 256 ^ l.length
  | [] => by simp [val]
  | b :: t => by
    have ih := val_lt t
    have hb := b.toNat_lt
    simp only [val, List.length_cons, Nat.pow_succ]
    omega

theorem val_at (l : List UInt8) (q : Nat) (h : q < l.length) : val (l.drop q) = (l.getD q 0).toNat + 256 * val (l.drop (q + 1)) := by
  rw [List.drop_eq_getElem_cons h]
  simp [val, List.getD, h]

theorem val_at_beyond (l : List UInt8) (q : Nat) (h : l.length ≤ q) : val (l.drop q) = 0 := by
  rw [List.drop_eq_nil_of_le h]; rfl

theorem pow_split (q r : Nat) : (2 : Nat) ^ (8 * q + r) = 256 ^ q * 2 ^ r := by
  rw [Nat.pow_add, Nat.pow_mul]

theorem small_shift (x y z r : Nat) (h : r < 8) : (x + 256 * (y + 256 * z)) / 2 ^ r % 32 = (x + 256 * y) / 2 ^ r % 32 := by
  have : r = 0 ∨ r = 1 ∨ r = 2 ∨ r = 3 ∨ r = 4 ∨ r = 5 ∨ r = 6 ∨ r = 7 := by omega
  rcases this with rfl | rfl | rfl | rfl | rfl | rfl | rfl | rfl <;> simp only [Nat.reducePow] <;> omega

theorem pow32 (k : Nat) : (32 : Nat) ^ k = 2 ^ (5 * k) := by
  rw [Nat.pow_mul]

/-- The k-th sign's number, out of two bytes next to one another. -/
theorem digit_two (l : List UInt8) (k : Nat) :
    val l / 32 ^ k % 32 = (val (l.drop (5 * k / 8)) % 65536) / 2 ^ (5 * k % 8) % 32 := by
  have e : 5 * k = 8 * (5 * k / 8) + 5 * k % 8 := by omega
  have hr : 5 * k % 8 < 8 := by omega
  rw [pow32, e]
  generalize 5 * k / 8 = q at *
  generalize 5 * k % 8 = r at *
  have e2 : (8 * q + r) / 8 = q := by omega
  have e3 : (8 * q + r) % 8 = r := by omega
  rw [pow_split, ← Nat.div_div_eq_div_mul, val_drop, e2, e3]
  generalize val (l.drop q) = n
  have hn : n = n % 256 + 256 * (n / 256 % 256 + 256 * (n / 65536)) := by omega
  have hn2 : n % 65536 = n % 256 + 256 * (n / 256 % 256) := by omega
  rw [hn2]
  conv => lhs; rw [hn]
  exact small_shift _ _ _ _ hr

theorem u64_join (x y : Int) (x0 : 0 ≤ x) (x1 : x < 256) (y0 : 0 ≤ y) (y1 : y < 256) : bits .or .u64 x (y * 256) = x + 256 * y := by
  rw [u64_or x (y * 256) x0 (by omega) (by omega) (by omega)]
  rw [Nat.or_comm, nat_join 8 _ _ (by omega) (by omega)]
  omega

/-- The 32 signs. -/
def signs : List UInt8 := [48, 49, 50, 51, 52, 53, 54, 55, 56, 57, 97, 98, 99, 100, 102, 103, 104, 105, 106, 107, 108, 109, 110, 112, 113, 114, 115, 118, 119, 120, 121, 122]

/-- The sign of a number. -/
def sgn (v : Nat) : UInt8 := signs.getD v 0

/-- The number of the sign at place k of a number, the lowest one at 0. -/
def dig (v k : Nat) : Nat := v / 32 ^ k % 32

theorem dig_lt (v k : Nat) : dig v k < 32 := by unfold dig; omega

theorem sign_at (v : Nat) (h : v < 32) : (⟨#[48, 49, 50, 51, 52, 53, 54, 55, 56, 57, 97, 98, 99, 100, 102, 103, 104, 105, 106, 107, 108, 109, 110, 112, 113, 114, 115, 118, 119, 120, 121, 122]⟩ : ByteArray)[v]'h = sgn v := by
  have : ∀ x : Fin 32, (⟨#[48, 49, 50, 51, 52, 53, 54, 55, 56, 57, 97, 98, 99, 100, 102, 103, 104, 105, 106, 107, 108, 109, 110, 112, 113, 114, 115, 118, 119, 120, 121, 122]⟩ : ByteArray)[x.val]'x.isLt = sgn x.val := by decide
  exact this ⟨v, h⟩

/-- The lowest n signs of a number, the highest first. -/
def encN : Nat → Nat → List UInt8
  | 0, _ => []
  | n + 1, v => sgn (dig v n) :: encN n v

theorem encN_length : ∀ n v, (encN n v).length = n
  | 0, _ => rfl
  | n + 1, v => by simp [encN, encN_length n v]

/-- How many signs so many bytes have. -/
def slen (n : Nat) : Nat := (8 * n + 4) / 5

/-- Bytes in signs. -/
def enc (l : List UInt8) : List UInt8 := encN (slen l.length) (val l)

theorem enc_length (l : List UInt8) : (enc l).length = slen l.length := encN_length _ _

/-- A byte as a cell's value. -/
def bv (b : UInt8) : Value := .int .u8 (b.toNat : Int)

/-- What stands in the made bytes behind k rounds: noughts, and the lowest k signs. -/
def encAt (n k v : Nat) : List Value := List.replicate (n - k) (bv 0) ++ (encN k v).map bv

theorem encAt_length (n k v : Nat) (h : k ≤ n) : (encAt n k v).length = n := by
  simp [encAt, encN_length]; omega

theorem encAt_step (n k v : Nat) (h : k < n) : (encAt n k v).set (n - 1 - k) (bv (sgn (dig v k))) = encAt n (k + 1) v := by
  unfold encAt
  have e : n - k = (n - 1 - k) + 1 := by omega
  have e2 : n - (k + 1) = n - 1 - k := by omega
  rw [e2, e, List.replicate_succ', List.append_assoc, List.set_append]
  simp [encN]

theorem encAt_get (n k v j : Nat) (h : k ≤ n) (hj : j < n) : ∃ u, (encAt n k v)[j]? = some u :=
  ⟨_, List.getElem?_eq_getElem (by rw [encAt_length n k v h]; exact hj)⟩

theorem encAt_all (n v : Nat) : encAt n n v = (encN n v).map bv := by simp [encAt]

/-- The 16 digits. -/
def digits : List UInt8 := [48, 49, 50, 51, 52, 53, 54, 55, 56, 57, 97, 98, 99, 100, 101, 102]

/-- The digit of a number. -/
def hx (v : Nat) : UInt8 := digits.getD v 0

theorem digit_at (v : Nat) (h : v < 16) : (⟨#[48, 49, 50, 51, 52, 53, 54, 55, 56, 57, 97, 98, 99, 100, 101, 102]⟩ : ByteArray)[v]'h = hx v := by
  have : ∀ x : Fin 16, (⟨#[48, 49, 50, 51, 52, 53, 54, 55, 56, 57, 97, 98, 99, 100, 101, 102]⟩ : ByteArray)[x.val]'x.isLt = hx x.val := by decide
  exact this ⟨v, h⟩

/-- Bytes in digits. -/
def hexL : List UInt8 → List UInt8
  | [] => []
  | b :: t => hx (b.toNat / 16) :: hx (b.toNat % 16) :: hexL t

theorem hexL_length : ∀ l, (hexL l).length = 2 * l.length
  | [] => rfl
  | b :: t => by simp [hexL, hexL_length t]; omega

theorem hexL_append : ∀ l m, hexL (l ++ m) = hexL l ++ hexL m
  | [], m => rfl
  | b :: t, m => by simp [hexL, hexL_append t m]

theorem hexL_step (l : List UInt8) (k : Nat) (h : k < l.length) :
    hexL (l.take (k + 1)) = hexL (l.take k) ++ [hx ((l.getD k 0).toNat / 16), hx ((l.getD k 0).toNat % 16)] := by
  have : l.take (k + 1) = l.take k ++ [l.getD k 0] := by
    rw [List.take_succ_eq_append_getElem h]; simp [List.getD, h]
  rw [this, hexL_append]; rfl

end Go.Proofs.YtokbakpbhpknfaaGreatDoor.Nam

namespace Go.Proofs.YtokbakpbhpknfaaGreatDoor.Nam

theorem sgn_lt (a b : Nat) (ha : a < 32) (hb : b < 32) : ((sgn a).toNat < (sgn b).toNat) ↔ a < b := by
  have : ∀ x y : Fin 32, ((sgn x.val).toNat < (sgn y.val).toNat) ↔ x.val < y.val := by decide
  exact this ⟨a, ha⟩ ⟨b, hb⟩

theorem sgn_inj (a b : Nat) (ha : a < 32) (hb : b < 32) (h : sgn a = sgn b) : a = b := by
  have : ∀ x y : Fin 32, sgn x.val = sgn y.val → x.val = y.val := by decide
  exact this ⟨a, ha⟩ ⟨b, hb⟩ h

theorem mod_split (v n : Nat) : v % 32 ^ (n + 1) = 32 ^ n * dig v n + v % 32 ^ n := by
  unfold dig
  rw [Nat.pow_succ, Nat.mod_mul]
  omega

theorem order_N : ∀ n a b, Op.bytesLess (encN n a) (encN n b) = decide (a % 32 ^ n < b % 32 ^ n)
  | 0, a, b => by simp [encN, Op.bytesLess, Nat.mod_one]
  | n + 1, a, b => by
    have ih := order_N n a b
    have da := dig_lt a n
    have db := dig_lt b n
    have hp : 0 < 32 ^ n := Nat.pos_of_ne_zero (by simp)
    have ra := Nat.mod_lt a hp
    have rb := Nat.mod_lt b hp
    rw [mod_split, mod_split]
    simp only [encN, Op.bytesLess]
    have lt1 : decide (sgn (dig a n) < sgn (dig b n)) = decide (dig a n < dig b n) := by
      have := sgn_lt _ _ da db
      rw [Bool.eq_iff_iff, decide_eq_true_iff, decide_eq_true_iff, UInt8.lt_iff_toNat_lt]
      exact this
    rw [lt1, ih]
    by_cases h : dig a n = dig b n
    · simp [h]
    · have hne : (sgn (dig a n) == sgn (dig b n)) = false := by
        rw [beq_eq_false_iff_ne]
        exact fun e => h (sgn_inj _ _ da db e)
      rw [hne]
      generalize 32 ^ n = P at *
      generalize dig a n = x at *
      generalize dig b n = y at *
      rw [Bool.false_and, Bool.or_false]
      by_cases hxy : x < y
      · have := Nat.mul_le_mul_left P (show x + 1 ≤ y from hxy)
        rw [Nat.mul_add, Nat.mul_one] at this
        rw [decide_eq_true hxy]
        exact (decide_eq_true (by omega)).symm
      · have := Nat.mul_le_mul_left P (show y + 1 ≤ x from by omega)
        rw [Nat.mul_add, Nat.mul_one] at this
        rw [decide_eq_false hxy]
        exact (decide_eq_false (by omega)).symm

theorem val_fits (l : List UInt8) : val l < 32 ^ slen l.length := by
  refine Nat.lt_of_lt_of_le (val_lt l) ?_
  have e : (256 : Nat) = 2 ^ 8 := rfl
  rw [e, ← Nat.pow_mul, pow32]
  exact Nat.pow_le_pow_right (by omega) (by unfold slen; omega)

/-- Of as many bytes the signs stand as the numbers do. -/
theorem order_enc (p q : List UInt8) (h : p.length = q.length) : Op.bytesLess (enc p) (enc q) = decide (val p < val q) := by
  unfold enc
  rw [h, order_N, Nat.mod_eq_of_lt (val_fits q), ← h, Nat.mod_eq_of_lt (val_fits p)]

/-- The last byte counts first. -/
theorem val_snoc : ∀ (l : List UInt8) (b : UInt8), val (l ++ [b]) = val l + 256 ^ l.length * b.toNat
  | [], b => by simp [val]
  | a :: t, b => by
    simp only [List.cons_append, val, List.length_cons, val_snoc t b, Nat.pow_succ]
    rw [Nat.mul_add, Nat.mul_comm (256 ^ t.length) 256, Nat.mul_assoc]
    omega

theorem val_take (l : List UInt8) (k : Nat) (h : k < l.length) : val (l.take (k + 1)) = val (l.take k) + 256 ^ k * (l.getD k 0).toNat := by
  have e : l.take (k + 1) = l.take k ++ [l.getD k 0] := by
    rw [List.take_succ_eq_append_getElem h]; simp [List.getD, h]
  rw [e, val_snoc, List.length_take, Nat.min_eq_left (by omega)]

/-- One byte more: unlike bytes decide, like ones leave it. -/
theorem less_step (p q : List UInt8) (k : Nat) (hp : k < p.length) (hq : k < q.length) :
    decide (val (p.take (k + 1)) < val (q.take (k + 1))) =
      if (p.getD k 0).toNat = (q.getD k 0).toNat then decide (val (p.take k) < val (q.take k)) else decide ((p.getD k 0).toNat < (q.getD k 0).toNat) := by
  have bp := val_lt (p.take k)
  have bq := val_lt (q.take k)
  rw [List.length_take, Nat.min_eq_left (by omega)] at bp bq
  rw [val_take p k hp, val_take q k hq]
  generalize 256 ^ k = P at *
  generalize (p.getD k 0).toNat = x at *
  generalize (q.getD k 0).toNat = y at *
  by_cases h : x = y
  · rw [if_pos h, h]
    simp
  · rw [if_neg h]
    by_cases hxy : x < y
    · have := Nat.mul_le_mul_left P (show x + 1 ≤ y from hxy)
      rw [Nat.mul_add, Nat.mul_one] at this
      rw [decide_eq_true hxy]
      exact decide_eq_true (by omega)
    · have := Nat.mul_le_mul_left P (show y + 1 ≤ x from by omega)
      rw [Nat.mul_add, Nat.mul_one] at this
      rw [decide_eq_false hxy]
      exact decide_eq_false (by omega)

end Go.Proofs.YtokbakpbhpknfaaGreatDoor.Nam

namespace Go.Proofs.YtokbakpbhpknfaaGreatDoor.Nam

theorem dig_high (a b t j : Nat) (h : a < 32 ^ t) : dig (a + 32 ^ t * b) (j + t) = dig b j := by
  unfold dig
  have hp : 0 < 32 ^ t := Nat.pos_of_ne_zero (by simp)
  rw [Nat.add_comm j t, Nat.pow_add, ← Nat.div_div_eq_div_mul, Nat.add_mul_div_left _ _ hp, Nat.div_eq_of_lt h, Nat.zero_add]

theorem dig_low (a b t j : Nat) (h : j < t) : dig (a + 32 ^ t * b) j = dig a j := by
  unfold dig
  obtain ⟨u, rfl⟩ : ∃ u, t = j + 1 + u := ⟨t - (j + 1), by omega⟩
  have hp : 0 < 32 ^ j := Nat.pos_of_ne_zero (by simp)
  have e : 32 ^ (j + 1 + u) * b = 32 ^ j * (32 * (32 ^ u * b)) := by
    rw [Nat.pow_add, Nat.pow_succ, Nat.mul_assoc, Nat.mul_assoc]
  rw [e, Nat.add_mul_div_left _ _ hp]
  omega

theorem encN_low : ∀ n a b t, n ≤ t → encN n (a + 32 ^ t * b) = encN n a
  | 0, _, _, _, _ => rfl
  | n + 1, a, b, t, h => by simp only [encN]; rw [dig_low a b t n (by omega), encN_low n a b t (by omega)]

theorem encN_high : ∀ s t a b, a < 32 ^ t → encN (s + t) (a + 32 ^ t * b) = encN s b ++ encN t a
  | 0, t, a, b, h => by rw [Nat.zero_add, encN_low t a b t (Nat.le_refl _)]; rfl
  | s + 1, t, a, b, h => by
    rw [show s + 1 + t = (s + t) + 1 from by omega]
    simp only [encN]
    rw [dig_high a b t s h, encN_high s t a b h]
    rfl

theorem val_append : ∀ l m, val (l ++ m) = val l + 256 ^ l.length * val m
  | [], m => by simp [val]
  | a :: t, m => by
    simp only [List.cons_append, val, List.length_cons, val_append t m, Nat.pow_succ]
    rw [Nat.mul_add, Nat.mul_comm (256 ^ t.length) 256, Nat.mul_assoc]
    omega

theorem enc_append (l m : List UInt8) (k : Nat) (h : l.length = 5 * k) : enc (l ++ m) = enc m ++ enc l := by
  have e1 : slen (l ++ m).length = slen m.length + 8 * k := by rw [List.length_append, h]; unfold slen; omega
  have e2 : slen l.length = 8 * k := by rw [h]; unfold slen; omega
  have e3 : (256 : Nat) ^ (5 * k) = 32 ^ (8 * k) := by
    rw [Nat.pow_mul, Nat.pow_mul]
  have hl := val_fits l
  rw [e2] at hl
  unfold enc
  rw [e1, e2, val_append, h, e3, encN_high _ _ _ _ hl]

theorem enc_parts (p q : List UInt8) : enc (p.take (p.length - p.length % 5) ++ q) = enc q ++ enc (p.take (p.length - p.length % 5)) :=
  enc_append _ _ (p.length / 5) (by rw [List.length_take]; omega)

end Go.Proofs.YtokbakpbhpknfaaGreatDoor.Nam

namespace Go.Proofs.YtokbakpbhpknfaaGreatDoor.Nam

/-- The number of a sign; -1: it is none. -/
def sv (c : UInt8) : Int := Lib.indexByte signs c

theorem sv_cases (c : UInt8) : sv c = -1 ∨ (0 ≤ sv c ∧ sv c < 32 ∧ sgn (sv c).toNat = c) := by
  have : ∀ n : Fin 256, sv (UInt8.ofNat n.val) = -1 ∨ (0 ≤ sv (UInt8.ofNat n.val) ∧ sv (UInt8.ofNat n.val) < 32 ∧ sgn (sv (UInt8.ofNat n.val)).toNat = UInt8.ofNat n.val) := by decide +kernel
  have h := this ⟨c.toNat, c.toNat_lt⟩
  simpa using h

theorem sv_sgn (v : Nat) (h : v < 32) : sv (sgn v) = (v : Int) := by
  have : ∀ x : Fin 32, sv (sgn x.val) = (x.val : Int) := by decide +kernel
  exact this ⟨v, h⟩

theorem sv_lt (c : UInt8) : (sv c).toNat < 32 := by
  rcases sv_cases c with h | h <;> omega

/-- Are they signs? -/
def oks (s : List UInt8) : Bool := s.all fun c => decide (0 ≤ sv c)

/-- The number of signs, the lowest first. -/
def rv : List UInt8 → Nat
  | [] => 0
  | c :: t => (sv c).toNat + 32 * rv t

theorem rv_lt : ∀ s, rv s < 32 ^ s.length
  | [] => by simp [rv]
  | c :: t => by
    have ih := rv_lt t
    have hc := sv_lt c
    simp only [rv, List.length_cons, Nat.pow_succ]
    omega

theorem rv_append : ∀ s t, rv (s ++ t) = rv s + 32 ^ s.length * rv t
  | [], t => by simp [rv]
  | c :: s, t => by
    simp only [List.cons_append, rv, List.length_cons, rv_append s t, Nat.pow_succ]
    rw [Nat.mul_add, Nat.mul_comm (32 ^ s.length) 32, Nat.mul_assoc]
    omega

theorem take_one {α : Type} [Inhabited α] (l : List α) (d : α) (k : Nat) (h : k < l.length) : l.take (k + 1) = l.take k ++ [l.getD k d] := by
  rw [List.take_succ_eq_append_getElem h]; simp [List.getD, h]

theorem rv_take (r : List UInt8) (k : Nat) (h : k < r.length) : rv (r.take (k + 1)) = rv (r.take k) + 32 ^ k * (sv (r.getD k 0)).toNat := by
  rw [take_one r 0 k h, rv_append, List.length_take, Nat.min_eq_left (by omega)]
  simp [rv]

theorem oks_append (s t : List UInt8) : oks (s ++ t) = (oks s && oks t) := by simp [oks]

theorem oks_take (r : List UInt8) (k : Nat) (h : k < r.length) : oks (r.take (k + 1)) = (oks (r.take k) && decide (0 ≤ sv (r.getD k 0))) := by
  rw [take_one r 0 k h, oks_append]; simp [oks]

theorem oks_all_take (r : List UInt8) (k : Nat) (h : oks r = true) : oks (r.take k) = true := by
  have := oks_append (r.take k) (r.drop k)
  rw [List.take_append_drop, h] at this
  simp at this
  exact this.1

theorem oks_reverse (s : List UInt8) : oks s.reverse = oks s := by simp [oks]

/-- The lowest n bytes of a number. -/
def byN : Nat → Nat → List UInt8
  | 0, _ => []
  | n + 1, v => UInt8.ofNat (v % 256) :: byN n (v / 256)

theorem byN_length : ∀ n v, (byN n v).length = n
  | 0, _ => rfl
  | n + 1, v => by simp [byN, byN_length n]

theorem val_byN : ∀ n v, val (byN n v) = v % 256 ^ n
  | 0, v => by simp [byN, val, Nat.mod_one]
  | n + 1, v => by
    simp only [byN, val, val_byN n]
    have e : (UInt8.ofNat (v % 256)).toNat = v % 256 := by rw [UInt8.toNat_ofNat']; omega
    rw [e, Nat.pow_succ, Nat.mul_comm (256 ^ n) 256, Nat.mod_mul]

theorem byN_val : ∀ l : List UInt8, byN l.length (val l) = l
  | [] => rfl
  | b :: t => by
    have hb := b.toNat_lt
    simp only [List.length_cons, byN, val]
    have e1 : (b.toNat + 256 * val t) % 256 = b.toNat := by omega
    have e2 : (b.toNat + 256 * val t) / 256 = val t := by omega
    rw [e1, e2, byN_val t]
    simp

theorem byN_get : ∀ n v i, i < n → (byN n v)[i]? = some (UInt8.ofNat (v / 256 ^ i % 256))
  | 0, _, _, h => by omega
  | n + 1, v, 0, _ => by simp [byN]
  | n + 1, v, i + 1, h => by
    simp only [byN, List.getElem?_cons_succ]
    rw [byN_get n _ i (by omega), Nat.div_div_eq_div_mul, Nat.pow_succ, Nat.mul_comm 256]

/-- How many bytes so many signs may be. -/
def dlen (k : Nat) : Nat := 5 * k / 8

theorem dlen_slen (m : Nat) : dlen (slen m) = m := by unfold dlen slen; omega

/-- The bytes of which Encode makes a text; none: there are none. -/
def dec (s : List UInt8) : Option (List UInt8) :=
  if slen (dlen s.length) = s.length ∧ oks s = true ∧ rv s.reverse < 256 ^ dlen s.length then some (byN (dlen s.length) (rv s.reverse)) else none

theorem encN_rv : ∀ r : List UInt8, oks r = true → encN r.length (rv r) = r.reverse
  | [], _ => rfl
  | c :: t, h => by
    have ht : oks t = true := by simp [oks] at h ⊢; exact h.2
    have hc : 0 ≤ sv c := by simp [oks] at h; exact h.1
    have ih := encN_rv t ht
    have l1 := sv_lt c
    rw [List.reverse_cons, ← ih]
    have e : rv (c :: t) = (sv c).toNat + 32 ^ 1 * rv t := by simp [rv]
    rw [e, List.length_cons, encN_high t.length 1 _ _ (by omega)]
    congr 1
    have hd : dig (sv c).toNat 0 = (sv c).toNat := by unfold dig; simp; omega
    simp only [encN, hd]
    rcases sv_cases c with h1 | h1
    · omega
    · rw [h1.2.2]

theorem dec_enc_of (s p : List UInt8) (h : dec s = some p) : enc p = s := by
  unfold dec at h
  split at h
  · rename_i hc
    obtain ⟨h1, h2, h3⟩ := hc
    cases h
    unfold enc
    rw [byN_length, val_byN, Nat.mod_eq_of_lt h3, h1]
    have := encN_rv s.reverse (by rw [oks_reverse]; exact h2)
    rw [List.length_reverse, List.reverse_reverse] at this
    exact this
  · cases h

theorem rv_encN : ∀ n v, oks (encN n v) = true ∧ rv (encN n v).reverse = v % 32 ^ n
  | 0, v => by simp [encN, oks, rv, Nat.mod_one]
  | n + 1, v => by
    obtain ⟨h1, h2⟩ := rv_encN n v
    have hd := dig_lt v n
    refine ⟨?_, ?_⟩
    · simp only [encN, oks, List.all_cons] at h1 ⊢
      rw [h1, sv_sgn _ hd]
      simp
    · simp only [encN, List.reverse_cons, rv_append, h2, List.length_reverse, encN_length, rv]
      rw [sv_sgn _ hd, mod_split]
      simp
      omega

theorem dec_enc (p : List UInt8) : dec (enc p) = some p := by
  unfold dec
  obtain ⟨h1, h2⟩ := rv_encN (slen p.length) (val p)
  have hv : rv (enc p).reverse = val p := by
    show rv (encN (slen p.length) (val p)).reverse = _
    rw [h2, Nat.mod_eq_of_lt (val_fits p)]
  rw [enc_length, dlen_slen, hv, if_pos ⟨rfl, h1, val_lt p⟩, byN_val]

end Go.Proofs.YtokbakpbhpknfaaGreatDoor.Nam

namespace Go.Proofs.YtokbakpbhpknfaaGreatDoor.Nam

/-- The lowest m bytes of a number, the highest first. -/
def hb (m v : Nat) : List UInt8 := (byN m v).reverse

theorem hb_length (m v : Nat) : (hb m v).length = m := by simp [hb, byN_length]

theorem hb_get (m v i : Nat) (h : i < m) : (hb m v)[i]? = some (UInt8.ofNat (v / 256 ^ (m - 1 - i) % 256)) := by
  unfold hb
  rw [List.getElem?_reverse (by rw [byN_length]; exact h), byN_length, byN_get m v _ (by omega)]

theorem hb_val (l : List UInt8) : hb l.length (val l) = l.reverse := by
  unfold hb; rw [byN_val]

/-- A byte as an int's cell. -/
def iv (b : UInt8) : Value := .int .i64 (b.toNat : Int)

/-- What stands there behind i of the m steps of one division. -/
def midRow (m v i : Nat) : List Value := ((hb m (v / 32)).take i ++ (hb m v).drop i).map iv

theorem midRow_start (m v : Nat) : midRow m v 0 = (hb m v).map iv := by simp [midRow]

theorem midRow_end (m v : Nat) : midRow m v m = (hb m (v / 32)).map iv := by
  have h1 : (hb m (v / 32)).take m = hb m (v / 32) := List.take_of_length_le (by rw [hb_length]; exact Nat.le_refl _)
  have h2 : (hb m v).drop m = [] := List.drop_eq_nil_of_le (by rw [hb_length]; exact Nat.le_refl _)
  simp [midRow, h1, h2]

theorem midRow_length (m v i : Nat) (h : i ≤ m) : (midRow m v i).length = m := by
  simp [midRow, hb_length]; omega

/-- The number at a place ahead of its step. -/
theorem midRow_get (m v i : Nat) (h : i < m) : (midRow m v i)[i]? = some (.int .i64 ((v / 256 ^ (m - 1 - i) % 256 : Nat) : Int)) := by
  unfold midRow
  rw [List.getElem?_map, List.getElem?_append_right (by rw [List.length_take, hb_length]; omega)]
  have e : i - ((hb m (v / 32)).take i).length = 0 := by rw [List.length_take, hb_length]; omega
  rw [e, List.getElem?_drop, Nat.add_zero, hb_get m v i h]
  simp only [Option.map_some, iv]
  rw [UInt8.toNat_ofNat', Nat.mod_mod_of_dvd _ (by decide)]

/-- The rest behind i steps. -/
def restAt (m v i : Nat) : Nat := v / 256 ^ (m - i) % 32

theorem restAt_end (m v : Nat) : restAt m v m = v % 32 := by simp [restAt]

theorem step_eq (m v i : Nat) (h : i < m) : v / 256 ^ (m - 1 - i) = 256 * (v / 256 ^ (m - i)) + v / 256 ^ (m - 1 - i) % 256 := by
  have e : m - i = (m - 1 - i) + 1 := by omega
  rw [e, Nat.pow_succ, ← Nat.div_div_eq_div_mul]
  omega

theorem restAt_step (m v i : Nat) (h : i < m) : (restAt m v i * 256 + v / 256 ^ (m - 1 - i) % 256) % 32 = restAt m v (i + 1) := by
  have hs := step_eq m v i h
  unfold restAt
  rw [show m - (i + 1) = m - 1 - i from by omega]
  generalize v / 256 ^ (m - i) = A at *
  generalize v / 256 ^ (m - 1 - i) = B at *
  omega

theorem midRow_step (m v i : Nat) (h : i < m) : (midRow m v i).set i (.int .i64 (((restAt m v i * 256 + v / 256 ^ (m - 1 - i) % 256) / 32 : Nat) : Int)) = midRow m v (i + 1) := by
  have hs := step_eq m v i h
  have hq : (restAt m v i * 256 + v / 256 ^ (m - 1 - i) % 256) / 32 = (v / 32) / 256 ^ (m - 1 - i) % 256 := by
    rw [Nat.div_div_eq_div_mul, Nat.mul_comm 32, ← Nat.div_div_eq_div_mul]
    unfold restAt
    generalize v / 256 ^ (m - i) = A at *
    generalize v / 256 ^ (m - 1 - i) = B at *
    omega
  rw [hq]
  have hlen : ((hb m (v / 32)).take i).length = i := by rw [List.length_take, hb_length]; omega
  have hd : (hb m v).drop i = UInt8.ofNat (v / 256 ^ (m - 1 - i) % 256) :: (hb m v).drop (i + 1) := by
    have hlt : i < (hb m v).length := by rw [hb_length]; exact h
    rw [List.drop_eq_getElem_cons hlt]
    have := hb_get m v i h
    rw [List.getElem?_eq_getElem hlt] at this
    rw [Option.some.inj this]
  have ht : (hb m (v / 32)).take (i + 1) = (hb m (v / 32)).take i ++ [UInt8.ofNat ((v / 32) / 256 ^ (m - 1 - i) % 256)] := by
    have hlt : i < (hb m (v / 32)).length := by rw [hb_length]; exact h
    rw [List.take_succ_eq_append_getElem hlt]
    have := hb_get m (v / 32) i h
    rw [List.getElem?_eq_getElem hlt] at this
    rw [Option.some.inj this]
  unfold midRow
  rw [hd, ht, List.map_append, List.set_append_right i _ (by rw [List.length_map, hlen]; exact Nat.le_refl _)]
  rw [List.length_map, hlen, Nat.sub_self]
  simp only [List.map_cons, List.set_cons_zero, List.append_assoc, List.map_append, List.cons_append, List.nil_append, iv]
  rw [UInt8.toNat_ofNat', Nat.mod_mod_of_dvd _ (by decide)]

end Go.Proofs.YtokbakpbhpknfaaGreatDoor.Nam

namespace Go.Proofs.YtokbakpbhpknfaaGreatDoor.Nam

/-- The carry behind k bytes. -/
def carry (h v k : Nat) : Nat := (32 * (h % 256 ^ k) + v) / 256 ^ k

theorem carry_zero (h v : Nat) : carry h v 0 = v := by simp [carry, Nat.mod_one]

theorem carry_le (h v k : Nat) (hv : v < 32) : carry h v k ≤ 32 := by
  unfold carry
  have hp : 0 < 256 ^ k := Nat.pos_of_ne_zero (by simp)
  have := Nat.mod_lt h hp
  have h2 : 32 * (h % 256 ^ k) + v < 256 ^ k * 33 := by omega
  have := (Nat.div_lt_iff_lt_mul hp).2 (by rw [Nat.mul_comm]; exact h2)
  omega

theorem carry_sum (h v k : Nat) : (h * 32 + v) / 256 ^ k = 32 * (h / 256 ^ k) + carry h v k := by
  unfold carry
  have hp : 0 < 256 ^ k := Nat.pos_of_ne_zero (by simp)
  have e : h * 32 + v = 256 ^ k * (32 * (h / 256 ^ k)) + (32 * (h % 256 ^ k) + v) := by
    have := Nat.div_add_mod h (256 ^ k)
    have e2 : 256 ^ k * (32 * (h / 256 ^ k)) = 32 * (256 ^ k * (h / 256 ^ k)) := by rw [Nat.mul_left_comm]
    rw [e2]
    omega
  rw [e, Nat.mul_add_div hp]

theorem carry_step (h v k : Nat) : (carry h v k + h / 256 ^ k % 256 * 32) / 256 = carry h v (k + 1) := by
  have h1 := carry_sum h v k
  have h2 := carry_sum h v (k + 1)
  have e1 : (h * 32 + v) / 256 ^ (k + 1) = (h * 32 + v) / 256 ^ k / 256 := by rw [Nat.div_div_eq_div_mul, Nat.pow_succ]
  have e2 : h / 256 ^ (k + 1) = h / 256 ^ k / 256 := by rw [Nat.div_div_eq_div_mul, Nat.pow_succ]
  rw [e1, e2] at h2
  generalize (h * 32 + v) / 256 ^ k = T at *
  generalize h / 256 ^ k = H at *
  omega

theorem carry_digit (h v k : Nat) : (carry h v k + h / 256 ^ k % 256 * 32) % 256 = (h * 32 + v) / 256 ^ k % 256 := by
  have h1 := carry_sum h v k
  generalize (h * 32 + v) / 256 ^ k = T at *
  generalize h / 256 ^ k = H at *
  omega

theorem carry_end (h v m : Nat) (hh : h < 256 ^ m) : (carry h v m = 0 ↔ h * 32 + v < 256 ^ m) := by
  have hp : 0 < 256 ^ m := Nat.pos_of_ne_zero (by simp)
  have h1 := carry_sum h v m
  rw [Nat.div_eq_of_lt hh, Nat.mul_zero, Nat.zero_add] at h1
  rw [← h1, Nat.div_eq_zero_iff]
  omega

/-- What stands there behind k of the m bytes. -/
def carryRow (m h v k : Nat) : List Value := ((byN m (h * 32 + v)).take k ++ (byN m h).drop k).map iv

theorem carryRow_start (m h v : Nat) : carryRow m h v 0 = (byN m h).map iv := by simp [carryRow]

theorem carryRow_end (m h v : Nat) : carryRow m h v m = (byN m (h * 32 + v)).map iv := by
  have h1 : (byN m (h * 32 + v)).take m = byN m (h * 32 + v) := List.take_of_length_le (by rw [byN_length]; exact Nat.le_refl _)
  have h2 : (byN m h).drop m = [] := List.drop_eq_nil_of_le (by rw [byN_length]; exact Nat.le_refl _)
  simp [carryRow, h1, h2]

theorem carryRow_get (m h v k : Nat) (hk : k < m) : (carryRow m h v k)[k]? = some (.int .i64 ((h / 256 ^ k % 256 : Nat) : Int)) := by
  unfold carryRow
  rw [List.getElem?_map, List.getElem?_append_right (by rw [List.length_take, byN_length]; omega)]
  have e : k - ((byN m (h * 32 + v)).take k).length = 0 := by rw [List.length_take, byN_length]; omega
  rw [e, List.getElem?_drop, Nat.add_zero, byN_get m h k hk]
  simp only [Option.map_some, iv]
  rw [UInt8.toNat_ofNat', Nat.mod_mod_of_dvd _ (by decide)]

theorem carryRow_step (m h v k : Nat) (hk : k < m) : (carryRow m h v k).set k (.int .i64 (((carry h v k + h / 256 ^ k % 256 * 32) % 256 : Nat) : Int)) = carryRow m h v (k + 1) := by
  rw [carry_digit]
  have hlen : ((byN m (h * 32 + v)).take k).length = k := by rw [List.length_take, byN_length]; omega
  have hd : (byN m h).drop k = UInt8.ofNat (h / 256 ^ k % 256) :: (byN m h).drop (k + 1) := by
    have hlt : k < (byN m h).length := by rw [byN_length]; exact hk
    rw [List.drop_eq_getElem_cons hlt]
    have := byN_get m h k hk
    rw [List.getElem?_eq_getElem hlt] at this
    rw [Option.some.inj this]
  have ht : (byN m (h * 32 + v)).take (k + 1) = (byN m (h * 32 + v)).take k ++ [UInt8.ofNat ((h * 32 + v) / 256 ^ k % 256)] := by
    have hlt : k < (byN m (h * 32 + v)).length := by rw [byN_length]; exact hk
    rw [List.take_succ_eq_append_getElem hlt]
    have := byN_get m (h * 32 + v) k hk
    rw [List.getElem?_eq_getElem hlt] at this
    rw [Option.some.inj this]
  unfold carryRow
  rw [hd, ht, List.map_append, List.set_append_right k _ (by rw [List.length_map, hlen]; exact Nat.le_refl _)]
  rw [List.length_map, hlen, Nat.sub_self]
  simp only [List.map_cons, List.set_cons_zero, List.append_assoc, List.map_append, List.cons_append, List.nil_append, iv]
  rw [UInt8.toNat_ofNat', Nat.mod_mod_of_dvd _ (by decide)]

/-- The number of the first signs. -/
def hvN (s : List UInt8) (i : Nat) : Nat := rv (s.take i).reverse

theorem hvN_step (s : List UInt8) (i : Nat) (h : i < s.length) : hvN s (i + 1) = hvN s i * 32 + (sv (s.getD i 0)).toNat := by
  unfold hvN
  rw [take_one s 0 i h, List.reverse_append]
  simp [rv]
  omega

theorem hvN_all (s : List UInt8) : hvN s s.length = rv s.reverse := by unfold hvN; rw [List.take_length]

theorem hvN_le (s : List UInt8) (i : Nat) : hvN s i ≤ rv s.reverse := by
  have h := rv_append (s.drop i).reverse (s.take i).reverse
  rw [← List.reverse_append, List.take_append_drop] at h
  unfold hvN
  rw [h]
  have hp : 1 ≤ 32 ^ (s.drop i).reverse.length := Nat.pos_of_ne_zero (by simp)
  have := Nat.mul_le_mul_right (rv (s.take i).reverse) hp
  omega

/-- What the search has found behind k signs. -/
def fnd (c : UInt8) (k : Nat) : Int := if 0 ≤ sv c ∧ sv c < k then sv c else -1

theorem fnd_zero (c : UInt8) : fnd c 0 = -1 := by unfold fnd; rw [if_neg (by omega)]

theorem fnd_all (c : UInt8) : fnd c 32 = sv c := by
  unfold fnd
  rcases sv_cases c with h | h
  · rw [if_neg (by omega), h]
  · rw [if_pos (by omega)]

theorem sgn_eq (c : UInt8) (k : Nat) (hk : k < 32) : (sgn k = c) ↔ sv c = (k : Int) := by
  constructor
  · intro h; rw [← h]; exact sv_sgn k hk
  · intro h
    rcases sv_cases c with h1 | h1
    · omega
    · rw [← h1.2.2, h]; simp

theorem fnd_hit (c : UInt8) (k : Nat) (hk : k < 32) (h : sgn k = c) : fnd c (k + 1) = (k : Int) := by
  have := (sgn_eq c k hk).1 h
  unfold fnd; rw [if_pos (by omega), this]

theorem fnd_miss (c : UInt8) (k : Nat) (hk : k < 32) (h : sgn k ≠ c) : fnd c (k + 1) = fnd c k := by
  have : sv c ≠ (k : Int) := fun e => h ((sgn_eq c k hk).2 e)
  unfold fnd
  by_cases h2 : 0 ≤ sv c ∧ sv c < k
  · rw [if_pos h2, if_pos (by omega)]
  · rw [if_neg h2, if_neg (by omega)]

end Go.Proofs.YtokbakpbhpknfaaGreatDoor.Nam

namespace Go.Proofs.YtokbakpbhpknfaaGreatDoor.Nam

/-- The number of a digit; -1: it is none. -/
def dv (c : UInt8) : Int := Lib.indexByte digits c

theorem dv_cases (c : UInt8) : (48 ≤ c.toNat ∧ c.toNat ≤ 57 ∧ dv c = (c.toNat : Int) - 48) ∨ (97 ≤ c.toNat ∧ c.toNat ≤ 102 ∧ dv c = (c.toNat : Int) - 87) ∨
    (¬ (48 ≤ c.toNat ∧ c.toNat ≤ 57) ∧ ¬ (97 ≤ c.toNat ∧ c.toNat ≤ 102) ∧ dv c = -1) := by
  have : ∀ n : Fin 256, (48 ≤ (UInt8.ofNat n.val).toNat ∧ (UInt8.ofNat n.val).toNat ≤ 57 ∧ dv (UInt8.ofNat n.val) = ((UInt8.ofNat n.val).toNat : Int) - 48) ∨ (97 ≤ (UInt8.ofNat n.val).toNat ∧ (UInt8.ofNat n.val).toNat ≤ 102 ∧ dv (UInt8.ofNat n.val) = ((UInt8.ofNat n.val).toNat : Int) - 87) ∨
    (¬ (48 ≤ (UInt8.ofNat n.val).toNat ∧ (UInt8.ofNat n.val).toNat ≤ 57) ∧ ¬ (97 ≤ (UInt8.ofNat n.val).toNat ∧ (UInt8.ofNat n.val).toNat ≤ 102) ∧ dv (UInt8.ofNat n.val) = -1) := by decide +kernel
  have h := this ⟨c.toNat, c.toNat_lt⟩
  simpa using h

theorem dv_lt (c : UInt8) : dv c < 16 := by
  rcases dv_cases c with h | h | h <;> omega

theorem dv_hx (v : Nat) (h : v < 16) : dv (hx v) = (v : Int) := by
  have : ∀ x : Fin 16, dv (hx x.val) = (x.val : Int) := by decide +kernel
  exact this ⟨v, h⟩

/-- Are they digits? -/
def okd (s : List UInt8) : Bool := s.all fun c => decide (0 ≤ dv c)

/-- The byte of two digits. -/
def two (a b : UInt8) : UInt8 := UInt8.ofNat ((dv a).toNat * 16 + (dv b).toNat)

/-- The bytes of digits, two by two. -/
def prs : List UInt8 → List UInt8
  | a :: b :: t => two a b :: prs t
  | _ => []

theorem prs_length : ∀ s : List UInt8, (prs s).length = s.length / 2
  | [] => rfl
  | [_] => by simp [prs]
  | _ :: _ :: t => by simp only [prs, List.length_cons, prs_length t]; omega

theorem prs_get : ∀ (s : List UInt8) (k : Nat), 2 * k + 1 < s.length → (prs s)[k]? = some (two (s.getD (2 * k) 0) (s.getD (2 * k + 1) 0))
  | [], _, h => by simp at h
  | [_], _, h => by simp at h
  | a :: b :: t, 0, _ => by simp [prs]
  | a :: b :: t, k + 1, h => by
    have ih := prs_get t k (by simp at h; omega)
    have e1 : 2 * (k + 1) = 2 * k + 1 + 1 := by omega
    have e2 : 2 * (k + 1) + 1 = 2 * k + 1 + 1 + 1 := by omega
    rw [e1]
    simp only [prs, List.getElem?_cons_succ, ih]
    simp [List.getD]

/-- The bytes whose digits a text is; none: there are none. -/
def unhex (s : List UInt8) : Option (List UInt8) := if s.length % 2 = 0 ∧ okd s = true then some (prs s) else none

theorem unhex_odd (s : List UInt8) (h : s.length % 2 ≠ 0) : unhex s = none := by
  unfold unhex; rw [if_neg]; exact fun h2 => h h2.1

theorem unhex_bad (s : List UInt8) (k : Nat) (h : k < s.length) (hd : dv (s.getD k 0) < 0) : unhex s = none := by
  unfold unhex
  rw [if_neg]
  rintro ⟨_, h2⟩
  unfold okd at h2
  rw [List.all_eq_true] at h2
  have := h2 (s.getD k 0) (by rw [List.getD_eq_getElem?_getD, List.getElem?_eq_getElem h]; exact List.getElem_mem h)
  rw [decide_eq_true_iff] at this
  omega

theorem okd_hexL : ∀ l, okd (hexL l) = true
  | [] => rfl
  | b :: t => by
    have ih := okd_hexL t
    have hb := b.toNat_lt
    unfold okd at *
    simp only [hexL, List.all_cons, ih, Bool.and_true]
    rw [dv_hx _ (by omega), dv_hx _ (by omega)]
    simp
    omega

theorem prs_hexL : ∀ l, prs (hexL l) = l
  | [] => rfl
  | b :: t => by
    have hb := b.toNat_lt
    simp only [hexL, prs, prs_hexL t, two]
    rw [dv_hx _ (by omega), dv_hx _ (by omega)]
    congr 1
    have e : ((b.toNat / 16 : Nat) : Int).toNat * 16 + ((b.toNat % 16 : Nat) : Int).toNat = b.toNat := by omega
    rw [e]; simp

theorem unhex_hexL (l : List UInt8) : unhex (hexL l) = some l := by
  unfold unhex
  rw [if_pos ⟨by rw [hexL_length]; omega, okd_hexL l⟩, prs_hexL]

/-- Bytes that have been laid into a row, and noughts behind them. -/
def rowAt (l : List UInt8) (k : Nat) : List Value := (l.take k ++ List.replicate (l.length - k) 0).map bv

theorem rowAt_start (l : List UInt8) : rowAt l 0 = List.replicate l.length (.int .u8 0) := by
  simp [rowAt, bv]

theorem rowAt_end (l : List UInt8) : rowAt l l.length = l.map bv := by simp [rowAt]

theorem rowAt_get (l : List UInt8) (k : Nat) (h : k < l.length) : ∃ u, (rowAt l k)[k]? = some u :=
  ⟨_, List.getElem?_eq_getElem (by simp [rowAt]; omega)⟩

theorem rowAt_step (l : List UInt8) (k : Nat) (b : UInt8) (h : l[k]? = some b) : (rowAt l k).set k (bv b) = rowAt l (k + 1) := by
  have hk : k < l.length := by
    rcases Nat.lt_or_ge k l.length with h1 | h1
    · exact h1
    · rw [List.getElem?_eq_none h1] at h; cases h
  have hlen : (l.take k).length = k := by rw [List.length_take]; omega
  have ht : l.take (k + 1) = l.take k ++ [b] := by
    rw [List.take_succ_eq_append_getElem hk]
    rw [List.getElem?_eq_getElem hk] at h
    rw [Option.some.inj h]
  have hr : List.replicate (l.length - k) (0 : UInt8) = 0 :: List.replicate (l.length - (k + 1)) 0 := by
    rw [show l.length - k = (l.length - (k + 1)) + 1 from by omega, List.replicate_succ]
  unfold rowAt
  rw [ht, hr, List.map_append, List.set_append_right k _ (by rw [List.length_map, hlen]; exact Nat.le_refl _)]
  rw [List.length_map, hlen, Nat.sub_self]
  simp

end Go.Proofs.YtokbakpbhpknfaaGreatDoor.Nam
