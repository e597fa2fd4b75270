/-
  Plain mathematics of bytes as one number and its signs to the base 32: no program is named here. No conditions.
-/
import Derived.Laws.BitsAllLaws
namespace Go.Proofs.Ytcmgafehidgkmaa.Nam

/-- Bytes as one number, the first byte the lowest. -/
def val : List UInt8 → Nat
  | [] => 0
  | b :: t => b.toNat + 256 * val t

theorem val_drop : ∀ (q : Nat) (l : List UInt8), val l / 256 ^ q = val (l.drop q)
  | 0, l => by simp
  | q + 1, [] => by simp [val]
  | q + 1, b :: t => by
    have ih := val_drop q t
    have hb := b.toNat_lt
    rw [List.drop_succ_cons, ← ih, Nat.pow_succ, Nat.mul_comm, ← Nat.div_div_eq_div_mul]
    congr 1
    simp only [val]
    omega

theorem val_lt : ∀ l : List UInt8, val l < 256 ^ l.length
  | [] => by simp [val]
  | b :: t => by
    have ih := val_lt t
    have hb := b.toNat_lt
    simp only [val, List.length_cons, Nat.pow_succ]
    omega

theorem val_at (l : List UInt8) (q : Nat) (h : q < l.length) : val (l.drop q) = (l.getD q 0).toNat + 256 * val (l.drop (q + 1)) := by
  rw [List.drop_eq_getElem_cons h]
  simp [val, List.getD, h]

theorem val_at_beyond (l : List UInt8) (q : Nat) (h : l.length ≤ q) : val (l.drop q) = 0 := by
  rw [List.drop_eq_nil_of_le h]; rfl

theorem pow_split (q r : Nat) : (2 : Nat) ^ (8 * q + r) = 256 ^ q * 2 ^ r := by
  rw [Nat.pow_add, Nat.pow_mul]

theorem small_shift (x y z r : Nat) (h : r < 8) : (x + 256 * (y + 256 * z)) / 2 ^ r % 32 = (x + 256 * y) / 2 ^ r % 32 := by
  have : r = 0 ∨ r = 1 ∨ r = 2 ∨ r = 3 ∨ r = 4 ∨ r = 5 ∨ r = 6 ∨ r = 7 := by omega
  rcases this with rfl | rfl | rfl | rfl | rfl | rfl | rfl | rfl <;> simp only [Nat.reducePow] <;> omega

theorem pow32 (k : Nat) : (32 : Nat) ^ k = 2 ^ (5 * k) := by
  rw [Nat.pow_mul]

/-- The k-th sign's number, out of two bytes next to one another. -/
theorem digit_two (l : List UInt8) (k : Nat) :
    val l / 32 ^ k % 32 = (val (l.drop (5 * k / 8)) % 65536) / 2 ^ (5 * k % 8) % 32 := by
  have e : 5 * k = 8 * (5 * k / 8) + 5 * k % 8 := by omega
  have hr : 5 * k % 8 < 8 := by omega
  rw [pow32, e]
  generalize 5 * k / 8 = q at *
  generalize 5 * k % 8 = r at *
  have e2 : (8 * q + r) / 8 = q := by omega
  have e3 : (8 * q + r) % 8 = r := by omega
  rw [pow_split, ← Nat.div_div_eq_div_mul, val_drop, e2, e3]
  generalize val (l.drop q) = n
  have hn : n = n % 256 + 256 * (n / 256 % 256 + 256 * (n / 65536)) := by omega
  have hn2 : n % 65536 = n % 256 + 256 * (n / 256 % 256) := by omega
  rw [hn2]
  conv => lhs; rw [hn]
  exact small_shift _ _ _ _ hr

theorem u64_join (x y : Int) (x0 : 0 ≤ x) (x1 : x < 256) (y0 : 0 ≤ y) (y1 : y < 256) : bits .or .u64 x (y * 256) = x + 256 * y := by
  rw [u64_or x (y * 256) x0 (by omega) (by omega) (by omega)]
  rw [Nat.or_comm, nat_join 8 _ _ (by omega) (by omega)]
  omega

/-- The 32 signs. -/
def signs : List UInt8 := [48, 49, 50, 51, 52, 53, 54, 55, 56, 57, 97, 98, 99, 100, 102, 103, 104, 105, 106, 107, 108, 109, 110, 112, 113, 114, 115, 118, 119, 120, 121, 122]

/-- The sign of a number. -/
def sgn (v : Nat) : UInt8 := signs.getD v 0

/-- The number of the sign at place k of a number, the lowest one at 0. -/
def dig (v k : Nat) : Nat := v / 32 ^ k % 32

theorem dig_lt (v k : Nat) : dig v k < 32 := by unfold dig; omega

theorem sign_at (v : Nat) (h : v < 32) : (⟨#[48, 49, 50, 51, 52, 53, 54, 55, 56, 57, 97, 98, 99, 100, 102, 103, 104, 105, 106, 107, 108, 109, 110, 112, 113, 114, 115, 118, 119, 120, 121, 122]⟩ : ByteArray)[v]'h = sgn v := by
  have : ∀ x : Fin 32, (⟨#[48, 49, 50, 51, 52, 53, 54, 55, 56, 57, 97, 98, 99, 100, 102, 103, 104, 105, 106, 107, 108, 109, 110, 112, 113, 114, 115, 118, 119, 120, 121, 122]⟩ : ByteArray)[x.val]'x.isLt = sgn x.val := by decide
  exact this ⟨v, h⟩

/-- The lowest n signs of a number, the highest first. -/
def encN : Nat → Nat → List UInt8
  | 0, _ => []
  | n + 1, v => sgn (dig v n) :: encN n v

theorem encN_length : ∀ n v, (encN n v).length = n
  | 0, _ => rfl
  | n + 1, v => by simp [encN, encN_length n v]

/-- How many signs so many bytes have. -/
def slen (n : Nat) : Nat := (8 * n + 4) / 5

/-- Bytes in signs. -/
def enc (l : List UInt8) : List UInt8 := encN (slen l.length) (val l)

theorem enc_length (l : List UInt8) : (enc l).length = slen l.length := encN_length _ _

/-- A byte as a cell's value. -/
def bv (b : UInt8) : Value := .int .u8 (b.toNat : Int)

/-- What stands in the made bytes behind k rounds: noughts, and the lowest k signs. -/
def encAt (n k v : Nat) : List Value := List.replicate (n - k) (bv 0) ++ (encN k v).map bv

theorem encAt_length (n k v : Nat) (h : k ≤ n) : (encAt n k v).length = n := by
  simp [encAt, encN_length]; omega

theorem encAt_step (n k v : Nat) (h : k < n) : (encAt n k v).set (n - 1 - k) (bv (sgn (dig v k))) = encAt n (k + 1) v := by
  unfold encAt
  have e : n - k = (n - 1 - k) + 1 := by omega
  have e2 : n - (k + 1) = n - 1 - k := by omega
  rw [e2, e, List.replicate_succ', List.append_assoc, List.set_append]
  simp [encN]

theorem encAt_get (n k v j : Nat) (h : k ≤ n) (hj : j < n) : ∃ u, (encAt n k v)[j]? = some u :=
  ⟨_, List.getElem?_eq_getElem (by rw [encAt_length n k v h]; exact hj)⟩

theorem encAt_all (n v : Nat) : encAt n n v = (encN n v).map bv := by simp [encAt]

/-- The 16 digits. -/
def digits : List UInt8 := [48, 49, 50, 51, 52, 53, 54, 55, 56, 57, 97, 98, 99, 100, 101, 102]

/-- The digit of a number. -/
def hx (v : Nat) : UInt8 := digits.getD v 0

theorem digit_at (v : Nat) (h : v < 16) : (⟨#[48, 49, 50, 51, 52, 53, 54, 55, 56, 57, 97, 98, 99, 100, 101, 102]⟩ : ByteArray)[v]'h = hx v := by
  have : ∀ x : Fin 16, (⟨#[48, 49, 50, 51, 52, 53, 54, 55, 56, 57, 97, 98, 99, 100, 101, 102]⟩ : ByteArray)[x.val]'x.isLt = hx x.val := by decide
  exact this ⟨v, h⟩

/-- Bytes in digits. -/
def hexL : List UInt8 → List UInt8
  | [] => []
  | b :: t => hx (b.toNat / 16) :: hx (b.toNat % 16) :: hexL t

theorem hexL_length : ∀ l, (hexL l).length = 2 * l.length
  | [] => rfl
  | b :: t => by simp [hexL, hexL_length t]; omega

theorem hexL_append : ∀ l m, hexL (l ++ m) = hexL l ++ hexL m
  | [], m => rfl
  | b :: t, m => by simp [hexL, hexL_append t m]

theorem hexL_step (l : List UInt8) (k : Nat) (h : k < l.length) :
    hexL (l.take (k + 1)) = hexL (l.take k) ++ [hx ((l.getD k 0).toNat / 16), hx ((l.getD k 0).toNat % 16)] := by
  have : l.take (k + 1) = l.take k ++ [l.getD k 0] := by
    rw [List.take_succ_eq_append_getElem h]; simp [List.getD, h]
  rw [this, hexL_append]; rfl

end Go.Proofs.Ytcmgafehidgkmaa.Nam
