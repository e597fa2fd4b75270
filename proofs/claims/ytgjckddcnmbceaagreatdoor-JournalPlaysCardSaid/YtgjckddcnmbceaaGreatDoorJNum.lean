/-
  How a number is told in bytes. No program text.
-/
import Derived.Test.YtgjckddcnmbceaaGreatDoorSLowN
import Derived.Laws.BitsAllLaws
namespace Go.Proofs.YtgjckddcnmbceaaGreatDoor
open Go.RowKit
set_option linter.unusedVariables false

/-- A number in k bytes, the highest first. -/
def be (n : Nat) : Nat → List UInt8
  | 0 => []
  | k + 1 => UInt8.ofNat (n / 256 ^ k) :: be n k
theorem be_length (n : Nat) : ∀ k, (be n k).length = k
  | 0 => rfl
  | k + 1 => by simp [be, be_length n k]
theorem be_get (n : Nat) : ∀ k i, i < k → (be n k).getD i 0 = UInt8.ofNat (n / 256 ^ (k - 1 - i))
  | 0, i, h => by omega
  | k + 1, 0, h => by simp [be]
  | k + 1, i + 1, h => by
    rw [be, List.getD_cons_succ, be_get n k i (by omega)]
    congr 3; omega
/-- The number that some bytes tell. -/
def rd (l : List UInt8) : Nat := l.foldl (fun a c => a * 256 + c.toNat) 0
theorem rd_from (l : List UInt8) : ∀ a, l.foldl (fun a c => a * 256 + c.toNat) a = a * 256 ^ l.length + rd l := by
  induction l with
  | nil => intro a; simp [rd]
  | cons c r ih =>
    intro a
    have e : rd (c :: r) = c.toNat * 256 ^ r.length + rd r := by
      show List.foldl (fun a c => a * 256 + c.toNat) (0 * 256 + c.toNat) r = _
      rw [ih]; simp
    rw [List.foldl_cons, ih, e, List.length_cons, Nat.pow_succ, Nat.add_mul, Nat.mul_assoc, Nat.mul_comm 256, Nat.add_assoc]
theorem rd_cons (c : UInt8) (r : List UInt8) : rd (c :: r) = c.toNat * 256 ^ r.length + rd r := by
  show List.foldl (fun a c => a * 256 + c.toNat) (0 * 256 + c.toNat) r = _
  rw [rd_from]; simp
theorem rd_snoc (l : List UInt8) (c : UInt8) : rd (l ++ [c]) = rd l * 256 + c.toNat := by
  unfold rd; rw [List.foldl_append]; rfl
theorem rd_lt : ∀ l : List UInt8, rd l < 256 ^ l.length
  | [] => by simp [rd]
  | c :: r => by
    rw [rd_cons, List.length_cons, Nat.pow_succ]
    have h := rd_lt r
    have hc : c.toNat ≤ 255 := by have := c.toNat_lt; omega
    have h2 : c.toNat * 256 ^ r.length ≤ 255 * 256 ^ r.length := Nat.mul_le_mul_right _ hc
    omega
theorem rd_be (n : Nat) : ∀ k, rd (be n k) = n % 256 ^ k
  | 0 => by simp [be, rd, Nat.mod_one]
  | k + 1 => by
    have h : n % (256 ^ k * 256) = n % 256 ^ k + 256 ^ k * (n / 256 ^ k % 256) := Nat.mod_mul
    rw [be, rd_cons, be_length, rd_be n k, UInt8.toNat_ofNat', show (256 : Nat) ^ (k + 1) = 256 ^ k * 256 from rfl, h, show (2 : Nat) ^ 8 = 256 from rfl, Nat.mul_comm, Nat.add_comm]
theorem rd_zer : ∀ k, rd (zer k) = 0
  | 0 => rfl
  | k + 1 => by
    rw [zer, List.replicate_succ, rd_cons]
    have h := rd_zer k
    rw [zer] at h
    rw [h]; simp
theorem or_join (a c : Nat) (hc : c < 256) (ha : a * 256 + c < 18446744073709551616) : bits .or .u64 ((a : Int) * 256) (c : Int) = ((a * 256 + c : Nat) : Int) := by
  rw [show (a : Int) * 256 = ((a * 256 : Nat) : Int) from rfl]
  have h1 : a * 256 < 18446744073709551616 := Nat.lt_of_le_of_lt (Nat.le_add_right _ _) ha
  have h2 : c < 18446744073709551616 := Nat.lt_of_le_of_lt (Nat.le_add_left _ _) ha
  rw [u64_or_nat (a * 256) c h1 h2]
  congr 1
  rw [Nat.mul_comm a 256]
  exact (Nat.two_pow_add_eq_or_of_lt (i := 8) hc a).symm
theorem or_mark (n : Nat) (hn : n < 2147483648) : bits .or .u64 2147483648 (n : Int) = ((2147483648 + n : Nat) : Int) := by
  have h := u64_or_nat 2147483648 n (by omega) (by omega)
  rw [show ((2147483648 : Nat) : Int) = 2147483648 from rfl] at h
  rw [h]
  congr 1
  have := (Nat.two_pow_add_eq_or_of_lt (i := 31) hn 1).symm
  simpa using this

end Go.Proofs.YtgjckddcnmbceaaGreatDoor
