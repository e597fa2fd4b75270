/-
  The contract of the function that tells five bits of a number of bytes: it is the sign's number of the plain mathematics. Conditions: the bit lies in the number; at most some hundred million bytes.
-/
import Derived.Test.YthomkagbcoaipaaRows
import Derived.Test.YthomkagbcoaipaaBm
import Derived.WalkKit
import Derived.WalkSpells
import Derived.WalkLawsBesides
import Derived.Lib.Hide
namespace Go.Proofs.Ythomkagbcoaipaa
open Go.RowKit

theorem ret_u8 {a b : Int} (h : a = b) : Ending.returned (.int .u8 a) = .returned (.int .u8 b) := by rw [h]

/-- The cells from b, off on hold these bytes. -/
def By (w : World) (b off : Nat) (l : List UInt8) : Prop := ∀ i, i < l.length → w.cell? ⟨b, off + i, none⟩ = some (.int .u8 ((l.getD i 0).toNat : Int))

set_option maxHeartbeats 400000 in
theorem bits_two (b off len cap : Nat) (j x y : Int) (w : World) (h0 : 0 ≤ j) (h1 : j ≤ 1000000000) (hl : j / 8 + 1 < (len : Int)) (hm : len ≤ 1000000000)
    (hx : w.cell? ⟨b, off + (j / 8).toNat, none⟩ = some (.int .u8 x)) (hy : w.cell? ⟨b, off + (j / 8 + 1).toNat, none⟩ = some (.int .u8 y))
    (x0 : 0 ≤ x) (x1 : x < 256) (y0 : 0 ≤ y) (y1 : y < 256) :
    Calls Try.prog 22 #[.slice (some ⟨b, off, none⟩) len cap, .int .i64 j] w fun e w' => e = .returned (.int .u8 ((x + 256 * y) / 2 ^ (j % 8).toNat % 32)) ∧ w = w' := by
  have hq : 0 ≤ j / 8 := by omega
  have hr : 0 ≤ j % 8 := by omega
  have hr8 : j % 8 < 8 := by omega
  have hq1 : j / 8 < (len : Int) := by omega
  go_enter Try.func22, Try.ntmps22
  go_wp2
  go_ret
  exact ⟨ret_u8 (by rw [u64_join x y x0 x1 y0 y1]; omega), rfl⟩

set_option maxHeartbeats 400000 in
theorem bits_one (b off len cap : Nat) (j x : Int) (w : World) (h0 : 0 ≤ j) (h1 : j ≤ 1000000000) (hl : j / 8 < (len : Int)) (hl2 : ¬ j / 8 + 1 < (len : Int)) (hm : len ≤ 1000000000)
    (hx : w.cell? ⟨b, off + (j / 8).toNat, none⟩ = some (.int .u8 x))
    (x0 : 0 ≤ x) (x1 : x < 256) :
    Calls Try.prog 22 #[.slice (some ⟨b, off, none⟩) len cap, .int .i64 j] w fun e w' => e = .returned (.int .u8 (x / 2 ^ (j % 8).toNat % 32)) ∧ w = w' := by
  have hq : 0 ≤ j / 8 := by omega
  have hr : 0 ≤ j % 8 := by omega
  have hr8 : j % 8 < 8 := by omega
  go_enter Try.func22, Try.ntmps22
  go_wp2
  go_ret
  exact ⟨ret_u8 (by omega), rfl⟩

theorem cast_digit (n r : Nat) : (((n / 2 ^ r % 32 : Nat)) : Int) = (n : Int) / 2 ^ r % 32 := by
  simp [Int.natCast_ediv, Int.natCast_emod, Int.natCast_pow]

theorem bits_any (b off cap k : Nat) (l : List UInt8) (j : Int) (w : World) (hj : j = 5 * (k : Int)) (hk : 5 * k < 8 * l.length) (hm : l.length ≤ 100000000) (hb : By w b off l) :
    Calls Try.prog 22 #[.slice (some ⟨b, off, none⟩) l.length cap, .int .i64 j] w fun e w' => e = .returned (.int .u8 (dig (val l) k : Int)) ∧ w = w' := by
  unfold dig
  have hq : 5 * k / 8 < l.length := by omega
  have e1 : (j / 8).toNat = 5 * k / 8 := by omega
  have e2 : (j % 8).toNat = 5 * k % 8 := by omega
  have hx := hb _ hq
  have bx := (l.getD (5 * k / 8) 0).toNat_lt
  have hd := digit_two l k
  rw [val_at l _ hq] at hd
  by_cases h2 : 5 * k / 8 + 1 < l.length
  · have e3 : (j / 8 + 1).toNat = 5 * k / 8 + 1 := by omega
    have hy := hb _ h2
    have bY := (l.getD (5 * k / 8 + 1) 0).toNat_lt
    rw [val_at l _ h2] at hd
    refine (bits_two b off l.length cap j (l.getD (5 * k / 8) 0).toNat (l.getD (5 * k / 8 + 1) 0).toNat w (by omega) (by omega) (by omega) (by omega) (by rw [e1]; exact hx) (by rw [e3]; exact hy) (by omega) (by omega) (by omega) (by omega)).mono ?_
    rintro e w' ⟨rfl, hw⟩
    refine ⟨ret_u8 ?_, hw⟩
    have e5 : ((l.getD (5 * k / 8) 0).toNat + 256 * ((l.getD (5 * k / 8 + 1) 0).toNat + 256 * val (l.drop (5 * k / 8 + 1 + 1)))) % 65536 = (l.getD (5 * k / 8) 0).toNat + 256 * (l.getD (5 * k / 8 + 1) 0).toNat := by omega
    rw [hd, e5, e2, cast_digit]
    simp
  · rw [val_at_beyond l _ (by omega)] at hd
    refine (bits_one b off l.length cap j (l.getD (5 * k / 8) 0).toNat w (by omega) (by omega) (by omega) (by omega) (by omega) (by rw [e1]; exact hx) (by omega) (by omega)).mono ?_
    rintro e w' ⟨rfl, hw⟩
    refine ⟨ret_u8 ?_, hw⟩
    have e5 : ((l.getD (5 * k / 8) 0).toNat + 256 * 0) % 65536 = (l.getD (5 * k / 8) 0).toNat := by omega
    rw [hd, e5, e2, cast_digit]

end Go.Proofs.Ythomkagbcoaipaa
