/-
  Plain mathematics: a great number, the highest byte first, divided by 32 again and again. No conditions.
-/
import Derived.Test.YtcmgafehidgkmaaDecMath
namespace Go.Proofs.Ytcmgafehidgkmaa.Nam

/-- The lowest m bytes of a number, the highest first. -/
def hb (m v : Nat) : List UInt8 := (byN m v).reverse

theorem hb_length (m v : Nat) : (hb m v).length = m := by simp [hb, byN_length]

theorem hb_get (m v i : Nat) (h : i < m) : (hb m v)[i]? = some (UInt8.ofNat (v / 256 ^ (m - 1 - i) % 256)) := by
  unfold hb
  rw [List.getElem?_reverse (by rw [byN_length]; exact h), byN_length, byN_get m v _ (by omega)]

theorem hb_val (l : List UInt8) : hb l.length (val l) = l.reverse := by
  unfold hb; rw [byN_val]

/-- A byte as an int's cell. -/
def iv (b : UInt8) : Value := .int .i64 (b.toNat : Int)

/-- What stands there behind i of the m steps of one division. -/
def midRow (m v i : Nat) : List Value := ((hb m (v / 32)).take i ++ (hb m v).drop i).map iv

theorem midRow_start (m v : Nat) : midRow m v 0 = (hb m v).map iv := by simp [midRow]

theorem midRow_end (m v : Nat) : midRow m v m = (hb m (v / 32)).map iv := by
  have h1 : (hb m (v / 32)).take m = hb m (v / 32) := List.take_of_length_le (by rw [hb_length]; exact Nat.le_refl _)
  have h2 : (hb m v).drop m = [] := List.drop_eq_nil_of_le (by rw [hb_length]; exact Nat.le_refl _)
  simp [midRow, h1, h2]

theorem midRow_length (m v i : Nat) (h : i ≤ m) : (midRow m v i).length = m := by
  simp [midRow, hb_length]; omega

/-- The number at a place ahead of its step. -/
theorem midRow_get (m v i : Nat) (h : i < m) : (midRow m v i)[i]? = some (.int .i64 ((v / 256 ^ (m - 1 - i) % 256 : Nat) : Int)) := by
  unfold midRow
  rw [List.getElem?_map, List.getElem?_append_right (by rw [List.length_take, hb_length]; omega)]
  have e : i - ((hb m (v / 32)).take i).length = 0 := by rw [List.length_take, hb_length]; omega
  rw [e, List.getElem?_drop, Nat.add_zero, hb_get m v i h]
  simp only [Option.map_some, iv]
  rw [UInt8.toNat_ofNat', Nat.mod_mod_of_dvd _ (by decide)]

/-- The rest behind i steps. -/
def restAt (m v i : Nat) : Nat := v / 256 ^ (m - i) % 32

theorem restAt_end (m v : Nat) : restAt m v m = v % 32 := by simp [restAt]

theorem step_eq (m v i : Nat) (h : i < m) : v / 256 ^ (m - 1 - i) = 256 * (v / 256 ^ (m - i)) + v / 256 ^ (m - 1 - i) % 256 := by
  have e : m - i = (m - 1 - i) + 1 := by omega
  rw [e, Nat.pow_succ, ← Nat.div_div_eq_div_mul]
  omega

theorem restAt_step (m v i : Nat) (h : i < m) : (restAt m v i * 256 + v / 256 ^ (m - 1 - i) % 256) % 32 = restAt m v (i + 1) := by
  have hs := step_eq m v i h
  unfold restAt
  rw [show m - (i + 1) = m - 1 - i from by omega]
  generalize v / 256 ^ (m - i) = A at *
  generalize v / 256 ^ (m - 1 - i) = B at *
  omega

theorem midRow_step (m v i : Nat) (h : i < m) : (midRow m v i).set i (.int .i64 (((restAt m v i * 256 + v / 256 ^ (m - 1 - i) % 256) / 32 : Nat) : Int)) = midRow m v (i + 1) := by
  have hs := step_eq m v i h
  have hq : (restAt m v i * 256 + v / 256 ^ (m - 1 - i) % 256) / 32 = (v / 32) / 256 ^ (m - 1 - i) % 256 := by
    rw [Nat.div_div_eq_div_mul, Nat.mul_comm 32, ← Nat.div_div_eq_div_mul]
    unfold restAt
    generalize v / 256 ^ (m - i) = A at *
    generalize v / 256 ^ (m - 1 - i) = B at *
    omega
  rw [hq]
  have hlen : ((hb m (v / 32)).take i).length = i := by rw [List.length_take, hb_length]; omega
  have hd : (hb m v).drop i = UInt8.ofNat (v / 256 ^ (m - 1 - i) % 256) :: (hb m v).drop (i + 1) := by
    have hlt : i < (hb m v).length := by rw [hb_length]; exact h
    rw [List.drop_eq_getElem_cons hlt]
    have := hb_get m v i h
    rw [List.getElem?_eq_getElem hlt] at this
    rw [Option.some.inj this]
  have ht : (hb m (v / 32)).take (i + 1) = (hb m (v / 32)).take i ++ [UInt8.ofNat ((v / 32) / 256 ^ (m - 1 - i) % 256)] := by
    have hlt : i < (hb m (v / 32)).length := by rw [hb_length]; exact h
    rw [List.take_succ_eq_append_getElem hlt]
    have := hb_get m (v / 32) i h
    rw [List.getElem?_eq_getElem hlt] at this
    rw [Option.some.inj this]
  unfold midRow
  rw [hd, ht, List.map_append, List.set_append_right i _ (by rw [List.length_map, hlen]; exact Nat.le_refl _)]
  rw [List.length_map, hlen, Nat.sub_self]
  simp only [List.map_cons, List.set_cons_zero, List.append_assoc, List.map_append, List.cons_append, List.nil_append, iv]
  rw [UInt8.toNat_ofNat', Nat.mod_mod_of_dvd _ (by decide)]

end Go.Proofs.Ytcmgafehidgkmaa.Nam
