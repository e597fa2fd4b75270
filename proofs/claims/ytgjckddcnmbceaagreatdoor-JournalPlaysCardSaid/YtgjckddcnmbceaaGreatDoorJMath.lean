/-
  Pieces as lists of bytes: what a piece is, what stands in a half. No program text.
-/
import Derived.Test.YtgjckddcnmbceaaGreatDoorJNum
import Derived.Test.YtgjckddcnmbceaaGreatDoorFold
import Derived.Test.YtgjckddcnmbceaaGreatDoorOfN
namespace Go.Proofs.YtgjckddcnmbceaaGreatDoor
open Go.RowKit
set_option linter.unusedVariables false

def nats (l : List UInt8) : List Nat := l.map UInt8.toNat
/-- The twenty bytes of a digest. -/
def sm (p q : List UInt8) : List UInt8 := (foldP (dig (nats (p ++ q))) 32).map UInt8.ofNat
def frontL (n : Nat) (p : List UInt8) : List UInt8 := be (2147483648 + p.length) 4 ++ be n 8
def headL (n : Nat) (p : List UInt8) : List UInt8 := frontL n p ++ sm (frontL n p) p
/-- A piece. -/
def packL (n : Nat) (p : List UInt8) : List UInt8 := headL n p ++ p
theorem frontL_length (n : Nat) (p : List UInt8) : (frontL n p).length = 12 := by simp [frontL, be_length]

/-- The bytes of the piece with that number at the beginning of l. -/
def unpackL (l : List UInt8) (n : Nat) : Option (List UInt8) :=
  if l.length < 32 then none
  else if rd (l.take 4) < 2147483648 ∨ l.length - 32 < rd (l.take 4) - 2147483648 then none
  else if rd ((l.drop 4).take 8) = n ∧ sm (l.take 12) ((l.drop 32).take (rd (l.take 4) - 2147483648)) = (l.drop 12).take 20 then some ((l.drop 32).take (rd (l.take 4) - 2147483648))
  else none
def numL (l : List UInt8) : Nat := rd ((l.drop 4).take 8)

theorem numL_lt (l : List UInt8) : numL l < 18446744073709551616 := by
  have h := rd_lt ((l.drop 4).take 8)
  have h2 : ((l.drop 4).take 8).length ≤ 8 := by simp; omega
  have h3 : 256 ^ ((l.drop 4).take 8).length ≤ 256 ^ 8 := Nat.pow_le_pow_right (by omega) h2
  unfold numL
  omega
theorem sm_length (p q : List UInt8) : (sm p q).length = 20 := by simp [sm, foldP_length]
theorem headL_length (n : Nat) (p : List UInt8) : (headL n p).length = 32 := by simp [headL, frontL_length, sm_length]
theorem packL_length (n : Nat) (p : List UInt8) : (packL n p).length = 32 + p.length := by simp [packL, headL_length]
theorem take4 (n : Nat) (p r : List UInt8) : (packL n p ++ r).take 4 = be (2147483648 + p.length) 4 := by
  unfold packL headL frontL
  simp only [List.append_assoc]
  exact List.take_left' (be_length _ _)
theorem take12 (n : Nat) (p r : List UInt8) : (packL n p ++ r).take 12 = frontL n p := by
  unfold packL headL
  simp only [List.append_assoc]
  exact List.take_left' (frontL_length _ _)
theorem drop12 (n : Nat) (p r : List UInt8) : (packL n p ++ r).drop 12 = sm (frontL n p) p ++ (p ++ r) := by
  unfold packL headL
  simp only [List.append_assoc]
  exact List.drop_left' (frontL_length _ _)
theorem mid8 (n : Nat) (p r : List UInt8) : ((packL n p ++ r).drop 4).take 8 = be n 8 := by
  unfold packL headL frontL
  simp only [List.append_assoc]
  rw [List.drop_left' (be_length _ _)]
  exact List.take_left' (be_length _ _)
theorem drop32 (n : Nat) (p r : List UInt8) : (packL n p ++ r).drop 32 = p ++ r := by
  unfold packL
  rw [List.append_assoc]
  exact List.drop_left' (headL_length _ _)
/-- A piece is read back, whatever stands behind it. -/
theorem unpack_pack (n : Nat) (p r : List UInt8) (hp : p.length < 2147483648) (hn : n < 18446744073709551616) : unpackL (packL n p ++ r) n = some p := by
  have hl : rd ((packL n p ++ r).take 4) = 2147483648 + p.length := by
    rw [take4, rd_be]; omega
  have hm : rd (((packL n p ++ r).drop 4).take 8) = n := by
    rw [mid8, rd_be]; omega
  have hL : (packL n p ++ r).length = 32 + p.length + r.length := by rw [List.length_append, packL_length]
  unfold unpackL
  rw [if_neg (by omega), hl, if_neg (by omega), hm, drop32, take12, drop12, show 2147483648 + p.length - 2147483648 = p.length by omega, List.take_left' rfl, if_pos ⟨rfl, (List.take_left' (sm_length _ _)).symm⟩]
theorem num_pack (n : Nat) (p r : List UInt8) (hn : n < 18446744073709551616) : numL (packL n p ++ r) = n := by
  unfold numL; rw [mid8, rd_be]; omega
theorem zer_length (k : Nat) : (zer k).length = k := by simp [zer]
theorem zer_take (k m : Nat) : (zer k).take m = zer (min m k) := by simp [zer, List.take_replicate]
theorem zer_drop (k m : Nat) : (zer k).drop m = zer (k - m) := by simp [zer, List.drop_replicate]
/-- Noughts are no piece. -/
theorem unpack_zer (k n : Nat) : unpackL (zer k) n = none := by
  unfold unpackL
  by_cases h : (zer k).length < 32
  · rw [if_pos h]
  · have h2 : rd ((zer k).take 4) < 2147483648 := by rw [zer_take, rd_zer]; omega
    rw [if_neg h, if_pos (.inl h2)]
theorem num_zer (k : Nat) : numL (zer k) = 0 := by
  unfold numL; rw [zer_drop, zer_take, rd_zer]

/-- The number of a sector ahead, if it bears one. -/
def valO (l : List UInt8) : Option Nat := if (unpackL l (numL l)).isSome then some (numL l) else none
/-- Does n stand behind m, in the circle of the numbers? -/
def laterB (n m : Nat) : Bool := decide (0 < (n + 18446744073709551616 - m) % 18446744073709551616 ∧ (n + 18446744073709551616 - m) % 18446744073709551616 < 9223372036854775808)
def pickL (y : Nat × Nat × Bool) (i : Nat) (v : Option Nat) : Nat × Nat × Bool := match v with
  | none => y
  | some x => if (!y.2.2 || laterB x y.2.1) = true then (i, x, true) else y
/-- Which half counts, its number, and whether there is one. -/
def newL (a b : List UInt8) : Nat × Nat × Bool := pickL (pickL (0, 0, false) 0 (valO a)) 1 (valO b)
theorem later_small {n m : Nat} (hn : n < 4611686018427387904) (hm : m < 4611686018427387904) : laterB n m = decide (m < n) := by
  unfold laterB
  by_cases h : m < n
  · rw [decide_eq_true h, decide_eq_true (by omega)]
  · rw [decide_eq_false h, decide_eq_false (by omega)]
theorem valO_lt {l : List UInt8} {x : Nat} (h : valO l = some x) : x < 18446744073709551616 := by
  unfold valO at h
  split at h
  · cases h; exact numL_lt l
  · cases h
theorem val_zer (k : Nat) : valO (zer k) = none := by simp [valO, unpack_zer]
theorem val_pack (n : Nat) (p r : List UInt8) (hp : p.length < 2147483648) (hn : n < 18446744073709551616) : valO (packL n p ++ r) = some n := by
  unfold valO
  rw [num_pack n p r hn, unpack_pack n p r hp hn]; rfl
theorem new_zer (k m : Nat) : newL (zer k) (zer m) = (0, 0, false) := by simp [newL, val_zer, pickL]
theorem new_le {a b : List UInt8} {h m : Nat} {t : Bool} (he : newL a b = (h, m, t)) : h ≤ 1 := by
  unfold newL pickL at he
  cases ha : valO a with
  | none => cases hb : valO b with
    | none => simp only [ha, hb] at he; cases he; omega
    | some y => simp only [ha, hb] at he; simp at he; omega
  | some x => cases hb : valO b with
    | none => simp only [ha, hb] at he; simp at he; omega
    | some y =>
      simp only [ha, hb] at he
      simp at he
      split at he <;> (simp at he; omega)
/-- A later number in the half that does not count. -/
theorem new_b {a b : List UInt8} {m k : Nat} {t : Bool} (he : newL a b = (0, m, t)) (hm : m < 4611686018427387904) (hmk : m < k) (hk : k < 4611686018427387904) {b' : List UInt8} (hb : valO b' = some k) : newL a b' = (1, k, true) := by
  have hlt : laterB k m = true := by rw [later_small hk hm]; simpa using hmk
  unfold newL pickL at he ⊢
  rw [hb]
  cases ha : valO a with
  | none => simp
  | some x =>
    simp only [ha] at he ⊢
    have e : x = m := by
      cases hb2 : valO b with
      | none => simp only [hb2] at he; simp at he; exact he.1
      | some y =>
        simp only [hb2] at he
        simp at he
        split at he
        · simp at he
        · simp at he; exact he.1
    subst e
    simp [hlt]
theorem new_a {a b : List UInt8} {m k : Nat} {t : Bool} (he : newL a b = (1, m, t)) (hm : m < 4611686018427387904) (hmk : m < k) (hk : k < 4611686018427387904) {a' : List UInt8} (ha : valO a' = some k) : newL a' b = (0, k, true) := by
  have hlt : laterB m k = false := by rw [later_small hm hk]; simp; omega
  unfold newL pickL at he ⊢
  rw [ha]
  have e : valO b = some m := by
    cases hb : valO b with
    | none =>
      simp only [hb] at he
      cases ha2 : valO a with
      | none => simp only [ha2] at he; simp at he
      | some x => simp only [ha2] at he; simp at he
    | some y =>
      simp only [hb] at he
      cases ha2 : valO a with
      | none => simp only [ha2] at he; simp at he; rw [he.1]
      | some x =>
        simp only [ha2] at he
        simp at he
        split at he
        · simp at he; rw [he.1]
        · simp at he
  rw [e]
  simp [hlt]

/-- Records one behind the other, with numbers that run on. -/
def recsL : Nat → List (List UInt8) → List UInt8
  | _, [] => []
  | k, p :: r => packL k p ++ recsL (k + 1) r
/-- What stands in the half that counts. -/
def laidL (m : Nat) (base : List UInt8) (recs : List (List UInt8)) : List UInt8 := packL (m + 1) base ++ recsL (m + 2) recs
theorem recs_snoc (p : List UInt8) : ∀ (l : List (List UInt8)) (k : Nat), recsL k (l ++ [p]) = recsL k l ++ packL (k + l.length) p
  | [], k => by simp [recsL]
  | q :: r, k => by
    rw [List.cons_append, recsL, recsL, recs_snoc p r (k + 1), List.append_assoc, List.length_cons, show k + 1 + r.length = k + (r.length + 1) by omega]
theorem laid_snoc (m : Nat) (base : List UInt8) (recs : List (List UInt8)) (p : List UInt8) : laidL m base (recs ++ [p]) = laidL m base recs ++ packL (m + 2 + recs.length) p := by
  unfold laidL; rw [recs_snoc, List.append_assoc]
theorem laid_split (m : Nat) (base : List UInt8) (recs : List (List UInt8)) (k : Nat) : laidL m base recs = laidL m base (recs.take k) ++ recsL (m + 2 + (recs.take k).length) (recs.drop k) := by
  have h : ∀ (l r : List (List UInt8)) (j : Nat), recsL j (l ++ r) = recsL j l ++ recsL (j + l.length) r := by
    intro l
    induction l with
    | nil => intro r j; simp [recsL]
    | cons q l ih => intro r j; rw [List.cons_append, recsL, recsL, ih, List.append_assoc, List.length_cons, show j + 1 + l.length = j + (l.length + 1) by omega]
  unfold laidL
  rw [List.append_assoc, ← h, List.take_append_drop]
theorem laid_zero (m : Nat) (base : List UInt8) : laidL m base [] = packL (m + 1) base := by simp [laidL, recsL]
theorem laid_base (m : Nat) (base : List UInt8) (recs : List (List UInt8)) : 32 + base.length ≤ (laidL m base recs).length := by
  unfold laidL; rw [List.length_append, packL_length]; omega
theorem recs_len_le : ∀ (l : List (List UInt8)) (k : Nat), 32 * l.length ≤ (recsL k l).length
  | [], _ => by simp [recsL]
  | p :: r, k => by rw [recsL, List.length_append, packL_length, List.length_cons]; have := recs_len_le r (k + 1); omega
theorem recs_part : ∀ (l : List (List UInt8)) (k i : Nat), i < l.length → 32 + (l.getD i []).length ≤ (recsL k l).length
  | [], _, i, h => by simp at h
  | p :: r, k, 0, h => by rw [recsL, List.length_append, packL_length, List.getD_cons_zero]; omega
  | p :: r, k, i + 1, h => by rw [recsL, List.length_append, List.getD_cons_succ]; have := recs_part r (k + 1) i (by simpa using h); omega

end Go.Proofs.YtgjckddcnmbceaaGreatDoor
