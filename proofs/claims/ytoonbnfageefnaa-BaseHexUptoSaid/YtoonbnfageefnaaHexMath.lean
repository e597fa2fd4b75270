/-
  Plain mathematics of digits read back: which texts are digits of bytes, and of which. No conditions.
-/
import Derived.Test.YtoonbnfageefnaaDecMath
namespace Go.Proofs.Ytoonbnfageefnaa

/-- The number of a digit; -1: it is none. -/
def dv (c : UInt8) : Int := Lib.indexByte digits c

theorem dv_cases (c : UInt8) : (48 ≤ c.toNat ∧ c.toNat ≤ 57 ∧ dv c = (c.toNat : Int) - 48) ∨ (97 ≤ c.toNat ∧ c.toNat ≤ 102 ∧ dv c = (c.toNat : Int) - 87) ∨
    (¬ (48 ≤ c.toNat ∧ c.toNat ≤ 57) ∧ ¬ (97 ≤ c.toNat ∧ c.toNat ≤ 102) ∧ dv c = -1) := by
  have : ∀ n : Fin 256, (48 ≤ (UInt8.ofNat n.val).toNat ∧ (UInt8.ofNat n.val).toNat ≤ 57 ∧ dv (UInt8.ofNat n.val) = ((UInt8.ofNat n.val).toNat : Int) - 48) ∨ (97 ≤ (UInt8.ofNat n.val).toNat ∧ (UInt8.ofNat n.val).toNat ≤ 102 ∧ dv (UInt8.ofNat n.val) = ((UInt8.ofNat n.val).toNat : Int) - 87) ∨
    (¬ (48 ≤ (UInt8.ofNat n.val).toNat ∧ (UInt8.ofNat n.val).toNat ≤ 57) ∧ ¬ (97 ≤ (UInt8.ofNat n.val).toNat ∧ (UInt8.ofNat n.val).toNat ≤ 102) ∧ dv (UInt8.ofNat n.val) = -1) := by decide +kernel
  have h := this ⟨c.toNat, c.toNat_lt⟩
  simpa using h

theorem dv_lt (c : UInt8) : dv c < 16 := by
  rcases dv_cases c with h | h | h <;> omega

theorem dv_hx (v : Nat) (h : v < 16) : dv (hx v) = (v : Int) := by
  have : ∀ x : Fin 16, dv (hx x.val) = (x.val : Int) := by decide +kernel
  exact this ⟨v, h⟩

/-- Are they digits? -/
def okd (s : List UInt8) : Bool := s.all fun c => decide (0 ≤ dv c)

/-- The byte of two digits. -/
def two (a b : UInt8) : UInt8 := UInt8.ofNat ((dv a).toNat * 16 + (dv b).toNat)

/-- The bytes of digits, two by two. -/
def prs : List UInt8 → List UInt8
  | a :: b :: t => two a b :: prs t
  | _ => []

theorem prs_length : ∀ s : List UInt8, (prs s).length = s.length / 2
  | [] => rfl
  | [_] => by simp [prs]
  | _ :: _ :: t => by simp only [prs, List.length_cons, prs_length t]; omega

theorem prs_get : ∀ (s : List UInt8) (k : Nat), 2 * k + 1 < s.length → (prs s)[k]? = some (two (s.getD (2 * k) 0) (s.getD (2 * k + 1) 0))
  | [], _, h => by simp at h
  | [_], _, h => by simp at h
  | a :: b :: t, 0, _ => by simp [prs]
  | a :: b :: t, k + 1, h => by
    have ih := prs_get t k (by simp at h; omega)
    have e1 : 2 * (k + 1) = 2 * k + 1 + 1 := by omega
    have e2 : 2 * (k + 1) + 1 = 2 * k + 1 + 1 + 1 := by omega
    rw [e1]
    simp only [prs, List.getElem?_cons_succ, ih]
    simp [List.getD]

/-- The bytes whose digits a text is; none: there are none. -/
def unhex (s : List UInt8) : Option (List UInt8) := if s.length % 2 = 0 ∧ okd s = true then some (prs s) else none

theorem unhex_odd (s : List UInt8) (h : s.length % 2 ≠ 0) : unhex s = none := by
  unfold unhex; rw [if_neg]; exact fun h2 => h h2.1

theorem unhex_bad (s : List UInt8) (k : Nat) (h : k < s.length) (hd : dv (s.getD k 0) < 0) : unhex s = none := by
  unfold unhex
  rw [if_neg]
  rintro ⟨_, h2⟩
  unfold okd at h2
  rw [List.all_eq_true] at h2
  have := h2 (s.getD k 0) (by rw [List.getD_eq_getElem?_getD, List.getElem?_eq_getElem h]; exact List.getElem_mem h)
  rw [decide_eq_true_iff] at this
  omega

theorem okd_hexL : ∀ l, okd (hexL l) = true
  | [] => rfl
  | b :: t => by
    have ih := okd_hexL t
    have hb := b.toNat_lt
    unfold okd at *
    simp only [hexL, List.all_cons, ih, Bool.and_true]
    rw [dv_hx _ (by omega), dv_hx _ (by omega)]
    simp
    omega

theorem prs_hexL : ∀ l, prs (hexL l) = l
  | [] => rfl
  | b :: t => by
    have hb := b.toNat_lt
    simp only [hexL, prs, prs_hexL t, two]
    rw [dv_hx _ (by omega), dv_hx _ (by omega)]
    congr 1
    have e : ((b.toNat / 16 : Nat) : Int).toNat * 16 + ((b.toNat % 16 : Nat) : Int).toNat = b.toNat := by omega
    rw [e]; simp

theorem unhex_hexL (l : List UInt8) : unhex (hexL l) = some l := by
  unfold unhex
  rw [if_pos ⟨by rw [hexL_length]; omega, okd_hexL l⟩, prs_hexL]

/-- Bytes that have been laid into a row, and noughts behind them. -/
def rowAt (l : List UInt8) (k : Nat) : List Value := (l.take k ++ List.replicate (l.length - k) 0).map bv

theorem rowAt_start (l : List UInt8) : rowAt l 0 = List.replicate l.length (.int .u8 0) := by
  simp [rowAt, bv]

theorem rowAt_end (l : List UInt8) : rowAt l l.length = l.map bv := by simp [rowAt]

theorem rowAt_get (l : List UInt8) (k : Nat) (h : k < l.length) : ∃ u, (rowAt l k)[k]? = some u :=
  ⟨_, List.getElem?_eq_getElem (by simp [rowAt]; omega)⟩

theorem rowAt_step (l : List UInt8) (k : Nat) (b : UInt8) (h : l[k]? = some b) : (rowAt l k).set k (bv b) = rowAt l (k + 1) := by
  have hk : k < l.length := by
    rcases Nat.lt_or_ge k l.length with h1 | h1
    · exact h1
    · rw [List.getElem?_eq_none h1] at h; cases h
  have hlen : (l.take k).length = k := by rw [List.length_take]; omega
  have ht : l.take (k + 1) = l.take k ++ [b] := by
    rw [List.take_succ_eq_append_getElem hk]
    rw [List.getElem?_eq_getElem hk] at h
    rw [Option.some.inj h]
  have hr : List.replicate (l.length - k) (0 : UInt8) = 0 :: List.replicate (l.length - (k + 1)) 0 := by
    rw [show l.length - k = (l.length - (k + 1)) + 1 from by omega, List.replicate_succ]
  unfold rowAt
  rw [ht, hr, List.map_append, List.set_append_right k _ (by rw [List.length_map, hlen]; exact Nat.le_refl _)]
  rw [List.length_map, hlen, Nat.sub_self]
  simp

end Go.Proofs.Ytoonbnfageefnaa
