/-
  Plain mathematics of signs read back: which texts are signs of bytes, and of which. No conditions.
-/
import Derived.Test.YtcmgafehidgkmaaPartsMath
import Derived.Lib.Bytealg
namespace Go.Proofs.Ytcmgafehidgkmaa.Nam

/-- The number of a sign; -1: it is none. -/
def sv (c : UInt8) : Int := Lib.indexByte signs c

theorem sv_cases (c : UInt8) : sv c = -1 ∨ (0 ≤ sv c ∧ sv c < 32 ∧ sgn (sv c).toNat = c) := by
  have : ∀ n : Fin 256, sv (UInt8.ofNat n.val) = -1 ∨ (0 ≤ sv (UInt8.ofNat n.val) ∧ sv (UInt8.ofNat n.val) < 32 ∧ sgn (sv (UInt8.ofNat n.val)).toNat = UInt8.ofNat n.val) := by decide +kernel
  have h := this ⟨c.toNat, c.toNat_lt⟩
  simpa using h

theorem sv_sgn (v : Nat) (h : v < 32) : sv (sgn v) = (v : Int) := by
  have : ∀ x : Fin 32, sv (sgn x.val) = (x.val : Int) := by decide +kernel
  exact this ⟨v, h⟩

theorem sv_lt (c : UInt8) : (sv c).toNat < 32 := by
  rcases sv_cases c with h | h <;> omega

/-- Are they signs? -/
def oks (s : List UInt8) : Bool := s.all fun c => decide (0 ≤ sv c)

/-- The number of signs, the lowest first. -/
def rv : List UInt8 → Nat
  | [] => 0
  | c :: t => (sv c).toNat + 32 * rv t

theorem rv_lt : ∀ s, rv s < 32 ^ s.length
  | [] => by simp [rv]
  | c :: t => by
    have ih := rv_lt t
    have hc := sv_lt c
    simp only [rv, List.length_cons, Nat.pow_succ]
    omega

theorem rv_append : ∀ s t, rv (s ++ t) = rv s + 32 ^ s.length * rv t
  | [], t => by simp [rv]
  | c :: s, t => by
    simp only [List.cons_append, rv, List.length_cons, rv_append s t, Nat.pow_succ]
    rw [Nat.mul_add, Nat.mul_comm (32 ^ s.length) 32, Nat.mul_assoc]
    omega

theorem take_one {α : Type} [Inhabited α] (l : List α) (d : α) (k : Nat) (h : k < l.length) : l.take (k + 1) = l.take k ++ [l.getD k d] := by
  rw [List.take_succ_eq_append_getElem h]; simp [List.getD, h]

theorem rv_take (r : List UInt8) (k : Nat) (h : k < r.length) : rv (r.take (k + 1)) = rv (r.take k) + 32 ^ k * (sv (r.getD k 0)).toNat := by
  rw [take_one r 0 k h, rv_append, List.length_take, Nat.min_eq_left (by omega)]
  simp [rv]

theorem oks_append (s t : List UInt8) : oks (s ++ t) = (oks s && oks t) := by simp [oks]

theorem oks_take (r : List UInt8) (k : Nat) (h : k < r.length) : oks (r.take (k + 1)) = (oks (r.take k) && decide (0 ≤ sv (r.getD k 0))) := by
  rw [take_one r 0 k h, oks_append]; simp [oks]

theorem oks_all_take (r : List UInt8) (k : Nat) (h : oks r = true) : oks (r.take k) = true := by
  have := oks_append (r.take k) (r.drop k)
  rw [List.take_append_drop, h] at this
  simp at this
  exact this.1

theorem oks_reverse (s : List UInt8) : oks s.reverse = oks s := by simp [oks]

/-- The lowest n bytes of a number. -/
def byN : Nat → Nat → List UInt8
  | 0, _ => []
  | n + 1, v => UInt8.ofNat (v % 256) :: byN n (v / 256)

theorem byN_length : ∀ n v, (byN n v).length = n
  | 0, _ => rfl
  | n + 1, v => by simp [byN, byN_length n]

theorem val_byN : ∀ n v, val (byN n v) = v % 256 ^ n
  | 0, v => by simp [byN, val, Nat.mod_one]
  | n + 1, v => by
    simp only [byN, val, val_byN n]
    have e : (UInt8.ofNat (v % 256)).toNat = v % 256 := by rw [UInt8.toNat_ofNat']; omega
    rw [e, Nat.pow_succ, Nat.mul_comm (256 ^ n) 256, Nat.mod_mul]

theorem byN_val : ∀ l : List UInt8, byN l.length (val l) = l
  | [] => rfl
  | b :: t => by
    have hb := b.toNat_lt
    simp only [List.length_cons, byN, val]
    have e1 : (b.toNat + 256 * val t) % 256 = b.toNat := by omega
    have e2 : (b.toNat + 256 * val t) / 256 = val t := by omega
    rw [e1, e2, byN_val t]
    simp

theorem byN_get : ∀ n v i, i < n → (byN n v)[i]? = some (UInt8.ofNat (v / 256 ^ i % 256))
  | 0, _, _, h => by omega
  | n + 1, v, 0, _ => by simp [byN]
  | n + 1, v, i + 1, h => by
    simp only [byN, List.getElem?_cons_succ]
    rw [byN_get n _ i (by omega), Nat.div_div_eq_div_mul, Nat.pow_succ, Nat.mul_comm 256]

/-- How many bytes so many signs may be. -/
def dlen (k : Nat) : Nat := 5 * k / 8

theorem dlen_slen (m : Nat) : dlen (slen m) = m := by unfold dlen slen; omega

/-- The bytes of which Encode makes a text; none: there are none. -/
def dec (s : List UInt8) : Option (List UInt8) :=
  if slen (dlen s.length) = s.length ∧ oks s = true ∧ rv s.reverse < 256 ^ dlen s.length then some (byN (dlen s.length) (rv s.reverse)) else none

theorem encN_rv : ∀ r : List UInt8, oks r = true → encN r.length (rv r) = r.reverse
  | [], _ => rfl
  | c :: t, h => by
    have ht : oks t = true := by simp [oks] at h ⊢; exact h.2
    have hc : 0 ≤ sv c := by simp [oks] at h; exact h.1
    have ih := encN_rv t ht
    have l1 := sv_lt c
    rw [List.reverse_cons, ← ih]
    have e : rv (c :: t) = (sv c).toNat + 32 ^ 1 * rv t := by simp [rv]
    rw [e, List.length_cons, encN_high t.length 1 _ _ (by omega)]
    congr 1
    have hd : dig (sv c).toNat 0 = (sv c).toNat := by unfold dig; simp; omega
    simp only [encN, hd]
    rcases sv_cases c with h1 | h1
    · omega
    · rw [h1.2.2]

theorem dec_enc_of (s p : List UInt8) (h : dec s = some p) : enc p = s := by
  unfold dec at h
  split at h
  · rename_i hc
    obtain ⟨h1, h2, h3⟩ := hc
    cases h
    unfold enc
    rw [byN_length, val_byN, Nat.mod_eq_of_lt h3, h1]
    have := encN_rv s.reverse (by rw [oks_reverse]; exact h2)
    rw [List.length_reverse, List.reverse_reverse] at this
    exact this
  · cases h

theorem rv_encN : ∀ n v, oks (encN n v) = true ∧ rv (encN n v).reverse = v % 32 ^ n
  | 0, v => by simp [encN, oks, rv, Nat.mod_one]
  | n + 1, v => by
    obtain ⟨h1, h2⟩ := rv_encN n v
    have hd := dig_lt v n
    refine ⟨?_, ?_⟩
    · simp only [encN, oks, List.all_cons] at h1 ⊢
      rw [h1, sv_sgn _ hd]
      simp
    · simp only [encN, List.reverse_cons, rv_append, h2, List.length_reverse, encN_length, rv]
      rw [sv_sgn _ hd, mod_split]
      simp
      omega

theorem dec_enc (p : List UInt8) : dec (enc p) = some p := by
  unfold dec
  obtain ⟨h1, h2⟩ := rv_encN (slen p.length) (val p)
  have hv : rv (enc p).reverse = val p := by
    show rv (encN (slen p.length) (val p)).reverse = _
    rw [h2, Nat.mod_eq_of_lt (val_fits p)]
  rw [enc_length, dlen_slen, hv, if_pos ⟨rfl, h1, val_lt p⟩, byN_val]

end Go.Proofs.Ytcmgafehidgkmaa.Nam
