/-
  Where digests stand in bytes: the mathematics of refs. No program text.
-/
import Derived.WalkKit
namespace Go.Proofs.Ytcmgafehidgkmaa
open Go.RowKit
set_option linter.unusedVariables false

/-- How many bytes, up to the end, are of a sort. -/
def runL (sg : UInt8 → Bool) (q : List UInt8) : Nat := (q.reverse.takeWhile sg).length
theorem runL_nil (sg : UInt8 → Bool) : runL sg [] = 0 := rfl
theorem runL_hit {sg : UInt8 → Bool} {b : UInt8} (q : List UInt8) (h : sg b = true) : runL sg (q ++ [b]) = runL sg q + 1 := by
  unfold runL; rw [List.reverse_append]; simp [h]
theorem runL_miss {sg : UInt8 → Bool} {b : UInt8} (q : List UInt8) (h : sg b = false) : runL sg (q ++ [b]) = 0 := by
  unfold runL; rw [List.reverse_append]; simp [h]
theorem takeWhile_pre {p : UInt8 → Bool} : ∀ (d l : List UInt8), (∀ x ∈ d, p x = true) → d.length ≤ ((d ++ l).takeWhile p).length
  | [], _, _ => Nat.zero_le _
  | x :: d, l, h => by
    rw [List.cons_append, List.takeWhile_cons, if_pos (h x (by simp))]
    have := takeWhile_pre d l (fun y hy => h y (by simp [hy]))
    simpa using this
/-- What ends the bytes and is all of a sort is no longer than the run. -/
theorem suffix_run {sg : UInt8 → Bool} {d q : List UInt8} (h : d <:+ q) (hd : ∀ x ∈ d, sg x = true) : d.length ≤ runL sg q := by
  obtain ⟨r, rfl⟩ := h
  unfold runL
  rw [List.reverse_append]
  have := takeWhile_pre (p := sg) d.reverse r.reverse (fun x hx => hd x (by simpa using hx))
  simpa using this
/-- The last n bytes. -/
def lastN (n : Nat) (q : List UInt8) : List UInt8 := q.drop (q.length - n)
theorem suffix_last {d q : List UInt8} {n : Nat} (hn : d.length = n) (hq : n ≤ q.length) : d <:+ q ↔ d = lastN n q := by
  constructor
  · rintro ⟨r, rfl⟩
    unfold lastN
    rw [List.length_append, hn, show r.length + n - n = r.length by omega]; simp
  · rintro rfl
    exact List.drop_suffix _ _

/-- A byte more, where no digest may end. -/
theorem look_short {sg : UInt8 → Bool} {d q : List UInt8} {b : UInt8} {n : Nat} (hn : d.length = n) (hd : ∀ x ∈ d, sg x = true) (hr : runL sg (q ++ [b]) < n) : d <:+: q ++ [b] ↔ d <:+: q := by
  rw [List.infix_concat_iff]
  constructor
  · rintro (h | h)
    · have := suffix_run h hd; omega
    · exact h
  · exact .inr
/-- A byte more, where one may. -/
theorem look_long {d q : List UInt8} {b : UInt8} {n : Nat} (hn : d.length = n) (hq : n ≤ (q ++ [b]).length) : d <:+: q ++ [b] ↔ d = lastN n (q ++ [b]) ∨ d <:+: q := by
  rw [List.infix_concat_iff, suffix_last hn hq]
theorem runL_le (sg : UInt8 → Bool) (q : List UInt8) : runL sg q ≤ q.length := by
  unfold runL
  have := (List.takeWhile_prefix sg (l := q.reverse)).length_le
  simpa using this

/-- What stands at a place. -/
theorem infix_at {d p : List UInt8} : d <:+: p ↔ ∃ i, i + d.length ≤ p.length ∧ (p.drop i).take d.length = d := by
  constructor
  · rintro ⟨a, c, rfl⟩
    refine ⟨a.length, by simp, ?_⟩
    rw [List.append_assoc, List.drop_append_of_le_length (Nat.le_refl _), List.drop_length, List.nil_append, List.take_append_of_le_length (Nat.le_refl _), List.take_length]
  · rintro ⟨i, hi, h⟩
    refine ⟨p.take i, (p.drop i).drop d.length, ?_⟩
    have e : d ++ (p.drop i).drop d.length = p.drop i := by
      have := List.take_append_drop d.length (p.drop i)
      rw [h] at this; exact this
    rw [List.append_assoc, e, List.take_append_drop]

/-- A byte that no digest has parts what stands ahead of it and behind it. -/
theorem infix_border {d a b : List UInt8} {c : UInt8} (hc : c ∉ d) : d <:+: a ++ c :: b ↔ d <:+: a ∨ d <:+: b := by
  constructor
  · rintro ⟨x, y, h⟩
    rcases Nat.lt_or_ge a.length (x.length + d.length) with h1 | h1
    · rcases Nat.lt_or_ge a.length x.length with h2 | h2
      · refine .inr ⟨x.drop (a.length + 1), y, ?_⟩
        have e := congrArg (List.drop (a.length + 1)) h
        rw [List.append_assoc, List.drop_append_of_le_length (by omega), List.drop_append] at e
        simp only [show a.length + 1 - a.length = 1 by omega, List.drop_succ_cons, List.drop_zero] at e
        rw [List.drop_of_length_le (show a.length ≤ a.length + 1 by omega), List.nil_append] at e
        rw [List.append_assoc]; exact e
      · refine absurd ?_ hc
        have e : (x ++ d ++ y)[a.length]? = (a ++ c :: b)[a.length]? := by rw [h]
        rw [List.append_assoc, List.getElem?_append_right h2, List.getElem?_append_left (by omega), List.getElem?_append_right (Nat.le_refl _), Nat.sub_self, List.getElem?_cons_zero] at e
        exact List.mem_of_getElem? e
    · refine .inl ⟨x, a.drop (x.length + d.length), ?_⟩
      have e := congrArg (List.take a.length) h
      rw [List.take_append_of_le_length (Nat.le_refl _), List.take_length] at e
      have e2 : x ++ d = a.take (x.length + d.length) := by
        rw [← e, List.take_take, Nat.min_eq_left h1, List.take_append_of_le_length (by simp), List.take_of_length_le (by simp)]
      rw [e2, List.take_append_drop]
  · rintro (h | h)
    · obtain ⟨x, y, rfl⟩ := h
      exact ⟨x, y ++ c :: b, by simp⟩
    · obtain ⟨x, y, rfl⟩ := h
      exact ⟨a ++ c :: x, y, by simp⟩

end Go.Proofs.Ytcmgafehidgkmaa
