/-
  Which derivations are right: the program's Form. Conditions: bounds on the texts' sizes.
-/
import Derived.Test.YtokbakpbhpknfaaDvNeeds
import Derived.Test.YtokbakpbhpknfaaDvListed
namespace Go.Proofs.Ytokbakpbhpknfaa
open Go.RowKit
set_option linter.unusedVariables false

theorem ends_name {l d n : List UInt8} (h : Nam.parseP l = some (d, n)) : endsD l = endsD n := by
  unfold Nam.parseP at h
  split at h
  · rename_i hc
    obtain ⟨h1, h2, h3⟩ := hc
    simp only [Option.map_eq_some_iff, Prod.mk.injEq] at h
    obtain ⟨_, _, _, hn⟩ := h
    unfold Nam.dash at h2
    simp only [Bool.and_eq_true, decide_eq_true_eq, beq_iff_eq] at h2
    obtain ⟨h4, h5⟩ := h2
    have hd : l.drop 32 = 45 :: n := by
      rw [← hn]
      cases he : l.drop 32 with
      | nil => rw [he] at h4; simp at h4
      | cons x t =>
        rw [he] at h5
        have hx : x = 45 := by simpa using h5
        have : l.drop 33 = t := by
          have := congrArg List.tail he
          rw [List.tail_drop] at this; simpa using this
        rw [hx, this]
    have hl : l = l.take 32 ++ 45 :: n := by rw [← hd, List.take_append_drop]
    have hsl : (45 :: n) <:+ l := ⟨l.take 32, hl.symm⟩
    have hsn : n <:+ l := ⟨l.take 32 ++ [45], by rw [List.append_assoc]; exact hl.symm⟩
    unfold endsD
    rw [Bool.eq_iff_iff, List.isSuffixOf_iff_suffix, List.isSuffixOf_iff_suffix]
    constructor
    · intro he
      rcases Nat.lt_or_ge n.length 4 with h6 | h6
      · exfalso
        have := List.suffix_of_suffix_length_le hsl he (by simp [dExt]; omega)
        have := this.mem (List.mem_cons_self : (45 : UInt8) ∈ 45 :: n)
        revert this; decide
      · exact List.suffix_of_suffix_length_le he hsn (by simpa [dExt] using h6)
    · intro he; exact he.trans hsn
  · cases h
theorem dPath_eq (l : List UInt8) : dPath l = (isP l && endsD l) := by
  unfold dPath isP
  cases h : Nam.parseP l with
  | none => rfl
  | some p => obtain ⟨d, n⟩ := p; simp only [Option.isSome_some, Bool.true_and]; exact (ends_name h).symm

/-- Is it right? -/
def formB (s0 : ByteArray) (l1 l2 : List ByteArray) (s3 s4 : ByteArray) : Bool := dName s0.data.toList && needT dPath l1 && needT isP l2 && decide (s3.size ≤ 6000) && dFixed s4.data.toList
def formD (D : Dv) : Bool := formB (bs D.name) (D.drvs.map bs) (D.srcs.map bs) (bs D.recipe) (bs D.fixed)
theorem needT_take (is : List UInt8 → Bool) (l : List ByteArray) : needT is (l.take 33) = needT is l := by
  by_cases h : l.length ≤ 32
  · rw [List.take_of_length_le (by omega)]
  · rw [needT_long h, needT_long (by rw [List.length_take]; omega)]
/-- What a right one has. -/
theorem needT_len {is : List UInt8 → Bool} {l : List ByteArray} (h : needT is l = true) : l.length ≤ 32 ∧ ∀ s ∈ l, is s.data.toList = true := by
  unfold needT at h
  rw [Bool.and_eq_true, decide_eq_true_eq, List.all_eq_true] at h
  obtain ⟨h1, h2⟩ := h
  refine ⟨h1, fun s hs => ?_⟩
  obtain ⟨i, hi, rfl⟩ := List.getElem_of_mem hs
  have := h2 i (List.mem_range.2 hi)
  rw [Bool.and_eq_true] at this
  have h3 := this.1
  rw [List.getD_eq_getElem?_getD, List.getElem?_eq_getElem hi] at h3
  exact h3
theorem isName_len {l : List UInt8} (h : Nam.isName l = true) : l.length ≤ 40 := by
  unfold Nam.isName at h
  simp only [Bool.and_eq_true, decide_eq_true_eq] at h
  omega
theorem isP_len {l : List UInt8} (h : isP l = true) : l.length ≤ 73 := by
  unfold isP Nam.parseP at h
  split at h
  · rename_i hc
    have := isName_len hc.2.2
    rw [List.length_drop] at this; omega
  · cases h
theorem dPath_len {l : List UInt8} (h : dPath l = true) : l.length ≤ 73 := by
  rw [dPath_eq, Bool.and_eq_true] at h; exact isP_len h.1
end Go.Proofs.Ytokbakpbhpknfaa
