/-
  Which names an entry may have: the mathematics of the tree's names (out of XTNames, without the program's text). No program text.
-/
import Derived.Test.YtokbakpbhpknfaaRows
import Derived.WalkKit
import Derived.WalkSpells
import Derived.WalkLawsBesides
import Derived.Lib.Hide
import Derived.Lib.Bytealg
namespace Go.Proofs.Ytokbakpbhpknfaa
open Go.RowKit
/-- May it stand in a directory? -/
def tName (l : List UInt8) : Bool := decide (1 ≤ l.length) && decide (l.length ≤ 80) && (l != [46]) && (l != [46, 46]) && !(l.contains 47) && !(l.contains 0)

theorem index_neg (c : UInt8) : ∀ l : List UInt8, decide (Go.Lib.indexByte l c < 0) = !(l.contains c)
  | [] => rfl
  | b :: t => by
    have ih := index_neg c t
    have hg := Go.Lib.indexByte_ge t c
    unfold Go.Lib.indexByte
    by_cases h : b = c
    · subst h; simp
    · have h1 : (b == c) = false := by simpa using h
      have h2 : (c == b) = false := by simpa using fun e => h e.symm
      simp only [List.contains_cons, h2, Bool.false_or, ← ih]
      by_cases hm : Go.Lib.indexByte t c = -1
      · simp [h1, hm]
      · have : 0 ≤ Go.Lib.indexByte t c := by omega
        simp [h1, hm]
        omega

theorem tName_empty {l : List UInt8} (h : l.length = 0) : tName l = false := by simp [tName, h]
theorem tName_long {l : List UInt8} (h : 80 < l.length) : tName l = false := by
  have : decide (l.length ≤ 80) = false := by simp; omega
  simp only [tName, this, Bool.and_false, Bool.false_and]
theorem tName_slash {l : List UInt8} (h : l.contains 47 = true) : tName l = false := by simp only [tName, h, Bool.not_true, Bool.and_false, Bool.false_and]
theorem tName_nul {l : List UInt8} (h : l.contains 0 = true) : tName l = false := by simp only [tName, h, Bool.not_true, Bool.and_false]
theorem tName_good {l : List UInt8} (h0 : 1 ≤ l.length) (h1 : l.length ≤ 80) (h2 : l ≠ [46]) (h3 : l ≠ [46, 46]) (h4 : l.contains 47 = false) (h5 : l.contains 0 = false) : tName l = true := by
  have e2 : (l != [46]) = true := by simpa using h2
  have e3 : (l != [46, 46]) = true := by simpa using h3
  simp only [tName, decide_eq_true h0, decide_eq_true h1, e2, e3, h4, h5, Bool.not_false, Bool.and_self]

theorem bytes_ext {s t : ByteArray} (h : s.data.toList = t.data.toList) : s = t := by
  cases s; cases t
  congr 1
  exact Array.toList_inj.1 h

theorem str_get (s : ByteArray) (i : Nat) (h : i < s.size) : s[i] = s.data.toList.getD i 0 := by
  have hl : i < s.data.toList.length := by simpa using h
  rw [List.getD_eq_getElem?_getD, List.getElem?_eq_getElem hl]
  rfl

/-- No slash and no nought so far. -/
def clearTo (l : List UInt8) (k : Nat) : Prop := (l.take k).contains 47 = false ∧ (l.take k).contains 0 = false

theorem contains_at {l : List UInt8} {k : Nat} {c : UInt8} (h : k < l.length) (hc : l.getD k 0 = c) : l.contains c = true := by
  rw [List.contains_iff_mem]
  rw [List.getD_eq_getElem?_getD, List.getElem?_eq_getElem h] at hc
  rw [← hc]
  exact List.getElem_mem h

theorem clearTo_step {l : List UInt8} {k : Nat} (h : k < l.length) (hc : clearTo l k) (h1 : l.getD k 0 ≠ 47) (h2 : l.getD k 0 ≠ 0) : clearTo l (k + 1) := by
  have e : l.take (k + 1) = l.take k ++ [l.getD k 0] := by
    rw [List.take_succ_eq_append_getElem h, List.getD_eq_getElem?_getD, List.getElem?_eq_getElem h]; rfl
  unfold clearTo
  rw [e]
  simp only [List.contains_append, hc.1, hc.2, Bool.false_or]
  refine ⟨?_, ?_⟩
  · simpa using fun e => h1 e.symm
  · simpa using fun e => h2 e.symm

end Go.Proofs.Ytokbakpbhpknfaa
