/-
  The hundred texts of the law ParseOrder, read by the parser's function: by computing. No program text.
-/
import Derived.Test.YtjggfjoodoidhaaDoorPParse
namespace Go.Proofs.YtjggfjoodoidhaaDoor
open Go.RowKit
set_option linter.unusedVariables false

def sgN (i : Nat) : List UInt8 := (signsP.getD i ([], 0, false)).1
def strN (i : Nat) : Nat := [0, 1, 2, 2, 3, 4, 5, 5, 6, 7].getD i 0
def leftP (i k : Nat) : Bool := decide (strN k < strN i) || (strN i == strN k && sgN i != [47, 47] && sgN i != [43, 43])
def txtP (i k : Nat) : List UInt8 := [97, 32] ++ sgN i ++ [32, 98, 32] ++ sgN k ++ [32, 99]
def shapeP (i k : Nat) (x : Ex) : Bool := x.kind == 15 && match x.kids with
  | [y, z] => if leftP i k = true then x.text == sgN k && y.text == sgN i && z.text == [99] else x.text == sgN i && z.text == sgN k && y.text == [97]
  | _ => false
def checkP (i k : Nat) : Bool := match lexTop (txtP i k) with
  | .ok ts => goodB ts && match pg 400 .expr 0 ts with
    | .ok x (t :: _) => t.kind == 0 && shapeP i k x
    | _ => false
  | _ => false
theorem check_all : ([0, 1, 2, 3, 4, 5, 6, 7, 8, 9].all fun i => [0, 1, 2, 3, 4, 5, 6, 7, 8, 9].all fun k => checkP i k) = true := by kernel_rfl
theorem pair_ok (i k : Nat) (hi : i < 10) (hk : k < 10) : ∃ ts x t q, lexTop (txtP i k) = .ok ts ∧ goodB ts = true ∧ pg 400 .expr 0 ts = .ok x (t :: q) ∧ t.kind = 0 ∧ shapeP i k x = true := by
  have h := check_all
  rw [List.all_eq_true] at h
  have h1 := h i (by simp; omega)
  rw [List.all_eq_true] at h1
  have h2 := h1 k (by simp; omega)
  unfold checkP at h2
  split at h2
  · rename_i ts hl
    rw [Bool.and_eq_true] at h2
    obtain ⟨hg, h2⟩ := h2
    split at h2
    · rename_i x t q hp
      rw [Bool.and_eq_true] at h2
      exact ⟨ts, x, t, q, hl, hg, hp, by simpa using h2.1, h2.2⟩
    · cases h2
  · cases h2
theorem shape_kind {i k : Nat} {x : Ex} (h : shapeP i k x = true) : x.kind = 15 := by
  unfold shapeP at h
  rw [Bool.and_eq_true] at h
  simpa using h.1
theorem shape_kids {i k : Nat} {x : Ex} (h : shapeP i k x = true) : ∃ y z, x.kids = [y, z] ∧ ((leftP i k = true ∧ x.text = sgN k ∧ y.text = sgN i ∧ z.text = [99]) ∨ (leftP i k = false ∧ x.text = sgN i ∧ z.text = sgN k ∧ y.text = [97])) := by
  unfold shapeP at h
  rw [Bool.and_eq_true] at h
  obtain ⟨_, h⟩ := h
  split at h
  · rename_i y z hkz
    refine ⟨y, z, hkz, ?_⟩
    cases hl : leftP i k with
    | true => rw [if_pos hl] at h; simp only [Bool.and_eq_true, beq_iff_eq] at h; exact .inl ⟨rfl, h.1.1, h.1.2, h.2⟩
    | false => rw [if_neg (by rw [hl]; decide)] at h; simp only [Bool.and_eq_true, beq_iff_eq] at h; exact .inr ⟨rfl, h.1.1, h.1.2, h.2⟩
  · cases h
end Go.Proofs.YtjggfjoodoidhaaDoor
