/-
  What newQueue's loops come to. No program text.
-/
import Derived.Test.YtdliecailkkciaaOQueue
namespace Go.Proofs.Ytdliecailkkciaa
open Go.RowKit
set_option linter.unusedVariables false

def nd (N : ByteArray → Option (List ByteArray)) (s t : ByteArray) : Bool := decide (t ≠ s) && (N t).isSome
def stepW (N : ByteArray → Option (List ByteArray)) (s : ByteArray) (W : ByteArray → Option (List ByteArray)) (t : ByteArray) : ByteArray → Option (List ByteArray) := if nd N s t = true then putN W t (getN W t ++ [s]) else W
def stepC (N : ByteArray → Option (List ByteArray)) (s : ByteArray) (C : ByteArray → Option Nat) (t : ByteArray) : ByteArray → Option Nat := if nd N s t = true then putC C s (getC C s + 1) else C
def inW (N : ByteArray → Option (List ByteArray)) (s : ByteArray) (ms : List ByteArray) (W : ByteArray → Option (List ByteArray)) : Nat → ByteArray → Option (List ByteArray)
  | 0 => W
  | j + 1 => stepW N s (inW N s ms W j) (ms.getD j ⟨#[]⟩)
def inC (N : ByteArray → Option (List ByteArray)) (s : ByteArray) (ms : List ByteArray) (C : ByteArray → Option Nat) : Nat → ByteArray → Option Nat
  | 0 => C
  | j + 1 => stepC N s (inC N s ms C j) (ms.getD j ⟨#[]⟩)
def outW (G : List ByteArray) (N : ByteArray → Option (List ByteArray)) : Nat → ByteArray → Option (List ByteArray)
  | 0 => fun _ => none
  | i + 1 => inW N (G.getD i ⟨#[]⟩) (getN N (G.getD i ⟨#[]⟩)) (outW G N i) (getN N (G.getD i ⟨#[]⟩)).length
def outC (G : List ByteArray) (N : ByteArray → Option (List ByteArray)) : Nat → ByteArray → Option Nat
  | 0 => fun _ => none
  | i + 1 => inC N (G.getD i ⟨#[]⟩) (getN N (G.getD i ⟨#[]⟩)) (outC G N i) (getN N (G.getD i ⟨#[]⟩)).length
def outR (G : List ByteArray) (N : ByteArray → Option (List ByteArray)) : Nat → List ByteArray
  | 0 => []
  | i + 1 => if getC (outC G N (i + 1)) (G.getD i ⟨#[]⟩) = 0 then outR G N i ++ [G.getD i ⟨#[]⟩] else outR G N i
/-- How many needs the first i names have. -/
def totN (G : List ByteArray) (N : ByteArray → Option (List ByteArray)) : Nat → Nat
  | 0 => 0
  | i + 1 => totN G N i + (getN N (G.getD i ⟨#[]⟩)).length
theorem totN_mono (G : List ByteArray) (N : ByteArray → Option (List ByteArray)) {i j : Nat} (h : i ≤ j) : totN G N i ≤ totN G N j := by
  induction h with
  | refl => exact Nat.le_refl _
  | step _ ih => exact Nat.le_trans ih (Nat.le_add_right _ _)
theorem inW_len (N : ByteArray → Option (List ByteArray)) (s : ByteArray) (ms : List ByteArray) (W : ByteArray → Option (List ByteArray)) (b : Nat) (hW : ∀ t, (getN W t).length ≤ b) : ∀ j t, (getN (inW N s ms W j) t).length ≤ b + j
  | 0, t => hW t
  | j + 1, t => by
    have ih := inW_len N s ms W b hW j
    unfold inW stepW
    by_cases h : nd N s (ms.getD j ⟨#[]⟩) = true
    · rw [if_pos h]
      unfold getN putN
      by_cases h2 : t = ms.getD j ⟨#[]⟩
      · rw [if_pos h2]
        show (getN (inW N s ms W j) (ms.getD j ⟨#[]⟩) ++ [s]).length ≤ _
        have := ih (ms.getD j ⟨#[]⟩)
        rw [List.length_append]; simp only [List.length_singleton]; omega
      · rw [if_neg h2]
        have := ih t
        unfold getN at this
        omega
    · rw [if_neg h]
      have := ih t
      omega
theorem inC_len (N : ByteArray → Option (List ByteArray)) (s : ByteArray) (ms : List ByteArray) (C : ByteArray → Option Nat) (b : Nat) (hC : ∀ t, getC C t ≤ b) : ∀ j t, getC (inC N s ms C j) t ≤ b + j
  | 0, t => hC t
  | j + 1, t => by
    have ih := inC_len N s ms C b hC j
    unfold inC stepC
    by_cases h : nd N s (ms.getD j ⟨#[]⟩) = true
    · rw [if_pos h]
      unfold getC putC
      by_cases h2 : t = s
      · rw [if_pos h2]
        show getC (inC N s ms C j) s + 1 ≤ _
        have := ih s
        omega
      · rw [if_neg h2]
        have := ih t
        unfold getC at this
        omega
    · rw [if_neg h]
      have := ih t
      omega
theorem outW_len (G : List ByteArray) (N : ByteArray → Option (List ByteArray)) : ∀ i t, (getN (outW G N i) t).length ≤ totN G N i
  | 0, _ => Nat.le_refl _
  | i + 1, t => inW_len _ _ _ _ _ (outW_len G N i) _ t
theorem outC_len (G : List ByteArray) (N : ByteArray → Option (List ByteArray)) : ∀ i t, getC (outC G N i) t ≤ totN G N i
  | 0, _ => Nat.le_refl _
  | i + 1, t => inC_len _ _ _ _ _ (outC_len G N i) _ t
theorem outR_len (G : List ByteArray) (N : ByteArray → Option (List ByteArray)) : ∀ i, (outR G N i).length ≤ i
  | 0 => Nat.le_refl _
  | i + 1 => by
    have := outR_len G N i
    unfold outR
    by_cases h : getC (outC G N (i + 1)) (G.getD i ⟨#[]⟩) = 0
    · rw [if_pos h, List.length_append]; simp only [List.length_singleton]; omega
    · rw [if_neg h]; omega
theorem HF.low {q b : Nat} {v v' : Value} {w w' : World} (h : HF q v w v' w') (hq : b ≤ q) (hb : b ≤ w.heap.size) (hv : ∀ g, v.ownBlock = some g → b ≤ g) : Below b w w' :=
  ⟨h.os, h.tape, h.output, h.size, fun k hk => h.block k (by omega) (by omega) (fun e => by have := hv k e.symm; omega)⟩
theorem grown_low {c b : Nat} {w w' : World} (h : w.grownBy w' (some c)) (hc : b ≤ c) (hb : b ≤ w.heap.size) : Below b w w' :=
  ⟨h.os, h.tape, h.output, h.size, fun k hk => h.block k (by omega) (fun e => by have := Option.some.inj e; omega)⟩
end Go.Proofs.Ytdliecailkkciaa
