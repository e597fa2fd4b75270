/-
  The fifty-four texts in which a name comes twice, by computing. No program text but what a parser's step tells.
-/
import Derived.Test.YtnajafnbickiiaaDoorPTwH
import Derived.Test.YtnajafnbickiiaaDoorPAwake
import Derived.Test.YtnajafnbickiiaaDoorPCatch
namespace Go.Proofs.YtnajafnbickiiaaDoor
open Go.RowKit
set_option linter.unusedVariables false

def wA : Nat → List UInt8
  | 0 => [123, 32, 97, 32, 61, 32, 49, 59]
  | 1 => [108, 101, 116, 32, 97, 32, 61, 32, 49, 59]
  | 2 => [114, 101, 99, 32, 123, 32, 97, 32, 61, 32, 49, 59, 32, 105, 110, 104, 101, 114, 105, 116]
  | 3 => [123, 32, 97, 44]
  | 4 => [123, 32, 105, 110, 104, 101, 114, 105, 116, 32, 40, 98, 41, 32, 97, 59]
  | 5 => [123, 32, 105, 110, 104, 101, 114, 105, 116, 32, 97]
  | _ => []
def wB : Nat → List UInt8
  | 0 => [97]
  | 1 => [97]
  | 2 => [32, 97]
  | 3 => [97]
  | 4 => [97]
  | 5 => [32, 97]
  | _ => []
def wE : Nat → List UInt8
  | 0 => [32, 61, 32, 50, 59, 32, 125]
  | 1 => [32, 61, 32, 50, 59, 32, 105, 110, 32, 97]
  | 2 => [59, 32, 125]
  | 3 => [32, 125, 58, 32, 97]
  | 4 => [32, 61, 32, 49, 59, 32, 125]
  | 5 => [59, 32, 125]
  | _ => []
/-- The text ahead of its end; where the second name stands. -/
def txtW (k j : Nat) : List UInt8 := wA k ++ List.replicate j 32 ++ wB k
def posT (k j : Nat) : Nat := (wA k).length + j + (wB k).length - 1
def okT (k j : Nat) : Bool := match lexTop (txtW k j ++ wE k) with
  | .ok ts => goodB ts && form (posT k j) k ts
  | _ => false
theorem okT_all : ((List.range 6).all fun k => (List.range 9).all fun j => okT k j) = true := by kernel_rfl
theorem twice_bad (k j : Nat) (hk : k < 6) (hj : j < 9) : ∃ ts, lexTop (txtW k j ++ wE k) = .ok ts ∧ goodB ts = true ∧ ∀ (W : World) (pb g cap : Nat), Ps W pb g 0 cap ts 0 21474836 →
    Calls Tryd.prog 14 #[.pointer (some ⟨pb, 0, none⟩)] W (PB pb g 0 21474836 (posT k j) 7 W) := by
  have h := okT_all
  rw [List.all_eq_true] at h
  have h2 := h k (by simp; omega)
  rw [List.all_eq_true] at h2
  have h3 := h2 j (by simp; omega)
  unfold okT at h3
  split at h3
  · rename_i ts hl
    rw [Bool.and_eq_true] at h3
    exact ⟨ts, hl, h3.1, fun W pb g cap hps => form_bad k h3.2 hps⟩
  · cases h3
theorem txtW_len (k j : Nat) : (txtW k j).length = (wA k).length + j + (wB k).length := by simp [txtW]; omega
end Go.Proofs.YtnajafnbickiiaaDoor
