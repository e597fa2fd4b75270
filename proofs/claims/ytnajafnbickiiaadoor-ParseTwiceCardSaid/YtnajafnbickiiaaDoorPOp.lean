/-
  The parser's op: operands and the signs between them. Conditions: the parser's block.
-/
import Derived.Test.YtnajafnbickiiaaDoorPPre
namespace Go.Proofs.YtnajafnbickiiaaDoor
open Go.RowKit
set_option linter.unusedVariables false

/-- The cells of the sign that stands there, or of none. -/
def sgL (ts : List Tk) : List Value := match signT ts with
  | some g => [.string ⟨g.1.toArray⟩, .int .i64 (g.2.1 : Int), .bool g.2.2]
  | none => [.string ⟨#[]⟩, .int .i64 0, .bool false]
def sgS (ts : List Tk) : Nat := match signT ts with
  | some g => g.2.1
  | none => 0
theorem op_inv {n s d : Nat} {ts : List Tk} {x : Ex} {r : List Tk} (h : pg n (.op s) d ts = .ok x r) :
    ∃ m x0 r0, n = m + 1 ∧ pg m .pre d ts = .ok x0 r0 ∧ pg m (.ops s x0) d r0 = .ok x r := by
  cases n with
  | zero => simp [pg] at h
  | succ m =>
    simp only [pg] at h
    split at h
    · rename_i x0 r0 hs
      exact ⟨m, x0, r0, rfl, hs, h⟩
    · rename_i hne
      exact (hne _ _ h).elim
theorem ops_inv {n s d : Nat} {ts : List Tk} {x0 x : Ex} {r : List Tk} (hs : 1 ≤ s) (h : pg n (.ops s x0) d ts = .ok x r) :
    ∃ m, n = m + 1 ∧ ((sgS ts < s ∧ x = x0 ∧ r = ts) ∨ (∃ g, signT ts = some g ∧ s ≤ g.2.1 ∧ ∃ y r1, pg m (.right g) d ts.tail = .ok y r1 ∧ pg m (.ops s (.mk 15 0 g.1 [x0, y] (atT ts))) d r1 = .ok x r)) := by
  cases n with
  | zero => simp [pg] at h
  | succ m =>
    simp only [pg] at h
    refine ⟨m, rfl, ?_⟩
    split at h
    · rename_i g hg
      split at h
      · rename_i hle
        split at h
        · rename_i y r1 hy
          exact .inr ⟨g, hg, hle, y, r1, hy, h⟩
        · rename_i hne
          exact (hne _ _ h).elim
      · rename_i hle
        simp only [PR.ok.injEq] at h
        exact .inl ⟨by unfold sgS; rw [hg]; show g.2.1 < s; omega, h.1.symm, h.2.symm⟩
    · rename_i hg
      simp only [PR.ok.injEq] at h
      exact .inl ⟨by unfold sgS; rw [hg]; show 0 < s; omega, h.1.symm, h.2.symm⟩
end Go.Proofs.YtnajafnbickiiaaDoor
