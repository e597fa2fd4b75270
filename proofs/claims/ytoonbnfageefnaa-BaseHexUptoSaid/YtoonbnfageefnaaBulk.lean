/-
  What the bound of the second form gives: how long a slice of bytes, and a text, are at most. No conditions.
-/
import Derived.Test.YtoonbnfageefnaaRows
import Derived.ProofKit
import Derived.ChangeOld
namespace Go.Proofs.Ytoonbnfageefnaa
open Go.RowKit Go.ChangeShapes Go.WideShapes

theorem bulk_lits {H : Type} (k : IntKind) : ∀ zs : List Int, Rows.uptoBulkAll (lits (H := H) k zs) = zs.length
  | [] => by simp [lits, Rows.uptoBulkAll]
  | z :: t => by
    have ih := bulk_lits (H := H) k t
    simp only [lits] at ih ⊢
    simp only [List.map_cons, Rows.uptoBulkAll, ih, List.length_cons, Rows.uptoBulk]
    omega

theorem bulk_ints {H : Type} (k : IntKind) (a b : List Int) : Rows.uptoBulk (.slice (lits (H := H) k a) (lits k b)) = a.length + b.length + 1 := by
  simp only [Rows.uptoBulk, bulk_lits]

theorem bulk_bound {H : Type} {l : List (DataW H)} (hk : Rows.uptoSmall H l = true) : Rows.uptoBulkAll l ≤ 1048576 := of_decide_eq_true hk

theorem bulk_mem {H : Type} : ∀ {l : List (DataW H)} {d : DataW H}, d ∈ l → Rows.uptoBulk d ≤ Rows.uptoBulkAll l
  | x :: r, d, h => by
    simp only [Rows.uptoBulkAll]
    rcases List.mem_cons.1 h with rfl | h
    · omega
    · have := bulk_mem h; omega

end Go.Proofs.Ytoonbnfageefnaa
