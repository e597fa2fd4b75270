/-
  Two lemmas of rows of one's own (of XNSkip and XNFile: a seat that has no reader). No conditions.
-/
import Derived.Test.YtaknkiejjnilnaaDoorNLoad
import Derived.Test.YtaknkiejjnilnaaDoorNAwake
import Derived.Test.YtaknkiejjnilnaaDoorTTake
import Derived.Laws.Rows
namespace Go.Proofs.YtaknkiejjnilnaaDoor
open Go.RowKit
set_option linter.unusedVariables false

theorem owns_same {w w' : World} {B n size : Nat} {e : TypeId} {v : Value} {xs : List Value} (h : w.ownsRow B e size v n xs) (hs : ∀ k, B ≤ k → k < w.heap.size → w'.heap[k]? = w.heap[k]?) : w'.ownsRow B e size v n xs := by
  refine ⟨h.1, ?_⟩
  rcases h.2 with h0 | ⟨g, cap, cur, h1, h2, h3, h4⟩
  · exact .inl h0
  · exact .inr ⟨g, cap, cur, h1, h2, (hs g h2 (Array.getElem?_eq_some_iff.1 h3).1).trans h3, h4⟩

theorem own_mono {w : World} {B B' n size : Nat} {e : TypeId} {v : Value} {xs : List Value} (h : w.ownsRow B e size v n xs) (hb : B' ≤ B) : w.ownsRow B' e size v n xs := by
  refine ⟨h.1, ?_⟩
  rcases h.2 with h0 | ⟨g, cap, cur, h1, h2, h3⟩
  · exact .inl h0
  · exact .inr ⟨g, cap, cur, h1, Nat.le_trans hb h2, h3⟩

end Go.Proofs.YtaknkiejjnilnaaDoor
