/-
  Whether two trees are alike: the reference's Same. No conditions.
-/
import Derived.Test.YtaknkiejjnilnaaDoorTFlat
import Derived.Test.YtaknkiejjnilnaaDoorTCount
import Derived.Deep.RegionHeld3
import Derived.Deep.QuietTactic
import Derived.BigQuiet
import Derived.Laws.BytesString
namespace Go.Proofs.YtaknkiejjnilnaaDoor
open Go.RowKit
set_option linter.unusedVariables false

/-- 'string(b)' of bytes that came in, nil and empty ones too. -/
theorem convert_b {w : World} {a : Option Addr} {n cap : Nat} {l : List UInt8} (h : IsB w a n cap l) :
    (convert 22 9 (.slice a n cap)).run Tryd.prog w = .ok (.string ⟨l.toArray⟩) w := by
  obtain ⟨h1, h2, h3, h4, _⟩ := h
  have hnil : n = 0 → (convert 22 9 (.slice a n cap)).run Tryd.prog w = .ok (.string ⟨l.toArray⟩) w := by
    intro h0
    subst h0
    obtain rfl : l = [] := List.eq_nil_of_length_eq_zero h1
    cases a with
    | none =>
      obtain ⟨_, rfl⟩ := h3 rfl
      rw [run_convert_bytes_string w 22 9 5 none 0 0 Tryd.underlying22 Tryd.underlying5 Tryd.underlying9]
      rfl
    | some x =>
      have := run_convert_bytes_back (P := Tryd.prog) w 22 9 5 x cap [] Tryd.underlying22 Tryd.underlying5 Tryd.underlying9 (fun j hj => by simp at hj)
      rw [List.length_nil] at this
      exact this
  rcases h2 with h0 | ⟨b, off, rfl, hlt, hby⟩
  · exact hnil h0
  · subst h1
    refine run_convert_bytes_back (P := Tryd.prog) w 22 9 5 ⟨b, off, none⟩ cap l Tryd.underlying22 Tryd.underlying5 Tryd.underlying9 (fun j hj => ?_)
    have hadd : (⟨b, off, none⟩ : Addr).add j = ⟨b, off + j, none⟩ := by cases j <;> simp [Addr.add]
    rw [hadd, hby j hj]
    simp [List.getD, hj]

theorem below_drewT {B : Nat} {a w : World} (h : Below B a w) : Below B a w.drew := h.drew

/-- What a Same tells. -/
def SamePost (a b : T) (w : World) (e : Ending) (w' : World) : Prop := (∃ r : Bool, e = .returned (.bool r) ∧ (r = true ↔ a = b)) ∧ Below w.heap.size w w'
theorem same_no {a b : T} {w w' : World} {e : Ending} (he : e = .returned (.bool false)) (h : a ≠ b) (hb : Below w.heap.size w w') : SamePost a b w e w' :=
  ⟨⟨false, he, by simp [h]⟩, hb⟩
theorem same_yes {a b : T} {w w' : World} {e : Ending} (he : e = .returned (.bool true)) (h : a = b) (hb : Below w.heap.size w w') : SamePost a b w e w' :=
  ⟨⟨true, he, by simp [h]⟩, hb⟩

theorem list_eq_getD {α : Type} (d : α) : ∀ (l m : List α), l.length = m.length → (∀ i, i < l.length → l.getD i d = m.getD i d) → l = m := fun l m h hg => by
  apply List.ext_getElem? 
  intro i
  by_cases hi : i < l.length
  · have := hg i hi
    rw [List.getD_eq_getElem?_getD, List.getD_eq_getElem?_getD, List.getElem?_eq_getElem hi, List.getElem?_eq_getElem (by omega)] at this
    rw [List.getElem?_eq_getElem hi, List.getElem?_eq_getElem (by omega)]
    exact congrArg some this
  · rw [List.getElem?_eq_none (by omega), List.getElem?_eq_none (by omega)]

end Go.Proofs.YtaknkiejjnilnaaDoor
