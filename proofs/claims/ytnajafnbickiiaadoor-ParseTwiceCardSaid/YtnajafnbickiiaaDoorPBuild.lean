/-
  A slice literal of one or two expressions: its cells. No program text but types.
-/
import Derived.Test.YtnajafnbickiiaaDoorPExpr
import Derived.Great.BuildSlice
namespace Go.Proofs.YtnajafnbickiiaaDoor
open Go.RowKit
set_option linter.unusedVariables false

theorem info_exp : ∃ i, Tryd.prog.info? 28 = some i ∧ i.zero = some (.agg exZ.toArray) ∧ i.size = 8 ∧ i.bytes = 120 := by
  have h : (Tryd.prog.info? 28).map (fun i => (i.zero, i.size, i.bytes)) = some (some (.agg exZ.toArray), 8, 120) := by kernel_rfl
  obtain ⟨i, hi, hx⟩ := Option.map_eq_some_iff.1 h
  simp only [Prod.mk.injEq] at hx
  exact ⟨i, hi, hx.1, hx.2.1, hx.2.2⟩

theorem eight {l : List Value} (h : l.length = 8) : ∃ a b c d e f g i, l = [a, b, c, d, e, f, g, i] := by
  match l, h with
  | [a, b, c, d, e, f, g, i], _ => exact ⟨a, b, c, d, e, f, g, i, rfl⟩

theorem fill_two {l m : List Value} (hl : l.length = 8) (hm : m.length = 8) :
    Instr.fill (fun i => some (i * 8, 8)) ((Array.range (2 * 8)).map ((Value.agg exZ.toArray).cells[· % (Value.agg exZ.toArray).cells.size]!)) [(0, .agg l.toArray), (1, .agg m.toArray)] = some (l ++ m).toArray := by
  obtain ⟨a, b, c, d, e, f, g, i, rfl⟩ := eight hl
  obtain ⟨a', b', c', d', e', f', g', i', rfl⟩ := eight hm
  kernel_rfl
theorem fill_one {l : List Value} (hl : l.length = 8) :
    Instr.fill (fun i => some (i * 8, 8)) ((Array.range (1 * 8)).map ((Value.agg exZ.toArray).cells[· % (Value.agg exZ.toArray).cells.size]!)) [(0, .agg l.toArray)] = some l.toArray := by
  obtain ⟨a, b, c, d, e, f, g, i, rfl⟩ := eight hl
  kernel_rfl
/-- An expression of two parts, which lie in a row. -/
theorem node_two {w : World} {S : Nat → Prop} {N : Nat} {l m : List Value} {x y : Ex} (k : Nat) (t : List UInt8) (a : Nat) (hN : Has w N (l ++ m) 28) (hS : S N) (h1 : IsXS w S l x) (h2 : IsXS w S m y) :
    IsXS w S (exC k 0 t (.slice (some ⟨N, 0, none⟩) 2 2) a) (.mk k 0 t [x, y] a) := by
  refine .node k 0 t a N 2 [x, y] (fun i => if i = 0 then l else m) (by simp) hS hN.lt ⟨by simp, by decide⟩ (fun i hi => ?_) (fun i z hz => ?_)
  · have hi2 : i = 0 ∨ i = 1 := by simp at hi; omega
    rcases hi2 with rfl | rfl
    · refine ⟨h1.len, fun j v hj => ?_⟩
      have hj : l[j]? = some v := hj
      have hlt := (List.getElem?_eq_some_iff.1 hj).1
      rw [show 0 * 8 + j = j by omega]
      exact hN.cellAt (i := j) (by rw [List.getElem?_append_left hlt]; exact hj)
    · refine ⟨h2.len, fun j v hj => ?_⟩
      have hj : m[j]? = some v := hj
      exact hN.cellAt (i := 1 * 8 + j) (by rw [List.getElem?_append_right (by rw [h1.len]; omega), h1.len, show 1 * 8 + j - 8 = j by omega]; exact hj)
  · match i, hz with
    | 0, hz => simp at hz; subst hz; exact h1
    | 1, hz => simp at hz; subst hz; exact h2
end Go.Proofs.YtnajafnbickiiaaDoor
