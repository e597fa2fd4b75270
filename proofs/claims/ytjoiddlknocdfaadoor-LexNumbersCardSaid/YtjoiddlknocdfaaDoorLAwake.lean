/-
  The law's awake: the document's example. Conditions: the listed variables lie as the text lays them.
-/
import Derived.Test.YtjoiddlknocdfaaDoorLTokens
namespace Go.Proofs.YtjoiddlknocdfaaDoor
open Go.RowKit
set_option linter.unusedVariables false

theorem below_drewN {B : Nat} {a w : World} (h : Below B a w) (n : Nat) : Below B a (w.drewN n) := by
  induction n with
  | zero => exact h
  | succ n ih => exact ih.drew

/-- A list of tokens, read: its cells. -/
theorem tok_cells {w : World} {B n cap g : Nat} {ts : List Tk} (h : w.ownsRow B 28 3 (.slice (some ⟨g, 0, none⟩) n cap) n (tksC ts)) {i : Nat} {t : Tk} (ht : ts[i]? = some t) :
    w.cell? ⟨g, i * 3, none⟩ = some (.int .u8 (t.kind : Int)) ∧ w.cell? ⟨g, i * 3 + 1, none⟩ = some (.string ⟨t.text.toArray⟩) ∧ w.cell? ⟨g, i * 3 + 2, none⟩ = some (.int .i64 (t.at_ : Int)) := by
  have hi : i < ts.length := (List.getElem?_eq_some_iff.1 ht).1
  have hn : n * 3 = ts.length * 3 := by have := h.1; rw [tksC_length] at this; omega
  have key : ∀ j, j < 3 → w.cell? ⟨g, i * 3 + j, none⟩ = (tkC t)[j]? := fun j hj => by
    rw [World.ownsRow.cellAt h (i * 3 + j) (by omega), tksC_get ts i t ht j hj]
  exact ⟨key 0 (by omega), key 1 (by omega), key 2 (by omega)⟩

def awakeT : List Tk := [⟨5, [34], 0⟩, ⟨6, [97], 1⟩, ⟨7, [36, 123], 2⟩, ⟨1, [98], 4⟩, ⟨8, [125], 5⟩, ⟨5, [34], 6⟩, ⟨0, [], 7⟩]
theorem awake_lex : lexTop [34, 97, 36, 123, 98, 125, 34] = .ok awakeT := by kernel_rfl

set_option maxRecDepth 100000 in
set_option maxHeartbeats 4000000 in
theorem awake_any (w : World) (hl : LaidL w) : Calls Tryd.prog 8 #[] w fun e w' => e = .returned (.bool true) ∧ Below w.heap.size w w' := by
  have HT := Lib.hid (tokens_any ⟨#[34, 97, 36, 123, 98, 125, 34]⟩ w hl)
  clear hl
  go_enter Tryd.func8, Tryd.ntmps8
  go_wp2_with fail
  refine HT.out.mono ?_
  rintro e w1 hp
  rw [show lexTop (⟨#[34, 97, 36, 123, 98, 125, 34]⟩ : ByteArray).data.toList = .ok awakeT from awake_lex] at hp
  obtain ⟨⟨v, rfl, ho⟩, hb⟩ := hp
  have HB := Lib.hid hb
  obtain ⟨g, cap, rfl, hle⟩ := row_some ho (by decide)
  have ho7 : w1.ownsRow w.heap.size 28 3 (.slice (some ⟨g, 0, none⟩) 7 cap) 7 (tksC awakeT) := ho
  have d1 := (tok_cells ho7 (i := 1) rfl).2.1
  have d3 := (tok_cells ho7 (i := 3) rfl).2.1
  have d4 := (tok_cells ho7 (i := 4) rfl).1
  clear hb ho ho7 hle HT
  go_wp2_with fail
  go_ret
  exact ⟨rfl, HB.out⟩

end Go.Proofs.YtjoiddlknocdfaaDoor
