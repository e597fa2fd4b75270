/-
  What Write has made of a right tree; rows of bytes as slices. No program text.
-/
import Derived.Test.YthjihibocobndaaNAwake
import Derived.Test.YthjihibocobndaaNLoad
import Derived.Test.YthjihibocobndaaTGreat2
import Derived.Test.YthjihibocobndaaTRForm
namespace Go.Proofs.Ythjihibocobndaa
open Go.RowKit
set_option linter.unusedVariables false

theorem node_pos (t : T) : 0 < (nodeT t).length := by
  cases t
  rw [nodeT, List.length_append, strN_length]; omega

theorem wrote_good {t : T} {q : Nat × Nat} {w w' : World} {e : Ending} (hz : sizeT t = some q)
    (h : (sizeT t = none ∧ e = .returned (.tuple #[.slice none 0 0, .int .i64 3])) ∨ ((sizeT t).isSome = true ∧ ∃ g cap, e = .returned (.tuple #[.slice (some ⟨g, 0, none⟩) (archT t).length cap, .int .i64 0]) ∧
      w'.ownsRow w.heap.size 5 1 (.slice (some ⟨g, 0, none⟩) (archT t).length cap) (archT t).length ((archT t).map bv))) :
    ∃ g cap, e = .returned (.tuple #[.slice (some ⟨g, 0, none⟩) (archT t).length cap, .int .i64 0]) ∧ w'.ownsRow w.heap.size 5 1 (.slice (some ⟨g, 0, none⟩) (archT t).length cap) (archT t).length ((archT t).map bv) := by
  rcases h with ⟨h0, _⟩ | ⟨_, h⟩
  · rw [hz] at h0; cases h0
  · exact h

theorem str_beq (a b : ByteArray) : (a.toList == b.toList) = decide (a = b) := by
  rw [Bool.eq_iff_iff, beq_iff_eq, decide_eq_true_iff, ByteArray.toList_eq, ByteArray.toList_eq]
  exact ⟨fun h => bytes_ext h, fun h => by rw [h]⟩

/-- A whole row of bytes as a slice of bytes. -/
theorem row_whole {w : World} {B g n cap : Nat} {L : List UInt8} (h : w.ownsRow B 5 1 (.slice (some ⟨g, 0, none⟩) n cap) n (L.map bv)) (hm : n ≤ 140737488355328) : IsB w (some ⟨g, 0, none⟩) n cap L := by
  have hn : L.length = n := by have := h.1; rw [List.length_map] at this; omega
  have hcap : n ≤ cap ∧ cap ≤ maxLen := by
    rcases h.2 with ⟨h0, _⟩ | ⟨g', cap', cur', he, _, _, h1, h2, _⟩
    · cases h0
    · cases he; exact ⟨h1, h2⟩
  have := row_sub h hm 0 n cap (by omega) hcap.1 hcap.2
  rwa [List.drop_zero, List.take_of_length_le (by omega)] at this

end Go.Proofs.Ythjihibocobndaa
