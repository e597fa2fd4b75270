/-
  Slices of texts as lists; a row of one's own later. No program text but the types' numbers.
-/
import Derived.Test.YtdliecailkkciaaOMap
import Derived.Test.YtdliecailkkciaaBut
import Derived.Lib.Bytealg
import Derived.Laws.AppendOwn
import Derived.Laws.OwnMore
namespace Go.Proofs.Ytdliecailkkciaa
open Go.RowKit
set_option linter.unusedVariables false

/-- A slice of texts as the list of its texts. -/
structure IsS (w : World) (a : Option Addr) (len cap : Nat) (l : List ByteArray) : Prop where
  length : l.length = len
  at_ : len = 0 ∨ ∃ b off, a = some ⟨b, off, none⟩ ∧ b < w.heap.size ∧ ∀ i, i < len → w.cell? ⟨b, off + i, none⟩ = some (.string (l.getD i ⟨#[]⟩))
  nil : a = none → len = 0 ∧ cap = 0
  room : len ≤ cap ∧ cap ≤ maxLen

theorem IsS.later {w w' : World} {a : Option Addr} {len cap : Nat} {l : List ByteArray} (h : IsS w a len cap l) (hb : Below w.heap.size w w') : IsS w' a len cap l := by
  refine ⟨h.length, ?_, h.nil, h.room⟩
  rcases h.at_ with h0 | ⟨b, off, rfl, hlt, hc⟩
  · exact .inl h0
  · exact .inr ⟨b, off, rfl, Nat.lt_of_lt_of_le hlt hb.size, fun i hi => (hb.cell (p := ⟨b, off + i, none⟩) hlt).trans (hc i hi)⟩

theorem bytes_ext {s t : ByteArray} (h : s.data.toList = t.data.toList) : s = t := by
  cases s; cases t
  simp only [ByteArray.mk.injEq]
  exact Array.toList_inj.1 h
theorem info_parts {P : Program} {t : TypeId} {z : Value} {s b : Nat} (h : (P.info? t).map (fun i => (i.zero, i.size, i.bytes)) = some (some z, s, b)) : ∃ i, P.info? t = some i ∧ i.zero = some z ∧ i.size = s ∧ i.bytes = b := by
  cases hi : P.info? t with
  | none => rw [hi] at h; cases h
  | some i =>
    rw [hi] at h
    simp only [Option.map_some, Option.some.injEq, Prod.mk.injEq] at h
    exact ⟨i, rfl, h.1, h.2.1, h.2.2⟩
/-- Where the i-th text of a slice stands. -/
theorem IsS.cell {w : World} {a : Option Addr} {n c : Nat} {l : List ByteArray} (h : IsS w a n c l) {i : Nat} (hi : i < n) : ∃ b off, a = some ⟨b, off, none⟩ ∧ b < w.heap.size ∧ w.cell? ⟨b, off + i, none⟩ = some (.string (l.getD i ⟨#[]⟩)) := by
  rcases h.at_ with h0 | ⟨b, off, e, hb, hc⟩
  · omega
  · exact ⟨b, off, e, hb, hc i hi⟩
theorem isS_nil (w : World) : IsS w none 0 0 [] := ⟨rfl, .inl rfl, fun _ => ⟨rfl, rfl⟩, Nat.le_refl _, Nat.zero_le _⟩
end Go.Proofs.Ytdliecailkkciaa
