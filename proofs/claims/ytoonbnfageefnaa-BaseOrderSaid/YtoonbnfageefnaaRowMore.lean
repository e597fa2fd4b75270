/-
  The contracts of Encode and Hex for a slice that came in, nil and empty ones too. Conditions: the bounds on lengths that each names.
-/
import Derived.Test.YtoonbnfageefnaaRow
import Derived.Test.YtoonbnfageefnaaHex
namespace Go.Proofs.Ytoonbnfageefnaa
open Go.RowKit

theorem IsB.later {w w' : World} {a : Option Addr} {len cap : Nat} {l : List UInt8} (h : IsB w a len cap l) (hb : Below w.heap.size w w') : IsB w' a len cap l := by
  refine ⟨h.length, ?_, h.most⟩
  rcases h.at_ with h0 | ⟨b, off, rfl, hlt, hby⟩
  · exact .inl h0
  · exact .inr ⟨b, off, rfl, Nat.lt_of_lt_of_le hlt hb.size, fun i hi => (hb.cell (by exact hlt)).trans (hby i hi)⟩

theorem encode_b (a : Option Addr) (len cap : Nat) (l : List UInt8) (w : World) (h : IsB w a len cap l) (hm : len ≤ 100000) :
    Calls Try.prog 10 #[.slice a len cap] w fun e w' => e = .returned (.string ⟨(enc l).toArray⟩) ∧ Below w.heap.size w w' := by
  obtain ⟨h1, h2, h3⟩ := h
  rcases h2 with h0 | ⟨b, off, rfl, hlt, hby⟩
  · subst h0
    obtain rfl : l = [] := List.eq_nil_of_length_eq_zero h1
    exact encode_none a cap w
  · subst h1
    rcases Nat.eq_zero_or_pos l.length with h0 | h0
    · obtain rfl : l = [] := List.eq_nil_of_length_eq_zero h0
      exact encode_none _ cap w
    · exact encode_any b off cap l w h0 hm hby hlt

theorem hex_b (a : Option Addr) (len cap : Nat) (l : List UInt8) (w : World) (h : IsB w a len cap l) (hm : len ≤ 140737488355328) :
    Calls Try.prog 16 #[.slice a len cap] w fun e w' => e = .returned (.string ⟨(hexL l).toArray⟩) ∧ Below w.heap.size w w' := by
  obtain ⟨h1, h2, h3⟩ := h
  rcases h2 with h0 | ⟨b, off, rfl, hlt, hby⟩
  · subst h0
    obtain rfl : l = [] := List.eq_nil_of_length_eq_zero h1
    exact hex_none a cap w
  · subst h1
    rcases Nat.eq_zero_or_pos l.length with h0 | h0
    · obtain rfl : l = [] := List.eq_nil_of_length_eq_zero h0
      exact hex_none _ cap w
    · exact hex_any b off cap l w h0 hm hby hlt

end Go.Proofs.Ytoonbnfageefnaa
