/-
  The contracts of whole, New, Len, Ops, Way, On. Conditions: what is handed in lies in old memory; the device is as Dev says.
-/
import Derived.Test.YtgjckddcnmbceaaGreatDoorSCopy
namespace Go.Proofs.YtgjckddcnmbceaaGreatDoor
open Go.RowKit
set_option linter.unusedVariables false

def wl (l : List UInt8) (k : Nat) : List UInt8 := l.take k ++ zer (256 - k)
/-- A sector's bytes, the first ones from a few. -/
def wholeL (l : List UInt8) : List UInt8 := l.take 256 ++ zer (256 - l.length)
theorem wl_step {l : List UInt8} {k : Nat} (h : k < l.length) (h2 : k < 256) : (wl l k).set k (l.getD k 0) = wl l (k + 1) := by
  unfold wl zer
  rw [List.set_append_right _ _ (by simp; omega), List.take_succ_eq_append_getElem h, List.getD_eq_getElem?_getD, List.getElem?_eq_getElem h]
  have e : k - (l.take k).length = 0 := by simp; omega
  rw [e, show 256 - k = (256 - (k + 1)) + 1 by omega, List.replicate_succ, List.set_cons_zero, List.append_assoc, List.singleton_append]
  rfl
theorem wl_end {l : List UInt8} {k : Nat} (h : k = min l.length 256) : wl l k = wholeL l := by
  subst h
  unfold wl wholeL
  by_cases hl : l.length ≤ 256
  · rw [Nat.min_eq_left hl, List.take_of_length_le (Nat.le_refl _), List.take_of_length_le hl]
  · rw [Nat.min_eq_right (by omega), show 256 - 256 = 256 - l.length by omega]
theorem wholeL_length (l : List UInt8) : (wholeL l).length = 256 := by simp [wholeL, zer]; omega
theorem wl_length {l : List UInt8} {k : Nat} (h : k ≤ l.length) (h2 : k ≤ 256) : (wl l k).length = 256 := by simp [wl, zer]; omega

def WholeP (l : List UInt8) (w : World) (e : Ending) (w' : World) : Prop :=
  ∃ b, e = .returned (.slice (some ⟨b, 0, none⟩) 256 256) ∧ Has w' b ((wholeL l).map bv) 5 ∧ w.heap.size ≤ b ∧ Below w.heap.size w w'

section
variable {w : World} {B pb bd bl : Nat} {v : Value} {n : Nat} {D L : List UInt8} {way : List Wr} {ops fall : Nat} {off : Bool}
set_option maxRecDepth 100000
theorem len_any (h : Dev w B pb bd bl v n D L way ops fall off) : Calls Tryz.prog 38 #[.pointer (some ⟨pb, 0, none⟩)] w fun e w' => e = .returned (.int .i64 (n : Int)) ∧ w = w' := by
  have c0 := h.box.cellAt (i := 0) rfl
  clear h
  go_enter Tryz.func38, Tryz.ntmps38
  go_wp2
  go_ret
  exact ⟨rfl, rfl⟩
theorem way_any (h : Dev w B pb bd bl v n D L way ops fall off) : Calls Tryz.prog 36 #[.pointer (some ⟨pb, 0, none⟩)] w fun e w' => e = .returned (.int .i64 (way.length : Int)) ∧ w = w' := by
  obtain ⟨c, a, k, hv⟩ : ∃ c a k, v = .slice c way.length k ∧ a = 0 := by
    rcases h.wrs.2 with ⟨e, h0⟩ | ⟨g, cap, cur, e, _⟩
    · exact ⟨none, 0, 0, by rw [e, h0], rfl⟩
    · exact ⟨_, 0, _, e, rfl⟩
  have c2 := h.box.cellAt (i := 2) rfl
  rw [hv.1] at c2
  clear hv h
  go_enter Tryz.func36, Tryz.ntmps36
  go_wp2
  go_ret
  exact ⟨rfl, rfl⟩
theorem on_any (h : Dev w B pb bd bl v n D L way ops fall off) : Calls Tryz.prog 21 #[.pointer (some ⟨pb, 0, none⟩)] w fun e w' => e = .returned (.bool (!off)) ∧ w = w' := by
  have c5 := h.box.cellAt (i := 5) rfl
  clear h
  go_enter Tryz.func21, Tryz.ntmps21
  go_wp2
  go_ret
  exact ⟨rfl, rfl⟩
end

end Go.Proofs.YtgjckddcnmbceaaGreatDoor
