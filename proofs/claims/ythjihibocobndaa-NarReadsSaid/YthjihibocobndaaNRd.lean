/-
  The reader of an archive: what its block holds; giving up; the next n bytes. Conditions: what is still to be read is no longer than 10^9 bytes.
-/
import Derived.Test.YthjihibocobndaaNRMath
import Derived.Test.YthjihibocobndaaNWr
import Derived.WalkLawsBesides
namespace Go.Proofs.Ythjihibocobndaa
open Go.RowKit
set_option linter.unusedVariables false

/-- What the reader throws. -/
def Fell : List PanicEntry := [{ v := .iface 29 (.int .i64 3), recovered := false }]

/-- The reader at block rb has still to read R; older memory is as it was. -/
def Rd (rb : Nat) (w0 : World) (R : List UInt8) (w : World) : Prop :=
  ∃ (a : Option Addr) (len cap : Nat), Has w rb [.slice a len cap] 50 ∧ IsB w0 a len cap R ∧ Below rb w0 w ∧ w0.heap.size ≤ rb ∧ R.length ≤ 1000000000

/-- Behind a call that reads: it has read x and left r, or fell. -/
def RP {α : Type} (rb : Nat) (w0 w : World) (o : Option (α × List UInt8)) (val : α → Value → World → Prop) (e : Ending) (w' : World) : Prop :=
  But w.heap.size rb w w' ∧ match o with
    | none => e = .panicked Fell
    | some (x, r) => ∃ v, e = .returned v ∧ val x v w' ∧ Rd rb w0 r w'

theorem IsB.len_cap {w : World} {a : Option Addr} {len cap : Nat} {l : List UInt8} (h : IsB w a len cap l) : len ≤ cap ∧ cap ≤ maxLen := h.room

/-- What stands in a slice of bytes from a place on. -/
theorem IsB.cut {w : World} {b off len cap : Nat} {R : List UInt8} (h : IsB w (some ⟨b, off, none⟩) len cap R) (k : Nat) (hk : k ≤ len) :
    IsB w (some ⟨b, if cap = k then off else off + k, none⟩) (len - k) (cap - k) (R.drop k) := by
  have hr := h.room
  refine ⟨by rw [List.length_drop, h.length], ?_, (fun e => by cases e), ⟨by omega, by omega⟩, by have := h.most; omega⟩
  rcases h.at_ with h0 | ⟨b', off', he, hlt, hc⟩
  · exact .inl (by omega)
  · cases he
    refine .inr ⟨b, _, rfl, hlt, fun i hi => ?_⟩
    have hne : ¬ cap = k := by omega
    rw [if_neg hne, Nat.add_assoc, hc (k + i) (by omega), List.getD_eq_getElem?_getD, List.getD_eq_getElem?_getD, List.getElem?_drop]
/-- The beginning of a slice of bytes. -/
theorem IsB.head {w : World} {b off len cap : Nat} {R : List UInt8} (h : IsB w (some ⟨b, off, none⟩) len cap R) (k : Nat) (hk : k ≤ len) :
    IsB w (some ⟨b, off, none⟩) k cap (R.take k) := by
  have hr := h.room
  refine ⟨by rw [List.length_take, h.length]; omega, ?_, (fun e => by cases e), ⟨by omega, by omega⟩, by have := h.most; omega⟩
  rcases h.at_ with h0 | ⟨b', off', he, hlt, hc⟩
  · exact .inl (by omega)
  · cases he
    refine .inr ⟨b, _, rfl, hlt, fun i hi => ?_⟩
    rw [hc i (by omega), List.getD_eq_getElem?_getD, List.getD_eq_getElem?_getD, List.getElem?_take_of_lt hi]

theorem if_some {b off off' cap k : Nat} : (if cap = k then some (⟨b, off, none⟩ : Addr) else some ⟨b, off', none⟩) = some ⟨b, if cap = k then off else off', none⟩ := by split <;> rfl

theorem giveUp_any (w : World) : Calls Try.prog 30 #[] w fun e w' => e = .panicked Fell ∧ w = w' := by
  go_enter Try.func30, Try.ntmps30
  go_wp2
  exact ⟨rfl, rfl, rfl⟩

end Go.Proofs.Ythjihibocobndaa
