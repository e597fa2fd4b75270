/-
  The law's awake: the document's example. No conditions.
-/
import Derived.Test.YtokbakpbhpknfaaDvRReadW
import Derived.Test.YtokbakpbhpknfaaDvRSame
namespace Go.Proofs.Ytokbakpbhpknfaa
open Go.RowKit
set_option linter.unusedVariables false

theorem awake_form : formB ⟨#[97]⟩ [] [] ⟨#[120]⟩ ⟨#[]⟩ = true := by decide +kernel
theorem awake_text : bs (dtextB ⟨#[97]⟩ [] [] ⟨#[120]⟩ ⟨#[]⟩) = ⟨#[68, 101, 114, 105, 118, 101, 40, 34, 97, 34, 44, 91, 93, 44, 91, 93, 44, 34, 120, 34, 44, 34, 34, 41]⟩ := by
  apply ByteArray.ext; decide +kernel

set_option maxRecDepth 100000 in
set_option maxHeartbeats 4000000 in
theorem awake_any (w : World) : Calls Try.prog 5 #[] w fun e w' => e = .returned (.bool true) ∧ Below w.heap.size w w' := by
  have hk := dtext_any ⟨#[97]⟩ ⟨#[120]⟩ ⟨#[]⟩ none none 0 0 0 0 [] [] w (isS_nil w) (isS_nil w) (fun s hs => by cases hs) (fun s hs => by cases hs) (by decide) (by decide) (by decide)
  have HK := Lib.hid hk
  clear hk
  go_enter Try.func5, Try.ntmps5
  go_wp2_with fail
  refine HK.out.mono ?_
  rintro e w2 ⟨p1, _, b2⟩
  have he := p1 awake_form
  rw [awake_text] at he
  subst he
  have B2 := Lib.hid b2
  clear p1 b2 HK
  go_wp2_with fail
  go_ret
  exact ⟨rfl, B2.out⟩

/-- What a derivation that was read has. -/
theorem readD_small (R : List UInt8) : (readD R).1.drvs.length ≤ R.length ∧ (readD R).1.srcs.length ≤ R.length := by
  unfold readD
  split
  · rename_i D h
    have := dwhole_small h
    split
    · exact ⟨this.2.2.2.2.2.1, this.2.2.2.2.2.2⟩
    · exact ⟨Nat.zero_le _, Nat.zero_le _⟩
  · exact ⟨Nat.zero_le _, Nat.zero_le _⟩
/-- A new variable that is given a derivation at once. -/
theorem var_drv {w : World} (L : List Value) :
    Has ((w.alloc (.cells #[.string ⟨#[]⟩, .slice none 0 0, .slice none 0 0, .string ⟨#[]⟩, .string ⟨#[]⟩] 24)).setRow w.heap.size L.toArray) w.heap.size L 24 ∧
    Below w.heap.size w ((w.alloc (.cells #[.string ⟨#[]⟩, .slice none 0 0, .slice none 0 0, .string ⟨#[]⟩, .string ⟨#[]⟩] 24)).setRow w.heap.size L.toArray) :=
  ⟨(Has.new w dzL _).row L, below_setRow ((Below.refl _ _).alloc (Nat.le_refl _) _) (Nat.le_refl _) _⟩
end Go.Proofs.Ytokbakpbhpknfaa
