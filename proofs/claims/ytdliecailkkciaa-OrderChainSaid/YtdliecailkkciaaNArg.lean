/-
  Integers that come in: as bytes and numbers. No program text.
-/
import Derived.ChangeShapes
import Derived.Test.YtdliecailkkciaaRows
namespace Go.Proofs.Ytdliecailkkciaa
open Go.ChangeShapes
set_option linter.unusedVariables false

theorem wf_u8 {a : Int} (h : (Lit.int .u8 a).wf = true) : ∃ z : UInt8, a = (z.toNat : Int) := by
  simp only [Lit.wf, Bool.and_eq_true, decide_eq_true_eq] at h
  have hmin : IntKind.u8.min = 0 := rfl
  have hmax : IntKind.u8.max = 255 := rfl
  refine ⟨UInt8.ofNat a.toNat, ?_⟩
  rw [UInt8.toNat_ofNat']
  omega
theorem wf_u16 {a : Int} (h : (Lit.int .u16 a).wf = true) : ∃ z : Nat, z < 65536 ∧ a = (z : Int) := by
  simp only [Lit.wf, Bool.and_eq_true, decide_eq_true_eq] at h
  have hmin : IntKind.u16.min = 0 := rfl
  have hmax : IntKind.u16.max = 65535 := rfl
  exact ⟨a.toNat, by omega, by omega⟩

end Go.Proofs.Ytdliecailkkciaa
