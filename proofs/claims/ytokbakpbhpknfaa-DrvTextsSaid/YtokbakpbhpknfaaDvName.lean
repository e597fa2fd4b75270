/-
  Which names, paths and digests a derivation may have: the program's helpers, and the reference's 'ends'. Conditions: bounds on a text's size.
-/
import Derived.Test.YtokbakpbhpknfaaDvMath
import Derived.Test.YtokbakpbhpknfaaBut
import Derived.Test.YtokbakpbhpknfaaShelf
import Derived.Test.YtokbakpbhpknfaaTree
import Derived.Test.YtokbakpbhpknfaaPathN
import Derived.Test.YtokbakpbhpknfaaReadHex
namespace Go.Proofs.Ytokbakpbhpknfaa
open Go.RowKit
set_option linter.unusedVariables false

def dExt : List UInt8 := [46, 100, 114, 118]
def endsD (l : List UInt8) : Bool := dExt.isSuffixOf l
def dName (l : List UInt8) : Bool := Nam.isName l && decide (l.length ≤ 36) && !endsD l
def dPath (l : List UInt8) : Bool := match Nam.parseP l with | some (_, n) => endsD n | none => false
def dFixed (l : List UInt8) : Bool := l.isEmpty || (match Nam.unhex l with | some p => p.length == 32 | none => false)
theorem dName_eq (l : List UInt8) : dName l = (Nam.isName l && decide (l.length ≤ 36) && !endsD l) := rfl

/-- The shelf's HasSuffix at '.drv'. -/
theorem suffix_any (s : ByteArray) (w : World) (hs : s.size ≤ 9223372036854775807) : Calls Try.prog 31 #[.string s, .string ⟨#[46, 100, 114, 118]⟩] w fun e w' => e = .returned (.bool (endsD s.data.toList)) ∧ w' = w :=
  Try.strings_HasSuffix s ⟨#[46, 100, 114, 118]⟩ w hs

set_option maxRecDepth 100000 in
set_option maxHeartbeats 8000000 in
theorem disname_any (s : ByteArray) (w : World) (hs : s.size ≤ 9223372036854775807) :
    Calls Try.prog 13 #[.string s] w fun e w' => e = .returned (.bool (dName s.data.toList)) ∧ w = w' := by
  have hlen : s.data.toList.length = s.size := by simp
  rw [dName_eq, hlen]
  clear hlen
  obtain ⟨b1, h1⟩ : ∃ b, b = Nam.isName s.data.toList := ⟨_, rfl⟩
  obtain ⟨b3, h3⟩ : ∃ b, b = endsD s.data.toList := ⟨_, rfl⟩
  rw [← h1, ← h3]
  have hk := Nam.name_any s w
  rw [← h1] at hk
  have hk3 := suffix_any s w hs
  rw [← h3] at hk3
  have HK := Lib.hid hk
  have HK3 := Lib.hid hk3
  clear hk hk3 h1 h3
  cases b1 with
  | false =>
    go_enter Try.func13, Try.ntmps13
    go_wp2_with fail
    refine HK.out.mono ?_
    rintro e w1 ⟨rfl, rfl⟩
    go_wp2_with fail
    go_ret
    exact ⟨by simp, rfl⟩
  | true =>
    by_cases h2 : s.size ≤ 36
    · have h2' : (s.size : Int) ≤ 36 := by omega
      go_enter Try.func13, Try.ntmps13
      go_wp2_with fail
      refine HK.out.mono ?_
      rintro e w1 ⟨rfl, rfl⟩
      go_wp2_with fail
      refine HK3.out.mono ?_
      rintro e w2 ⟨rfl, rfl⟩
      go_wp2_with fail
      go_ret
      exact ⟨by first | (simp; done) | simp [h2], rfl⟩
    · have h2' : ¬ (s.size : Int) ≤ 36 := by omega
      go_enter Try.func13, Try.ntmps13
      go_wp2_with fail
      refine HK.out.mono ?_
      rintro e w1 ⟨rfl, rfl⟩
      go_wp2_with fail
      go_ret
      exact ⟨by first | (simp; done) | simp [h2], rfl⟩

set_option maxRecDepth 100000 in
set_option maxHeartbeats 8000000 in
theorem ends_any (s : ByteArray) (w : World) (hm : s.size ≤ 9223372036854775807) :
    Calls Try.prog 20 #[.string s] w fun e w' => e = .returned (.bool (endsD s.data.toList)) ∧ w = w' := by
  have hlen : s.data.toList.length = s.size := by simp
  by_cases h : 4 ≤ s.size
  · obtain ⟨X, hX⟩ : ∃ X, X = s.extract (s.size - 4) s.size := ⟨_, rfl⟩
    have hXl : X.data.toList = s.data.toList.drop (s.size - 4) := by
      rw [hX, ByteArray.data_extract, Array.toList_extract, List.extract_eq_take_drop]
      exact List.take_of_length_le (by rw [List.length_drop, hlen]; omega)
    have he : (X.toList == [46, 100, 114, 118]) = endsD s.data.toList := by
      rw [ByteArray.toList_eq, hXl]
      unfold endsD
      rw [Bool.eq_iff_iff, beq_iff_eq, List.isSuffixOf_iff_suffix]
      show _ = dExt ↔ _
      constructor
      · intro h; rw [← h]; exact List.drop_suffix _ _
      · rintro ⟨t, ht⟩
        have : t.length = s.size - 4 := by have := congrArg List.length ht; simp [dExt] at this; omega
        rw [← ht, ← this]; simp
    have HE := Lib.hid he
    have h4 : (4 : Int) ≤ (s.size : Int) := by omega
    have hw : IntKind.i64.wrap ((s.size : Int) - 4) = ((s.size - 4 : Nat) : Int) := by rw [IntKind.wrap_i64]; omega
    obtain ⟨q, hq⟩ : ∃ q, q = s.size - 4 := ⟨_, rfl⟩
    have hql : q ≤ s.size := by omega
    rw [← hq] at hw hX
    have HX := Lib.hid hX
    clear he hXl hlen hX hq
    go_enter Try.func20, Try.ntmps20
    go_wp2_with fail
    go_ret
    exact ⟨by rw [← HE.out, HX.out]; rfl, rfl⟩
  · have he : endsD s.data.toList = false := by
      unfold endsD
      rw [Bool.eq_false_iff]; intro hc
      rw [List.isSuffixOf_iff_suffix] at hc
      have := hc.length_le
      simp [dExt] at this; omega
    have h4 : ¬ (4 : Int) ≤ (s.size : Int) := by omega
    rw [he]
    clear he hlen
    go_enter Try.func20, Try.ntmps20
    go_wp2_with fail
    go_ret
    exact ⟨rfl, rfl⟩
end Go.Proofs.Ytokbakpbhpknfaa
