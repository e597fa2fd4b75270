/-
  Which names, paths and digests a derivation may have: the program's helpers, and the reference's 'ends'. Conditions: bounds on a text's size.
-/
import Derived.Test.YtokbakpbhpknfaaGreatDoorDvMath
import Derived.Test.YtokbakpbhpknfaaGreatDoorBut
import Derived.Test.YtokbakpbhpknfaaGreatDoorShelf
import Derived.Test.YtokbakpbhpknfaaGreatDoorTreeN
import Derived.Test.YtokbakpbhpknfaaGreatDoorPathN
import Derived.Test.YtokbakpbhpknfaaGreatDoorDecN
import Derived.Deep.RegionHeld3
namespace Go.Proofs.YtokbakpbhpknfaaGreatDoor
open Go.RowKit
set_option linter.unusedVariables false

def dExt : List UInt8 := [46, 100, 114, 118]
def endsD (l : List UInt8) : Bool := dExt.isSuffixOf l
def dName (l : List UInt8) : Bool := Nam.isName l && decide (l.length ≤ 36) && !endsD l
def dPath (l : List UInt8) : Bool := match Nam.parseP l with | some (_, n) => endsD n | none => false
def dFixed (l : List UInt8) : Bool := l.isEmpty || (match Nam.unhex l with | some p => p.length == 32 | none => false)
theorem dName_eq (l : List UInt8) : dName l = (Nam.isName l && decide (l.length ≤ 36) && !endsD l) := rfl

/-- The shelf's HasSuffix at '.drv'. -/
theorem suffix_any (s : ByteArray) (w : World) (hs : s.size ≤ 9223372036854775807) : Calls Tryz.prog 32 #[.string s, .string ⟨#[46, 100, 114, 118]⟩] w fun e w' => e = .returned (.bool (endsD s.data.toList)) ∧ w' = w :=
  Tryz.strings_HasSuffix s ⟨#[46, 100, 114, 118]⟩ w hs

set_option maxRecDepth 100000 in
set_option maxHeartbeats 8000000 in
theorem disname_any (s : ByteArray) (w : World) (hs : s.size ≤ 9223372036854775807) :
    Calls Tryz.prog 41 #[.string s] w fun e w' => e = .returned (.bool (dName s.data.toList)) ∧ w = w' := by
  have hlen : s.data.toList.length = s.size := by simp
  rw [dName_eq, hlen]
  clear hlen
  obtain ⟨b1, h1⟩ : ∃ b, b = Nam.isName s.data.toList := ⟨_, rfl⟩
  obtain ⟨b3, h3⟩ : ∃ b, b = endsD s.data.toList := ⟨_, rfl⟩
  rw [← h1, ← h3]
  have hk := Nam.name_any s w
  rw [← h1] at hk
  have hk3 := suffix_any s w hs
  rw [← h3] at hk3
  have HK := Lib.hid hk
  have HK3 := Lib.hid hk3
  clear hk hk3 h1 h3
  cases b1 with
  | false =>
    go_enter Tryz.func41, Tryz.ntmps41
    go_wp2_with fail
    refine HK.out.mono ?_
    rintro e w1 ⟨rfl, rfl⟩
    go_wp2_with fail
    go_ret
    exact ⟨by simp, rfl⟩
  | true =>
    by_cases h2 : s.size ≤ 36
    · have h2' : (s.size : Int) ≤ 36 := by omega
      go_enter Tryz.func41, Tryz.ntmps41
      go_wp2_with fail
      refine HK.out.mono ?_
      rintro e w1 ⟨rfl, rfl⟩
      go_wp2_with fail
      refine HK3.out.mono ?_
      rintro e w2 ⟨rfl, rfl⟩
      go_wp2_with fail
      go_ret
      exact ⟨by first | (simp; done) | simp [h2], rfl⟩
    · have h2' : ¬ (s.size : Int) ≤ 36 := by omega
      go_enter Tryz.func41, Tryz.ntmps41
      go_wp2_with fail
      refine HK.out.mono ?_
      rintro e w1 ⟨rfl, rfl⟩
      go_wp2_with fail
      go_ret
      exact ⟨by first | (simp; done) | simp [h2], rfl⟩

set_option maxRecDepth 100000 in
set_option maxHeartbeats 8000000 in
theorem ends_any (s : ByteArray) (w : World) (hm : s.size ≤ 9223372036854775807) :
    Calls Tryz.prog 26 #[.string s] w fun e w' => e = .returned (.bool (endsD s.data.toList)) ∧ w = w' := by
  have hlen : s.data.toList.length = s.size := by simp
  by_cases h : 4 ≤ s.size
  · obtain ⟨X, hX⟩ : ∃ X, X = s.extract (s.size - 4) s.size := ⟨_, rfl⟩
    have hXl : X.data.toList = s.data.toList.drop (s.size - 4) := by
      rw [hX, ByteArray.data_extract, Array.toList_extract, List.extract_eq_take_drop]
      exact List.take_of_length_le (by rw [List.length_drop, hlen]; omega)
    have he : (X.toList == [46, 100, 114, 118]) = endsD s.data.toList := by
      rw [ByteArray.toList_eq, hXl]
      unfold endsD
      rw [Bool.eq_iff_iff, beq_iff_eq, List.isSuffixOf_iff_suffix]
      show _ = dExt ↔ _
      constructor
      · intro h; rw [← h]; exact List.drop_suffix _ _
      · rintro ⟨t, ht⟩
        have : t.length = s.size - 4 := by have := congrArg List.length ht; simp [dExt] at this; omega
        rw [← ht, ← this]; simp
    have HE := Lib.hid he
    have h4 : (4 : Int) ≤ (s.size : Int) := by omega
    have hw : IntKind.i64.wrap ((s.size : Int) - 4) = ((s.size - 4 : Nat) : Int) := by rw [IntKind.wrap_i64]; omega
    obtain ⟨q, hq⟩ : ∃ q, q = s.size - 4 := ⟨_, rfl⟩
    have hql : q ≤ s.size := by omega
    rw [← hq] at hw hX
    have HX := Lib.hid hX
    clear he hXl hlen hX hq
    go_enter Tryz.func26, Tryz.ntmps26
    go_wp2_with fail
    go_ret
    exact ⟨by rw [← HE.out, HX.out]; rfl, rfl⟩
  · have he : endsD s.data.toList = false := by
      unfold endsD
      rw [Bool.eq_false_iff]; intro hc
      rw [List.isSuffixOf_iff_suffix] at hc
      have := hc.length_le
      simp [dExt] at this; omega
    have h4 : ¬ (4 : Int) ≤ (s.size : Int) := by omega
    rw [he]
    clear he hlen
    go_enter Tryz.func26, Tryz.ntmps26
    go_wp2_with fail
    go_ret
    exact ⟨rfl, rfl⟩
end Go.Proofs.YtokbakpbhpknfaaGreatDoor

namespace Go.Proofs.YtokbakpbhpknfaaGreatDoor
open Go.RowKit
set_option linter.unusedVariables false

set_option maxRecDepth 100000 in
set_option maxHeartbeats 8000000 in
theorem ispath_any (s : ByteArray) (w : World) (hs : s.size ≤ 4611686018427387904) :
    Calls Tryz.prog 13 #[.string s] w fun e w' => e = .returned (.bool (dPath s.data.toList)) ∧ Below w.heap.size w w' := by
  obtain ⟨r, hr⟩ : ∃ r, r = dPath s.data.toList := ⟨_, rfl⟩
  rw [← hr]
  have HR := Lib.hid hr
  clear hr
  go_enter Tryz.func13, Tryz.ntmps13
  go_wp2_with fail
  refine (Nam.parse_any s _).mono ?_
  rintro e w1 hq
  have b1 := hq.2.2
  have hR := HR.out
  unfold dPath at hR
  cases ho : Nam.parseP s.data.toList with
  | none =>
    rw [ho] at hR
    have hf := hq.2.1 ho
    subst hf
    have hc := Nam.c20 Nam.zU (by rfl)
    obtain ⟨C, hC⟩ : ∃ C, C = (Nam.zU.map Nam.bv).toArray := ⟨_, rfl⟩
    rw [← hC] at hc ⊢
    have I1 := Lib.hid hc.info
    have I2 := Lib.hid hc.size
    have I3 := Lib.hid hc.one
    have B1 := Lib.hid b1
    have HR' := Lib.hid hR
    clear hq hC hc b1 hR ho HR
    go_wp2_with (refine wpList_store_row rfl 53 _ _ rfl w1.heap.size C rfl rfl 53 _ (heap_alloc_new w1 _) I1.out I2.out.symm I3.out ?_)
    go_ret
    exact ⟨by rw [HR'.out]; rfl, below_setRow (B1.out.alloc B1.out.size _) B1.out.size _⟩
  | some p =>
    obtain ⟨D, n⟩ := p
    rw [ho] at hR
    obtain ⟨hD, rfl⟩ := hq.1 D n ho
    have hns : n.length ≤ 4611686018427387904 := by
      unfold Nam.parseP at ho
      split at ho
      · obtain ⟨d, _, hd⟩ := Option.map_eq_some_iff.1 ho
        simp only [Prod.mk.injEq] at hd
        rw [← hd.2, List.length_drop]
        have e : s.data.toList.length = s.size := by simp
        omega
      · cases ho
    obtain ⟨N, hN⟩ : ∃ N : ByteArray, N = ⟨n.toArray⟩ := ⟨_, rfl⟩
    have hNs : N.size ≤ 9223372036854775807 := by
      have : N.size = n.length := by rw [hN]; show n.toArray.size = _; simp
      omega
    have hNl : N.data.toList = n := by rw [hN]
    rw [← hN]
    have hk := suffix_any N
    have hR : r = endsD n := hR
    rw [hNl] at hk
    have HR2 := Lib.hid hR
    have HK := Lib.hid (fun w => hk w hNs)
    have hc := Nam.c20 D hD
    obtain ⟨C, hC⟩ : ∃ C, C = (D.map Nam.bv).toArray := ⟨_, rfl⟩
    rw [← hC] at hc ⊢
    have I1 := Lib.hid hc.info
    have I2 := Lib.hid hc.size
    have I3 := Lib.hid hc.one
    have B1 := Lib.hid b1
    clear hq hC hc b1 hR ho HR hN hNl hNs hns hk hD
    go_wp2_with (refine wpList_store_row rfl 53 _ _ rfl w1.heap.size C rfl rfl 53 _ (heap_alloc_new w1 _) I1.out I2.out.symm I3.out ?_)
    refine (HK.out _).mono ?_
    rintro e w2 ⟨rfl, rfl⟩
    go_wp2_with fail
    go_ret
    exact ⟨by rw [HR2.out]; rfl, below_setRow (B1.out.alloc B1.out.size _) B1.out.size _⟩

set_option maxRecDepth 100000 in
set_option maxHeartbeats 8000000 in
theorem isfixed_any (s : ByteArray) (w : World) (hs : s.size ≤ 140737488355328) :
    Calls Tryz.prog 44 #[.string s] w fun e w' => e = .returned (.bool (dFixed s.data.toList)) ∧ Below w.heap.size w w' := by
  obtain ⟨r, hr⟩ : ∃ r, r = dFixed s.data.toList := ⟨_, rfl⟩
  rw [← hr]
  unfold dFixed at hr
  have hem : s.toList.isEmpty = s.data.toList.isEmpty := by rw [ByteArray.toList_eq]
  cases h0 : s.data.toList.isEmpty with
  | true =>
    rw [h0] at hr hem
    have HR := Lib.hid hr
    clear hr h0
    go_enter Tryz.func44, Tryz.ntmps44
    go_wp2_with fail
    go_ret
    exact ⟨by rw [HR.out]; rfl, Below.refl _ _⟩
  | false =>
    rw [h0, Bool.false_or] at hr
    rw [h0] at hem
    have HR := Lib.hid hr
    clear hr h0
    go_enter Tryz.func44, Tryz.ntmps44
    go_wp2_with fail
    refine (Nam.readhex_any s _ hs).mono ?_
    rintro e w1 ⟨q1, q2, b1⟩
    have hR := HR.out
    cases ho : Nam.unhex s.data.toList with
    | none =>
      rw [ho] at hR
      have hf := q2 ho
      subst hf
      have B1 := Lib.hid b1
      have HR' := Lib.hid hR
      clear q1 q2 b1 hR ho HR
      go_wp2_with fail
      go_ret
      exact ⟨by rw [HR'.out]; rfl, B1.out⟩
    | some p =>
      rw [ho] at hR
      obtain ⟨g, rfl, _⟩ := q1 p ho
      have hR : r = (p.length == 32) := hR
      have hz : ((p.length : Int) == 32) = r := by rw [hR, Bool.eq_iff_iff, beq_iff_eq, beq_iff_eq]; omega
      have B1 := Lib.hid b1
      have HR' := Lib.hid hz
      clear q1 q2 b1 hR ho HR hz
      go_wp2_with fail
      go_ret
      exact ⟨by rw [← HR'.out]; rfl, B1.out⟩
end Go.Proofs.YtokbakpbhpknfaaGreatDoor
