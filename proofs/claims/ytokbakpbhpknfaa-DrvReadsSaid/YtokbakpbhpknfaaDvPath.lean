/-
  Which texts are a derivation's path, and which its digest: the program's helpers. Conditions: bounds on a text's size.
-/
import Derived.Test.YtokbakpbhpknfaaDvName
import Derived.Deep.RegionHeld3
namespace Go.Proofs.Ytokbakpbhpknfaa
open Go.RowKit
set_option linter.unusedVariables false

set_option maxRecDepth 100000 in
set_option maxHeartbeats 8000000 in
theorem ispath_any (s : ByteArray) (w : World) (hs : s.size ≤ 4611686018427387904) :
    Calls Try.prog 15 #[.string s] w fun e w' => e = .returned (.bool (dPath s.data.toList)) ∧ Below w.heap.size w w' := by
  obtain ⟨r, hr⟩ : ∃ r, r = dPath s.data.toList := ⟨_, rfl⟩
  rw [← hr]
  have HR := Lib.hid hr
  clear hr
  go_enter Try.func15, Try.ntmps15
  go_wp2_with fail
  refine (Nam.parse_any s _).mono ?_
  rintro e w1 hq
  have b1 := hq.2.2
  have hR := HR.out
  unfold dPath at hR
  cases ho : Nam.parseP s.data.toList with
  | none =>
    rw [ho] at hR
    have hf := hq.2.1 ho
    subst hf
    have hc := Nam.c20 Nam.zU (by rfl)
    obtain ⟨C, hC⟩ : ∃ C, C = (Nam.zU.map Nam.bv).toArray := ⟨_, rfl⟩
    rw [← hC] at hc ⊢
    have I1 := Lib.hid hc.info
    have I2 := Lib.hid hc.size
    have I3 := Lib.hid hc.one
    have B1 := Lib.hid b1
    have HR' := Lib.hid hR
    clear hq hC hc b1 hR ho HR
    go_wp2_with (refine wpList_store_row rfl 54 _ _ rfl w1.heap.size C rfl rfl 54 _ (heap_alloc_new w1 _) I1.out I2.out.symm I3.out ?_)
    go_ret
    exact ⟨by rw [HR'.out]; rfl, below_setRow (B1.out.alloc B1.out.size _) B1.out.size _⟩
  | some p =>
    obtain ⟨D, n⟩ := p
    rw [ho] at hR
    obtain ⟨hD, rfl⟩ := hq.1 D n ho
    have hns : n.length ≤ 4611686018427387904 := by
      unfold Nam.parseP at ho
      split at ho
      · obtain ⟨d, _, hd⟩ := Option.map_eq_some_iff.1 ho
        simp only [Prod.mk.injEq] at hd
        rw [← hd.2, List.length_drop]
        have e : s.data.toList.length = s.size := by simp
        omega
      · cases ho
    obtain ⟨N, hN⟩ : ∃ N : ByteArray, N = ⟨n.toArray⟩ := ⟨_, rfl⟩
    have hNs : N.size ≤ 9223372036854775807 := by
      have : N.size = n.length := by rw [hN]; show n.toArray.size = _; simp
      omega
    have hNl : N.data.toList = n := by rw [hN]
    rw [← hN]
    have hk := suffix_any N
    have hR : r = endsD n := hR
    rw [hNl] at hk
    have HR2 := Lib.hid hR
    have HK := Lib.hid (fun w => hk w hNs)
    have hc := Nam.c20 D hD
    obtain ⟨C, hC⟩ : ∃ C, C = (D.map Nam.bv).toArray := ⟨_, rfl⟩
    rw [← hC] at hc ⊢
    have I1 := Lib.hid hc.info
    have I2 := Lib.hid hc.size
    have I3 := Lib.hid hc.one
    have B1 := Lib.hid b1
    clear hq hC hc b1 hR ho HR hN hNl hNs hns hk hD
    go_wp2_with (refine wpList_store_row rfl 54 _ _ rfl w1.heap.size C rfl rfl 54 _ (heap_alloc_new w1 _) I1.out I2.out.symm I3.out ?_)
    refine (HK.out _).mono ?_
    rintro e w2 ⟨rfl, rfl⟩
    go_wp2_with fail
    go_ret
    exact ⟨by rw [HR2.out]; rfl, below_setRow (B1.out.alloc B1.out.size _) B1.out.size _⟩

set_option maxRecDepth 100000 in
set_option maxHeartbeats 8000000 in
theorem isfixed_any (s : ByteArray) (w : World) (hs : s.size ≤ 140737488355328) :
    Calls Try.prog 17 #[.string s] w fun e w' => e = .returned (.bool (dFixed s.data.toList)) ∧ Below w.heap.size w w' := by
  obtain ⟨r, hr⟩ : ∃ r, r = dFixed s.data.toList := ⟨_, rfl⟩
  rw [← hr]
  unfold dFixed at hr
  have hem : s.toList.isEmpty = s.data.toList.isEmpty := by rw [ByteArray.toList_eq]
  cases h0 : s.data.toList.isEmpty with
  | true =>
    rw [h0] at hr hem
    have HR := Lib.hid hr
    clear hr h0
    go_enter Try.func17, Try.ntmps17
    go_wp2_with fail
    go_ret
    exact ⟨by rw [HR.out]; rfl, Below.refl _ _⟩
  | false =>
    rw [h0, Bool.false_or] at hr
    rw [h0] at hem
    have HR := Lib.hid hr
    clear hr h0
    go_enter Try.func17, Try.ntmps17
    go_wp2_with fail
    refine (Nam.readhex_any s _ hs).mono ?_
    rintro e w1 ⟨q1, q2, b1⟩
    have hR := HR.out
    cases ho : Nam.unhex s.data.toList with
    | none =>
      rw [ho] at hR
      have hf := q2 ho
      subst hf
      have B1 := Lib.hid b1
      have HR' := Lib.hid hR
      clear q1 q2 b1 hR ho HR
      go_wp2_with fail
      go_ret
      exact ⟨by rw [HR'.out]; rfl, B1.out⟩
    | some p =>
      rw [ho] at hR
      obtain ⟨g, rfl, _⟩ := q1 p ho
      have hR : r = (p.length == 32) := hR
      have hz : ((p.length : Int) == 32) = r := by rw [hR, Bool.eq_iff_iff, beq_iff_eq, beq_iff_eq]; omega
      have B1 := Lib.hid b1
      have HR' := Lib.hid hz
      clear q1 q2 b1 hR ho HR hz
      go_wp2_with fail
      go_ret
      exact ⟨by rw [← HR'.out]; rfl, B1.out⟩
end Go.Proofs.Ytokbakpbhpknfaa
