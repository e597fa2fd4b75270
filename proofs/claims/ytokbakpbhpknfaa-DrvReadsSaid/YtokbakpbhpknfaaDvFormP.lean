/-
  Which derivations are right: the contract of the program's Form. Conditions: bounds on the texts' sizes.
-/
import Derived.Test.YtokbakpbhpknfaaDvForm
namespace Go.Proofs.Ytokbakpbhpknfaa
open Go.RowKit
set_option linter.unusedVariables false

/-- The cells of a derivation. -/
def dvL (s0 : ByteArray) (a1 : Option Addr) (n1 c1 : Nat) (a2 : Option Addr) (n2 c2 : Nat) (s3 s4 : ByteArray) : List Value := [.string s0, .slice a1 n1 c1, .slice a2 n2 c2, .string s3, .string s4]

set_option maxRecDepth 100000 in
set_option maxHeartbeats 16000000 in
theorem dform_any (s0 s3 s4 : ByteArray) (a1 a2 : Option Addr) (n1 c1 n2 c2 : Nat) (l1 l2 : List ByteArray) (w : World) (h1 : IsS w a1 n1 c1 l1) (h2 : IsS w a2 n2 c2 l2)
    (z1 : ∀ s ∈ l1, s.size ≤ 140737488355328) (z2 : ∀ s ∈ l2, s.size ≤ 140737488355328) (z0 : s0.size ≤ 140737488355328) (z3 : s3.size ≤ 140737488355328) (z4 : s4.size ≤ 140737488355328) :
    Calls Try.prog 6 #[.agg #[.string s0, .slice a1 n1 c1, .slice a2 n2 c2, .string s3, .string s4]] w fun e w' => e = .returned (.bool (formB s0 l1 l2 s3 s4)) ∧ Below w.heap.size w w' := by
  obtain ⟨r, hr⟩ : ∃ r, r = formB s0 l1 l2 s3 s4 := ⟨_, rfl⟩
  rw [← hr]
  unfold formB at hr
  obtain ⟨b0, hb0⟩ : ∃ b, b = dName s0.data.toList := ⟨_, rfl⟩
  obtain ⟨b1, hb1⟩ : ∃ b, b = needT dPath l1 := ⟨_, rfl⟩
  obtain ⟨b2, hb2⟩ : ∃ b, b = needT isP l2 := ⟨_, rfl⟩
  obtain ⟨b4, hb4⟩ : ∃ b, b = dFixed s4.data.toList := ⟨_, rfl⟩
  rw [← hb0, ← hb1, ← hb2, ← hb4] at hr
  have k0 := fun w => disname_any s0 w (by omega)
  rw [← hb0] at k0
  have k1 := fun (w : World) (h : IsS w a1 n1 c1 l1) => needs_drvs a1 n1 c1 l1 w h z1
  rw [← hb1] at k1
  have k2 := fun (w : World) (h : IsS w a2 n2 c2 l2) => needs_srcs a2 n2 c2 l2 w h z2
  rw [← hb2] at k2
  have k4 := fun w => isfixed_any s4 w z4
  rw [← hb4] at k4
  have K0 := Lib.hid k0
  have K1 := Lib.hid k1
  have K2 := Lib.hid k2
  have K4 := Lib.hid k4
  have HR := Lib.hid hr
  have I1 := Lib.hid h1
  have I2 := Lib.hid h2
  clear k0 k1 k2 k4 hb0 hb1 hb2 hb4 hr h1 h2 z1 z2
  go_enter Try.func6, Try.ntmps6
  go_upto_region 1 with fail
  obtain ⟨w1, hw1⟩ : ∃ w1, w1 = w.alloc (.cells #[.string s0, .slice a1 n1 c1, .slice a2 n2 c2, .string s3, .string s4] 24) := ⟨_, rfl⟩
  have g1 : Has w1 w.heap.size [.string s0, .slice a1 n1 c1, .slice a2 n2 c2, .string s3, .string s4] 24 := by rw [hw1]; exact Has.new w _ _
  have bl1 : Below w.heap.size w w1 := by rw [hw1]; exact (Below.refl _ _).alloc (Nat.le_refl _) _
  rw [← hw1]
  obtain ⟨G, hG⟩ : ∃ G, G = w.heap.size := ⟨_, rfl⟩
  rw [← hG] at g1 bl1 ⊢
  have HG := Lib.hid hG
  have G1 := Lib.hid g1
  have B1 := Lib.hid bl1
  have q0 := g1.cellAt (i := 0) rfl
  have q1 := g1.cellAt (i := 1) rfl
  have q2 := g1.cellAt (i := 2) rfl
  have q3 := g1.cellAt (i := 3) rfl
  have q4 := g1.cellAt (i := 4) rfl
  clear hw1 g1 bl1 hG
  cases b0 with
  | false =>
    go_wp2_with fail
    refine (K0.out _).mono ?_
    rintro e w2 ⟨rfl, rfl⟩
    go_wp2_with fail
    go_ret
    exact ⟨by rw [HR.out]; rfl, by rw [← HG.out]; exact B1.out⟩
  | true =>
    go_wp2_with fail
    refine (K0.out _).mono ?_
    rintro e w2 ⟨rfl, rfl⟩
    cases b1 with
    | false =>
      go_wp2_with fail
      refine (K1.out _ (I1.out.later (by rw [← HG.out]; exact B1.out))).mono ?_
      rintro e w2 ⟨rfl, x2⟩
      have B2 : Hid (Below G w w2) := Lib.hid (B1.out.trans (x2.mono (Nat.le_of_lt G1.out.lt)))
      clear x2 q0 q1 q2 q3 q4
      go_wp2_with fail
      go_ret
      exact ⟨by rw [HR.out]; rfl, by rw [← HG.out]; exact B2.out⟩
    | true =>
      go_wp2_with fail
      refine (K1.out _ (I1.out.later (by rw [← HG.out]; exact B1.out))).mono ?_
      rintro e w2 ⟨rfl, x2⟩
      have B2 : Hid (Below G w w2) := Lib.hid (B1.out.trans (x2.mono (Nat.le_of_lt G1.out.lt)))
      have g2 := G1.out.below x2 G1.out.lt
      clear x2 q0 q1 q2 q3 q4 G1 B1
      have G2 := Lib.hid g2
      have q2 := g2.cellAt (i := 2) rfl
      have q3 := g2.cellAt (i := 3) rfl
      have q4 := g2.cellAt (i := 4) rfl
      clear g2
      cases b2 with
      | false =>
        go_wp2_with fail
        refine (K2.out _ (I2.out.later (by rw [← HG.out]; exact B2.out))).mono ?_
        rintro e w3 ⟨rfl, x3⟩
        have B3 : Hid (Below G w w3) := Lib.hid (B2.out.trans (x3.mono (Nat.le_of_lt G2.out.lt)))
        clear x3 q2 q3 q4
        go_wp2_with fail
        go_ret
        exact ⟨by rw [HR.out]; rfl, by rw [← HG.out]; exact B3.out⟩
      | true =>
        go_wp2_with fail
        refine (K2.out _ (I2.out.later (by rw [← HG.out]; exact B2.out))).mono ?_
        rintro e w3 ⟨rfl, x3⟩
        have B3 : Hid (Below G w w3) := Lib.hid (B2.out.trans (x3.mono (Nat.le_of_lt G2.out.lt)))
        have g3 := G2.out.below x3 G2.out.lt
        clear x3 q2 q3 q4 G2 B2
        have G3 := Lib.hid g3
        have q3 := g3.cellAt (i := 3) rfl
        have q4 := g3.cellAt (i := 4) rfl
        clear g3
        by_cases h6 : s3.size ≤ 6000
        · have h6' : (s3.size : Int) ≤ 6000 := by omega
          go_wp2_with fail
          refine (K4.out _).mono ?_
          rintro e w4 ⟨rfl, x4⟩
          have B4 : Hid (Below G w w4) := Lib.hid (B3.out.trans (x4.mono (Nat.le_of_lt G3.out.lt)))
          clear x4 q3 q4
          have HR' : Hid (r = b4) := Lib.hid (by rw [HR.out]; simp [h6])
          go_wp2_with fail
          go_ret
          exact ⟨by rw [HR'.out]; rfl, by rw [← HG.out]; exact B4.out⟩
        · have h6' : ¬ (s3.size : Int) ≤ 6000 := by omega
          have HR' : Hid (r = false) := Lib.hid (by rw [HR.out]; simp [h6])
          go_wp2_with fail
          go_ret
          exact ⟨by rw [HR'.out]; rfl, by rw [← HG.out]; exact B3.out⟩
end Go.Proofs.Ytokbakpbhpknfaa
