/-
  Which derivations are right: the contract of the reference's Form. Conditions: bounds on the texts' sizes.
-/
import Derived.Test.YtokbakpbhpknfaaGreatDoorDvRPaths
import Derived.Test.YtokbakpbhpknfaaGreatDoorDvFormN
namespace Go.Proofs.YtokbakpbhpknfaaGreatDoor
open Go.RowKit
set_option linter.unusedVariables false

theorem dFixed_empty {l : List UInt8} (h : l.isEmpty = true) : dFixed l = true := by unfold dFixed; rw [h]; rfl
theorem dFixed_none {l : List UInt8} (h : l.isEmpty = false) (h2 : Nam.unhex l = none) : dFixed l = false := by unfold dFixed; rw [h, h2]; rfl
theorem dFixed_some {l p : List UInt8} (h : l.isEmpty = false) (h2 : Nam.unhex l = some p) : dFixed l = (p.length == 32) := by unfold dFixed; rw [h, h2]; rfl

set_option maxRecDepth 100000 in
set_option maxHeartbeats 20000000 in
theorem rform_any (s0 s3 s4 : ByteArray) (a1 a2 : Option Addr) (n1 c1 n2 c2 : Nat) (l1 l2 : List ByteArray) (w : World) (h1 : IsS w a1 n1 c1 l1) (h2 : IsS w a2 n2 c2 l2)
    (z1 : ∀ s ∈ l1, s.size ≤ 140737488355328) (z2 : ∀ s ∈ l2, s.size ≤ 140737488355328) (z0 : s0.size ≤ 140737488355328) (z3 : s3.size ≤ 140737488355328) (z4 : s4.size ≤ 140737488355328) :
    Calls Tryz.prog 11 #[.agg #[.string s0, .slice a1 n1 c1, .slice a2 n2 c2, .string s3, .string s4]] w fun e w' => e = .returned (.bool (formB s0 l1 l2 s3 s4)) ∧ Below w.heap.size w w' := by
  obtain ⟨r, hr⟩ : ∃ r, r = formB s0 l1 l2 s3 s4 := ⟨_, rfl⟩
  rw [← hr]
  unfold formB at hr
  rw [dName_eq, show s0.data.toList.length = s0.size by simp] at hr
  obtain ⟨b0, hb0⟩ : ∃ b, b = Nam.isName s0.data.toList := ⟨_, rfl⟩
  obtain ⟨be, hbe⟩ : ∃ b, b = endsD s0.data.toList := ⟨_, rfl⟩
  obtain ⟨b1, hb1⟩ : ∃ b, b = needT dPath l1 := ⟨_, rfl⟩
  obtain ⟨b2, hb2⟩ : ∃ b, b = needT isP l2 := ⟨_, rfl⟩
  obtain ⟨b4, hb4⟩ : ∃ b, b = dFixed s4.data.toList := ⟨_, rfl⟩
  rw [← hb0, ← hb1, ← hb2, ← hb4, ← hbe] at hr
  have k0 := fun w => Nam.rname_any s0 w z0
  rw [← hb0] at k0
  have ke := fun w => ends_any s0 w (by omega)
  rw [← hbe] at ke
  have k1 := fun (w : World) (h : IsS w a1 n1 c1 l1) => rpaths_any true a1 n1 c1 l1 w h z1
  rw [if_pos rfl, ← hb1] at k1
  have k2 := fun (w : World) (h : IsS w a2 n2 c2 l2) => rpaths_any false a2 n2 c2 l2 w h z2
  rw [if_neg (by decide), ← hb2] at k2
  have k4 := fun w => Nam.rreadhex_any s4 w z4
  have K0 := Lib.hid k0
  have KE := Lib.hid ke
  have K1 := Lib.hid k1
  have K2 := Lib.hid k2
  have K4 := Lib.hid k4
  have HR := Lib.hid hr
  have HB4 := Lib.hid hb4
  have I1 := Lib.hid h1
  have I2 := Lib.hid h2
  have hem : s4.toList.isEmpty = s4.data.toList.isEmpty := by rw [ByteArray.toList_eq]
  clear k0 k1 k2 k4 ke hb0 hb1 hb2 hb4 hbe hr h1 h2 z1 z2
  go_enter Tryz.func11, Tryz.ntmps11
  go_upto_region 1 with fail
  obtain ⟨w1, hw1⟩ : ∃ w1, w1 = w.alloc (.cells #[.string s0, .slice a1 n1 c1, .slice a2 n2 c2, .string s3, .string s4] 24) := ⟨_, rfl⟩
  have g1 : Has w1 w.heap.size [.string s0, .slice a1 n1 c1, .slice a2 n2 c2, .string s3, .string s4] 24 := by rw [hw1]; exact Has.new w _ _
  have bl1 : Below w.heap.size w w1 := by rw [hw1]; exact (Below.refl _ _).alloc (Nat.le_refl _) _
  rw [← hw1]
  obtain ⟨G, hG⟩ : ∃ G, G = w.heap.size := ⟨_, rfl⟩
  rw [← hG] at g1 bl1 ⊢
  have HG := Lib.hid hG
  have G1 := Lib.hid g1
  have B1 := Lib.hid bl1
  have q4 := g1.cellAt (i := 4) rfl
  clear hw1 g1 bl1 hG
  go_wp2_with fail
  refine (K4.out _).mono ?_
  rintro e w2 ⟨p1, p2, x2⟩
  have B2 : Hid (Below G w w2) := Lib.hid (B1.out.trans (x2.mono (Nat.le_of_lt G1.out.lt)))
  have g2 := G1.out.below x2 G1.out.lt
  have G2 := Lib.hid g2
  clear x2 q4 G1 B1 K4
  have q0 := g2.cellAt (i := 0) rfl
  have q1 := g2.cellAt (i := 1) rfl
  have q2 := g2.cellAt (i := 2) rfl
  have q3 := g2.cellAt (i := 3) rfl
  have q4 := g2.cellAt (i := 4) rfl
  clear g2
  cases h0 : s4.data.toList.isEmpty with
  | true =>
    rw [h0] at hem
    have HF : Hid (b4 = true) := Lib.hid (by rw [HB4.out]; exact dFixed_empty h0)
    obtain ⟨pa, pn, pc, pk, rfl⟩ : ∃ (a : Option Addr) (n c : Nat) (k : Int), e = .returned (.tuple #[.slice a n c, .int .i64 k]) := by
      cases hu : Nam.unhex s4.data.toList with
      | none => exact ⟨_, _, _, _, p2 hu⟩
      | some p => obtain ⟨a, c, he, _⟩ := p1 p hu; exact ⟨_, _, _, _, he⟩
    clear p1 p2 h0
    cases b0 with
    | false =>
      have HR' : Hid (r = false) := Lib.hid (by rw [HR.out]; simp)
      go_wp2_with fail
      refine (K0.out _).mono ?_
      rintro e w3 ⟨rfl, rfl⟩
      go_wp2_with fail
      go_ret
      exact ⟨by rw [HR'.out]; rfl, by rw [← HG.out]; exact B2.out⟩
    | true =>
      go_wp2_with fail
      refine (K0.out _).mono ?_
      rintro e w3 ⟨rfl, rfl⟩
      by_cases h36 : s0.size ≤ 36
      · have h36' : (s0.size : Int) ≤ 36 := by omega
        go_wp2_with fail
        refine (KE.out _).mono ?_
        rintro e w3 ⟨rfl, rfl⟩
        cases be with
        | true =>
          have HR' : Hid (r = false) := Lib.hid (by rw [HR.out]; simp)
          go_wp2_with fail
          go_ret
          exact ⟨by rw [HR'.out]; rfl, by rw [← HG.out]; exact B2.out⟩
        | false =>
          by_cases h6 : s3.size ≤ 6000
          · have h6' : (s3.size : Int) ≤ 6000 := by omega
            have HR2 : Hid (r = (b1 && b2)) := Lib.hid (by rw [HR.out, HF.out]; simp [h36, h6])
            go_wp2_with fail
            refine (K1.out _ (I1.out.later (by rw [← HG.out]; exact B2.out))).mono ?_
            rintro e w3 ⟨rfl, x3⟩
            have B3 : Hid (Below G w w3) := Lib.hid (B2.out.trans (x3.mono (Nat.le_of_lt G2.out.lt)))
            have g3 := G2.out.below x3 G2.out.lt
            have q2' := g3.cellAt (i := 2) rfl
            clear x3 q0 q1 q2 q3 q4
            cases b1 with
            | false =>
              have HR' : Hid (r = false) := Lib.hid (by rw [HR2.out]; rfl)
              clear g3
              go_wp2_with fail
              go_ret
              exact ⟨by rw [HR'.out]; rfl, by rw [← HG.out]; exact B3.out⟩
            | true =>
              have hl3 := g3.lt
              clear g3
              go_wp2_with fail
              refine (K2.out _ (I2.out.later (by rw [← HG.out]; exact B3.out))).mono ?_
              rintro e w4 ⟨rfl, x4⟩
              have B4 : Hid (Below G w w4) := Lib.hid (B3.out.trans (x4.mono (Nat.le_of_lt hl3)))
              have HR' : Hid (r = b2) := Lib.hid (by rw [HR2.out]; rfl)
              clear x4 q2'
              go_wp2_with fail
              go_ret
              exact ⟨by rw [HR'.out]; rfl, by rw [← HG.out]; exact B4.out⟩
          · have h6' : ¬ (s3.size : Int) ≤ 6000 := by omega
            have HR' : Hid (r = false) := Lib.hid (by rw [HR.out]; simp [h6])
            go_wp2_with fail
            go_ret
            exact ⟨by rw [HR'.out]; rfl, by rw [← HG.out]; exact B2.out⟩
      · have h36' : ¬ (s0.size : Int) ≤ 36 := by omega
        have HR' : Hid (r = false) := Lib.hid (by rw [HR.out]; simp [h36])
        go_wp2_with fail
        go_ret
        exact ⟨by rw [HR'.out]; rfl, by rw [← HG.out]; exact B2.out⟩
  | false =>
    rw [h0] at hem
    cases hu : Nam.unhex s4.data.toList with
    | none =>
      have HR' : Hid (r = false) := Lib.hid (by rw [HR.out, HB4.out, dFixed_none h0 hu]; simp)
      have he := p2 hu
      subst he
      clear p1 p2 h0 hu
      go_wp2_with fail
      go_ret
      exact ⟨by rw [HR'.out]; rfl, by rw [← HG.out]; exact B2.out⟩
    | some p =>
      obtain ⟨pa, pc, rfl, _⟩ := p1 p hu
      have hb := dFixed_some h0 hu
      rw [← HB4.out] at hb
      obtain ⟨m, hm⟩ : ∃ m, m = p.length := ⟨_, rfl⟩
      rw [← hm] at hb ⊢
      clear p1 p2 h0 hu hm
      by_cases h32 : m = 32
      · have HF : Hid (b4 = true) := Lib.hid (by rw [hb, h32]; rfl)
        have h32' : (m : Int) = 32 := by omega
        clear hb h32
        cases b0 with
        | false =>
          have HR' : Hid (r = false) := Lib.hid (by rw [HR.out]; simp)
          go_wp2_with fail
          refine (K0.out _).mono ?_
          rintro e w3 ⟨rfl, rfl⟩
          go_wp2_with fail
          go_ret
          exact ⟨by rw [HR'.out]; rfl, by rw [← HG.out]; exact B2.out⟩
        | true =>
          go_wp2_with fail
          refine (K0.out _).mono ?_
          rintro e w3 ⟨rfl, rfl⟩
          by_cases h36 : s0.size ≤ 36
          · have h36' : (s0.size : Int) ≤ 36 := by omega
            go_wp2_with fail
            refine (KE.out _).mono ?_
            rintro e w3 ⟨rfl, rfl⟩
            cases be with
            | true =>
              have HR' : Hid (r = false) := Lib.hid (by rw [HR.out]; simp)
              go_wp2_with fail
              go_ret
              exact ⟨by rw [HR'.out]; rfl, by rw [← HG.out]; exact B2.out⟩
            | false =>
              by_cases h6 : s3.size ≤ 6000
              · have h6' : (s3.size : Int) ≤ 6000 := by omega
                have HR2 : Hid (r = (b1 && b2)) := Lib.hid (by rw [HR.out, HF.out]; simp [h36, h6])
                go_wp2_with fail
                refine (K1.out _ (I1.out.later (by rw [← HG.out]; exact B2.out))).mono ?_
                rintro e w3 ⟨rfl, x3⟩
                have B3 : Hid (Below G w w3) := Lib.hid (B2.out.trans (x3.mono (Nat.le_of_lt G2.out.lt)))
                have g3 := G2.out.below x3 G2.out.lt
                have q2' := g3.cellAt (i := 2) rfl
                clear x3 q0 q1 q2 q3 q4
                cases b1 with
                | false =>
                  have HR' : Hid (r = false) := Lib.hid (by rw [HR2.out]; rfl)
                  clear g3
                  go_wp2_with fail
                  go_ret
                  exact ⟨by rw [HR'.out]; rfl, by rw [← HG.out]; exact B3.out⟩
                | true =>
                  have hl3 := g3.lt
                  clear g3
                  go_wp2_with fail
                  refine (K2.out _ (I2.out.later (by rw [← HG.out]; exact B3.out))).mono ?_
                  rintro e w4 ⟨rfl, x4⟩
                  have B4 : Hid (Below G w w4) := Lib.hid (B3.out.trans (x4.mono (Nat.le_of_lt hl3)))
                  have HR' : Hid (r = b2) := Lib.hid (by rw [HR2.out]; rfl)
                  clear x4 q2'
                  go_wp2_with fail
                  go_ret
                  exact ⟨by rw [HR'.out]; rfl, by rw [← HG.out]; exact B4.out⟩
              · have h6' : ¬ (s3.size : Int) ≤ 6000 := by omega
                have HR' : Hid (r = false) := Lib.hid (by rw [HR.out]; simp [h6])
                go_wp2_with fail
                go_ret
                exact ⟨by rw [HR'.out]; rfl, by rw [← HG.out]; exact B2.out⟩
          · have h36' : ¬ (s0.size : Int) ≤ 36 := by omega
            have HR' : Hid (r = false) := Lib.hid (by rw [HR.out]; simp [h36])
            go_wp2_with fail
            go_ret
            exact ⟨by rw [HR'.out]; rfl, by rw [← HG.out]; exact B2.out⟩
      · have HR' : Hid (r = false) := Lib.hid (by rw [HR.out, hb, beq_false_of_ne h32]; simp)
        have h32' : ¬ (m : Int) = 32 := by omega
        clear hb h32
        go_wp2_with fail
        go_ret
        exact ⟨by rw [HR'.out]; rfl, by rw [← HG.out]; exact B2.out⟩
end Go.Proofs.YtokbakpbhpknfaaGreatDoor
