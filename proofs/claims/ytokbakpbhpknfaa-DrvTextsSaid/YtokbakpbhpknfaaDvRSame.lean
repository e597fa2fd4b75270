/-
  The contract of the reference's Same of two derivations. Conditions: bounds on the lengths.
-/
import Derived.Test.YtokbakpbhpknfaaDvSame
import Derived.Test.YtokbakpbhpknfaaBut
import Derived.Laws.Rows
import Derived.Deep.Cut
namespace Go.Proofs.Ytokbakpbhpknfaa
open Go.RowKit
set_option linter.unusedVariables false

theorem toL_yes {s t : ByteArray} (h : s = t) : (s.toList == t.toList) = true := by rw [h]; simp
theorem toL_no {s t : ByteArray} (h : ¬ s = t) : (s.toList == t.toList) = false := by
  have h : s.toList ≠ t.toList := fun e => h (bytes_ext (by rw [ByteArray.toList_eq, ByteArray.toList_eq] at e; exact e))
  simpa using h
/-- Are they alike? -/
def sameD (s0 : ByteArray) (l1 l2 : List ByteArray) (s3 s4 t0 : ByteArray) (k1 k2 : List ByteArray) (t3 t4 : ByteArray) : Prop := s0 = t0 ∧ s3 = t3 ∧ s4 = t4 ∧ l1 = k1 ∧ l2 = k2

set_option maxRecDepth 100000 in
set_option maxHeartbeats 16000000 in
theorem dsame_any (s0 s3 s4 t0 t3 t4 : ByteArray) (a1 a2 b1 b2 : Option Addr) (n1 c1 n2 c2 m1 d1 m2 d2 : Nat) (l1 l2 k1 k2 : List ByteArray) (w : World) (h1 : IsS w a1 n1 c1 l1) (h2 : IsS w a2 n2 c2 l2) (g1 : IsS w b1 m1 d1 k1) (g2 : IsS w b2 m2 d2 k2)
    (z1 : n1 ≤ 140737488355328) (z2 : n2 ≤ 140737488355328) (y1 : m1 ≤ 140737488355328) (y2 : m2 ≤ 140737488355328) :
    Calls Try.prog 11 #[.agg #[.string s0, .slice a1 n1 c1, .slice a2 n2 c2, .string s3, .string s4], .agg #[.string t0, .slice b1 m1 d1, .slice b2 m2 d2, .string t3, .string t4]] w fun e w' => ∃ b, e = .returned (.bool b) ∧ (b = true ↔ sameD s0 l1 l2 s3 s4 t0 k1 k2 t3 t4) ∧ Below w.heap.size w w' := by
  have I1 := Lib.hid h1
  have I2 := Lib.hid h2
  have J1 := Lib.hid g1
  have J2 := Lib.hid g2
  clear h1 h2 g1 g2
  go_enter Try.func11, Try.ntmps11
  go_upto_region 1 with fail
  obtain ⟨G, hG⟩ : ∃ G, G = w.heap.size := ⟨_, rfl⟩
  rw [← hG]
  obtain ⟨x1, hx1⟩ : ∃ x, x = w.alloc (.cells #[.string s0, .slice a1 n1 c1, .slice a2 n2 c2, .string s3, .string s4] 24) := ⟨_, rfl⟩
  obtain ⟨w1, hw1⟩ : ∃ x, x = x1.alloc (.cells #[.string t0, .slice b1 m1 d1, .slice b2 m2 d2, .string t3, .string t4] 24) := ⟨_, rfl⟩
  rw [← hx1, ← hw1]
  have e1 : x1.heap.size = G + 1 := by rw [hx1, hG]; simp
  have P1 : Hid (Has w1 G [.string s0, .slice a1 n1 c1, .slice a2 n2 c2, .string s3, .string s4] 24) := Lib.hid (by rw [hw1, hx1, hG]; exact (Has.new w [.string s0, .slice a1 n1 c1, .slice a2 n2 c2, .string s3, .string s4] _).alloc _)
  have Q1 : Hid (Has w1 (G + 1) [.string t0, .slice b1 m1 d1, .slice b2 m2 d2, .string t3, .string t4] 24) := Lib.hid (by rw [hw1, ← e1]; exact Has.new x1 [.string t0, .slice b1 m1 d1, .slice b2 m2 d2, .string t3, .string t4] _)
  have B1 : Hid (Below G w w1) := Lib.hid (by rw [hw1, hx1, hG]; exact ((Below.refl _ _).alloc (Nat.le_refl _) _).alloc (by simp) _)
  have HG := Lib.hid hG
  try rw [e1]
  clear hx1 hw1 e1 hG
  have p0 := P1.out.cellAt (i := 0) rfl
  have q0 := Q1.out.cellAt (i := 0) rfl
  have p3 := P1.out.cellAt (i := 3) rfl
  have q3 := Q1.out.cellAt (i := 3) rfl
  have p4 := P1.out.cellAt (i := 4) rfl
  have q4 := Q1.out.cellAt (i := 4) rfl
  have p1 := P1.out.cellAt (i := 1) rfl
  have q1 := Q1.out.cellAt (i := 1) rfl
  have p2 := P1.out.cellAt (i := 2) rfl
  have q2 := Q1.out.cellAt (i := 2) rfl
  by_cases e0 : s0 = t0
  · have hy0 := toL_yes e0
    have E0 := Lib.hid e0
    clear e0
    by_cases e3 : s3 = t3
    · have hy3 := toL_yes e3
      have E3 := Lib.hid e3
      clear e3
      by_cases e4 : s4 = t4
      · have hy4 := toL_yes e4
        have E4 := Lib.hid e4
        clear e4
        go_wp2_with fail
        refine (rfsame_any a1 b1 n1 m1 c1 d1 l1 k1 _ (I1.out.later (by rw [← HG.out]; exact B1.out)) (J1.out.later (by rw [← HG.out]; exact B1.out)) z1 y1).mono ?_
        rintro e w2 ⟨b, rfl, hb, x2⟩
        have B2 : Hid (Below G w w2) := Lib.hid (B1.out.trans (x2.mono (Nat.le_of_lt P1.out.lt)))
        have P2 := Lib.hid (P1.out.below x2 P1.out.lt)
        have Q2 := Lib.hid (Q1.out.below x2 Q1.out.lt)
        clear x2 p0 q0 p1 q1 p2 q2 p3 q3 p4 q4
        have p2 := P2.out.cellAt (i := 2) rfl
        have q2 := Q2.out.cellAt (i := 2) rfl
        cases b with
        | false =>
          have ne : Hid (¬ l1 = k1) := Lib.hid (fun e => by have := hb.2 e; cases this)
          clear hb
          go_wp2_with fail
          go_ret
          exact ⟨false, rfl, ⟨(fun h => by cases h), (fun h => absurd h.2.2.2.1 ne.out)⟩, by rw [← HG.out]; exact B2.out⟩
        | true =>
          have L1 := Lib.hid (hb.1 rfl)
          clear hb
          go_wp2_with fail
          refine (rfsame_any a2 b2 n2 m2 c2 d2 l2 k2 _ (I2.out.later (by rw [← HG.out]; exact B2.out)) (J2.out.later (by rw [← HG.out]; exact B2.out)) z2 y2).mono ?_
          rintro e w3 ⟨b, rfl, hb, x3⟩
          have B3 : Hid (Below G w w3) := Lib.hid (B2.out.trans (x3.mono (Nat.le_of_lt P2.out.lt)))
          have HB := Lib.hid hb
          clear x3 p2 q2 hb
          go_wp2_with fail
          go_ret
          exact ⟨b, rfl, ⟨(fun h => ⟨E0.out, E3.out, E4.out, L1.out, HB.out.1 h⟩), (fun h => HB.out.2 h.2.2.2.2)⟩, by rw [← HG.out]; exact B3.out⟩
      · have ne : ¬ s4 = t4 := e4
        have hn := toL_no e4
        have NE := Lib.hid ne
        clear e4 ne
        go_wp2_with fail
        go_ret
        exact ⟨false, rfl, ⟨(fun h => by cases h), (fun h => absurd h.2.2.1 NE.out)⟩, by rw [← HG.out]; exact B1.out⟩
    · have ne : ¬ s3 = t3 := e3
      have hn := toL_no e3
      have NE := Lib.hid ne
      clear e3 ne
      go_wp2_with fail
      go_ret
      exact ⟨false, rfl, ⟨(fun h => by cases h), (fun h => absurd h.2.1 NE.out)⟩, by rw [← HG.out]; exact B1.out⟩
  · have ne : ¬ s0 = t0 := e0
    have hn := toL_no e0
    have NE := Lib.hid ne
    clear e0 ne
    go_wp2_with fail
    go_ret
    exact ⟨false, rfl, ⟨(fun h => by cases h), (fun h => absurd h.1 NE.out)⟩, by rw [← HG.out]; exact B1.out⟩
end Go.Proofs.Ytokbakpbhpknfaa
