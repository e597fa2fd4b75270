/-
  The contract of the reference's Is; and: of two texts one is below the other, or they are alike. Condition: the text's bound.
-/
import Derived.Test.YtokbakpbhpknfaaGreatDoorDvNeedN
import Derived.Test.YtokbakpbhpknfaaGreatDoorRDecN
import Derived.Test.YtokbakpbhpknfaaGreatDoorRHexN
import Derived.Test.YtokbakpbhpknfaaGreatDoorRfSort
import Derived.Deep.RegionHeld3
namespace Go.Proofs.YtokbakpbhpknfaaGreatDoor
open Go.RowKit
set_option linter.unusedVariables false

theorem less_iff : ∀ x y : List UInt8, Op.bytesLess x y = true ↔ x < y
  | [], [] => by simp [Op.bytesLess]
  | [], _ :: _ => by simp [Op.bytesLess]
  | _ :: _, [] => by simp [Op.bytesLess]
  | a :: x, b :: y => by
    rw [lt_cons, ← less_iff x y]
    simp [Op.bytesLess]
theorem geB_leS (s p : ByteArray) : geB s p = leS s p := by
  unfold geB leS
  rw [Bool.eq_iff_iff, Bool.not_eq_true', ← Bool.not_eq_true, less_iff, Bool.or_eq_true, less_iff, beq_iff_eq, bt_not]
  constructor
  · rintro (h | h)
    · exact .inr h
    · exact .inl h
  · rintro (h | h)
    · exact .inr h
    · exact .inl h

theorem rparse_form {o : Option (List UInt8 × List UInt8)} {w w' : World} {e : Ending} (h : Nam.RParsePost o w e w') :
    ∃ (D : List UInt8) (n : ByteArray), e = .returned (.tuple #[.agg (D.map Nam.bv).toArray, .string n, .bool o.isSome]) ∧ D.length = 20 := by
  obtain ⟨hs, hn, _⟩ := h
  cases o with
  | none => exact ⟨Nam.zU, _, hn rfl, rfl⟩
  | some q =>
    obtain ⟨d, m⟩ := q
    obtain ⟨hd, he⟩ := hs d m rfl
    exact ⟨d, _, he, hd⟩

set_option maxRecDepth 100000 in
set_option maxHeartbeats 4000000 in
theorem ris_any (s : ByteArray) (w : World) (hm : s.size ≤ 140737488355328) :
    Calls Tryz.prog 49 #[.string s] w fun e w' => e = .returned (.bool (isP s.data.toList)) ∧ Below w.heap.size w w' := by
  obtain ⟨O, hO⟩ : ∃ O, O = Nam.parseP s.data.toList := ⟨_, rfl⟩
  have HO := Lib.hid hO
  have HP : Hid (isP s.data.toList = O.isSome) := Lib.hid (by rw [hO]; rfl)
  clear hO
  go_enter Tryz.func49, Tryz.ntmps49
  go_wp2_with fail
  refine (Nam.rparse_any s _ hm).mono ?_
  rintro e w1 hq
  have b1 := hq.2.2
  obtain ⟨D, n, rfl, hD⟩ := rparse_form hq
  rw [← HO.out]
  have hc := Nam.c20 D hD
  obtain ⟨C, hC⟩ : ∃ C, C = (D.map Nam.bv).toArray := ⟨_, rfl⟩
  rw [← hC] at hc ⊢
  obtain ⟨r, hr⟩ : ∃ r, r = O.isSome := ⟨_, rfl⟩
  have HR := Lib.hid hr
  rw [← hr]
  have I1 := Lib.hid hc.info
  have I2 := Lib.hid hc.size
  have I3 := Lib.hid hc.one
  have B1 := Lib.hid b1
  clear hq hC hc b1 hr hD
  go_wp2_with (refine wpList_store_row rfl 53 _ _ rfl w1.heap.size C rfl rfl 53 _ (heap_alloc_new w1 _) I1.out I2.out.symm I3.out ?_)
  go_ret
  exact ⟨by rw [HP.out, ← HR.out]; rfl, below_setRow (B1.out.alloc B1.out.size _) B1.out.size _⟩
end Go.Proofs.YtokbakpbhpknfaaGreatDoor

namespace Go.Proofs.YtokbakpbhpknfaaGreatDoor
open Go.RowKit
set_option linter.unusedVariables false

/-- The cells of a derivation. -/
def dvL (s0 : ByteArray) (a1 : Option Addr) (n1 c1 : Nat) (a2 : Option Addr) (n2 c2 : Nat) (s3 s4 : ByteArray) : List Value := [.string s0, .slice a1 n1 c1, .slice a2 n2 c2, .string s3, .string s4]

set_option maxRecDepth 100000 in
set_option maxHeartbeats 16000000 in
theorem dform_any (s0 s3 s4 : ByteArray) (a1 a2 : Option Addr) (n1 c1 n2 c2 : Nat) (l1 l2 : List ByteArray) (w : World) (h1 : IsS w a1 n1 c1 l1) (h2 : IsS w a2 n2 c2 l2)
    (z1 : ∀ s ∈ l1, s.size ≤ 140737488355328) (z2 : ∀ s ∈ l2, s.size ≤ 140737488355328) (z0 : s0.size ≤ 140737488355328) (z3 : s3.size ≤ 140737488355328) (z4 : s4.size ≤ 140737488355328) :
    Calls Tryz.prog 20 #[.agg #[.string s0, .slice a1 n1 c1, .slice a2 n2 c2, .string s3, .string s4]] w fun e w' => e = .returned (.bool (formB s0 l1 l2 s3 s4)) ∧ Below w.heap.size w w' := by
  obtain ⟨r, hr⟩ : ∃ r, r = formB s0 l1 l2 s3 s4 := ⟨_, rfl⟩
  rw [← hr]
  unfold formB at hr
  obtain ⟨b0, hb0⟩ : ∃ b, b = dName s0.data.toList := ⟨_, rfl⟩
  obtain ⟨b1, hb1⟩ : ∃ b, b = needT dPath l1 := ⟨_, rfl⟩
  obtain ⟨b2, hb2⟩ : ∃ b, b = needT isP l2 := ⟨_, rfl⟩
  obtain ⟨b4, hb4⟩ : ∃ b, b = dFixed s4.data.toList := ⟨_, rfl⟩
  rw [← hb0, ← hb1, ← hb2, ← hb4] at hr
  have k0 := fun w => disname_any s0 w (by omega)
  rw [← hb0] at k0
  have k1 := fun (w : World) (h : IsS w a1 n1 c1 l1) => needs_drvs a1 n1 c1 l1 w h z1
  rw [← hb1] at k1
  have k2 := fun (w : World) (h : IsS w a2 n2 c2 l2) => needs_srcs a2 n2 c2 l2 w h z2
  rw [← hb2] at k2
  have k4 := fun w => isfixed_any s4 w z4
  rw [← hb4] at k4
  have K0 := Lib.hid k0
  have K1 := Lib.hid k1
  have K2 := Lib.hid k2
  have K4 := Lib.hid k4
  have HR := Lib.hid hr
  have I1 := Lib.hid h1
  have I2 := Lib.hid h2
  clear k0 k1 k2 k4 hb0 hb1 hb2 hb4 hr h1 h2 z1 z2
  go_enter Tryz.func20, Tryz.ntmps20
  go_upto_region 1 with fail
  obtain ⟨w1, hw1⟩ : ∃ w1, w1 = w.alloc (.cells #[.string s0, .slice a1 n1 c1, .slice a2 n2 c2, .string s3, .string s4] 24) := ⟨_, rfl⟩
  have g1 : Has w1 w.heap.size [.string s0, .slice a1 n1 c1, .slice a2 n2 c2, .string s3, .string s4] 24 := by rw [hw1]; exact Has.new w _ _
  have bl1 : Below w.heap.size w w1 := by rw [hw1]; exact (Below.refl _ _).alloc (Nat.le_refl _) _
  rw [← hw1]
  obtain ⟨G, hG⟩ : ∃ G, G = w.heap.size := ⟨_, rfl⟩
  rw [← hG] at g1 bl1 ⊢
  have HG := Lib.hid hG
  have G1 := Lib.hid g1
  have B1 := Lib.hid bl1
  have q0 := g1.cellAt (i := 0) rfl
  have q1 := g1.cellAt (i := 1) rfl
  have q2 := g1.cellAt (i := 2) rfl
  have q3 := g1.cellAt (i := 3) rfl
  have q4 := g1.cellAt (i := 4) rfl
  clear hw1 g1 bl1 hG
  cases b0 with
  | false =>
    go_wp2_with fail
    refine (K0.out _).mono ?_
    rintro e w2 ⟨rfl, rfl⟩
    go_wp2_with fail
    go_ret
    exact ⟨by rw [HR.out]; rfl, by rw [← HG.out]; exact B1.out⟩
  | true =>
    go_wp2_with fail
    refine (K0.out _).mono ?_
    rintro e w2 ⟨rfl, rfl⟩
    cases b1 with
    | false =>
      go_wp2_with fail
      refine (K1.out _ (I1.out.later (by rw [← HG.out]; exact B1.out))).mono ?_
      rintro e w2 ⟨rfl, x2⟩
      have B2 : Hid (Below G w w2) := Lib.hid (B1.out.trans (x2.mono (Nat.le_of_lt G1.out.lt)))
      clear x2 q0 q1 q2 q3 q4
      go_wp2_with fail
      go_ret
      exact ⟨by rw [HR.out]; rfl, by rw [← HG.out]; exact B2.out⟩
    | true =>
      go_wp2_with fail
      refine (K1.out _ (I1.out.later (by rw [← HG.out]; exact B1.out))).mono ?_
      rintro e w2 ⟨rfl, x2⟩
      have B2 : Hid (Below G w w2) := Lib.hid (B1.out.trans (x2.mono (Nat.le_of_lt G1.out.lt)))
      have g2 := G1.out.below x2 G1.out.lt
      clear x2 q0 q1 q2 q3 q4 G1 B1
      have G2 := Lib.hid g2
      have q2 := g2.cellAt (i := 2) rfl
      have q3 := g2.cellAt (i := 3) rfl
      have q4 := g2.cellAt (i := 4) rfl
      clear g2
      cases b2 with
      | false =>
        go_wp2_with fail
        refine (K2.out _ (I2.out.later (by rw [← HG.out]; exact B2.out))).mono ?_
        rintro e w3 ⟨rfl, x3⟩
        have B3 : Hid (Below G w w3) := Lib.hid (B2.out.trans (x3.mono (Nat.le_of_lt G2.out.lt)))
        clear x3 q2 q3 q4
        go_wp2_with fail
        go_ret
        exact ⟨by rw [HR.out]; rfl, by rw [← HG.out]; exact B3.out⟩
      | true =>
        go_wp2_with fail
        refine (K2.out _ (I2.out.later (by rw [← HG.out]; exact B2.out))).mono ?_
        rintro e w3 ⟨rfl, x3⟩
        have B3 : Hid (Below G w w3) := Lib.hid (B2.out.trans (x3.mono (Nat.le_of_lt G2.out.lt)))
        have g3 := G2.out.below x3 G2.out.lt
        clear x3 q2 q3 q4 G2 B2
        have G3 := Lib.hid g3
        have q3 := g3.cellAt (i := 3) rfl
        have q4 := g3.cellAt (i := 4) rfl
        clear g3
        by_cases h6 : s3.size ≤ 6000
        · have h6' : (s3.size : Int) ≤ 6000 := by omega
          go_wp2_with fail
          refine (K4.out _).mono ?_
          rintro e w4 ⟨rfl, x4⟩
          have B4 : Hid (Below G w w4) := Lib.hid (B3.out.trans (x4.mono (Nat.le_of_lt G3.out.lt)))
          clear x4 q3 q4
          have HR' : Hid (r = b4) := Lib.hid (by rw [HR.out]; simp [h6])
          go_wp2_with fail
          go_ret
          exact ⟨by rw [HR'.out]; rfl, by rw [← HG.out]; exact B4.out⟩
        · have h6' : ¬ (s3.size : Int) ≤ 6000 := by omega
          have HR' : Hid (r = false) := Lib.hid (by rw [HR.out]; simp [h6])
          go_wp2_with fail
          go_ret
          exact ⟨by rw [HR'.out]; rfl, by rw [← HG.out]; exact B3.out⟩
end Go.Proofs.YtokbakpbhpknfaaGreatDoor
