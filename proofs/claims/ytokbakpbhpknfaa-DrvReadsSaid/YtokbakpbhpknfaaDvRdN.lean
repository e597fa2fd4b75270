/-
  The reader of a derivation's text: what its block holds; the next sign, the next byte. No conditions.
-/
import Derived.Test.YtokbakpbhpknfaaDvMath
import Derived.Test.YtokbakpbhpknfaaBut
import Derived.Test.YtokbakpbhpknfaaShelf
import Derived.Lib.Bytealg
namespace Go.Proofs.Ytokbakpbhpknfaa
open Go.RowKit
set_option linter.unusedVariables false

/-- The reader at block rb has still to read R; is it bad? -/
def Dr (w : World) (rb : Nat) (R : List UInt8) (bad : Bool) : Prop := Has w rb [.string ⟨R.toArray⟩, .bool bad] 43

theorem Dr.later {w w' : World} {rb : Nat} {R : List UInt8} {bad : Bool} (h : Dr w rb R bad) (hb : Below w.heap.size w w') : Dr w' rb R bad := Has.below h hb (Has.lt h)
theorem but_w {B b : Nat} {w x : World} (h : But B b w x) (n : Nat) : But B b w (x.drewN n) := ⟨h.os, h.tape, h.output, h.size, h.block⟩

set_option maxRecDepth 100000 in
set_option maxHeartbeats 4000000 in
theorem took_any (rb : Nat) (R : List UInt8) (bad : Bool) (s : ByteArray) (w : World) (h : Dr w rb R bad) :
    Calls Try.prog 50 #[.pointer (some ⟨rb, 0, none⟩), .string s] w fun e w' => e = .returned (.bool (dlit s.data.toList R).isSome) ∧ Dr w' rb ((dlit s.data.toList R).getD R) bad ∧ But w.heap.size rb w w' := by
  have c0 := Has.cellAt h (i := 0) rfl
  have z0 := Has.frozen h 0
  obtain ⟨S, hS⟩ : ∃ S : ByteArray, S = ⟨R.toArray⟩ := ⟨_, rfl⟩
  have hSl : S.data.toList = R := by rw [hS]
  have HS := Lib.hid hSl
  have H := Lib.hid h
  rw [← hS] at c0
  clear h hS hSl
  go_enter Try.func50, Try.ntmps50
  go_wp2_with fail
  refine (Try.strings_CutPrefix S s _).mono ?_
  rintro e w1 ⟨rfl, rfl⟩
  obtain ⟨U, hU⟩ : ∃ U : ByteArray, U = ⟨(Lib.trimPrefix S.data.toList s.data.toList).toArray⟩ := ⟨_, rfl⟩
  obtain ⟨p, hp⟩ : ∃ p, p = Lib.hasPrefix S.data.toList s.data.toList := ⟨_, rfl⟩
  rw [← hU, ← hp]
  have HU := Lib.hid hU
  have HP := Lib.hid hp
  clear hU hp
  go_wp2_with fail
  go_ret
  have hR := HS.out
  have hd : U = ⟨((dlit s.data.toList R).getD R).toArray⟩ ∧ p = (dlit s.data.toList R).isSome := by
    rw [HU.out, HP.out, hR]
    unfold Lib.trimPrefix Lib.hasPrefix dlit
    split <;> simp [*]
  rw [hd.1, hd.2]
  refine ⟨rfl, ?_, (But.refl _ _ _).setB 0 _⟩
  exact Has.set H.out 0 _

set_option maxRecDepth 100000 in
set_option maxHeartbeats 4000000 in
/-- A sign that must come next. -/
theorem skip_any (rb : Nat) (R : List UInt8) (bad : Bool) (s : ByteArray) (w : World) (h : Dr w rb R bad) :
    Calls Try.prog 38 #[.pointer (some ⟨rb, 0, none⟩), .string s] w fun e w' => e = .returned (.tuple #[]) ∧ Dr w' rb ((dlit s.data.toList R).getD R) (bad || (dlit s.data.toList R).isNone) ∧ But w.heap.size rb w w' := by
  go_enter Try.func38, Try.ntmps38
  go_wp2_with fail
  refine (took_any rb R bad s _ h).mono ?_
  rintro e w1 ⟨rfl, h1, b1⟩
  clear h
  obtain ⟨O, hO⟩ : ∃ O, O = dlit s.data.toList R := ⟨_, rfl⟩
  rw [← hO] at h1 ⊢
  have HO := Lib.hid hO
  clear hO
  have z1 := Has.frozen h1 1
  have H := Lib.hid h1
  have HB := Lib.hid b1
  cases O with
  | some r =>
    clear h1 b1
    go_wp2_with fail
    first | go_end0 | (simp only [Exit.inBlock, Exit.then]; refine bodyPost_ret (results_none rfl _ _ _) rfl ?_) | refine bodyPost_ret (results_none rfl _ _ _) rfl ?_
    rw [← HO.out]
    exact ⟨rfl, by have := H.out; simpa [Dr] using this, HB.out⟩
  | none =>
    have c1 := Has.cellAt h1 (i := 1) rfl
    clear h1 b1
    go_wp2_with fail
    first | go_end0 | (simp only [Exit.inBlock, Exit.then]; refine bodyPost_ret (results_none rfl _ _ _) rfl ?_) | refine bodyPost_ret (results_none rfl _ _ _) rfl ?_
    rw [← HO.out]
    exact ⟨rfl, by have := Has.set H.out 1 (.bool true); simpa [Dr] using this, HB.out.setB 1 _⟩

set_option maxRecDepth 100000 in
set_option maxHeartbeats 4000000 in
/-- The next byte. -/
theorem taken_any (rb : Nat) (R : List UInt8) (bad : Bool) (w : World) (h : Dr w rb R bad) :
    Calls Try.prog 59 #[.pointer (some ⟨rb, 0, none⟩)] w fun e w' => e = .returned (.int .u8 ((R.headD 0).toNat : Int)) ∧ Dr w' rb R.tail (bad || R.isEmpty) ∧ But w.heap.size rb w w' := by
  have c0 := Has.cellAt h (i := 0) rfl
  have c1 := Has.cellAt h (i := 1) rfl
  have z0 := Has.frozen h 0
  have z1 := Has.frozen h 1
  have H := Lib.hid h
  cases R with
  | nil =>
    clear h
    go_enter Try.func59, Try.ntmps59
    go_wp2_with fail
    go_ret
    exact ⟨rfl, by have := Has.set H.out 1 (.bool true); simpa [Dr] using this, (But.refl _ _ _).setB 1 _⟩
  | cons c r =>
    obtain ⟨S, hS⟩ : ∃ S : ByteArray, S = ⟨(c :: r).toArray⟩ := ⟨_, rfl⟩
    have hs : 0 < S.size := by rw [hS]; show 0 < (c :: r).toArray.size; simp
    have hne : S.toList.isEmpty = false := by rw [ByteArray.toList_eq, hS]; rfl
    have hg : ∀ h, S[0]'h = c := by rw [hS]; intro h; rfl
    have hx : S.extract 1 S.size = ⟨r.toArray⟩ := by
      have hz : S.size = r.length + 1 := by rw [hS]; show (c :: r).toArray.size = _; simp
      apply ByteArray.ext; apply Array.toList_inj.1; rw [ByteArray.data_extract, Array.toList_extract, hz, hS]; simp
    have HX := Lib.hid hx
    rw [← hS] at c0
    clear h hS hx
    go_enter Try.func59, Try.ntmps59
    go_wp2_with fail
    go_ret
    refine ⟨rfl, ?_, (But.refl _ _ _).setB 0 _⟩
    rw [HX.out]
    have := Has.set H.out 0 (.string ⟨r.toArray⟩)
    simpa [Dr] using this
end Go.Proofs.Ytokbakpbhpknfaa

namespace Go.Proofs.Ytokbakpbhpknfaa
open Go.RowKit
set_option linter.unusedVariables false

def dSigns : ByteArray := ⟨#[92, 34, 110, 116]⟩
theorem mean_index (d : UInt8) : (dmean d = none ∧ Lib.indexByte [92, 34, 110, 116] d = -1) ∨ (dmean d = some 92 ∧ Lib.indexByte [92, 34, 110, 116] d = 0) ∨ (dmean d = some 34 ∧ Lib.indexByte [92, 34, 110, 116] d = 1) ∨
    (dmean d = some 10 ∧ Lib.indexByte [92, 34, 110, 116] d = 2) ∨ (dmean d = some 9 ∧ Lib.indexByte [92, 34, 110, 116] d = 3) := by
  have : ∀ n : Fin 256, (dmean (UInt8.ofNat n.val) = none ∧ Lib.indexByte [92, 34, 110, 116] (UInt8.ofNat n.val) = -1) ∨ (dmean (UInt8.ofNat n.val) = some 92 ∧ Lib.indexByte [92, 34, 110, 116] (UInt8.ofNat n.val) = 0) ∨ (dmean (UInt8.ofNat n.val) = some 34 ∧ Lib.indexByte [92, 34, 110, 116] (UInt8.ofNat n.val) = 1) ∨
    (dmean (UInt8.ofNat n.val) = some 10 ∧ Lib.indexByte [92, 34, 110, 116] (UInt8.ofNat n.val) = 2) ∨ (dmean (UInt8.ofNat n.val) = some 9 ∧ Lib.indexByte [92, 34, 110, 116] (UInt8.ofNat n.val) = 3) := by decide +kernel
  have h := this ⟨d.toNat, d.toNat_lt⟩
  simpa using h

/-- Where the sign stands. -/
theorem signs_any (d : UInt8) (w : World) : Calls Try.prog 45 #[.string ⟨#[92, 34, 110, 116]⟩, .int .u8 (d.toNat : Int)] w fun e w' => e = .returned (.int .i64 (Lib.indexByte [92, 34, 110, 116] d)) ∧ w' = w := by
  have h := Try.strings_IndexByte ⟨#[92, 34, 110, 116]⟩ (d.toNat : Int) w
  rw [show ((d.toNat : Int)).toNat.toUInt8 = d by simp] at h
  exact h

set_option maxRecDepth 100000 in
set_option maxHeartbeats 8000000 in
theorem next_any (rb : Nat) (R : List UInt8) (bad : Bool) (w : World) (h : Dr w rb R bad) :
    Calls Try.prog 51 #[.pointer (some ⟨rb, 0, none⟩)] w fun e w' => e = .returned (.int .u8 ((nextP R).1.toNat : Int)) ∧ Dr w' rb (nextP R).2.1 (bad || (nextP R).2.2) ∧ But w.heap.size rb w w' := by
  have H := Lib.hid h
  clear h
  go_enter Try.func51, Try.ntmps51
  go_wp2_with fail
  refine (taken_any rb R bad _ H.out).mono ?_
  rintro e w1 ⟨rfl, h1, b1⟩
  cases R with
  | nil =>
    have H1 := Lib.hid h1
    have B1 := Lib.hid b1
    clear h1 b1 H
    rw [show (([] : List UInt8).headD 0).toNat = 0 from rfl]
    go_wp2_with fail
    go_ret
    exact ⟨rfl, H1.out, B1.out⟩
  | cons c r =>
    have H1 : Hid (Dr w1 rb r bad) := Lib.hid (by simpa using h1)
    have B1 := Lib.hid b1
    rw [show ((c :: r).headD 0) = c from rfl]
    clear h1 b1 H
    by_cases hc : c = 92
    · subst hc
      rw [show ((92 : UInt8).toNat : Int) = 92 from rfl]
      go_wp2_with fail
      refine (taken_any rb r bad _ H1.out).mono ?_
      rintro e w2 ⟨rfl, h2, b2⟩
      have H2 := Lib.hid h2
      have B2 : Hid (But w.heap.size rb w w2) := Lib.hid (B1.out.trans (b2.mono B1.out.size))
      clear h2 b2 B1 H1
      obtain ⟨d0, hd0⟩ : ∃ d0, d0 = r.headD 0 := ⟨_, rfl⟩
      rw [← hd0]
      have HD := Lib.hid hd0
      clear hd0
      go_wp2_with fail
      refine (signs_any d0 _).mono ?_
      rintro e w3 ⟨rfl, rfl⟩
      cases r with
      | nil =>
        have H3 : Hid (Dr w3 rb [] true) := Lib.hid (by have := H2.out; simpa using this)
        obtain rfl : d0 = 0 := HD.out
        rw [show Lib.indexByte [92, 34, 110, 116] (0 : UInt8) = -1 from rfl]
        have z1 := Has.frozen H3.out 1
        have c1 := Has.cellAt H3.out (i := 1) rfl
        clear H2
        go_wp2_with fail
        go_ret
        refine ⟨rfl, ?_, B2.out.setB 1 _⟩
        have := Has.set H3.out 1 (.bool true)
        simpa [Dr, nextP] using this
      | cons d r' =>
        have H3 : Hid (Dr w3 rb r' bad) := Lib.hid (by have := H2.out; simpa using this)
        clear H2
        obtain rfl : d0 = d := HD.out
        clear HD
        have hn : nextP (92 :: d0 :: r') = match dmean d0 with | none => (0, r', true) | some m => (m, r', false) := rfl
        have z1 := Has.frozen H3.out 1
        have c1 := Has.cellAt H3.out (i := 1) rfl
        rcases mean_index d0 with ⟨hm, hi⟩ | ⟨hm, hi⟩ | ⟨hm, hi⟩ | ⟨hm, hi⟩ | ⟨hm, hi⟩
        · rw [hm] at hn
          have HN := Lib.hid hn
          rw [hi]
          clear hn hm hi
          go_wp2_with fail
          go_ret
          rw [HN.out]
          refine ⟨rfl, ?_, B2.out.setB 1 _⟩
          have := Has.set H3.out 1 (.bool true)
          simpa [Dr] using this
        all_goals
          rw [hm] at hn
          have HN := Lib.hid hn
          rw [hi]
          clear hn hm hi z1 c1
          go_wp2_with fail
          go_ret
          rw [HN.out]
          exact ⟨rfl, by have := H3.out; simpa using this, B2.out⟩
    · have hz : ((c.toNat : Int) != 92) = true := by
        rw [bne_iff_ne]; intro e; exact hc (UInt8.toNat_inj.1 (by show c.toNat = 92; omega))
      have hn : nextP (c :: r) = (c, r, false) := by rw [nextP_cons, if_neg hc]
      have HN := Lib.hid hn
      clear hn hc
      go_wp2_with fail
      go_ret
      rw [HN.out]
      exact ⟨rfl, by have := H1.out; simpa using this, B1.out⟩
end Go.Proofs.Ytokbakpbhpknfaa
