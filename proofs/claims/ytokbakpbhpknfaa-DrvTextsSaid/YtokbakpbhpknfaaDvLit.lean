/-
  The reference's lit: the place behind a text. Conditions: the text to be read is no longer than 10^9 bytes.
-/
import Derived.Test.YtokbakpbhpknfaaDvReadW
namespace Go.Proofs.Ytokbakpbhpknfaa
open Go.RowKit
set_option linter.unusedVariables false

/-- The place of what remains; -1: there is none. -/
def plc (n : Nat) (o : Option (List UInt8)) : Int := match o with | none => -1 | some r => ((n - r.length : Nat) : Int)
/-- What remains stands at the text's end. -/
def AtR (R : List UInt8) (o : Option (List UInt8)) : Prop := ∀ r, o = some r → ∃ q, R = q ++ r
theorem AtR.drop {R r : List UInt8} (h : AtR R (some r)) : r = R.drop (R.length - r.length) ∧ r.length ≤ R.length := by
  obtain ⟨q, hq⟩ := h r rfl
  have hl : R.length = q.length + r.length := by rw [hq]; simp
  refine ⟨?_, by omega⟩
  rw [show R.length - r.length = q.length by omega, hq]; simp
theorem AtR.lit {R r : List UInt8} {w : List UInt8} (h : AtR R (some r)) : AtR R (dlit w r) := by
  intro r' hr'
  obtain ⟨q, hq⟩ := h r rfl
  exact ⟨q ++ w, by rw [hq, dlit_some hr']; simp⟩
def litO (w : List UInt8) (o : Option (List UInt8)) : Option (List UInt8) := o.bind (dlit w)
theorem AtR.litO {R : List UInt8} {o : Option (List UInt8)} {w : List UInt8} (h : AtR R o) : AtR R (litO w o) := by
  cases o with
  | none => intro r hr; cases hr
  | some r => exact h.lit
theorem dlit_iff (w R : List UInt8) : dlit w R = if R.take w.length = w then some (R.drop w.length) else none := by
  unfold dlit
  by_cases h : R.take w.length = w
  · rw [if_pos h, if_pos]
    rw [List.isPrefixOf_iff_prefix, List.prefix_iff_eq_take]; exact h.symm
  · rw [if_neg h, if_neg]
    rw [List.isPrefixOf_iff_prefix, List.prefix_iff_eq_take]; exact fun e => h e.symm

set_option maxRecDepth 100000 in
set_option maxHeartbeats 8000000 in
theorem lit_any (s x : ByteArray) (o : Option (List UInt8)) (w : World) (hs : s.size ≤ 1000000000) (hx : x.size ≤ 1000) (ho : AtR s.data.toList o) :
    Calls Try.prog 27 #[.string s, .int .i64 (plc s.size o), .string x] w fun e w' => e = .returned (.int .i64 (plc s.size (litO x.data.toList o))) ∧ w = w' := by
  have hsl : s.data.toList.length = s.size := by simp
  have hxl : x.data.toList.length = x.size := by simp
  cases o with
  | none =>
    rw [show plc s.size none = -1 from rfl, show plc s.size (litO x.data.toList none) = -1 from rfl]
    go_enter Try.func27, Try.ntmps27
    go_wp2_with fail
    go_ret
    exact ⟨rfl, rfl⟩
  | some r =>
    obtain ⟨hd, hl⟩ := ho.drop
    rw [hsl] at hd hl
    obtain ⟨p, hp⟩ : ∃ p, p = s.size - r.length := ⟨_, rfl⟩
    rw [show plc s.size (some r) = ((s.size - r.length : Nat) : Int) from rfl, show litO x.data.toList (some r) = dlit x.data.toList r from rfl]
    rw [← hp] at hd ⊢
    have hrl : r.length = s.size - p := by omega
    have hps : p ≤ s.size := by omega
    have hp0 : ¬ (p : Int) < 0 := by omega
    by_cases hsh : s.size - p < x.size
    · have h1 : (s.size : Int) - (p : Int) < (x.size : Int) := by omega
      have hf : plc s.size (dlit x.data.toList r) = -1 := by
        rw [dlit_iff, if_neg]
        · rfl
        · intro h
          have := congrArg List.length h
          rw [List.length_take] at this; omega
      have hw1 : IntKind.i64.wrap ((s.size : Int) - (p : Int)) = (s.size : Int) - (p : Int) := IntWalk.i64_in _ (by omega)
      rw [hf]
      clear hd hp hrl hl ho hf hsl hxl
      go_enter Try.func27, Try.ntmps27
      go_wp2_with fail
      go_ret
      exact ⟨rfl, rfl⟩
    · have h1 : ¬ (s.size : Int) - (p : Int) < (x.size : Int) := by omega
      have hw1 : IntKind.i64.wrap ((s.size : Int) - (p : Int)) = (s.size : Int) - (p : Int) := IntWalk.i64_in _ (by omega)
      obtain ⟨q, hq⟩ : ∃ q, q = p + x.size := ⟨_, rfl⟩
      have hw2 : IntKind.i64.wrap ((p : Int) + (x.size : Int)) = (q : Int) := by rw [IntKind.wrap_i64]; omega
      have hpq : (p : Int) ≤ (q : Int) := by omega
      have hqs : (q : Int) ≤ (s.size : Int) := by omega
      have hpq' : p ≤ q := by omega
      have hqs' : q ≤ s.size := by omega
      have hex : (s.extract p q).data.toList = r.take x.size := by
        rw [ByteArray.data_extract, Array.toList_extract, List.extract_eq_take_drop, ← hd]
        congr 1; omega
      by_cases he : s.extract p q = x
      · have ht : ((s.extract p q).toList == x.toList) = true := by rw [he]; simp
        have hf : plc s.size (dlit x.data.toList r) = (q : Int) := by
          rw [dlit_iff, if_pos (by rw [hxl, ← hex, he])]
          show ((s.size - (r.drop x.data.toList.length).length : Nat) : Int) = _
          rw [List.length_drop]; omega
        rw [hf]
        clear hd hp hrl hl ho hf hsl hxl hex he hq
        go_enter Try.func27, Try.ntmps27
        go_wp2_with fail
        go_ret
        exact ⟨rfl, rfl⟩
      · have ht : ((s.extract p q).toList == x.toList) = false := by
          have h : (s.extract p q).toList ≠ x.toList := fun h => he (bytes_ext (by rw [ByteArray.toList_eq, ByteArray.toList_eq] at h; exact h))
          simpa using h
        have hf : plc s.size (dlit x.data.toList r) = -1 := by
          rw [dlit_iff, if_neg]
          · rfl
          · intro h
            apply he
            apply bytes_ext
            rw [hex, ← hxl, h]
        rw [hf]
        clear hd hp hrl hl ho hf hsl hxl hex he hq
        go_enter Try.func27, Try.ntmps27
        go_wp2_with fail
        go_ret
        exact ⟨rfl, rfl⟩
end Go.Proofs.Ytokbakpbhpknfaa
