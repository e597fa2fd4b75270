/-
  The contracts of whole, New, Len, Ops, Way, On. Conditions: what is handed in lies in old memory; the device is as Dev says.
-/
import Derived.Test.YtjidiholhhdanaaSCopy
namespace Go.Proofs.Ytjidiholhhdanaa
open Go.RowKit
set_option linter.unusedVariables false

def wl (l : List UInt8) (k : Nat) : List UInt8 := l.take k ++ zer (256 - k)
/-- A sector's bytes, the first ones from a few. -/
def wholeL (l : List UInt8) : List UInt8 := l.take 256 ++ zer (256 - l.length)
theorem wl_step {l : List UInt8} {k : Nat} (h : k < l.length) (h2 : k < 256) : (wl l k).set k (l.getD k 0) = wl l (k + 1) := by
  unfold wl zer
  rw [List.set_append_right _ _ (by simp; omega), List.take_succ_eq_append_getElem h, List.getD_eq_getElem?_getD, List.getElem?_eq_getElem h]
  have e : k - (l.take k).length = 0 := by simp; omega
  rw [e, show 256 - k = (256 - (k + 1)) + 1 by omega, List.replicate_succ, List.set_cons_zero, List.append_assoc, List.singleton_append]
  rfl
theorem wl_end {l : List UInt8} {k : Nat} (h : k = min l.length 256) : wl l k = wholeL l := by
  subst h
  unfold wl wholeL
  by_cases hl : l.length ≤ 256
  · rw [Nat.min_eq_left hl, List.take_of_length_le (Nat.le_refl _), List.take_of_length_le hl]
  · rw [Nat.min_eq_right (by omega), show 256 - 256 = 256 - l.length by omega]
theorem wholeL_length (l : List UInt8) : (wholeL l).length = 256 := by simp [wholeL, zer]; omega
theorem wl_length {l : List UInt8} {k : Nat} (h : k ≤ l.length) (h2 : k ≤ 256) : (wl l k).length = 256 := by simp [wl, zer]; omega

def WholeP (l : List UInt8) (w : World) (e : Ending) (w' : World) : Prop :=
  ∃ b, e = .returned (.slice (some ⟨b, 0, none⟩) 256 256) ∧ Has w' b ((wholeL l).map bv) 5 ∧ w.heap.size ≤ b ∧ Below w.heap.size w w'

set_option maxRecDepth 100000 in
set_option maxHeartbeats 4000000 in
theorem whole_any (a : Option Addr) (len cap : Nat) (l : List UInt8) (w : World) (hp : IsB w a len cap l) :
    Calls Try.prog 18 #[.slice a len cap] w (WholeP l w) := by
  have hlen := hp.length
  have hroom : len ≤ 9223372036854775807 := by have := hp.room; unfold maxLen at this; omega
  have hmk := mk256 w
  have HP := Lib.hid hp
  clear hp
  obtain ⟨A, hA⟩ : ∃ A, A = w.heap.size := ⟨_, rfl⟩
  obtain ⟨w1, hw1⟩ : ∃ w1, w1 = w.alloc (.cells ((zer 256).map bv).toArray 5) := ⟨_, rfl⟩
  rw [← hA, ← hw1] at hmk
  have h1 : Hid (Has w1 A ((wl l 0).map bv) 5) := Lib.hid (by rw [hw1, hA]; exact Has.new w _ _)
  have b1 : Hid (Below A w w1) := Lib.hid (by rw [hw1, hA]; exact (Below.refl _ _).alloc (Nat.le_refl _) _)
  have HA := Lib.hid hA
  have HL := Lib.hid hlen
  clear hw1 hA hlen
  go_enter Try.func18, Try.ntmps18
  go_wp2_with fail
  clear hmk
  go_loopw [4] (fun ii wr => ∃ k : Nat, k ≤ len ∧ k ≤ 256 ∧ ii = .int .i64 k ∧ Hid (Has wr A ((wl l k).map bv) 5) ∧ Hid (Below A w wr)) (fun ii _ => 256 - (intOf ii).toNat)
  case atStart => exact ⟨0, Nat.zero_le _, Nat.zero_le _, rfl, h1, b1⟩
  case round =>
    clear h1 b1
    obtain ⟨k, hk, hk2, rfl, h, hb⟩ := hrel
    by_cases hlt : k < len ∧ k < 256
    · obtain ⟨h3, h4⟩ := hlt
      obtain ⟨b, off, rfl, hbl, hc⟩ : ∃ b off, a = some ⟨b, off, none⟩ ∧ b < A ∧ wr.cell? ⟨b, off + k, none⟩ = some (bv (l.getD k 0)) := by
        rcases HP.out.at_ with h0 | ⟨b, off, e, hlt, hc⟩
        · omega
        · exact ⟨b, off, e, by rw [HA.out]; exact hlt, (hb.out.cell (p := ⟨b, _, none⟩) (by rw [HA.out]; exact hlt)).trans (hc k h3)⟩
      have h3' : (k : Int) < (len : Int) := by omega
      have h4' : (k : Int) < 256 := by omega
      have hz := h.out.frozen k
      have hq := h.out.cellAt (map_bv_get (wl l k) k (by rw [wl_length (by rw [HL.out]; omega) (by omega)]; exact h4))
      have HS : Hid ((wl l k).set k (l.getD k 0) = wl l (k + 1)) := Lib.hid (wl_step (by rw [HL.out]; exact h3) h4)
      obtain ⟨x, hx⟩ : ∃ x, x = l.getD k 0 := ⟨_, rfl⟩
      rw [← hx] at hc HS
      unfold bv at hc hq
      clear hx
      go_wp2_with fail
      go_roundw
      case rel =>
        refine ⟨k + 1, by omega, by omega, by go_num, Lib.hid ?_, Lib.hid (hb.out.setCell (p := ⟨A, k, none⟩) (Nat.le_refl _) _)⟩
        rw [← HS.out, List.map_set]
        exact h.out.set k _
      case measure => simp [intOf]; omega
    · have he : wl l k = wholeL l := wl_end (by rw [HL.out]; omega)
      have HE := Lib.hid he
      clear he
      by_cases h3 : k < len
      · have h3' : (k : Int) < (len : Int) := by omega
        have h4' : ¬ (k : Int) < 256 := by omega
        go_wp2_with fail
        go_ret
        exact ⟨A, rfl, by rw [← HE.out]; exact h.out, by rw [HA.out]; exact Nat.le_refl _, by rw [← HA.out]; exact hb.out⟩
      · have h3' : ¬ (k : Int) < (len : Int) := by omega
        go_wp2_with fail
        go_ret
        exact ⟨A, rfl, by rw [← HE.out]; exact h.out, by rw [HA.out]; exact Nat.le_refl _, by rw [← HA.out]; exact hb.out⟩

section
variable {w : World} {B pb bd bl : Nat} {v : Value} {n : Nat} {D L : List UInt8} {way : List Wr} {ops fall : Nat} {off : Bool}
set_option maxRecDepth 100000
theorem len_any (h : Dev w B pb bd bl v n D L way ops fall off) : Calls Try.prog 22 #[.pointer (some ⟨pb, 0, none⟩)] w fun e w' => e = .returned (.int .i64 (n : Int)) ∧ w = w' := by
  have c0 := h.box.cellAt (i := 0) rfl
  clear h
  go_enter Try.func22, Try.ntmps22
  go_wp2
  go_ret
  exact ⟨rfl, rfl⟩
theorem ops_any (h : Dev w B pb bd bl v n D L way ops fall off) (ho : ops < 9223372036854775807) : Calls Try.prog 13 #[.pointer (some ⟨pb, 0, none⟩)] w fun e w' => e = .returned (.int .i64 (ops : Int)) ∧ w = w' := by
  have c3 := h.box.cellAt (i := 3) rfl
  clear h
  have hw : IntKind.i64.wrap (ops : Int) = (ops : Int) := by rw [IntKind.wrap_i64]; omega
  go_enter Try.func13, Try.ntmps13
  go_wp2_with (go_at_call 25; refine (load_any pb 3 _ _ c3).mono ?_; rintro e w' ⟨rfl, rfl⟩)
  go_ret
  exact ⟨rfl, rfl⟩
theorem way_any (h : Dev w B pb bd bl v n D L way ops fall off) : Calls Try.prog 12 #[.pointer (some ⟨pb, 0, none⟩)] w fun e w' => e = .returned (.int .i64 (way.length : Int)) ∧ w = w' := by
  obtain ⟨c, a, k, hv⟩ : ∃ c a k, v = .slice c way.length k ∧ a = 0 := by
    rcases h.wrs.2 with ⟨e, h0⟩ | ⟨g, cap, cur, e, _⟩
    · exact ⟨none, 0, 0, by rw [e, h0], rfl⟩
    · exact ⟨_, 0, _, e, rfl⟩
  have c2 := h.box.cellAt (i := 2) rfl
  rw [hv.1] at c2
  clear hv h
  go_enter Try.func12, Try.ntmps12
  go_wp2
  go_ret
  exact ⟨rfl, rfl⟩
theorem on_any (h : Dev w B pb bd bl v n D L way ops fall off) : Calls Try.prog 11 #[.pointer (some ⟨pb, 0, none⟩)] w fun e w' => e = .returned (.bool (!off)) ∧ w = w' := by
  have c5 := h.box.cellAt (i := 5) rfl
  clear h
  go_enter Try.func11, Try.ntmps11
  go_wp2
  go_ret
  exact ⟨rfl, rfl⟩
end

end Go.Proofs.Ytjidiholhhdanaa
