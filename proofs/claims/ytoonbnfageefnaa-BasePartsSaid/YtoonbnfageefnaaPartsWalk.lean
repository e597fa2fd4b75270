/-
  The walk of the law BaseParts: it returns true. No conditions.
-/
import Derived.Test.YtoonbnfageefnaaRowMore
import Derived.Test.YtoonbnfageefnaaAwake
import Derived.Test.YtoonbnfageefnaaPartsMath
import Derived.Deep.RegionHeld3
namespace Go.Proofs.Ytoonbnfageefnaa
open Go.RowKit

theorem isB_take {w : World} {a : Option Addr} {len cap : Nat} {l : List UInt8} (h : IsB w a len cap l) (k : Nat) (hk : k ≤ len) : IsB w a k cap (l.take k) := by
  obtain ⟨h1, h2, h3, h4, h5⟩ := h
  refine ⟨by simp; omega, ?_, by omega, fun ha => ⟨by have := h4 ha; omega, (h4 ha).2⟩, by omega, h5.2⟩
  rcases h2 with h0 | ⟨b, off, rfl, hlt, hby⟩
  · exact .inl (by omega)
  · refine .inr ⟨b, off, rfl, hlt, fun i hi => ?_⟩
    have hi' : i < k := by simp at hi; omega
    rw [hby i (by omega)]
    simp [List.getD, hi']

theorem encode_in {w0 w : World} {a : Option Addr} {len cap : Nat} {l : List UInt8} (h : Hid (IsB w0 a len cap l)) (hS : Below w0.heap.size w0 w) (hm : len ≤ 100000) :
    Calls Try.prog 10 #[.slice a len cap] w fun e w' => e = .returned (.string ⟨(enc l).toArray⟩) ∧ Below w0.heap.size w0 w' :=
  (encode_b a len cap l w (h.out.later hS) hm).mono fun _ _ ⟨he, hb⟩ => ⟨he, hS.trans (hb.mono hS.size)⟩

set_option maxRecDepth 100000 in
set_option maxHeartbeats 1000000 in
theorem parts_some (w : World) (x : Addr) (n0 c0 : Nat) (p : List UInt8) (w0 : IsB w (some x) n0 c0 p) (a1 : Option Addr) (n1 c1 : Nat) (q : List UInt8) (w1 : IsB w a1 n1 c1 q) (h : n0 + n1 ≤ 300) (hc : n0 ≤ c0) (hcm : c0 ≤ 9223372036854775807) :
    Calls Try.prog 8 #[.slice (some x) n0 c0, .slice a1 n1 c1] w fun e w' => e = .returned (.bool true) ∧ Below w.heap.size w w' := by
  obtain ⟨i0, hi, hz0, hz1, hz2⟩ := info_parts info_u8
  have W0 := Lib.hid w0
  have W1 := Lib.hid w1
  clear w0 w1
  have h3 : decide (300 < (n0 : Int) + (n1 : Int)) = false := by simp; omega
  have h5 : (0 : Int) ≤ (n0 : Int) % 5 := by omega
  have h6 : (n0 : Int) % 5 ≤ (n0 : Int) := by omega
  have h7 : (n0 : Int) % 5 < 5 := by omega
  have h8 : (0 : Int) ≤ (n0 : Int) - (n0 : Int) % 5 := by omega
  have h9 : (n0 : Int) - (n0 : Int) % 5 ≤ (c0 : Int) := by omega
  go_enter Try.func8, Try.ntmps8
  go_wp2_with fail
  refine (awake_any _).mono ?_
  rintro e w1 ⟨rfl, hb1⟩
  have B1 := hb1.size
  go_wp2_with (at_builtin; refine wpList_append_bytes rfl (.tmp 24) (.tmp 27) 22 rfl w.heap.size 5 i0 Try.underlying22 hi hz0 hz1 hz2 _ 0 [] rfl (World.ownsRow_nil _ _ _ _) (some x) (n0 - n0 % 5) c0 (p.take (n0 - n0 % 5)) rfl (isB_take (W0.out.later hb1) _ (by omega)) (by omega) (by omega) ?_)
  intro v2 w2 hown2 hgrow2
  have hown2 : w2.ownsRow w.heap.size 5 1 v2 (n0 - n0 % 5) ((p.take (n0 - n0 % 5)).map bv) := by simpa using hown2
  have hb2 : Below w.heap.size w w2 := hb1.grown hgrow2 B1 (by intro k hk; cases hk)
  have B2 := hb2.size
  go_wp2_with (at_builtin; refine wpList_append_bytes rfl (.tmp 29) (.tmp 30) 22 rfl w.heap.size 5 i0 Try.underlying22 hi hz0 hz1 hz2 v2 (n0 - n0 % 5) (p.take (n0 - n0 % 5)) rfl hown2 a1 n1 c1 q rfl (W1.out.later hb2) (by omega) (by omega) ?_)
  intro v3 w3 hown3 hgrow3
  have hown3 : w3.ownsRow w.heap.size 5 1 v3 (n0 - n0 % 5 + n1) ((p.take (n0 - n0 % 5) ++ q).map bv) := by simpa using hown3
  have hb3 : Below w.heap.size w w3 := hb2.grown hgrow3 B2 (fun k hk => (hown2.lt k hk).1)
  obtain ⟨a3, c3, rfl, I3, _⟩ := isB_of_owns hown3
  have W3 := Lib.hid I3
  clear I3 hown3 hown2 hgrow2 hgrow3 hb1
  go_wp2_with fail
  have IP : Hid (IsB w3 (some x) ((n0 : Int) - (n0 : Int) % 5).toNat c0 (p.take (n0 - n0 % 5))) := Lib.hid (by rw [show ((n0 : Int) - (n0 : Int) % 5).toNat = n0 - n0 % 5 from by omega]; exact isB_take (W0.out.later hb3) (n0 - n0 % 5) (by omega))
  have IQ := Lib.hid (W1.out.later hb3)
  have HB3 := Lib.hid hb3
  have B0 := Below.refl w3.heap.size w3
  have L0 := W0.out.length
  have L1 := W1.out.length
  have hadd : ∀ W, (Op.stringOp .add ⟨(enc q).toArray⟩ ⟨(enc (p.take (n0 - n0 % 5))).toArray⟩).run Try.prog W = .ok (.string ⟨(enc q ++ enc (p.take (n0 - n0 % 5))).toArray⟩) W :=
    fun W => run_string_add_lists W _ _ (by rw [enc_length]; unfold slen; omega) (by rw [enc_length, List.length_take]; unfold slen; omega)
  have HP := Lib.hid (enc_parts p q)
  rw [L0] at HP
  clear hb2 hb3 W0 W1 B1 B2 L0 L1
  go_region_held3 (fun w' => Below w3.heap.size w3 w')
    (first
      | exact Below.refl _ _
      | assumption
      | exact Below.drew (by assumption))
    (first
      | (go_at_call 10; ((with_reducible refine (encode_in W3 (by assumption) (by omega)).mono ?_); rintro e w5 ⟨rfl, hb5⟩))
      | (go_at_call 10; ((with_reducible refine (encode_in IQ (by assumption) (by omega)).mono ?_); rintro e w6 ⟨rfl, hb6⟩))
      | (go_at_call 10; ((with_reducible refine (encode_in IP (by assumption) (by omega)).mono ?_); rintro e w7 ⟨rfl, hb7⟩)))
  all_goals
    go_wp2
    go_ret
    refine ⟨?_, HB3.out.trans ((show Below w3.heap.size w3 _ by assumption).mono HB3.out.size)⟩
    rw [HP.out]
    simp

set_option maxRecDepth 100000 in
set_option maxHeartbeats 1000000 in
theorem parts_none (w : World) (a1 : Option Addr) (n1 c1 : Nat) (q : List UInt8) (w1 : IsB w a1 n1 c1 q) (h : n1 ≤ 300) :
    Calls Try.prog 8 #[.slice none 0 0, .slice a1 n1 c1] w fun e w' => e = .returned (.bool true) ∧ Below w.heap.size w w' := by
  obtain ⟨i0, hi, hz0, hz1, hz2⟩ := info_parts info_u8
  have W1 := Lib.hid w1
  clear w1
  have h3 : decide (300 < (n1 : Int)) = false := by simp; omega
  go_enter Try.func8, Try.ntmps8
  go_wp2_with fail
  refine (awake_any _).mono ?_
  rintro e w1 ⟨rfl, hb1⟩
  have B1 := hb1.size
  go_wp2_with (at_builtin; refine wpList_append_bytes rfl (.tmp 24) (.tmp 27) 22 rfl w.heap.size 5 i0 Try.underlying22 hi hz0 hz1 hz2 _ 0 [] rfl (World.ownsRow_nil _ _ _ _) none 0 0 [] rfl ⟨rfl, .inl rfl, by unfold maxLen; omega, fun _ => ⟨rfl, rfl⟩, by omega, by unfold maxLen; omega⟩ (by omega) (by omega) ?_)
  intro v2 w2 hown2 hgrow2
  have hown2 : w2.ownsRow w.heap.size 5 1 v2 0 (([] : List UInt8).map bv) := by simpa using hown2
  have hb2 : Below w.heap.size w w2 := hb1.grown hgrow2 B1 (by intro k hk; cases hk)
  have B2 := hb2.size
  go_wp2_with (at_builtin; refine wpList_append_bytes rfl (.tmp 29) (.tmp 30) 22 rfl w.heap.size 5 i0 Try.underlying22 hi hz0 hz1 hz2 v2 0 [] rfl hown2 a1 n1 c1 q rfl (W1.out.later hb2) (by omega) (by omega) ?_)
  intro v3 w3 hown3 hgrow3
  have hown3 : w3.ownsRow w.heap.size 5 1 v3 n1 (q.map bv) := by simpa using hown3
  have hb3 : Below w.heap.size w w3 := hb2.grown hgrow3 B2 (fun k hk => (hown2.lt k hk).1)
  obtain ⟨a3, c3, rfl, I3, _⟩ := isB_of_owns hown3
  have W3 := Lib.hid I3
  clear I3 hown3 hown2 hgrow2 hgrow3 hb1
  go_wp2_with fail
  have IP : Hid (IsB w3 none 0 0 []) := Lib.hid ⟨rfl, .inl rfl, by unfold maxLen; omega, fun _ => ⟨rfl, rfl⟩, by omega, by unfold maxLen; omega⟩
  have IQ := Lib.hid (W1.out.later hb3)
  have HB3 := Lib.hid hb3
  have B0 := Below.refl w3.heap.size w3
  have L1 := W1.out.length
  have e0 : enc [] = [] := rfl
  have hadd : ∀ W, (Op.stringOp .add ⟨(enc q).toArray⟩ ⟨(enc []).toArray⟩).run Try.prog W = .ok (.string ⟨(enc q ++ enc []).toArray⟩) W :=
    fun W => run_string_add_lists W _ _ (by rw [enc_length]; unfold slen; omega) (by rw [e0]; simp)
  have HP := Lib.hid e0
  clear hb2 hb3 W1 B1 B2 L1 e0
  go_region_held3 (fun w' => Below w3.heap.size w3 w')
    (first
      | exact Below.refl _ _
      | assumption
      | exact Below.drew (by assumption))
    (first
      | (go_at_call 10; ((with_reducible refine (encode_in W3 (by assumption) (by omega)).mono ?_); rintro e w5 ⟨rfl, hb5⟩))
      | (go_at_call 10; ((with_reducible refine (encode_in IQ (by assumption) (by omega)).mono ?_); rintro e w6 ⟨rfl, hb6⟩))
      | (go_at_call 10; ((with_reducible refine (encode_in IP (by assumption) (by omega)).mono ?_); rintro e w7 ⟨rfl, hb7⟩)))
  all_goals
    go_wp2
    go_ret
    refine ⟨?_, HB3.out.trans ((show Below w3.heap.size w3 _ by assumption).mono HB3.out.size)⟩
    simp [HP.out]

set_option maxHeartbeats 1000000 in
theorem parts_far (w : World) (a0 : Option Addr) (n0 c0 : Nat) (a1 : Option Addr) (n1 c1 : Nat) (m0 : n0 ≤ 140737488355328) (m1 : n1 ≤ 140737488355328) (h : 300 < n0 + n1) :
    Calls Try.prog 8 #[.slice a0 n0 c0, .slice a1 n1 c1] w fun e w' => e = .returned (.bool true) ∧ Below w.heap.size w w' := by
  have h3 : decide (300 < (n0 : Int) + (n1 : Int)) = true := by simp; omega
  go_enter Try.func8, Try.ntmps8
  go_wp2_with fail
  refine (awake_any _).mono ?_
  rintro e w1 ⟨rfl, hb1⟩
  go_wp2_with fail
  refine (awake_any _).mono ?_
  rintro e w2 ⟨rfl, hb2⟩
  go_wp2_with fail
  go_ret
  exact ⟨rfl, hb1.trans (hb2.mono hb1.size)⟩

theorem walk_BaseParts (w : World) (a0 : Option Addr) (n0 c0 : Nat) (p : List UInt8) (w0 : IsB w a0 n0 c0 p) (m0 : n0 ≤ 140737488355328) (a1 : Option Addr) (n1 c1 : Nat) (q : List UInt8) (w1 : IsB w a1 n1 c1 q) (m1 : n1 ≤ 140737488355328) :
    Calls Try.prog 8 #[.slice a0 n0 c0, .slice a1 n1 c1] w fun e w' => e = .returned (.bool true) ∧ Below w.heap.size w w' := by
  by_cases h : 300 < n0 + n1
  · exact parts_far w a0 n0 c0 a1 n1 c1 m0 m1 h
  · cases a0 with
    | none =>
      obtain ⟨rfl, rfl⟩ := w0.nil rfl
      exact parts_none w a1 n1 c1 q w1 (by omega)
    | some x =>
      have hr := w0.room
      unfold maxLen at hr
      exact parts_some w x n0 c0 p w0 a1 n1 c1 q w1 (by omega) hr.1 (by omega)

end Go.Proofs.Ytoonbnfageefnaa
