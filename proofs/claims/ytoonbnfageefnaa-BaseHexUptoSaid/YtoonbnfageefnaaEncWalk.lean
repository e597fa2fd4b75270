/-
  The walk of the law BaseEncodes: it returns true. No conditions.
-/
import Derived.Test.YtoonbnfageefnaaREnc
import Derived.Test.YtoonbnfageefnaaDecode
import Derived.Test.YtoonbnfageefnaaAwake
namespace Go.Proofs.Ytoonbnfageefnaa
open Go.RowKit

theorem len_b (n : Nat) (w : World) (h : n ≤ 1000000000) :
    Calls Try.prog 13 #[.int .i64 (n : Int)] w fun e w' => e = .returned (.int .i64 (slen n)) ∧ w = w' := by
  rcases Nat.eq_zero_or_pos n with rfl | h0
  · exact len_none _ w (by omega)
  · have := len_any (n : Int) w (by omega) (by omega)
    rw [Int.toNat_natCast] at this
    exact this

theorem isB_owns {w : World} {base g n cap : Nat} {l : List UInt8} (h : w.ownsRow base 5 1 (.slice (some ⟨g, 0, none⟩) n cap) n (l.map bv)) : IsB w (some ⟨g, 0, none⟩) n cap l := by
  obtain ⟨a, c, hv, hI, _⟩ := isB_of_owns h
  cases hv
  exact hI

set_option maxRecDepth 100000 in
set_option maxHeartbeats 1000000 in
theorem encodes_near (w : World) (a0 : Option Addr) (n0 c0 : Nat) (l : List UInt8) (w0 : IsB w a0 n0 c0 l) (h : n0 ≤ 400) :
    Calls Try.prog 3 #[.slice a0 n0 c0] w fun e w' => e = .returned (.bool true) ∧ Below w.heap.size w w' := by
  have h3 : decide (400 < (n0 : Int)) = false := by simp; omega
  have W0 := Lib.hid w0
  have L0 := Lib.hid w0.length
  clear w0
  go_enter Try.func3, Try.ntmps3
  go_wp2_with fail
  refine (awake_any _).mono ?_
  rintro e w1 ⟨rfl, hb1⟩
  go_wp2_with fail
  refine (encode_b _ _ _ l _ (W0.out.later hb1) (by omega)).mono ?_
  rintro e w2 ⟨rfl, hb2'⟩
  have hb2 : Below w.heap.size w w2 := hb1.trans (hb2'.mono hb1.size)
  clear hb1 hb2'
  go_wp2_with fail
  refine (decode_any _ _ (by show (enc l).toArray.size ≤ 100000; rw [List.size_toArray, enc_length, L0.out]; unfold slen; omega)).mono ?_
  rintro e w3 ⟨hd1, _, hb3'⟩
  obtain ⟨g, rfl, hq⟩ := hd1 l (by exact dec_enc l)
  have hb3 : Below w.heap.size w w3 := hb2.trans (hb3'.mono hb2.size)
  have I3 := Lib.hid (isB_owns hq)
  clear hd1 hb2 hb3' hq
  rw [L0.out]
  go_wp2_with fail
  refine (rencode_b _ _ _ l _ (W0.out.later hb3) (by omega)).mono ?_
  rintro e w4 ⟨rfl, hb4'⟩
  have hb4 : Below w.heap.size w w4 := hb3.trans (hb4'.mono hb3.size)
  have I4 := I3.out.later hb4'
  rw [L0.out] at I4
  have hc1 := convert_b I4
  have hc2 := convert_b (W0.out.later hb4)
  have hsz : (enc l).toArray.size = slen n0 := by rw [List.size_toArray, enc_length, L0.out]
  clear I4 hb3 hb4'
  go_wp2_with (go_at_call 13; refine (len_b _ _ (by omega)).mono ?_; rintro e w' ⟨rfl, rfl⟩)
  go_ret
  exact ⟨rfl, hb4⟩

set_option maxHeartbeats 1000000 in
theorem encodes_far (w : World) (a0 : Option Addr) (n0 c0 : Nat) (m0 : n0 ≤ 140737488355328) (h : 400 < n0) :
    Calls Try.prog 3 #[.slice a0 n0 c0] w fun e w' => e = .returned (.bool true) ∧ Below w.heap.size w w' := by
  have h3 : decide (400 < (n0 : Int)) = true := by simp; omega
  go_enter Try.func3, Try.ntmps3
  go_wp2_with fail
  refine (awake_any _).mono ?_
  rintro e w1 ⟨rfl, hb1⟩
  go_wp2_with fail
  refine (awake_any _).mono ?_
  rintro e w2 ⟨rfl, hb2⟩
  go_wp2_with fail
  go_ret
  exact ⟨rfl, hb1.trans (hb2.mono hb1.size)⟩

theorem walk_BaseEncodes (w : World) (a0 : Option Addr) (n0 c0 : Nat) (p : List UInt8) (w0 : IsB w a0 n0 c0 p) (m0 : n0 ≤ 140737488355328) :
    Calls Try.prog 3 #[.slice a0 n0 c0] w fun e w' => e = .returned (.bool true) ∧ Below w.heap.size w w' := by
  by_cases h : 400 < n0
  · exact encodes_far w a0 n0 c0 m0 h
  · exact encodes_near w a0 n0 c0 p w0 (by omega)

end Go.Proofs.Ytoonbnfageefnaa
