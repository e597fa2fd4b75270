/-
  The walk of the law BaseHex: it returns true. Conditions: at most some million bytes and letters.
-/
import Derived.Test.YtoonbnfageefnaaRReadHex
import Derived.Test.YtoonbnfageefnaaRHex
import Derived.Test.YtoonbnfageefnaaEncWalk
namespace Go.Proofs.Ytoonbnfageefnaa
open Go.RowKit

theorem isB_nil' (w : World) : IsB w none 0 0 [] := ⟨rfl, .inl rfl, by unfold maxLen; omega, fun _ => ⟨rfl, rfl⟩, by omega, by unfold maxLen; omega⟩

set_option maxRecDepth 100000 in
set_option maxHeartbeats 2000000 in
theorem walk_BaseHex (w : World) (a0 : Option Addr) (n0 c0 : Nat) (l : List UInt8) (w0 : IsB w a0 n0 c0 l) (m0 : n0 ≤ 1048576) (s : ByteArray) (_w1 : s.size ≤ maxLen) (m1 : s.size ≤ 1048576) :
    Calls Try.prog 6 #[.slice a0 n0 c0, .string s] w fun e w' => e = .returned (.bool true) ∧ Below w.heap.size w w' := by
  have W0 := Lib.hid w0
  have L0 := Lib.hid w0.length
  clear w0
  go_enter Try.func6, Try.ntmps6
  go_wp2_with fail
  refine (awake_any _).mono ?_
  rintro e w1 ⟨rfl, hb1⟩
  go_wp2_with fail
  refine (hex_b _ _ _ l _ (W0.out.later hb1) (by omega)).mono ?_
  rintro e w2 ⟨rfl, hb2'⟩
  have hb2 : Below w.heap.size w w2 := hb1.trans (hb2'.mono hb1.size)
  clear hb1 hb2'
  go_wp2_with fail
  refine (readhex_any _ _ (by show (hexL l).toArray.size ≤ 140737488355328; rw [List.size_toArray, hexL_length, L0.out]; omega)).mono ?_
  rintro e w3 ⟨hd1, _, hb3'⟩
  obtain ⟨g, rfl, hq⟩ := hd1 l (by exact unhex_hexL l)
  have hb3 : Below w.heap.size w w3 := hb2.trans (hb3'.mono hb2.size)
  have I3 := Lib.hid (isB_owns hq)
  clear hd1 hb2 hb3' hq
  go_wp2_with fail
  refine (readhex_any s _ (by omega)).mono ?_
  rintro e w4 ⟨hs4, hn4, hb4'⟩
  have hb4 : Below w.heap.size w w4 := hb3.trans (hb4'.mono hb3.size)
  have I4 := Lib.hid (I3.out.later hb4')
  clear hb3 hb4' I3
  rcases hd : unhex s.data.toList with _ | p
  · obtain rfl := hn4 hd
    have HD := Lib.hid hd
    clear hs4 hn4 hd
    go_wp2_with fail
    refine (rreadhex_any s _ (by omega)).mono ?_
    rintro e w5 ⟨_, hn5, hb5'⟩
    obtain rfl := hn5 HD.out
    have hb5 : Below w.heap.size w w5 := hb4.trans (hb5'.mono hb4.size)
    have I5 := Lib.hid (I4.out.later hb5')
    clear hn5 hb4 hb5' I4
    go_wp2_with fail
    refine (rhex_b _ _ _ l _ (W0.out.later hb5) (by omega)).mono ?_
    rintro e w6 ⟨rfl, hb6'⟩
    have hb6 : Below w.heap.size w w6 := hb5.trans (hb6'.mono hb5.size)
    have hc1 := convert_b (I5.out.later hb6')
    have hc2 := convert_b (W0.out.later hb6)
    have hc3 := convert_b (isB_nil' w6)
    clear hb5 hb6' I5
    go_wp2_with fail
    go_ret
    exact ⟨rfl, hb6⟩
  · obtain ⟨g4, rfl, hq⟩ := hs4 p hd
    have J4 := Lib.hid (isB_owns hq)
    have HD := Lib.hid hd
    clear hs4 hn4 hd hq
    go_wp2_with fail
    refine (rreadhex_any s _ (by omega)).mono ?_
    rintro e w5 ⟨hs5, _, hb5'⟩
    obtain ⟨a5, c5, rfl, hK⟩ := hs5 p HD.out
    have hb5 : Below w.heap.size w w5 := hb4.trans (hb5'.mono hb4.size)
    have I5 := Lib.hid (I4.out.later hb5')
    have J5 := Lib.hid (J4.out.later hb5')
    have K5 := Lib.hid hK
    clear hs5 hb4 hb5' I4 J4 hK
    go_wp2_with fail
    refine (rhex_b _ _ _ l _ (W0.out.later hb5) (by omega)).mono ?_
    rintro e w6 ⟨rfl, hb6'⟩
    have hb6 : Below w.heap.size w w6 := hb5.trans (hb6'.mono hb5.size)
    have hc1 := convert_b (I5.out.later hb6')
    have hc2 := convert_b (W0.out.later hb6)
    have hc3 := convert_b (J5.out.later hb6')
    have hc4 := convert_b (K5.out.later hb6')
    clear hb5 hb6' I5 J5 K5
    go_wp2_with fail
    go_ret
    exact ⟨rfl, hb6⟩

end Go.Proofs.Ytoonbnfageefnaa
