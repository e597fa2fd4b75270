/-
  The walk of the law BaseDecodes: it returns true. No conditions.
-/
import Derived.Test.YtoonbnfageefnaaRDec
import Derived.Test.YtoonbnfageefnaaEncWalk
namespace Go.Proofs.Ytoonbnfageefnaa
open Go.RowKit

theorem isB_nil (w : World) : IsB w none 0 0 [] := ⟨rfl, .inl rfl, by unfold maxLen; omega, fun _ => ⟨rfl, rfl⟩, by omega, by unfold maxLen; omega⟩

set_option maxRecDepth 100000 in
set_option maxHeartbeats 1000000 in
theorem decodes_near (w : World) (s : ByteArray) (h : s.size ≤ 600) :
    Calls Try.prog 4 #[.string s] w fun e w' => e = .returned (.bool true) ∧ Below w.heap.size w w' := by
  have h3 : decide (600 < (s.size : Int)) = false := by simp; omega
  go_enter Try.func4, Try.ntmps4
  go_wp2_with fail
  refine (awake_any _).mono ?_
  rintro e w1 ⟨rfl, hb1⟩
  go_wp2_with fail
  refine (decode_any s _ (by omega)).mono ?_
  rintro e w2 ⟨hs2, hn2, hb2'⟩
  have hb2 : Below w.heap.size w w2 := hb1.trans (hb2'.mono hb1.size)
  rcases hd : dec s.data.toList with _ | p
  · obtain rfl := hn2 hd
    have HD := Lib.hid hd
    clear hs2 hn2 hd hb1 hb2'
    go_wp2_with fail
    refine (rdecode_any s _ (by omega)).mono ?_
    rintro e w3 ⟨_, hn3, hb3'⟩
    obtain rfl := hn3 HD.out
    have hb3 : Below w.heap.size w w3 := hb2.trans (hb3'.mono hb2.size)
    have hc := convert_b (isB_nil w3)
    clear hn3 hb2 hb3'
    go_wp2_with fail
    go_ret
    exact ⟨rfl, hb3⟩
  · obtain ⟨g, rfl, hq⟩ := hs2 p hd
    have HD := Lib.hid hd
    have I2 := Lib.hid (isB_owns hq)
    clear hs2 hn2 hd hb1 hb2' hq
    go_wp2_with fail
    refine (rdecode_any s _ (by omega)).mono ?_
    rintro e w3 ⟨hs3, _, hb3'⟩
    obtain ⟨g2, rfl, hq⟩ := hs3 p HD.out
    have hb3 : Below w.heap.size w w3 := hb2.trans (hb3'.mono hb2.size)
    have I3 := Lib.hid (isB_owns hq)
    have I2' := Lib.hid (I2.out.later hb3')
    have hc1 := convert_b I2'.out
    have hc2 := convert_b I3.out
    clear hs3 hb2 hb3' hq
    have hpl : p.length ≤ 1000 := by
      have h1 := dec_enc_of _ _ HD.out
      have h2 := enc_length p
      rw [h1] at h2
      have h3 : s.data.toList.length = s.size := by simp
      unfold slen at h2
      omega
    go_wp2_with fail
    refine (encode_b _ _ _ p _ I2'.out (by omega)).mono ?_
    rintro e w4 ⟨rfl, hb4⟩
    rw [dec_enc_of _ _ HD.out]
    go_wp2_with fail
    go_ret
    exact ⟨rfl, hb3.trans (hb4.mono hb3.size)⟩

theorem walk_BaseDecodes (w : World) (s : ByteArray) (_w0 : s.size ≤ maxLen) (m0 : s.size ≤ 140737488355328) :
    Calls Try.prog 4 #[.string s] w fun e w' => e = .returned (.bool true) ∧ Below w.heap.size w w' := by
  by_cases h : 600 < s.size
  · have h3 : decide (600 < (s.size : Int)) = true := by simp; omega
    go_enter Try.func4, Try.ntmps4
    go_wp2_with fail
    refine (awake_any _).mono ?_
    rintro e w1 ⟨rfl, hb1⟩
    go_wp2_with fail
    refine (awake_any _).mono ?_
    rintro e w2 ⟨rfl, hb2⟩
    go_wp2_with fail
    go_ret
    exact ⟨rfl, hb1.trans (hb2.mono hb1.size)⟩
  · exact decodes_near w s (by omega)

end Go.Proofs.Ytoonbnfageefnaa
