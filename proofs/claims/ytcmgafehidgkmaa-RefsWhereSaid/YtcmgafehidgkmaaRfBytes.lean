/-
  The contract of Bytes. Conditions: bounds on the lengths.
-/
import Derived.Test.YtcmgafehidgkmaaRfAns
namespace Go.Proofs.Ytcmgafehidgkmaa
open Go.RowKit
set_option linter.unusedVariables false

/-- What answers a list of texts of its own. -/
def AnsPost (Q : Bts → Prop) (l : List ByteArray) (w : World) (e : Ending) (w' : World) : Prop :=
  ∃ (v : Value) (o : List ByteArray), e = .returned v ∧ o.map btsOf = ansT Q (l.map btsOf) ∧ w'.ownsRow w.heap.size 9 1 v o.length (o.map Value.string) ∧ o.length ≤ l.length ∧ Below w.heap.size w w'
theorem metL_le : ∀ (ss : List ByteArray) (ms : List Bool), (metL ss ms).length ≤ ss.length
  | [], _ => by simp [metL]
  | x :: ss, [] => by simp [metL]
  | x :: ss, m :: ms => by
    have ih := metL_le ss ms
    show (if m = true then x :: metL ss ms else metL ss ms).length ≤ _
    split
    · simpa using ih
    · simp; omega
theorem far_old {w : World} {B s : Nat} {v : Value} {mb : Nat} {sg : List Bool} {D : DataW Unit} {ss : List ByteArray} {ms : List Bool} (h : Sr w B s v mb sg D ss ms) {b : Nat} (hb : b < B) : v.ownBlock ≠ some b := fun e => by
  have := (h.own.lt b e).1
  omega
theorem isB_block {w : World} {a : Option Addr} {n c : Nat} {l : List UInt8} (h : IsB w a n c l) (hn : n ≠ 0) : ∃ b off, a = some ⟨b, off, none⟩ ∧ b < w.heap.size := by
  rcases h.at_ with h | ⟨b, off, h, hb, _⟩
  · exact absurd h hn
  · exact ⟨b, off, h, hb⟩

set_option maxRecDepth 100000 in
set_option maxHeartbeats 8000000 in
theorem bytes_any (a : Option Addr) (n cap : Nat) (p : List UInt8) (a' : Option Addr) (n' cap' : Nat) (l : List ByteArray) (w : World) (hB : IsB w a n cap p) (hn : n ≤ 140737488355328) (hS : IsS w a' n' cap' l) (hn' : n' ≤ 1000) :
    Calls Try.prog 10 #[.slice a n cap, .slice a' n' cap'] w fun e w' => AnsPost (fun K => K <:+: p) l w e w' := by
  have HBB := Lib.hid hB
  have HS := Lib.hid hS
  clear hB hS
  go_enter Try.func10, Try.ntmps10
  go_wp2_with fail
  refine (new_any a' n' cap' l w HS.out hn').mono ?_
  rintro e w1 ⟨s, v, mb, sg, D, out, rfl, ho, hs, hm, hgl, hb⟩
  have HO := Lib.hid ho
  have HSR := Lib.hid hs
  have HM := Lib.hid hm
  have HB1 := Lib.hid hb
  clear ho hs hm hb
  go_wp2_with fail
  refine (look_any w.heap.size s v mb sg D _ _ w1 HSR.out HM.out (by omega) a n cap p (HBB.out.later HB1.out) hn (fun h0 b off e => by
    obtain ⟨b2, off2, e2, hb2⟩ := isB_block HBB.out h0
    rw [e] at e2
    injection e2 with e2
    injection e2 with e2
    rw [e2]; exact far_old HSR.out hb2)).mono ?_
  rintro e w2 ⟨rfl, ms, hs2, hmt, hg2⟩
  have HS2 := Lib.hid hs2
  have HMT := Lib.hid hmt
  have hb2 : Below w.heap.size w w2 := HB1.out.trans ⟨hg2.os, hg2.tape, hg2.output, hg2.size, fun k hk => hg2.block k (Nat.lt_of_lt_of_le hk HB1.out.size) (fun e => far_old HSR.out hk e.symm)⟩
  have HB2 := Lib.hid hb2
  clear hs2 hmt hg2 hb2
  go_wp2_with fail
  refine (met_any w.heap.size s v mb sg D _ _ w2 HS2.out (by omega)).mono ?_
  rintro e w3 ⟨v3, rfl, ho3, hb3⟩
  have HO3 := Lib.hid ho3
  have HB3 : Hid (Below w.heap.size w w3) := Lib.hid (HB2.out.trans (hb3.mono HB2.out.size))
  clear ho3 hb3
  go_wp2_with fail
  refine bodyPost_ret (results_tmp rfl _ _ _) rfl ?_
  refine ⟨_, metL (gath out).1 ms, rfl, met_ans HO.out HS2.out.same (fun i hi => ?_), owns_lower HO3.out HB2.out.size, ?_, HB3.out⟩
  · rw [HMT.out i hi, gath_none]
    constructor
    · rintro (h | h)
      · cases h
      · exact h
    · exact .inr
  · have h1 := metL_le (gath out).1 ms
    have h2 := HS.out.length
    omega

end Go.Proofs.Ytcmgafehidgkmaa
