/-
  The walk of the law RefsBytes. Conditions: bounds on the lengths.
-/
import Derived.Test.YtcmgafehidgkmaaRfAwake
namespace Go.Proofs.Ytcmgafehidgkmaa
open Go.RowKit
set_option linter.unusedVariables false

theorem map_inj : ∀ {l l' : List ByteArray}, l.map btsOf = l'.map btsOf → l = l'
  | [], [], _ => rfl
  | [], _ :: _, h => by simp at h
  | _ :: _, [], h => by simp at h
  | x :: l, y :: l', h => by
    simp only [List.map_cons, List.cons.injEq] at h
    rw [bytes_ext h.1, map_inj h.2]
/-- Two answers held against one another. -/
theorem same_ans {Q : Bts → Prop} {l : List ByteArray} {w w' w'' : World} {v v' : Value} (h : AnsPost Q l w (.returned v) w') (h' : AnsPost Q l w' (.returned v') w'') (hl : l.length ≤ 100000) :
    Calls Try.prog 9 #[v, v'] w'' fun e w3 => e = .returned (.bool true) ∧ Below w''.heap.size w'' w3 := by
  obtain ⟨v1, o, e1, ho, how, hol, hb⟩ := h
  injection e1 with e1
  subst e1
  obtain ⟨v2, o', e2, ho', how', hol', hb'⟩ := h'
  injection e2 with e2
  subst e2
  obtain ⟨a, c, rfl, hs, _⟩ := isS_of_owns how
  obtain ⟨a', c', rfl, hs', _⟩ := isS_of_owns how'
  refine (rfsame_any a a' _ _ c c' o o' w'' (hs.later hb') hs' (by omega) (by omega)).mono ?_
  rintro e w3 ⟨b, rfl, hbt, hb3⟩
  have : b = true := hbt.2 (map_inj (by rw [ho, ho']))
  rw [this]
  exact ⟨rfl, hb3⟩

set_option maxRecDepth 100000 in
set_option maxHeartbeats 8000000 in
theorem walk_RefsBytes (w : World) (a : Option Addr) (n cap : Nat) (p : List UInt8) (hB : IsB w a n cap p) (a' : Option Addr) (m cap' : Nat) (l : List ByteArray) (hS : IsS w a' m cap' l) (hsz : ∀ i, i < l.length → (l.getD i ⟨#[]⟩).size ≤ 140737488355328) :
    Calls Try.prog 3 #[.slice a n cap, .slice a' m cap'] w fun e w' => e = .returned (.bool true) ∧ Below w.heap.size w w' := by
  have HSZ : Hid (∀ x ∈ l, x.size ≤ 140737488355328) := Lib.hid (fun x hx => by
    obtain ⟨i, hi, rfl⟩ := List.getElem_of_mem hx
    have := hsz i hi
    rwa [List.getD_eq_getElem?_getD, List.getElem?_eq_getElem hi] at this)
  have HBB := Lib.hid hB
  have HS := Lib.hid hS
  clear hB hS hsz
  go_enter Try.func3, Try.ntmps3
  go_wp2_with fail
  refine (awake_any w).mono ?_
  rintro e w1 ⟨rfl, b1⟩
  have B1 := Lib.hid b1
  clear b1
  by_cases hm : m ≤ 40
  · have hm' : ¬ (40 : Int) < (m : Int) := by omega
    by_cases hn : n ≤ 20000
    · have hn' : ¬ (20000 : Int) < (n : Int) := by omega
      go_wp2_with fail
      refine (bytes_any a n cap p a' m cap' l w1 (HBB.out.later B1.out) (by omega) (HS.out.later B1.out) (by omega)).mono ?_
      rintro e w2 hq
      have HQ := hq
      obtain ⟨v, o, rfl, _, _, _, b2⟩ := hq
      have HQ1 := Lib.hid HQ
      have B2 := Lib.hid (B1.out.trans (b2.mono B1.out.size))
      clear HQ b2
      go_wp2_with fail
      refine (rbytes_any a n cap p a' m cap' l w2 (HBB.out.later B2.out) (by omega) (HS.out.later B2.out) (by omega) HSZ.out).mono ?_
      rintro e w3 hq
      have HQ := hq
      obtain ⟨v', o', rfl, _, _, _, b3⟩ := hq
      have HQ2 := Lib.hid HQ
      have B3 := Lib.hid (B2.out.trans (b3.mono B2.out.size))
      clear HQ b3
      have hll := HS.out.length
      go_wp2_with fail
      refine (same_ans HQ1.out HQ2.out (by omega)).mono ?_
      rintro e w4 ⟨rfl, b4⟩
      have B4 := Lib.hid (B3.out.trans (b4.mono B3.out.size))
      clear b4
      go_wp2_with fail
      refine bodyPost_ret (results_tmp rfl _ _ _) rfl ?_
      exact ⟨rfl, B4.out⟩
    · have hn' : (20000 : Int) < (n : Int) := by omega
      go_wp2_with fail
      refine (awake_any w1).mono ?_
      rintro e w2 ⟨rfl, b2⟩
      have B2 := Lib.hid (B1.out.trans (b2.mono B1.out.size))
      clear b2
      go_wp2_with fail
      refine bodyPost_ret (results_tmp rfl _ _ _) rfl ?_
      exact ⟨rfl, B2.out⟩
  · have hm' : (40 : Int) < (m : Int) := by omega
    go_wp2_with fail
    refine (awake_any w1).mono ?_
    rintro e w2 ⟨rfl, b2⟩
    have B2 := Lib.hid (B1.out.trans (b2.mono B1.out.size))
    clear b2
    go_wp2_with fail
    refine bodyPost_ret (results_tmp rfl _ _ _) rfl ?_
    exact ⟨rfl, B2.out⟩

end Go.Proofs.Ytcmgafehidgkmaa
