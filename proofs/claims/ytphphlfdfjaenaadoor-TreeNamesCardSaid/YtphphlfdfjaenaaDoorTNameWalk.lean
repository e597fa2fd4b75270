/-
  The walk of the law TreeNames: it returns true. Condition: a global's kind.
-/
import Derived.Test.YtphphlfdfjaenaaDoorTAwake
import Derived.Test.YtphphlfdfjaenaaDoorTRSplit
import Derived.BigRegion
import Derived.BigQuiet
namespace Go.Proofs.YtphphlfdfjaenaaDoor
open Go.RowKit
set_option linter.unusedVariables false

theorem same_lists : ∀ (l m : List ByteArray), l.map (·.data.toList) = m.map (·.data.toList) → l = m
  | [], [], _ => rfl
  | [], b :: m, h => by simp at h
  | a :: l, [], h => by simp at h
  | a :: l, b :: m, h => by
    simp only [List.map_cons, List.cons.injEq] at h
    rw [bytes_ext h.1, same_lists l m h.2]

set_option maxRecDepth 100000 in
set_option maxHeartbeats 20000000 in
theorem walk_TreeNames (w : World) (s : ByteArray) (_ws : s.size ≤ maxLen) (ms : s.size ≤ 140737488351232) (path : ByteArray) (_wp : path.size ≤ maxLen) (mp : path.size ≤ 140737488351232) (hm : MaxW w) :
    Calls Tryd.prog 4 #[.string s, .string path] w fun e w' => e = .returned (.bool true) ∧ Below w.heap.size w w' := by
  have hmx : 0 < w.heap.size := by
    obtain ⟨m, h⟩ := hm
    exact World.block_lt_of_cell? w _ h
  have hnot : ∀ (x : Bool) (w : World), (Op.unary .not (.bool x)).run Tryd.prog w = .ok (.bool (!x)) w := fun _ _ => rfl
  have HM := Lib.hid hm
  clear hm
  go_enter Tryd.func4, Tryd.ntmps4
  go_wp2_with fail
  refine (awake_any w HM.out hmx).mono ?_
  rintro e w1 ⟨rfl, b1⟩
  have HM1 := Lib.hid (HM.out.below b1 hmx)
  have HB1 := Lib.hid b1
  clear b1
  go_wp2_with fail
  refine (name_any s _).mono ?_
  rintro e w2 ⟨rfl, rfl⟩
  go_wp2_with fail
  refine (rname_any s _ (by omega)).mono ?_
  rintro e w2 ⟨rfl, rfl⟩
  have hbn : ∀ b : Bool, (b != b) = false := fun b => by simp
  go_wp2_with fail
  refine (split_any path _ HM1.out).mono ?_
  rintro e w2 ⟨⟨a1, n1, c1, l1, i1, m1, rfl, _⟩, b2⟩
  have HB2 := Lib.hid (HB1.out.trans (b2.mono HB1.out.size))
  have HI1 := Lib.hid i1
  have HM1' := Lib.hid m1
  clear b2 i1 m1
  go_wp2_with fail
  refine (rsplit_any path _).mono ?_
  rintro e w3 ⟨⟨a2, n2, c2, l2, i2, m2, rfl, _⟩, b3⟩
  have HB3 := Lib.hid (HB2.out.trans (b3.mono HB2.out.size))
  have J1 := Lib.hid (HI1.out.later b3)
  have J2 := Lib.hid i2
  have hll : l1 = l2 := same_lists l1 l2 (by rw [HM1'.out, m2])
  subst hll
  have hn : n1 = n2 := by rw [← J1.out.length, ← J2.out.length]
  subst hn
  have hroom := J1.out.room
  unfold maxLen at hroom
  clear b3 i2 m2
  go_wp2_with fail
  go_loopw [9] (fun ii wr => ∃ k : Nat, k ≤ n1 ∧ ii = .int .i64 k ∧ Below w3.heap.size w3 wr) (fun ii _ => n1 - (intOf ii).toNat)
  case atStart => exact ⟨0, Nat.zero_le _, rfl, Below.refl _ _⟩
  case round =>
    obtain ⟨k, hk, rfl, hbel⟩ := hrel
    by_cases hlt : k < n1
    · have k1 := J1.out.later hbel
      have k2 := J2.out.later hbel
      rcases k1.at_ with h0 | ⟨b, off, rfl, _, hc⟩
      · omega
      rcases k2.at_ with h0 | ⟨b', off', rfl, _, hc'⟩
      · omega
      have d1 := hc k hlt
      have d2 := hc' k hlt
      obtain ⟨nm, hnm⟩ : ∃ nm, nm = l1.getD k ⟨#[]⟩ := ⟨_, rfl⟩
      rw [← hnm] at d1 d2
      have hki : (k : Int) < (n1 : Int) := by omega
      have hni : (k : Int) + 1 ≤ 9223372036854775807 := by omega
      have HBE := Lib.hid hbel
      have HLT := Lib.hid hlt
      clear hc hc' k1 k2 hnm hbel
      go_wp2_with fail
      go_region
      all_goals
        go_wp2_with fail
        go_roundw
        case rel => exact ⟨k + 1, by have := HLT.out; omega, by go_num, HBE.out.drew⟩
        case measure =>
          have := HLT.out
          simp only [intOf]; omega
    · have HBE := Lib.hid hbel
      have hki : ¬ (k : Int) < (n1 : Int) := by omega
      clear hbel
      go_wp2_with fail
      go_ret
      exact ⟨rfl, HB3.out.trans (HBE.out.mono HB3.out.size)⟩

end Go.Proofs.YtphphlfdfjaenaaDoor
