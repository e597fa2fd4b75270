/-
  The walk of the law HashOf.
-/
import Derived.Test.YthnifhelpjfliaaDoorRSum
import Derived.Test.YthnifhelpjfliaaDoorCutsWalk
namespace Go.Proofs.YthnifhelpjfliaaDoor
open Go.RowKit
set_option linter.unusedVariables false

set_option maxRecDepth 100000 in
set_option maxHeartbeats 1000000 in
theorem of_far (w : World) (a : Option Addr) (n cap : Nat) (h : 100000 < n) (hl : LaidW w) :
    Calls Tryd.prog 3 #[.slice a n cap] w fun e w' => e = .returned (.bool true) ∧ Below w.heap.size w w' := by
  have HL := Lib.hid hl
  have hn : (100000 : Int) < (n : Int) := by omega
  have hnot : ∀ (x : Bool) (w : World), (Op.unary .not (.bool x)).run Tryd.prog w = .ok (.bool (!x)) w := fun _ _ => rfl
  clear hl
  go_enter Tryd.func3, Tryd.ntmps3
  go_wp2_with fail
  refine (awake_any w HL.out).mono ?_
  rintro e w1 ⟨rfl, b1⟩
  have HL1 := Lib.hid (HL.out.later b1)
  go_wp2_with fail
  refine (awake_any w1 HL1.out).mono ?_
  rintro e w2 ⟨rfl, b2⟩
  go_wp2_with fail
  go_ret
  exact ⟨rfl, b1.trans (b2.mono b1.size)⟩

set_option maxRecDepth 100000 in
set_option maxHeartbeats 1000000 in
theorem of_near (w : World) (a : Option Addr) (n cap : Nat) (B : List Nat) (hB : IsN w a n cap B) (h : n ≤ 100000) (hl : LaidW w) :
    Calls Tryd.prog 3 #[.slice a n cap] w fun e w' => e = .returned (.bool true) ∧ Below w.heap.size w w' := by
  have HL := Lib.hid hl
  have HB := Lib.hid hB
  have hn : ¬ (100000 : Int) < (n : Int) := by omega
  have hnot : ∀ (x : Bool) (w : World), (Op.unary .not (.bool x)).run Tryd.prog w = .ok (.bool (!x)) w := fun _ _ => rfl
  have HG := guard_32
  have heq : ∀ W, (Op.equalIn 10000 24 (.agg ((dig B).map byv).toArray) (.agg ((dig B).map byv).toArray)).run Tryd.prog W = .ok true W := by
    intro W
    have := eql_32 W (dig B) (dig B) (dig_length B) (dig_length B)
    simpa using this
  have HEQ := Lib.hid heq
  have hb1 : n < 18446744073709551616 := by omega
  have hb2 : n ≤ 1099511627776 := by omega
  have HB1 := Lib.hid hb1
  have HB2 := Lib.hid hb2
  clear hl hB heq hb1 hb2
  go_enter Tryd.func3, Tryd.ntmps3
  go_wp2_with fail
  refine (awake_any w HL.out).mono ?_
  rintro e w1 ⟨rfl, b1⟩
  have HL1 := Lib.hid (HL.out.later b1)
  go_wp2_with fail
  refine (of_n a n cap B w1 (HB.out.later b1) HB1.out HL1.out).mono ?_
  rintro e w2 ⟨rfl, b2⟩
  have bb2 : Below w.heap.size w w2 := b1.trans (b2.mono b1.size)
  go_wp2_with fail
  refine (rsum_n a n cap B w2 (HB.out.later bb2) HB2.out).mono ?_
  rintro e w3 ⟨rfl, b3⟩
  have heq := HEQ.out
  go_wp2_with fail
  go_ret
  exact ⟨rfl, bb2.trans (b3.mono bb2.size)⟩

theorem walk_HashOf (w : World) (a : Option Addr) (n cap : Nat) (B : List Nat) (hB : IsN w a n cap B) (hm : n ≤ 140737488355328) (hl : LaidW w) :
    Calls Tryd.prog 3 #[.slice a n cap] w fun e w' => e = .returned (.bool true) ∧ Below w.heap.size w w' := by
  by_cases h : n ≤ 100000
  · exact of_near w a n cap B hB h hl
  · exact of_far w a n cap (by omega) hl

end Go.Proofs.YthnifhelpjfliaaDoor
