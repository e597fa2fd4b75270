/-
  Is it a tree: the reference's Form. Condition: the names are no longer than memory.
-/
import Derived.Test.YtbempgdndmchlaaDoorTRSize
namespace Go.Proofs.YtbempgdndmchlaaDoor
open Go.RowKit
set_option linter.unusedVariables false

set_option maxRecDepth 100000 in
set_option maxHeartbeats 8000000 in
theorem rform_any (n : Nat) (cs : List Value) (t : T) (w : World) (ht : IsT w n cs t) (hs : Small t) :
    Calls Tryd.prog 14 #[.agg cs.toArray] w fun e w' => e = .returned (.bool (sizeT t).isSome) ∧ Below w.heap.size w w' := by
  have hI := Lib.hid (infoL (isT_five ht))
  have HT := Lib.hid ht
  have HSM := Lib.hid hs
  clear ht hs
  go_enter Tryd.func14, Tryd.ntmps14
  go_upto_region 1 with fail
  obtain ⟨w1, hw1⟩ : ∃ w1, w1 = w.alloc (.cells cs.toArray 26) := ⟨_, rfl⟩
  have g1 : Has w1 w.heap.size cs 26 := by rw [hw1]; exact Has.new w cs _
  have b1 : Below w.heap.size w w1 := by rw [hw1]; exact (Below.refl _ _).alloc (Nat.le_refl _) _
  rw [← hw1]
  have HK := Lib.hid (rsize_any n cs t w1 (IsT.later b1 _ _ _ HT.out) HSM.out)
  have G1 := Lib.hid (show w1.heap[w.heap.size]? = some (.cells cs.toArray 26 (0, 0)) from g1)
  have B1 := Lib.hid b1
  clear hw1 g1 b1
  go_wp2_with (refine wpList_load_row rfl 26 _ rfl w.heap.size rfl 26 cs.toArray (0, 0) _ G1.out Tryd.underlying26 rfl hI.out ?_)
  refine HK.out.mono ?_
  rintro e w2 ⟨rfl, b2⟩
  have B2 := Lib.hid (B1.out.trans (b2.mono B1.out.size))
  clear HK b2
  cases hs : sizeT t with
  | none =>
    have HV : rsizeV t = .tuple #[.int .i64 0, .int .i64 0, .bool false] := by unfold rsizeV; rw [hs]
    rw [HV]
    have HSZ := Lib.hid hs
    clear HV hs
    go_wp2_with fail
    go_ret
    exact ⟨by rw [HSZ.out]; rfl, B2.out⟩
  | some q =>
    have HV : rsizeV t = .tuple #[.int .i64 (q.1 : Int), .int .i64 (q.2 : Int), .bool true] := by unfold rsizeV; rw [hs]
    rw [HV]
    have HSZ := Lib.hid hs
    clear HV hs
    go_wp2_with fail
    go_ret
    exact ⟨by rw [HSZ.out]; rfl, B2.out⟩

end Go.Proofs.YtbempgdndmchlaaDoor
