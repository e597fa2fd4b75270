/-
  All paths of a tree: the program's Paths. Condition: it is one.
-/
import Derived.Test.YtmgfgldabjgmmaaDoorTBelow
namespace Go.Proofs.YtmgfgldabjgmmaaDoor
open Go.RowKit
set_option linter.unusedVariables false

set_option maxRecDepth 100000 in
set_option maxHeartbeats 8000000 in
theorem paths_any (n : Nat) (cs : List Value) (t : T) (w : World) (ht : IsT w n cs t) (r : Nat × Nat) (hr : sizeT t = some r) :
    Calls Tryd.prog 23 #[.agg cs.toArray] w fun e w' => ∃ v, e = .returned v ∧ w'.ownsRow w.heap.size 9 1 v (pathsT t ⟨#[]⟩).length ((pathsT t ⟨#[]⟩).map Value.string) ∧ Below w.heap.size w w' := by
  have hI := Lib.hid (infoL (isT_five ht))
  have HT := Lib.hid ht
  have HR := Lib.hid hr
  clear ht hr
  go_enter Tryd.func23, Tryd.ntmps23
  go_upto_region 1 with fail
  obtain ⟨w1, hw1⟩ : ∃ w1, w1 = w.alloc (.cells cs.toArray 26) := ⟨_, rfl⟩
  have g1 : Has w1 w.heap.size cs 26 := by rw [hw1]; exact Has.new w cs _
  have b1 : Below w.heap.size w w1 := by rw [hw1]; exact (Below.refl _ _).alloc (Nat.le_refl _) _
  rw [← hw1]
  have HK := Lib.hid (form_any n cs t w1 (IsT.later b1 _ _ _ HT.out))
  have G1 := Lib.hid (show w1.heap[w.heap.size]? = some (.cells cs.toArray 26 (0, 0)) from g1)
  have B1 := Lib.hid b1
  clear hw1 g1 b1
  go_wp2_with (refine wpList_load_row rfl 26 _ rfl w.heap.size rfl 26 cs.toArray (0, 0) _ G1.out Tryd.underlying26 rfl hI.out ?_)
  refine HK.out.mono ?_
  rintro e w2 ⟨rfl, b2⟩
  have G2 := Lib.hid ((b2.block w.heap.size (Array.getElem?_eq_some_iff.1 G1.out).1).trans G1.out)
  have B2 := Lib.hid (B1.out.trans (b2.mono B1.out.size))
  have KB := below_any w n cs t HT.out w2 (.slice none 0 0) [] ⟨#[]⟩ 0 0 0 r B2.out (World.ownsRow_nil _ _ _ _) HR.out (Nat.le_refl _) (Nat.le_refl _)
  have HKB := Lib.hid KB
  rw [show (sizeT t).isSome = true from by rw [HR.out]; rfl]
  clear HK b2 KB
  go_wp2_with (refine wpList_load_row rfl 26 _ rfl w.heap.size rfl 26 cs.toArray (0, 0) _ G2.out Tryd.underlying26 rfl hI.out ?_)
  refine HKB.out.mono ?_
  rintro e w3 ⟨v, rfl, o3, gr3, q3, n3⟩
  have O3 := Lib.hid o3
  have B3 := Lib.hid (B2.out.grown gr3 B2.out.size (fun q hq => by cases hq))
  clear HKB o3 gr3 q3 n3
  go_wp2_with fail
  go_ret
  refine ⟨v, rfl, ?_, B3.out⟩
  have := O3.out
  simpa using this

end Go.Proofs.YtmgfgldabjgmmaaDoor
