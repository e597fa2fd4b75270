/-
  A nil hasher takes nothing and tells nothing.
-/
import Derived.Test.YthnifhelpjfliaaDoorAppN
import Derived.Test.YthnifhelpjfliaaDoorCutsWalk
namespace Go.Proofs.YthnifhelpjfliaaDoor
open Go.RowKit
set_option linter.unusedVariables false

set_option maxRecDepth 100000 in
theorem write_nil (v : Value) (w : World) :
    Calls Tryd.prog 13 #[.pointer none, v] w fun e w' => e = .returned (.tuple #[]) ∧ w' = w := by
  go_enter Tryd.func13, Tryd.ntmps13
  go_wp2_with fail
  refine bodyPost_ret (v := .tuple #[]) (by simp [results, Tryd.results13, go_sem]) rfl ⟨rfl, rfl⟩

set_option maxRecDepth 100000 in
theorem len_nil (w : World) :
    Calls Tryd.prog 16 #[.pointer none] w fun e w' => e = .returned (.int .u64 0) ∧ w' = w := by
  go_enter Tryd.func16, Tryd.ntmps16
  go_wp2_with fail
  go_ret
  exact ⟨rfl, rfl⟩

theorem built_zero : Tryd.prog.built 24 [] = some ((List.replicate 32 0).map byv).toArray := by kernel_rfl

set_option maxRecDepth 100000 in
set_option maxHeartbeats 1000000 in
theorem sum_nil (w : World) :
    Calls Tryd.prog 14 #[.pointer none] w fun e w' => e = .returned (.agg ((List.replicate 32 0).map byv).toArray) ∧ Below w.heap.size w w' := by
  obtain ⟨R, hR⟩ : ∃ R, R = ((List.replicate 32 0).map byv).toArray := ⟨_, rfl⟩
  have p1 := info_32 (List.replicate 32 0) (by simp)
  have p2 : ((List.replicate 32 0).map byv).toArray.size = R.size := by rw [hR]
  have p3 := one_bytes (List.replicate 32 0)
  have hbz := built_zero
  rw [← hR] at p1 p3 hbz
  have P1 := Lib.hid p1
  have P2 := Lib.hid p2
  have P3 := Lib.hid p3
  have HR := Lib.hid hR
  have HBZ := Lib.hid hbz
  clear p1 p2 p3 hbz
  rw [← hR]
  clear hR
  go_enter Tryd.func14, Tryd.ntmps14
  go_upto_region 2 with fail
  rw [zeros32]
  obtain ⟨w1, hw1⟩ : ∃ w1, w1 = w.alloc (.cells ((List.replicate 32 0).map byv).toArray 24) := ⟨_, rfl⟩
  rw [← hw1]
  have hg : w1.heap[w.heap.size]? = some (.cells ((List.replicate 32 0).map byv).toArray 24 (0, 0)) := by rw [hw1]; exact heap_alloc_new w _
  have b1 : Below w.heap.size w w1 := by rw [hw1]; exact (Below.refl _ _).alloc (Nat.le_refl _) _
  have HG := Lib.hid hg
  clear hw1 hg
  go_wp2_with (first
    | (refine wpList_build_to rfl 24 _ rfl R ((congrArg (Tryd.prog.built 24) (show _ = [] from by simp only [List.map_toArray, List.map_nil])).trans HBZ.out) ?_)
    | (refine wpList_store_row rfl 24 _ _ rfl w.heap.size R rfl rfl 24 _ HG.out P1.out P2.out P3.out ?_))
  have hres : ∀ tmps : Array Value, tmps.getD 2 undef = .pointer (some ⟨w.heap.size, 0, none⟩) → (results Tryd.f14 tmps).run Tryd.prog (w1.setRow w.heap.size R) = .ok (.agg R) (w1.setRow w.heap.size R) :=
    fun tmps hp => results_cell_row (fn := Tryd.f14) (p := 2) (ty := 24) Tryd.results14 tmps _ w.heap.size 24 R (0, 0) _ hp (setRow_heap _ _ _ _ _ _ HG.out) Tryd.underlying24 rfl P1.out
  refine bodyPost_ret (hres _ rfl) rfl ?_
  exact ⟨rfl, below_setRow b1 (Nat.le_refl _) _⟩

end Go.Proofs.YthnifhelpjfliaaDoor
