/-
  There is a tree more, or less: the program's count. Conditions: the tree is one, and the numbers are small.
-/
import Derived.Test.YtbempgdndmchlaaDoorTSize
import Derived.Test.YtbempgdndmchlaaDoorEFrame
namespace Go.Proofs.YtbempgdndmchlaaDoor
open Go.RowKit
set_option linter.unusedVariables false

/-- The seven cells of a tree that is worked on: its five, how many trees, how many bytes. -/
def wkC (c0 c1 c2 c3 c4 : Value) (a b : Int) : List Value := [c0, c1, c2, c3, c4, .int .i64 a, .int .i64 b]

set_option maxRecDepth 100000 in
set_option maxHeartbeats 8000000 in
theorem count_w (n : Nat) (cs : List Value) (t : T) (w : World) (p : Nat) (c0 c1 c2 c3 c4 : Value) (a b s : Int) (x y : Nat) (ht : IsT w n cs t) (hw : Has w p (wkC c0 c1 c2 c3 c4 a b) 52)
    (hz : sizeT t = some (x, y)) (hs : s = 1 ∨ s = -1) (ha : -1000000 ≤ a ∧ a ≤ 1000000) (hb : -1000000 ≤ b ∧ b ≤ 1000000) :
    Calls Tryd.prog 57 #[.pointer (some ⟨p, 0, none⟩), .agg cs.toArray, .int .i64 s] w fun e w' => e = .returned (.tuple #[]) ∧ Has w' p (wkC c0 c1 c2 c3 c4 (a + s * x) (b + s * y)) 52 ∧ But w.heap.size p w w' := by
  have hI := Lib.hid (infoL (isT_five ht))
  have HT := Lib.hid ht
  have hxy := takeT_le _ _ _ _ _ hz
  simp only at hxy
  obtain ⟨hx1, hy1⟩ := hxy
  have HV : Hid (sizeV t = .tuple #[.int .i64 (x : Int), .int .i64 (y : Int), .int .i64 0]) := Lib.hid (by unfold sizeV; rw [hz])
  have HW := Lib.hid hw
  have HP : Hid (p < w.heap.size) := Lib.hid hw.lt
  clear ht hz hw
  go_enter Tryd.func57, Tryd.ntmps57
  go_upto_region 1 with fail
  obtain ⟨w1, hw1⟩ : ∃ w1, w1 = w.alloc (.cells cs.toArray 26) := ⟨_, rfl⟩
  have g1 : Has w1 w.heap.size cs 26 := by rw [hw1]; exact Has.new w cs _
  have b1 : Below w.heap.size w w1 := by rw [hw1]; exact (Below.refl _ _).alloc (Nat.le_refl _) _
  rw [← hw1]
  have HK := Lib.hid (size_any n cs t w1 (IsT.later b1 _ _ _ HT.out))
  have G1 := Lib.hid (show w1.heap[w.heap.size]? = some (.cells cs.toArray 26 (0, 0)) from g1)
  have B1 := Lib.hid b1
  clear hw1 g1 b1
  go_wp2_with (refine wpList_load_row rfl 26 _ rfl w.heap.size rfl 26 cs.toArray (0, 0) _ G1.out Tryd.underlying26 rfl hI.out ?_)
  refine HK.out.mono ?_
  rintro e w2 ⟨rfl, b2⟩
  rw [HV.out]
  have B2 := Lib.hid (B1.out.trans (b2.mono B1.out.size))
  have x2 : Has w2 p (wkC c0 c1 c2 c3 c4 a b) 52 := HW.out.below B2.out HP.out
  have X2 := Lib.hid x2
  have ch5 := x2.cellAt (i := 5) rfl
  have ch6 := x2.cellAt (i := 6) rfl
  have f5 := x2.frozen 5
  clear HK b2 x2
  rcases hs with rfl | rfl
  · go_upto_region 3 with fail
    obtain ⟨w3, hw3⟩ : ∃ w3, w3 = w2.setCell ⟨p, 5, none⟩ (.int .i64 (a + (x : Int))) := ⟨_, rfl⟩
    have x3 : Has w3 p (wkC c0 c1 c2 c3 c4 (a + (x : Int)) b) 52 := by rw [hw3]; exact X2.out.set 5 _
    have b3 : But w.heap.size p w w3 := by rw [hw3]; exact (But.of_below B2.out).setB 5 _
    rw [← hw3]
    have X3 := Lib.hid x3
    have B3 := Lib.hid b3
    clear ch5 ch6 f5 hw3 b3
    have ch6 := x3.cellAt (i := 6) rfl
    have f6 := x3.frozen 6
    clear x3
    go_wp2_with fail
    first | go_end0 | (simp only [Exit.inBlock, Exit.then]; refine bodyPost_ret (results_none rfl _ _ _) rfl ?_) | refine bodyPost_ret (results_none rfl _ _ _) rfl ?_
    rw [Int.one_mul, Int.one_mul]
    exact ⟨rfl, X3.out.set 6 _, B3.out.setB 6 _⟩
  · go_upto_region 3 with fail
    obtain ⟨w3, hw3⟩ : ∃ w3, w3 = w2.setCell ⟨p, 5, none⟩ (.int .i64 (a + -(x : Int))) := ⟨_, rfl⟩
    have x3 : Has w3 p (wkC c0 c1 c2 c3 c4 (a + -(x : Int)) b) 52 := by rw [hw3]; exact X2.out.set 5 _
    have b3 : But w.heap.size p w w3 := by rw [hw3]; exact (But.of_below B2.out).setB 5 _
    rw [← hw3]
    have X3 := Lib.hid x3
    have B3 := Lib.hid b3
    clear ch5 ch6 f5 hw3 b3
    have ch6 := x3.cellAt (i := 6) rfl
    have f6 := x3.frozen 6
    clear x3
    go_wp2_with fail
    first | go_end0 | (simp only [Exit.inBlock, Exit.then]; refine bodyPost_ret (results_none rfl _ _ _) rfl ?_) | refine bodyPost_ret (results_none rfl _ _ _) rfl ?_
    rw [Int.neg_mul, Int.one_mul, Int.neg_mul, Int.one_mul]
    exact ⟨rfl, X3.out.set 6 _, B3.out.setB 6 _⟩

end Go.Proofs.YtbempgdndmchlaaDoor
