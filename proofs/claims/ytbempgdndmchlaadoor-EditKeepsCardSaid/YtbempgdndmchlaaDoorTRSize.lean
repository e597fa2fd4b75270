/-
  How many trees and bytes: the reference's Size. Condition: the names are no longer than memory.
-/
import Derived.Test.YtbempgdndmchlaaDoorTCount
namespace Go.Proofs.YtbempgdndmchlaaDoor
open Go.RowKit
set_option linter.unusedVariables false

def rsizeV (t : T) : Value := match sizeT t with
  | none => .tuple #[.int .i64 0, .int .i64 0, .bool false]
  | some q => .tuple #[.int .i64 (q.1 : Int), .int .i64 (q.2 : Int), .bool true]

set_option maxRecDepth 100000 in
set_option maxHeartbeats 8000000 in
theorem rsize_any (n : Nat) (cs : List Value) (t : T) (w : World) (ht : IsT w n cs t) (hs : Small t) :
    Calls Tryd.prog 21 #[.agg cs.toArray] w fun e w' => e = .returned (rsizeV t) ∧ Below w.heap.size w w' := by
  have hI := Lib.hid (infoL (isT_five ht))
  have HT := Lib.hid ht
  have HSM := Lib.hid hs
  clear ht hs
  go_enter Tryd.func21, Tryd.ntmps21
  go_upto_region 1 with fail
  obtain ⟨w1, hw1⟩ : ∃ w1, w1 = w.alloc (.cells cs.toArray 26) := ⟨_, rfl⟩
  have g1 : Has w1 w.heap.size cs 26 := by rw [hw1]; exact Has.new w cs _
  have b1 : Below w.heap.size w w1 := by rw [hw1]; exact (Below.refl _ _).alloc (Nat.le_refl _) _
  rw [← hw1]
  have HK := Lib.hid (count_any n cs t w1 (IsT.later b1 _ _ _ HT.out) HSM.out 0 0 0 4096 65536 (by omega) (by omega) (by omega) (by omega) (by omega))
  have G1 := Lib.hid (show w1.heap[w.heap.size]? = some (.cells cs.toArray 26 (0, 0)) from g1)
  have B1 := Lib.hid b1
  clear hw1 g1 b1
  go_wp2_with (refine wpList_load_row rfl 26 _ rfl w.heap.size rfl 26 cs.toArray (0, 0) _ G1.out Tryd.underlying26 rfl hI.out ?_)
  refine HK.out.mono ?_
  rintro e w2 ⟨rfl, b2⟩
  have B2 := Lib.hid (B1.out.trans (b2.mono B1.out.size))
  have hk : sizeT t = takeT t 0 0 0 := rfl
  clear HK b2
  cases hs : takeT t 0 0 0 with
  | none =>
    have HV : Hid (rsizeV t = .tuple #[.int .i64 0, .int .i64 0, .bool false]) := Lib.hid (by unfold rsizeV; rw [hk, hs])
    rw [cntV_none rfl]
    clear hs hk
    go_wp2_with fail
    go_ret3
    exact ⟨by rw [HV.out]; rfl, B2.out⟩
  | some q =>
    have HV : Hid (rsizeV t = .tuple #[.int .i64 (q.1 : Int), .int .i64 (q.2 : Int), .bool true]) := Lib.hid (by unfold rsizeV; rw [hk, hs])
    have hle := takeT_le _ _ _ _ _ hs
    obtain ⟨m, hm⟩ : ∃ m : Nat, m = q.1 := ⟨_, rfl⟩
    obtain ⟨b, hb⟩ : ∃ b : Nat, b = q.2 := ⟨_, rfl⟩
    have hcv : cntV (some q) = .tuple #[.int .i64 (4096 - (m : Int)), .int .i64 (65536 - (b : Int))] := by rw [hm, hb]; rfl
    rw [hcv]
    rw [← hm, ← hb] at HV hle
    have n0 : ¬ (4096 - (m : Int) < 0) := by omega
    have n1 : ¬ (4096 < (m : Int)) := by omega
    clear hs hk hcv hm hb
    go_wp2_with fail
    go_ret3
    exact ⟨by rw [HV.out]; simp; try omega, B2.out⟩

end Go.Proofs.YtbempgdndmchlaaDoor
