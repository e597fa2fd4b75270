/-
  How great a tree is, and is it one: the program's Size and Form. No conditions.
-/
import Derived.Test.YtbempgdndmchlaaDoorTTake
import Derived.BigRegion
import Derived.BigQuiet
namespace Go.Proofs.YtbempgdndmchlaaDoor
open Go.RowKit
set_option linter.unusedVariables false

/-- What Size tells. -/
def sizeV (t : T) : Value := match sizeT t with
  | some r => .tuple #[.int .i64 (r.1 : Int), .int .i64 (r.2 : Int), .int .i64 0]
  | none => .tuple #[.int .i64 0, .int .i64 0, .int .i64 3]

theorem isT_five {w : World} {n : Nat} {cs : List Value} {t : T} (h : IsT w n cs t) : cs.length = 5 := by
  cases n with
  | zero => exact absurd h (by simp [IsT])
  | succ n =>
    obtain ⟨k, x, d, ns, ks⟩ := t
    obtain ⟨ad, nd, cd, an, nn, cn, ak, nk, ck, rfl, _⟩ := h
    rfl

theorem info5 : (Tryd.prog.info? 26).map (·.size) = some 5 := by kernel_rfl

theorem infoL {cs : List Value} (h : cs.length = 5) : (Tryd.prog.info? 26).map (·.size) = some cs.toArray.size := by rw [info5, List.size_toArray, h]

set_option maxRecDepth 100000 in
set_option maxHeartbeats 8000000 in
theorem size_any (n : Nat) (cs : List Value) (t : T) (w : World) (ht : IsT w n cs t) :
    Calls Tryd.prog 24 #[.agg cs.toArray] w fun e w' => e = .returned (sizeV t) ∧ Below w.heap.size w w' := by
  have hI := Lib.hid (infoL (isT_five ht))
  have HT := Lib.hid ht
  obtain ⟨V, hV⟩ : ∃ V, V = sizeV t := ⟨_, rfl⟩
  rw [← hV]
  have HV := Lib.hid hV
  clear ht hV
  go_enter Tryd.func24, Tryd.ntmps24
  go_upto_region 2 with fail
  obtain ⟨w1, hw1⟩ : ∃ w1, w1 = (w.alloc (.cells cs.toArray 26)).alloc (.cells #[.int .i64 0, .int .i64 0] 74) := ⟨_, rfl⟩
  have sz : (w.alloc (.cells cs.toArray 26)).heap.size = w.heap.size + 1 := by simp
  have x1 : Has w1 (w.heap.size + 1) [.int .i64 0, .int .i64 0] 74 := by rw [hw1, ← sz]; exact Has.new _ [.int .i64 0, .int .i64 0] _
  have g1 : Has w1 w.heap.size cs 26 := by rw [hw1]; exact (Has.new w cs _).alloc _
  have b1 : Below w.heap.size w w1 := by rw [hw1]; exact ((Below.refl _ _).alloc (Nat.le_refl _) _).alloc (by simp) _
  rw [← hw1]
  have K := take_any w (w.heap.size + 1) (by omega) n cs t HT.out w1 0 0 0 b1 x1 (by omega) (by omega) (by omega)
  have HK := Lib.hid K
  have G1 := Lib.hid (show w1.heap[w.heap.size]? = some (.cells cs.toArray 26 (0, 0)) from g1)
  clear hw1 sz x1 g1 b1 K
  go_wp2_with (refine wpList_load_row rfl 26 _ rfl w.heap.size rfl 26 cs.toArray (0, 0) _ G1.out Tryd.underlying26 rfl hI.out ?_)
  refine HK.out.mono ?_
  rintro e w2 ⟨⟨t', b', x2, hr⟩, b2, s2, rfl⟩
  have B2 := Lib.hid b2
  have hk : sizeT t = takeT t 0 0 0 := rfl
  cases hs : takeT t 0 0 0 with
  | none =>
    have HVV : Hid (V = .tuple #[.int .i64 0, .int .i64 0, .int .i64 3]) := Lib.hid (by rw [HV.out]; unfold sizeV; rw [hk, hs])
    clear HK hr hs hk x2 b2
    simp only [Option.isSome_none]
    go_wp2_with fail
    go_ret3
    exact ⟨by rw [HVV.out]; rfl, B2.out⟩
  | some q =>
    have hq := hr q hs
    have HVV : Hid (V = .tuple #[.int .i64 (t' : Int), .int .i64 (b' : Int), .int .i64 0]) := Lib.hid (by rw [HV.out]; unfold sizeV; rw [hk, hs, hq])
    have ch0 := x2.cellAt (i := 0) rfl
    have ch1 := x2.cellAt (i := 1) rfl
    clear HK hr hs hk hq b2 x2
    simp only [Option.isSome_some]
    go_wp2_with fail
    go_quiet (fail)
    go_wp2_with fail
    go_ret3
    refine ⟨by rw [HVV.out]; rfl, ?_⟩
    exact B2.out.trans ⟨rfl, rfl, rfl, Nat.le_refl _, fun _ _ => rfl⟩

set_option maxRecDepth 100000 in
set_option maxHeartbeats 8000000 in
theorem form_any (n : Nat) (cs : List Value) (t : T) (w : World) (ht : IsT w n cs t) :
    Calls Tryd.prog 28 #[.agg cs.toArray] w fun e w' => e = .returned (.bool (sizeT t).isSome) ∧ Below w.heap.size w w' := by
  have hI := Lib.hid (infoL (isT_five ht))
  have HT := Lib.hid ht
  clear ht
  go_enter Tryd.func28, Tryd.ntmps28
  go_upto_region 1 with fail
  obtain ⟨w1, hw1⟩ : ∃ w1, w1 = w.alloc (.cells cs.toArray 26) := ⟨_, rfl⟩
  have g1 : Has w1 w.heap.size cs 26 := by rw [hw1]; exact Has.new w cs _
  have b1 : Below w.heap.size w w1 := by rw [hw1]; exact (Below.refl _ _).alloc (Nat.le_refl _) _
  rw [← hw1]
  have HK := Lib.hid (size_any n cs t w1 (IsT.later b1 _ _ _ HT.out))
  have G1 := Lib.hid (show w1.heap[w.heap.size]? = some (.cells cs.toArray 26 (0, 0)) from g1)
  have B1 := Lib.hid b1
  clear hw1 g1 b1
  go_wp2_with (refine wpList_load_row rfl 26 _ rfl w.heap.size rfl 26 cs.toArray (0, 0) _ G1.out Tryd.underlying26 rfl hI.out ?_)
  refine HK.out.mono ?_
  rintro e w2 ⟨rfl, b2⟩
  have B2 := Lib.hid (B1.out.trans (b2.mono B1.out.size))
  clear HK b2
  cases hs : sizeT t with
  | none =>
    have HV : sizeV t = .tuple #[.int .i64 0, .int .i64 0, .int .i64 3] := by unfold sizeV; rw [hs]
    rw [HV]
    have HSZ := Lib.hid hs
    clear HV hs
    go_wp2_with fail
    go_ret
    exact ⟨by rw [HSZ.out]; rfl, B2.out⟩
  | some q =>
    have HV : sizeV t = .tuple #[.int .i64 (q.1 : Int), .int .i64 (q.2 : Int), .int .i64 0] := by unfold sizeV; rw [hs]
    rw [HV]
    have HSZ := Lib.hid hs
    clear HV hs
    go_wp2_with fail
    go_ret
    exact ⟨by rw [HSZ.out]; rfl, B2.out⟩

end Go.Proofs.YtbempgdndmchlaaDoor
