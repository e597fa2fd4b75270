/-
  The law EditApplies: any tree behind any edits, or the first error. Conditions: the tree and the edits may be read.
-/
import Derived.Test.YtbempgdndmchlaaDoorERApp
import Derived.Test.YtbempgdndmchlaaDoorEAwake
import Derived.Test.YtbempgdndmchlaaDoorTRSame
import Derived.Test.YtbempgdndmchlaaDoorTGreat
import Derived.BigFrame
namespace Go.Proofs.YtbempgdndmchlaaDoor
open Go.RowKit
set_option linter.unusedVariables false

set_option maxRecDepth 100000 in
set_option maxHeartbeats 20000000 in
theorem walk_EditApplies (w : World) (n : Nat) (cs : List Value) (t : T) (ht : IsT w n cs t) (hs : Small t) (m : Nat) (a : Option Addr) (k c : Nat) (l : List EdD) (hl : IsXs w m a k c l) (hls : ∀ i, i < l.length → Small (l.getD i default).tree) (_ : k * 120 ≤ 140737488355328) (hm : MaxW w) (hmx : 0 < w.heap.size) :
    Calls Tryd.prog 3 #[.agg cs.toArray, .slice a k c] w fun e w' => e = .returned (.bool true) ∧ Below w.heap.size w w' := by
  obtain ⟨w1, hw1⟩ : ∃ w1, w1 = w.alloc (.cells cs.toArray 26) := ⟨_, rfl⟩
  have b1 : Below w.heap.size w w1 := by rw [hw1]; exact (Below.refl _ _).alloc (Nat.le_refl _) _
  have Vt : Hid (w1.heap[w.heap.size]? = some (.cells cs.toArray 26 (0, 0))) := Lib.hid (by rw [hw1]; exact Has.new w cs _)
  have It := Lib.hid (infoL (isT_five ht))
  have Tt := Lib.hid (IsT.later b1 _ _ _ ht)
  have HAW := Lib.hid (fun (W : World) (hW : Below w.heap.size w W) => awake_any W (hm.below hW hmx) (Nat.lt_of_lt_of_le hmx hW.size))
  have HS := Lib.hid hs
  have HX := Lib.hid hl
  have HLS := Lib.hid hls
  have HM := Lib.hid hm
  have HMX := Lib.hid hmx
  have HW1 : Hid (w1 = w.alloc (.cells cs.toArray 26)) := Lib.hid hw1
  have BW := Lib.hid b1
  obtain ⟨V, hV⟩ : ∃ V, V = runR t l := ⟨_, rfl⟩
  have HV := Lib.hid hV
  have HRA : Hid ((runE t l).1 = V.1 ∧ (V.1 = 0 → (runE t l).2.1 = V.2) ∧ (V.1 ≠ 0 → V.2 = zeroT)) := Lib.hid (by rw [hV]; exact run_as t l)
  have hkk : k ≤ 9223372036854775807 := by have := hl.room; unfold maxLen at this; omega
  clear ht hs hl hls hm hmx hw1 b1 hV
  go_enter Tryd.func3, Tryd.ntmps3
  go_upto_region 1 with fail
  rw [← HW1.out]
  go_wp2_with (refine wpList_load_row rfl 26 _ rfl (w.heap.size) rfl 26 cs.toArray (0, 0) _ Vt.out Tryd.underlying26 rfl It.out ?_)
  refine (great_any _ _ _ _ Tt.out 1000 (by omega) (by omega)).mono ?_
  rintro e w2 ⟨⟨g, rfl⟩, hb⟩
  have BN := Lib.hid hb
  have BW := Lib.hid (BW.out.trans (BN.out.mono BW.out.size))
  have Vt : Hid (w2.heap[w.heap.size]? = some (.cells cs.toArray 26 (0, 0))) := Lib.hid ((BN.out.block _ (Array.getElem?_eq_some_iff.1 Vt.out).1).trans Vt.out)
  have Tt := Lib.hid (IsT.later BN.out _ _ _ Tt.out)
  clear hb
  rcases Bool.eq_false_or_eq_true g with rfl | rfl
  · go_wp2_with fail
    refine (HAW.out w2 BW.out).mono ?_
    rintro e wz ⟨rfl, hb⟩
    have BZ := Lib.hid (BW.out.trans (hb.mono BW.out.size))
    clear hb
    go_wp2_with fail
    go_ret
    exact ⟨rfl, BZ.out⟩
  by_cases hkm : (30 : Int) < (k : Int)
  · go_wp2_with fail
    refine (HAW.out w2 BW.out).mono ?_
    rintro e wz ⟨rfl, hb⟩
    have BZ := Lib.hid (BW.out.trans (hb.mono BW.out.size))
    clear hb
    go_wp2_with fail
    go_ret
    exact ⟨rfl, BZ.out⟩
  go_wp2_with fail
  refine (greatX_any (HX.out.later BW.out) 300 (by omega) (by omega)).mono ?_
  rintro e w3 ⟨⟨g, rfl⟩, hb⟩
  have BN := Lib.hid hb
  have BW := Lib.hid (BW.out.trans (BN.out.mono BW.out.size))
  have Vt : Hid (w3.heap[w.heap.size]? = some (.cells cs.toArray 26 (0, 0))) := Lib.hid ((BN.out.block _ (Array.getElem?_eq_some_iff.1 Vt.out).1).trans Vt.out)
  have Tt := Lib.hid (IsT.later BN.out _ _ _ Tt.out)
  clear hb
  rcases Bool.eq_false_or_eq_true g with rfl | rfl
  · go_wp2_with fail
    refine (HAW.out w3 BW.out).mono ?_
    rintro e wz ⟨rfl, hb⟩
    have BZ := Lib.hid (BW.out.trans (hb.mono BW.out.size))
    clear hb
    go_wp2_with fail
    go_ret
    exact ⟨rfl, BZ.out⟩
  go_wp2_with fail
  refine (HAW.out w3 BW.out).mono ?_
  rintro e w4 ⟨rfl, hb⟩
  have BN := Lib.hid hb
  have BW := Lib.hid (BW.out.trans (BN.out.mono BW.out.size))
  have Vt : Hid (w4.heap[w.heap.size]? = some (.cells cs.toArray 26 (0, 0))) := Lib.hid ((BN.out.block _ (Array.getElem?_eq_some_iff.1 Vt.out).1).trans Vt.out)
  have Tt := Lib.hid (IsT.later BN.out _ _ _ Tt.out)
  clear hb hkm hkk
  have HAP := Lib.hid (applyA_any _ _ _ w4 Tt.out m a k c l (HX.out.later BW.out) (HM.out.below BW.out HMX.out) (Nat.lt_of_lt_of_le HMX.out BW.out.size))
  go_wp2_with (refine wpList_load_row rfl 26 _ rfl (w.heap.size) rfl 26 cs.toArray (0, 0) _ Vt.out Tryd.underlying26 rfl It.out ?_)
  refine HAP.out.mono ?_
  rintro e w5 ⟨ou, rfl, ho5, ho1, hb, hok, hbad⟩
  rw [HRA.out.1] at hok hbad ⊢
  have HMTou : Hid (V.1 = 0 → ∃ S, MT w5 w4.heap.size ou V.2 S) := Lib.hid (fun h0 => by
    obtain ⟨S, hmt⟩ := hok h0
    rw [HRA.out.2.1 h0] at hmt
    exact ⟨S, hmt⟩)
  obtain ⟨Nou, hT⟩ : ∃ N, IsT w5 N ou V.2 := by
    by_cases h0 : V.1 = 0
    · obtain ⟨S, hmt⟩ := HMTou.out h0
      have hsm := (run_small (t := t) (l := l) (by rw [HRA.out.1]; exact h0)).1
      rw [HRA.out.2.1 h0] at hsm
      exact ⟨_, hmt.isT _ (Nat.le_refl _) hsm⟩
    · rw [hbad h0, HRA.out.2.2 h0]
      exact ⟨1, isT_zero _⟩
  have Tou := Lib.hid hT
  have HO5 := Lib.hid ho5
  have HO1 := Lib.hid ho1
  have BN := Lib.hid hb
  have BW := Lib.hid (BW.out.trans (BN.out.mono BW.out.size))
  have Vt : Hid (w5.heap[w.heap.size]? = some (.cells cs.toArray 26 (0, 0))) := Lib.hid ((BN.out.block _ (Array.getElem?_eq_some_iff.1 Vt.out).1).trans Vt.out)
  have Tt := Lib.hid (IsT.later BN.out _ _ _ Tt.out)
  clear hT hok hbad ho5 ho1 HAP hb HMTou
  have OI := Lib.hid (infoL (HO5.out))
  have OO : Hid (ou.toArray.all (·.oneCell') = true) := Lib.hid (HO1.out)
  have OS : Hid ((#[.int .u8 0, .bool false, .slice none 0 0, .slice none 0 0, .slice none 0 0] : Array Value).size = ou.toArray.size) := Lib.hid (by have := HO5.out; simp [this])
  obtain ⟨w5s1, hw⟩ : ∃ X, X = (w5.alloc (.cells #[.int .u8 0, .bool false, .slice none 0 0, .slice none 0 0, .slice none 0 0] 26)).setRow w5.heap.size ou.toArray := ⟨_, rfl⟩
  have hb : Below w5.heap.size w5 w5s1 := by rw [hw]; exact below_setRow ((Below.refl _ _).alloc (Nat.le_refl _) _) (Nat.le_refl _) _
  have hv : w5s1.heap[w5.heap.size]? = some (.cells ou.toArray 26 (0, 0)) := by rw [hw]; exact setRow_heap _ _ _ _ _ _ (heap_alloc_new w5 _)
  have HW := Lib.hid hw
  have BN := Lib.hid hb
  have BW := Lib.hid (BW.out.trans (BN.out.mono BW.out.size))
  have Vt : Hid (w5s1.heap[w.heap.size]? = some (.cells cs.toArray 26 (0, 0))) := Lib.hid ((BN.out.block _ (Array.getElem?_eq_some_iff.1 Vt.out).1).trans Vt.out)
  have Tt := Lib.hid (IsT.later BN.out _ _ _ Tt.out)
  have Tou := Lib.hid (IsT.later BN.out _ _ _ Tou.out)
  have Vou := Lib.hid hv
  have Iou := OI
  clear hb hv hw
  go_upto_region 6 with (refine wpList_store_row rfl 26 _ _ rfl w5.heap.size ou.toArray rfl rfl 26 _ (heap_alloc_new w5 _) OI.out OS.out OO.out ?_)
  rw [← HW.out]
  clear HW OO OS
  have HAP := Lib.hid (rapply_any _ _ _ w5s1 Tt.out HS.out m a k c l (HX.out.later BW.out) HLS.out)
  rw [← HV.out] at HAP
  go_wp2_with (refine wpList_load_row rfl 26 _ rfl (w.heap.size) rfl 26 cs.toArray (0, 0) _ Vt.out Tryd.underlying26 rfl It.out ?_)
  refine HAP.out.mono ?_
  rintro e w6 ⟨Nov, ov, rfl, hT, hb⟩
  have Tov := Lib.hid hT
  have BN := Lib.hid hb
  have BW := Lib.hid (BW.out.trans (BN.out.mono BW.out.size))
  have Vt : Hid (w6.heap[w.heap.size]? = some (.cells cs.toArray 26 (0, 0))) := Lib.hid ((BN.out.block _ (Array.getElem?_eq_some_iff.1 Vt.out).1).trans Vt.out)
  have Vou : Hid (w6.heap[w5.heap.size]? = some (.cells ou.toArray 26 (0, 0))) := Lib.hid ((BN.out.block _ (Array.getElem?_eq_some_iff.1 Vou.out).1).trans Vou.out)
  have Tt := Lib.hid (IsT.later BN.out _ _ _ Tt.out)
  have Tou := Lib.hid (IsT.later BN.out _ _ _ Tou.out)
  clear hT hb HAP
  have OI := Lib.hid (infoL (isT_five Tov.out))
  have OO : Hid (ov.toArray.all (·.oneCell') = true) := Lib.hid (isT_one Tov.out)
  have OS : Hid ((#[.int .u8 0, .bool false, .slice none 0 0, .slice none 0 0, .slice none 0 0] : Array Value).size = ov.toArray.size) := Lib.hid (by have := isT_five Tov.out; simp [this])
  obtain ⟨w6s2, hw⟩ : ∃ X, X = (w6.alloc (.cells #[.int .u8 0, .bool false, .slice none 0 0, .slice none 0 0, .slice none 0 0] 26)).setRow w6.heap.size ov.toArray := ⟨_, rfl⟩
  have hb : Below w6.heap.size w6 w6s2 := by rw [hw]; exact below_setRow ((Below.refl _ _).alloc (Nat.le_refl _) _) (Nat.le_refl _) _
  have hv : w6s2.heap[w6.heap.size]? = some (.cells ov.toArray 26 (0, 0)) := by rw [hw]; exact setRow_heap _ _ _ _ _ _ (heap_alloc_new w6 _)
  have HW := Lib.hid hw
  have BN := Lib.hid hb
  have BW := Lib.hid (BW.out.trans (BN.out.mono BW.out.size))
  have Vt : Hid (w6s2.heap[w.heap.size]? = some (.cells cs.toArray 26 (0, 0))) := Lib.hid ((BN.out.block _ (Array.getElem?_eq_some_iff.1 Vt.out).1).trans Vt.out)
  have Vou : Hid (w6s2.heap[w5.heap.size]? = some (.cells ou.toArray 26 (0, 0))) := Lib.hid ((BN.out.block _ (Array.getElem?_eq_some_iff.1 Vou.out).1).trans Vou.out)
  have Tt := Lib.hid (IsT.later BN.out _ _ _ Tt.out)
  have Tou := Lib.hid (IsT.later BN.out _ _ _ Tou.out)
  have Tov := Lib.hid (IsT.later BN.out _ _ _ Tov.out)
  have Vov := Lib.hid hv
  have Iov := OI
  clear hb hv hw
  go_upto_region 7 with (refine wpList_store_row rfl 26 _ _ rfl w6.heap.size ov.toArray rfl rfl 26 _ (heap_alloc_new w6 _) OI.out OS.out OO.out ?_)
  rw [← HW.out]
  clear HW OO OS
  obtain ⟨cv, hcv⟩ : ∃ z : Int, z = (V.1 : Int) := ⟨_, rfl⟩
  rw [← hcv]
  clear hcv
  have HSM := Lib.hid (rsame_any _ _ _ _ _ _ w6s2 Tou.out Tov.out)
  go_wp2_with (first
    | (refine ld_rowG (by rfl) 26 _ rfl (w5.heap.size) rfl 26 ou.toArray (0, 0) _ Vou.out Tryd.underlying26 rfl Iou.out ?_)
    | (refine ld_rowG (by rfl) 26 _ rfl (w6.heap.size) rfl 26 ov.toArray (0, 0) _ Vov.out Tryd.underlying26 rfl Iov.out ?_))
  refine HSM.out.mono ?_
  rintro e w7 ⟨⟨r, rfl, hr⟩, hb⟩
  have hrt : r = true := hr.2 (rfl)
  subst hrt
  have BN := Lib.hid hb
  have BW := Lib.hid (BW.out.trans (BN.out.mono BW.out.size))
  have Vt : Hid (w7.heap[w.heap.size]? = some (.cells cs.toArray 26 (0, 0))) := Lib.hid ((BN.out.block _ (Array.getElem?_eq_some_iff.1 Vt.out).1).trans Vt.out)
  have Vou : Hid (w7.heap[w5.heap.size]? = some (.cells ou.toArray 26 (0, 0))) := Lib.hid ((BN.out.block _ (Array.getElem?_eq_some_iff.1 Vou.out).1).trans Vou.out)
  have Vov : Hid (w7.heap[w6.heap.size]? = some (.cells ov.toArray 26 (0, 0))) := Lib.hid ((BN.out.block _ (Array.getElem?_eq_some_iff.1 Vov.out).1).trans Vov.out)
  have Tt := Lib.hid (IsT.later BN.out _ _ _ Tt.out)
  have Tou := Lib.hid (IsT.later BN.out _ _ _ Tou.out)
  have Tov := Lib.hid (IsT.later BN.out _ _ _ Tov.out)
  clear hr hb HSM
  go_wp2_with fail
  go_ret
  exact ⟨rfl, BW.out⟩

end Go.Proofs.YtbempgdndmchlaaDoor
